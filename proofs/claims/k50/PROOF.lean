import PyProof.Rows.All
import Wide.All
import OpenK.AllK
import Wide.FinOn
import Lean
import PyProof.EqAt
import PyProof.EqKinds
import PyProof.TupleCall
import PyProof.ZipIter
import PyProof.Rows.ZipGen
import PyProof.EnumIter
import PyProof.EnumFor
import PyProof.EnumMake
import PyProof.EnumStmt
import PyProof.SliceStr2
import PyProof.StrBlockI
import PyProof.MinMaxWalk
import PyProof.Rows.CallKwBuiltin
import PyProof.Rows.Range3
import KE.KRevIter
import PyProof.AttrMissHeap
import KE.KDictOf
import PyProof.FactsAll.range_2
import PyProof.P3Eq
import PyProof.DictWalks
import PyProof.Rows.SeqMore2
import PyProof.Rows.SortStr
import PyProof.StrOps2
import PyProof.StrLaws
import PyProof.StrLawsIdx
import PyProof.Rows.StrSliceCases
import KE.IntTextText
import PyProof.StrLawsIn
import PyProof.Rows.RegReprOcc
import PyProof.Rows.StrClip
import PyProof.StrLawsFrom
import PySem.Challenge.RW_stylehouse_k50_texts_refused
set_option Elab.async false
set_option linter.all false
set_option maxRecDepth 100000
set_option genSizeOfSpec false
noncomputable section
abbrev zHl:=PySem.Challenge.rw_stylehouse_k50_texts_refused
local macro_rules | `(tactic| walk_at "v")=>`(tactic| first | exact .inl rfl | exact .inr rfl | assumption)
local macro_rules | `(tactic| walk_at "w")=>`(tactic| first | exact .inl rfl | exact .inr (.inl rfl) | exact .inr (.inr rfl))
def Zj {α:Type _} {a b:α} (h:some a=some b):a=b:=Option.some.inj h
def Zb {a b:Nat} (h:Nat.ble a b=true):a<=b:=Nat.le_of_ble_eq_true h
def Zf:false≠true:=Bool.false_ne_true
def Zm {α:Type _} {β:Type _} {f:α->β} {x:Option α} {b:β} (h:x.map f=some b):∃ a,x=some a/\f a=b:=Option.map_eq_some_iff.mp h
def Za:=@List.mem_cons_of_mem
def Zc:=@decide_eq_false
def Zd:=@List.mem_cons
def Ze:=@decide_eq_true
def Zg:=@Bool.and_eq_true
def Zh:=@List.length_append
def Zi:=@List.length_cons
def Zk:=@List.length_map
def Zl:=@Nat.lt_of_lt_of_le
def Zo:=@Nat.le_refl
def Zp:=@List.mem_cons_self
def Zq:=@List.not_mem_nil
def Zr:=@PySem.wpAny_bind
def Zs:=@Nat.le_trans
def Zt:=@PySem.Heap.lt_size
def Zu:=@of_decide_eq_true
def Zv:=@Bool.true_and
def Zw:=@List.size_toArray
def Zx:=@List.mem_singleton
def Zy:=@List.mem_append_right
def Zz:=@List.map_cons
def Z0:=@of_decide_eq_false
def Z1:=@Nat.ne_of_lt
def Z2:=@List.mem_append
def Z3:=@decide_eq_true_eq
def Z4:=@PySem.wpAny_pure
def Z5:=@List.append_assoc
def Z6:=@PySem.W.Fast.te14364793385576792824
def Z7:=@Bool.not_eq_true'
def Z8:=@congrArg
def Z9:=@or_false
def Yb:=@Bool.not_eq_false'
def Yc:=@List.nil_append
def Yd:=@List.append_nil
def Ye:=@Nat.zero_le
def Yg:=@List.drop_eq_getElem_cons
def Yh:=@List.length_take
def Yi:=@List.all_eq_true
def Yj:=@List.cons_append
def Yk:=@PySem.wpAny_truthy_bool
def Yl:=@PySem.W.Fast.te10110043849684766642
def Ym:=@PySem.Txt.slice_le
def Yn:=@PySem.W.kia_one
def Yo:=@Nat.lt_irrefl
def Yp:=@PySem.StrLaws.sliceIdx_none_lo
def Yq:=@PySem.mem_of_lookup
def Yr:=@PyProof.Rows.callWith_type1
def Ys:=@decide_eq_false_iff_not
def Yt:=@List.mem_append_left
def Yu:=@List.map_append
def Yv:=@PySem.wpAny_mono
def Yw:=@Option.isSome_iff_exists
def Yy:=@PySem.StrLaws.sliceIdx_none_hi
def Yz:=@PyProof.Rows.partition_whole
def Y0:=@List.mem_of_mem_take
def Y1:=@List.all_cons
def Y2:=@List.any_cons
def Y3:=@PySem.F.plainAttrs_str
def Y4:=@List.take_of_length_le
def Y5:=@Array.all_eq_true_iff_forall_mem
def Y6:=@List.take_append_drop
def Y7:=@List.length_drop
def Y8:=@Int.emod_lt_of_pos
def Y9:=@PySem.StrLaws.subAt_eq
def Xa:=@PySem.lookup_relabel_local
def Xb:=@List.drop_zero
def Xc:=@Bool.eq_false_iff
def Xd:=@Nat.le_add_right
def Xe:=@PySem.F.slot_tuple_iterator_next
def Xf:=@PySem.F.slot_dict_get
def Xg:=@Classical.choose_spec
def Xh:=@PySem.wpAny_passesOwn
def Xi:=@Bool.or_eq_true
def Xj:=@Int.emod_nonneg
def Xk:=@PySem.wpAny_pyIter_enum
def Xm:=@Nat.zero_add
def Xn:=@List.mem_map
def Xo:=@PySem.wpAny_comprehension_free
def Xq:=@beq_eq_false_iff_ne
def Xr:=@Bool.false_and
def Xs:=@List.drop_length
def Xu:=@PySem.wpAny_getItem_str_slice
def Xv:=@Option.bind_some
def Xw:=@List.take_length
def Xx:=@PySem.W.of_hideAll
def Xy:=@List.mem_filterMap
def Xz:=@PySem.Calls.spliced_cons
def X0:=@PySem.wpAny_Call_Name_kw
def X1:=@PySem.Calls.callWith_builtin
def X2:=@List.map_nil
def X3:=@PySem.StrLaws.join_split
def X4:=@PySem.StrLaws.strSub_toList
def X5:=@PySem.wpAny_newObj_type
def X6:=@PySem.Calls.Name_function_global
def X7:=@PySem.Calls.evalArgs_plain
def X8:=@PySem.wpAny_letOwnedTupleGo_enum
def X9:=@Bool.and_false
def Wa:=@List.take_left
def Wb:=@List.mem_of_mem_drop
def Wc:=@Nat.lt_trans
def Wd:=@List.cons_ne_nil
def We:=@ite_congr
def Wf:=@List.filterMap_cons
def Wg:=@PySem.wpAny_standAt
def Wh:=@Bool.eq_iff_iff
def Wi:=@PySem.call_meets
section
namespace L2
open PySem PySem.Spec PyProof.Rows
abbrev Key:=Sum Int Str
def yL:Key->Value->Bool
 | .inl k,v=>Value.isInt k v
 | .inr x,v=>Value.isStrOf x v
def UD (w:World):Key->Int
 | .inl k=>hashInt k
 | .inr x=>hashStr w x
def ck:∀ {k:Key} {v:Value},yL k v=true->(∃ i t,k=Sum.inl i/\v=Value.int i t)\/(∃ x t,k=Sum.inr x/\v=Value.str x t)
 | .inl i,v,h=>by
  obtain ⟨t,e⟩:=Value.isInt_shape (k:=i) (v:=v) h;exact .inl ⟨i,t,rfl,e⟩
 | .inr x,v,h=>by
  obtain ⟨t,e⟩:=Value.isStrOf_shape (x:=x) (v:=v) h;exact .inr ⟨x,t,rfl,e⟩
def Bb (i:Int) (t:Tok):yL (.inl i) (.int i t)=true:=by simp [yL,Value.isInt]
def Ba (x:Str) (t:Tok):yL (.inr x) (.str x t)=true:=by simp [yL,Value.isStrOf]
def Ly (a b:Int):decide ((Sum.inl a:Key)=Sum.inl b)=(a == b):=by
 by_cases e:a=b
 · subst e; simp
 ·have h:¬ (Sum.inl a:Key)=Sum.inl b:=λ q=>e (Sum.inl.inj q)
  rw [Zc h];exact (Xq.mpr e).symm
def Lv (a b:Str):decide ((Sum.inr a:Key)=Sum.inr b)=decide (a=b):=by
 by_cases e:a=b
 · subst e; simp
 ·have h:¬ (Sum.inr a:Key)=Sum.inr b:=λ q=>e (Sum.inr.inj q)
  rw [Zc h,Zc e]
def Lx (a:Int) (b:Str):decide ((Sum.inl a:Key)=Sum.inr b)=false:=Zc (λ q=>nomatch q)
def Lw (a:Str) (b:Int):decide ((Sum.inr a:Key)=Sum.inl b)=false:=Zc (λ q=>nomatch q)
def bN (prog:Program) (w:World):PySem.KeyKind prog w Key where
 is:=yL
 hash:=UD w
 inj:=λ v a b ha hb=>by
  rcases ck ha with ⟨i,t,rfl,rfl⟩ | ⟨x,t,rfl,rfl⟩
  ·rcases ck hb with ⟨j,u,rfl,e⟩ | ⟨y,u,rfl,e⟩
   · injection e with e1 _; rw [e1]
   · exact nomatch e
  ·rcases ck hb with ⟨j,u,rfl,e⟩ | ⟨y,u,rfl,e⟩
   · exact nomatch e
   · injection e with e1 _; rw [e1]
 byValue:=λ k v h=>by
  rcases ck h with ⟨i,t,rfl,rfl⟩ | ⟨x,t,rfl,rfl⟩ <;> rfl
 pyHash:=λ hv h=>by
  rcases ck hv with ⟨i,t,rfl,rfl⟩ | ⟨x,t,rfl,rfl⟩
  · exact wpAny_pyHash_int h
  · exact wpAny_pyHash_str h
 eqBool:=λ hu hv h=>by
  rcases ck hu with ⟨i,t,rfl,rfl⟩ | ⟨x,t,rfl,rfl⟩
  ·rcases ck hv with ⟨j,u,rfl,rfl⟩ | ⟨y,u,rfl,rfl⟩
   · rw [Ly] at h; exact wpAny_eqBool_int h
   · rw [Lx] at h; exact SeqAt.EqAt.int_str i t y u _ _ _ _ h
  ·rcases ck hv with ⟨j,u,rfl,rfl⟩ | ⟨y,u,rfl,rfl⟩
   · rw [Lw] at h; exact SeqAt.EqAt.str_int x t j u _ _ _ _ h
   · rw [Lv] at h; exact wpAny_eqBool_str h
 «strs»:=λ k x t v h=>by
  rcases ck h with ⟨i,u,rfl,e⟩ | ⟨y,u,rfl,e⟩
  · exact nomatch e
  ·injection e with e1 _
   subst e1;cases v <;> rfl
def wd (prog:Program) (w:World) (i:Int) (t:Tok):(bN prog w).is (.inl i) (.int i t)=true:=Bb i t
def j7 (prog:Program) (w:World) (x:Str) (t:Tok):(bN prog w).is (.inr x) (.str x t)=true:=Ba x t
inductive V where
 | non | bl (b:Bool) | int (i:Int) | str (x:Str) | byt (b:Array UInt8) | flt (b:UInt64) | ref (a:Addr) | ty (n:String)
 deriving DecidableEq
def RelV:V->Value->Prop
 | .non,u=>u=Value.none
 | .bl b,u=>u=Value.bool b
 | .int i,u=>∃ t,u=Value.int i t
 | .str x,u=>∃ t,u=Value.str x t
 | .byt b,u=>∃ t,u=Value.bytes b t
 | .flt b,u=>∃ t,u=Value.float b t
 | .ref a,u=>u=Value.ref a
 | .ty n,u=>u=Value.type n
abbrev cu:List V->List Value->Prop:=Paired RelV
def cu.length (r:cu xs us):xs.length=us.length:=Paired.length r
theorem cu.get:∀ {xs:List V} {us:List Value} {i:Nat} {x:V},cu xs us->xs[i]?=some x->∃ u,us[i]?=some u/\RelV x u
 | _,_,_,_,.nil,e=>by simp at e
 | _,_,0,_,.cons r _,e=>by simp at e; subst e; exact ⟨_,rfl,r⟩
 | _,_,i+1,x,.cons _ t,e=>by
  obtain ⟨u,h1,h2⟩:=cu.get (i:=i) (x:=x) t (by simpa using e);exact ⟨u,by simpa using h1,h2⟩
theorem cu.set (r:RelV x u):∀ {xs:List V} {us:List Value} (i:Nat),cu xs us->cu (xs.set i x) (us.set i u)
 | _,_,_,.nil=>.nil
 | _,_,0,.cons _ t=>.cons r t
 | _,_,i+1,.cons q t=>.cons q (cu.set r i t)
theorem cu.append:∀ {xs ys:List V} {us ws:List Value},cu xs us->cu ys ws->cu (xs++ys) (us++ws)
 | _,_,_,_,.nil,s=>s
 | _,_,_,_,.cons r t,s=>.cons r (cu.append t s)
theorem cu.take:∀ {xs:List V} {us:List Value} (n:Nat),cu xs us->cu (xs.take n) (us.take n)
 | _,_,0,_=>.nil
 | _,_,_+1,.nil=>.nil
 | _,_,n+1,.cons r t=>.cons r (cu.take n t)
theorem cu.drop:∀ {xs:List V} {us:List Value} (n:Nat),cu xs us->cu (xs.drop n) (us.drop n)
 | _,_,0,r=>r
 | _,_,_+1,.nil=>.nil
 | _,_,n+1,.cons _ t=>cu.drop n t
def zk:Option V->Option Value->Prop
 | some v,some u=>RelV v u
 | none,none=>True
 | _,_=>False
def KV {κ:Type}:List (κ×V)->List (κ×Value)->Prop:=Paired λ (p:κ×V) (q:κ×Value)=>p.1=q.1/\RelV p.2 q.2
def kV:Key->V
 | .inl i=>.int i
 | .inr x=>.str x
inductive HO where
 | lst (xs:List V)
 | tup (xs:List V)
 | dK (am:List (Key×V)) | dT (am:List (List Key×V))
 | set (S:Int->Bool) (n:Nat)
 | ins (C dx:Addr) (fs:List (Str×V))
 | own (x:Addr)
 | xd (fs:List (Str×V))
 | met (f x:Addr)
 | rng (lo hi:Int)
 | frz (o:Obj) (u:HO)
 | tbl (ps:Array Value)
 | ext (φ:Heap->Prop)
abbrev Hp:=Addr->Option HO
def upd (H:Hp) (a:Addr) (o:HO):Hp:=λ b=>if b=a then some o else H b
def aC:upd H a o a=some o:=by unfold upd; rw [if_pos rfl]
def aF (h:b≠a):upd H a o b=H b:=by unfold upd; rw [if_neg h]
def QB {H:Hp} {a b:Addr} {o u:HO} (h:H a=some o) (h':H b=some u) (d:o≠u):a≠b:=by
 intro e; subst e; rw [h] at h'; exact d (Zj h')
def bV {H:Hp} {a b:Addr} {o:HO} (h:H a=some o) (h':H b=none):a≠b:=by
 intro e; subst e; rw [h] at h'; cases h'
section
variable (P:Program) (w:World)
def c8 (H:Hp) (h:Heap) (a:Addr):HO->Prop
 | .lst xs=>xs.length<=sizeLine/\∃ (its:List Value) (n:Nat),cu xs its/\h.get? a=some { cls:=.type "list",data:=.seq its.toArray n }
 | .tup xs=>xs.length<=sizeLine/\∃ its:List Value,cu xs its/\IsTup h a its.toArray
 | .dK am=>am.length<=sizeLine/\(a == sysModules)=false/\∃ vs,KV am vs/\h.DictOf (bN P w) a vs
 | .dT am=>am.length<=sizeLine/\(a == sysModules)=false/\∃ xs:List (List Key×Addr×Value),
  Paired (λ (p:List Key×V) (q:List Key×Addr×Value)=>p.1=q.1/\H q.2.1=some (.tup (p.1.map kV))/\RelV p.2 q.2.2) am xs/\∃ o es ep,h.get? a=some o/\o.ExactDict/\o.data=.dict es ep/\es.toList=xs.map (entryOfKey (tupleKind (bN P w)))/\(xs.map (·.1)).Nodup
 | .set S n=>h.SetOf (intKind P w) a S n
 | .ins C dx fs=>H dx=some (.own a)/\fs.length<=1000/\dx≠a/\h.get? a=some (PySem.W.instObj C dx)/\∃ mA,h.Ns1 dx mA/\(∀ f,zk (fs.lookup f) (mA f))/\PySem.Within mA (fs.map (·.1))
 | .own _=>∃ o,h.get? a=some o
 | .xd fs=>∃ mA,h.Ns1 a mA/\∀ f,zk (fs.lookup f) (mA f)
 | .rng lo hi=>∃ t u v,h.get? a=some { cls:=.type "range",data:=.fields #[.int lo t,.int hi u,.int 1 v] }
 | .frz o u=>h.get? a=some o/\c8 H h a u
 | .tbl ps=>h.get? a=some { cls:=.none,data:=.fields ps }
 | .met f x=>h.get? a=some (PySem.W.methodObj (.ref f) (.ref x))
 | .ext φ=>φ h/\(∃ o,h.get? a=some o)/\∀ h1 h2:Heap,φ h1->(∀ o,h1.get? a=some o->h2.get? a=some o)->φ h2
def HOk (H:Hp) (h:Heap):Prop:=∀ a o,H a=some o->c8 P w H h a o
end
section
variable {P:Program} {w:World} {H H':Hp} {h h':Heap} {a:Addr} {o:HO}
def c8.lt (x:c8 P w H h a o):a < h.objs.size:=by
 cases o with
 | lst xs=>obtain ⟨_,_,_,_,e⟩:=x; exact Zt e
 | tup xs=>obtain ⟨_,_,_,p⟩:=x; exact p.lt
 | dK am=>obtain ⟨_,_,_,_,o,_,_,e,_⟩:=x; exact Zt e
 | dT am=>obtain ⟨_,_,_,_,o,_,_,e,_⟩:=x; exact Zt e
 | set S n=>obtain ⟨o,_,_,_,e,_⟩:=x; exact Zt e
 | ins C dx fs=>obtain ⟨_,_,_,e,_⟩:=x; exact Zt e
 | own y=>obtain ⟨_,e⟩:=x; exact Zt e
 | xd fs=>obtain ⟨_,⟨_,_,_,e,_⟩,_⟩:=x; exact Zt e
 | rng lo hi=>obtain ⟨_,_,_,e⟩:=x; exact Zt e
 | frz ob u=>obtain ⟨e,_⟩:=x; exact Zt e
 | tbl ps=>exact Zt (show h.get? a=some _ from x)
 | met f y=>exact Zt (show h.get? a=some _ from x)
 | ext φ=>obtain ⟨_,⟨_,e⟩,_⟩:=x; exact Zt e
theorem Paired.QL {α β:Type} {F G:α->β->Prop}:∀ {l₁:List α} {l₂:List β},Paired F l₁ l₂->(∀ a b,F a b->G a b)->Paired G l₁ l₂
 | _,_,.nil,_=>.nil
 | _,_,.cons r t,f=>.cons (f _ _ r) (Paired.QL t f)
def c8.yx (x:c8 P w H h a o) (k:∀ b u,(b=a\/H b=some (.own a))->h.get? b=some u->h'.get? b=some u)
  (ho:∀ b,H b=some (.own a)->H' b=some (.own a)) (ht:∀ b xs,H b=some (.tup xs)->H' b=some (.tup xs)):c8 P w H' h' a o:=by
 induction o with
 | lst xs=>obtain ⟨z,its,n,r,e⟩:=x; exact ⟨z,its,n,r,k _ _ (.inl rfl) e⟩
 | tup xs=>obtain ⟨z,its,r,ob,e,c⟩:=x; exact ⟨z,its,r,ob,k _ _ (.inl rfl) e,c⟩
 | dK am=>obtain ⟨z,y,vs,r,ob,es,ep,e,c⟩:=x; exact ⟨z,y,vs,r,ob,es,ep,k _ _ (.inl rfl) e,c⟩
 | dT am=>
  obtain ⟨z,y,xs,r,ob,es,ep,e,c⟩:=x;exact ⟨z,y,xs,Paired.QL r λ p q z=>⟨z.1,ht _ _ z.2.1,z.2.2⟩,ob,es,ep,k _ _ (.inl rfl) e,c⟩
 | set S n=>obtain ⟨ob,es,ep,t,e,c⟩:=x; exact ⟨ob,es,ep,t,k _ _ (.inl rfl) e,c⟩
 | ins C dx fs=>
  obtain ⟨d,z,ne,e,mA,⟨od,es,ep,e2,c⟩,r⟩:=x;exact ⟨ho _ d,z,ne,k _ _ (.inl rfl) e,mA,⟨od,es,ep,k _ _ (.inr d) e2,c⟩,r⟩
 | own y=>obtain ⟨ob,e⟩:=x; exact ⟨ob,k _ _ (.inl rfl) e⟩
 | xd fs=>obtain ⟨mA,⟨od,es,ep,e,c⟩,r⟩:=x; exact ⟨mA,⟨od,es,ep,k _ _ (.inl rfl) e,c⟩,r⟩
 | rng lo hi=>obtain ⟨t,u,v,e⟩:=x; exact ⟨t,u,v,k _ _ (.inl rfl) e⟩
 | frz ob u ih=>obtain ⟨e,q⟩:=x; exact ⟨k _ _ (.inl rfl) e,ih q⟩
 | tbl ps=>
  have e:h.get? a=some { cls:=.none,data:=.fields ps }:=x;show h'.get? a=some { cls:=.none,data:=.fields ps };exact k a _ (.inl rfl) e
 | met f y=>
  have e:h.get? a=some (PySem.W.methodObj (.ref f) (.ref y)):=x;show h'.get? a=some (PySem.W.methodObj (.ref f) (.ref y));exact k a _ (.inl rfl) e
 | ext φ=>obtain ⟨p,⟨o,e⟩,st⟩:=x; exact ⟨st _ _ p λ o q=>k _ _ (.inl rfl) q,⟨o,k _ _ (.inl rfl) e⟩,st⟩
def HOk.lt (x:HOk P w H h) (e:H a=some o):a < h.objs.size:=(x a o e).lt
def HOk.fresh (x:HOk P w H h) (e:h.objs.size<=a):H a=none:=by
 cases q:H a with
 | none=>rfl
 | some u=>exact absurd (Zl (x.lt q) e) (Yo _)
def HOk.kept (x:HOk P w H h) (k:∀ b u,h.get? b=some u->h'.get? b=some u):HOk P w H h':=λ a o e=>
 (x a o e).yx (λ b u _ q=>k b u q) (λ _ q=>q) λ _ _ q=>q
def HOk.laid (x:HOk P w H h) (k:∀ b u,h.get? b=some u->h'.get? b=some u) (hp:h.objs.size<=a) (new:c8 P w (upd H a o) h' a o):HOk P w (upd H a o) h':=λ b u e=>by
 have hn:=x.fresh hp
 by_cases hb:b=a
 · subst hb; rw [aC] at e; cases e; exact new
 ·rw [aF hb] at e
  exact (x b u e).yx (λ c v _ q=>k c v q) (λ c q=>by rw [aF (bV q hn)]; exact q) λ c xs q=>by rw [aF (bV q hn)]; exact q
end
def Rd (H:Hp) (a:Addr) (u:HO):Prop:=H a=some u\/∃ o,H a=some (.frz o u)
def Rd.ok (r:Rd H a u) (x:HOk P w H h):c8 P w H h a u:=by
 rcases r with r | ⟨o,r⟩
 · exact x a u r
 ·obtain ⟨_,q⟩:=x a _ r
  exact q
def Mut:Option HO->Prop
 | some (.lst _)=>True
 | some (.dK _)=>True
 | some (.dT _)=>True
 | some (.set _ _)=>True
 | some (.ins _ _ _)=>True
 | some (.ext _)=>True
 | _=>False
section
variable {P:Program} {w:World} {H:Hp} {h h':Heap} {x e:Addr} {o':HO}
def HOk.write (ok:HOk P w H h) (mu:Mut (H x)) (he:e=x\/H e=some (.own x)) (k:∀ b u,b≠e->h.get? b=some u->h'.get? b=some u) (heo:∃ u,h'.get? e=some u)
  (new:c8 P w (upd H x o') h' x o'):HOk P w (upd H x o') h':=λ b u q=>by
 have nown:∀ c y,H c=some (.own y)->c≠x:=λ c y r z=>by subst z; rw [r] at mu; exact mu
 have ntup:∀ c xs,H c=some (.tup xs)->c≠x:=λ c xs r z=>by subst z; rw [r] at mu; exact mu
 by_cases hb:b=x
 · subst hb; rw [aC] at q; cases q; exact new
 ·rw [aF hb] at q
  by_cases hbe:b=e
  ·have q':H b=some (.own x):=by
    rcases he with z | z
    · exact absurd (hbe.trans z) hb
    · rw [hbe]; exact z
   rw [q] at q'; cases q'
   obtain ⟨v,hv⟩:=heo;exact ⟨v,by rw [hbe]; exact hv⟩
  ·refine (ok b u q).yx (λ c v hc r=>k c v ?_ r) (λ c r=>by rw [aF (nown c b r)]; exact r) λ c xs r=>by rw [aF (ntup c xs r)]; exact r
   rcases hc with rfl | hc
   · exact hbe
   ·rintro rfl
    rcases he with z | z
    · exact nown c b hc z
    · rw [hc] at z; cases z; exact hb rfl
end
structure Un (fs ex:List Addr) (H H':Hp) (h h':Heap):Prop where
 keep:∀ b o,h.get? b=some o->H b=none->b ∉ fs->b ∉ ex->h'.get? b=some o
 slot:∀ b o,h.get? b=some o->H b=none->b ∈ fs->b ∉ ex->∃ sl,h'.get? b=some { o with slots:=sl }
 free:∀ b o,h.get? b=some o->H b=none->b ∉ ex->H' b=none
 there:∀ b o,h.get? b=some o->b ∉ ex->∃ o',h'.get? b=some o'
 rN:∀ b xs,H b=some (.tup xs)->H' b=some (.tup xs)
 qY:∀ b o u,H b=some (.frz o u)->H' b=some (.frz o u)
 rO:∀ b ps,H b=some (.tbl ps)->∃ more,H' b=some (.tbl (ps++more))
section
variable {fs fs' ex ex':List Addr} {H H1 H2:Hp} {h h1 h2 h':Heap} {a x e:Addr} {o:HO}
def Un.any (u:Un fs ex H H1 h h1) (q:h.get? b=some ob) (n:H b=none) (hx:b ∉ ex):∃ sl,h1.get? b=some { ob with slots:=sl }:=by
 by_cases hb:b ∈ fs
 · exact u.slot b ob q n hb hx
 · exact ⟨ob.slots,u.keep b ob q n hb hx⟩
def Un.kept (k:∀ b u,h.get? b=some u->h'.get? b=some u):Un fs ex H H h h':=
 ⟨λ b ob q _ _ _=>k b ob q,λ b ob q _ _ _=>⟨ob.slots,k b ob q⟩,λ _ _ _ n _=>n,λ b ob q _=>⟨ob,k b ob q⟩,λ _ _ q=>q,λ _ _ _ q=>q,λ _ ps q=>⟨#[],by rw [q]; simp⟩⟩
def Un.refl:Un fs ex H H h h:=Un.kept λ _ _ q=>q
def Un.laid (k:∀ b u,h.get? b=some u->h'.get? b=some u) (hp:h.objs.size<=a) (hn:H a=none):Un fs ex H (upd H a o) h h' where
 keep:=λ b u q _ _ _=>k b u q
 slot:=λ b u q _ _ _=>⟨u.slots,k b u q⟩
 free:=λ b u q n _=>by rw [aF (Z1 (Zl (Zt q) hp))]; exact n
 there:=λ b u q _=>⟨u,k b u q⟩
 rN:=λ b xs q=>by rw [aF (bV q hn)]; exact q
 qY:=λ b u xs q=>by rw [aF (bV q hn)]; exact q
 rO:=λ b ps q=>⟨#[],by rw [aF (bV q hn),q]; simp⟩
def Un.write (mu:Mut (H x)) (he:e=x\/H e=some (.own x)) (k:∀ b u,b≠e->h.get? b=some u->h'.get? b=some u) (heo:∃ u,h'.get? e=some u):Un fs ex H (upd H x o) h h':=by
 have hx:∀ b,H b=none->b≠x:=λ b n z=>by subst z; rw [n] at mu; exact mu
 have hb:∀ b,H b=none->b≠e:=λ b n z=>by
  subst z;rcases he with r | r
  · exact hx b n r
  · rw [n] at r; cases r
 have hm:∀ b u,H b=some u->¬ Mut (some u)->b≠x:=λ b u q nm z=>by subst z; rw [q] at mu; exact nm mu
 refine ⟨λ b u q n _ _=>k b u (hb b n) q,λ b u q n _ _=>⟨u.slots,k b u (hb b n) q⟩,λ b u q n _=>by rw [aF (hx b n)]; exact n,λ b u q _=>?_,
  λ b xs q=>by rw [aF (hm b _ q λ z=>z)]; exact q,λ b u xs q=>by rw [aF (hm b _ q λ z=>z)]; exact q,λ b ps q=>⟨#[],by rw [aF (hm b _ q λ z=>z),q]; simp⟩⟩
 by_cases hbe:b=e
 · subst hbe; exact heo
 · exact ⟨u,k b u hbe q⟩
end
def trk (h:Heap) (H:Hp):List Addr:=(List.range h.objs.size).filter λ a=>(H a).isSome
def D5 (h:Heap) (H:Hp):Heap:=PySem.W.hideAll h (trk h H)
def Bv (h:Heap) (H:Hp):(D5 h H).objs.size=h.objs.size:=PySem.W.hideAll_size _ _
def D4 (e:h.get? b=some o) (n:H b=none):(D5 h H).get? b=some o:=
 PySem.W.hideAll_get _ e λ hm=>by
  have q:(H b).isSome=true:=(List.mem_filter.mp hm).2;rw [n] at q; simp at q
def Hc (e:(D5 h H).get? b=some o):h.get? b=some o/\H b=none:=by
 have e':h.get? b=some o:=Xx (trk h H) e;refine ⟨e',?_⟩
 cases q:H b with
 | none=>rfl
 | some x=>
  have hm:b ∈ trk h H:=List.mem_filter.mpr ⟨List.mem_range.mpr (Zt e'),by simp [q]⟩;have z:(D5 h H).get? b=none:=PySem.W.hideAll_none (trk h H) hm;rw [z] at e; cases e
structure Mod (K:W.Frag) (mg:Str->Option Value) (base:Heap):Prop where
 kin:K.In base
 glob:base.Ns mainGlobals mg
 blt:∃ mb,base.Ns builtinsNs mb/\∀ x:Str,x≠"__name__"->mb x=bootBuiltins x
 nolimit:base.NoLimit
set_option genInjectivity false in
structure Cx where
 prog:Program
 w:World
 K:W.Frag
 mg:Str->Option Value
 base:Heap
 A:Around
 N:List Str
 s₀:Shared
 H₀:Hp
 env:Env
 outer:List Env
 stack:List Env
 ex:List Addr
 fn:Str->Bool
 calm:Bool
 pn:List (Addr×Obj)
 xe:Value->Shared->Prop
abbrev Se (X:Cx) (e:Expr) (es:List Expr):Prop:=starEach (e::es) X.env=(false,eval e X.env)::starEach es X.env
abbrev Sb (X:Cx) (p:Pos) (es:List Expr):Prop:=(backTo p (starEach es X.env)).any (·.1)=false
abbrev Dg (x:Str):Prop:=(x == ("__debug__":Str))=false
abbrev Sc (X:Cx) (o:Expr) (n:Str):Prop:=attributeBase o n X.env (eval o X.env)=eval o X.env
abbrev SB (X:Cx) (e:Expr) (c:Pos):Prop:=((backTo c (starEach [e] X.env)).all (λ x=>!x.1)&&(backToKw c (keywordEach [] X.env)).all (λ x=>x.1.isSome)&& decide ([e].length+([]:List Keyword).length+(if ([]:List Keyword).isEmpty then 0 else 1) < 30))=true
abbrev SM (a c:Pos):Prop:=(a.endLine == c.line)=true
abbrev SN (X:Cx) (x:Str):Prop:=X.env.scope.names.lookup x=some .local
def frs (l:List Env):List Addr:=l.filterMap (·.frame)
abbrev Cx.fs (X:Cx):List Addr:=frs X.outer
def Vis (sc:Scope) (x:Str):Prop:=sc.names.lookup x=some .local\/sc.names.lookup x=some .cell\/sc.names.lookup x=some .free
def Loc (sc:Scope) (x:Str):Prop:=sc.names.lookup x=some .local\/sc.names.lookup x=some .cell
def Look (env:Env) (h:Heap) (m:Str->Option Value) (x:Str) (u:Value):Prop:=
 (env.kindOf x=some .local/\m x=some u)\/((env.kindOf x=some .cell\/env.kindOf x=some .free)/\∃ c,env.cells.lookup x=some c/\h.IsCell c (some u))
structure Cx.Ok (X:Cx):Prop where
 mod:Mod X.K X.mg X.base
 kind:X.env.scope.kind=.function
 glob:X.env.globals=mainGlobals
 blt:X.env.builtins=builtinsNs
 above:X.s₀.heap.objs.size<=X.env.locals
 inj:∀ x y c,X.env.cells.lookup x=some c->X.env.cells.lookup y=some c->x=y
 has:∀ x,(X.env.kindOf x=some .cell\/X.env.kindOf x=some .free)->∃ c,X.env.cells.lookup x=some c
 cab:∀ x c,X.fn x=true->X.env.cells.lookup x=some c->X.s₀.heap.objs.size<=c
 hd:X.calm=true->X.A.handled=none
 frames:X.A.frames=some X.stack
 stk:X.stack=X.outer\/(X.stack=X.env::X.outer/\X.env.frame=some X.env.locals)
 exf:∀ b ∈ X.ex,b≠X.env.locals/\∀ x c,X.env.cells.lookup x=some c->c≠b
 bs:∀ b o,X.base.get? b=some o->X.s₀.heap.get? b=some o/\X.H₀ b=none
 bsz:X.base.objs.size<=X.s₀.heap.objs.size
 E6:∀ b o,X.base.get? b=some o->b ∉ X.ex
 I0:∀ b ∈ X.ex,b ∉ X.fs
 yO:X.s₀.heap.FunFrames X.base X.outer
 frf:∀ b ∈ X.fs,X.H₀ b=none
structure Inv (X:Cx) (ac:List (Addr×Obj)) (σ:List (Option V)) (H:Hp) (s:Shared):Prop where
 ok:X.Ok
 os:s.os=X.s₀.os
 bare:AllBare s.gens
 base:Un X.fs X.ex X.H₀ H X.s₀.heap s.heap
 loc:∃ m,s.heap.Ns X.env.locals m/\∀ (i:Nat) (x:Str) (v:V),X.N[i]?=some x->σ[i]?=some (some v)->Vis X.env.scope x->∃ u,RelV v u/\Look X.env s.heap m x u
 cell:∀ x c,X.env.cells.lookup x=some c->∃ v,s.heap.IsCell c v
 free:H X.env.locals=none
 iH:∀ x c,X.env.cells.lookup x=some c->H c=none
 pin:∀ p ∈ X.pn++ac,s.heap.get? p.1=some p.2/\H p.1=none/\p.1≠X.env.locals/\p.1 ∉ X.fs/\∀ v,p.2.data≠.cell v
 hok:HOk X.prog X.w H s.heap
 len:σ.length=X.N.length
section
variable {X:Cx} {ac:List (Addr×Obj)} {σ:List (Option V)} {H H':Hp} {s:Shared} {h':Heap}
def Cx.Ok.TR (ok:X.Ok) (e:X.base.get? b=some o):b ∉ X.fs:=λ hb=>by
 have:=(ok.yO.mem hb).1;rw [e] at this; cases this
def Inv.bs (I:Inv X ac σ H s):∀ b o,X.base.get? b=some o->s.heap.get? b=some o/\H b=none:=λ b o e=>
 ⟨I.base.keep b o (I.ok.bs b o e).1 (I.ok.bs b o e).2 (I.ok.TR e) (I.ok.E6 b o e),I.base.free b o (I.ok.bs b o e).1 (I.ok.bs b o e).2 (I.ok.E6 b o e)⟩
def Inv.bk (I:Inv X ac σ H s):∀ b o,X.base.get? b=some o->s.heap.get? b=some o:=λ b o e=>(I.bs b o e).1
def Inv.mod (I:Inv X ac σ H s):Mod X.K X.mg X.base:=I.ok.mod
def Inv.kIn (I:Inv X ac σ H s):X.K.In s.heap:=I.ok.mod.kin.keeps I.bk
def Inv.lt (I:Inv X ac σ H s):X.env.locals < s.heap.objs.size:=let ⟨_,hn,_⟩:=I.loc; hn.lt
def Inv.sz (I:Inv X ac σ H s):X.s₀.heap.objs.size<=s.heap.objs.size:=Zs I.ok.above (Nat.le_of_lt I.lt)
def Inv.TQ (I:Inv X ac σ H s) (h:s.heap.objs.size<=a):a ∉ X.fs:=λ hb=>by
 obtain ⟨_,o,ho,_⟩:=I.ok.yO.mem hb;exact absurd (Zl (Zt ho) (Zs I.sz h)) (Yo _)
def Inv.cne (I:Inv X ac σ H s):∀ x c,X.env.cells.lookup x=some c->c≠X.env.locals:=λ x c e z=>by
 obtain ⟨v,o,ho,hd⟩:=I.cell x c e;obtain ⟨m,⟨o',es,ep,ho',hd',_⟩,_⟩:=I.loc;rw [z,ho'] at ho; cases ho; rw [hd'] at hd; cases hd
def Inv.yO (I:Inv X ac σ H s):s.heap.FunFrames X.base X.outer:=by
 have all:∀ (l:List Env),(∀ b ∈ frs l,b ∈ X.fs)->X.s₀.heap.FunFrames X.base l->s.heap.FunFrames X.base l:=by
  intro l
  induction l with
  | nil=>intro _ _; trivial
  | cons env r ih=>
   intro hs hl;obtain ⟨hk,⟨L,o,hf,hn,ho,hd⟩,hr⟩:=hl;have hL:L ∈ X.fs:=hs L (by unfold frs; rw [Wf,hf]; exact Zp);obtain ⟨sl,e⟩:=I.base.slot L o ho (I.ok.frf L hL) hL λ z=>I.ok.I0 L z hL
   exact ⟨hk,⟨L,_,hf,hn,e,hd⟩,ih (λ b hb=>hs b (by unfold frs; rw [Wf,hf]; exact Za _ hb)) hr⟩
 exact all X.outer (λ _ hb=>hb) I.ok.yO
def Inv.stack (I:Inv X ac σ H s):s.heap.FunFrames X.base X.stack:=by
 rcases I.ok.stk with e | ⟨e,hf⟩
 · rw [e]; exact I.yO
 ·rw [e]
  obtain ⟨m,hn,_⟩:=I.loc;refine .cons (by rw [I.ok.kind]; decide) hf hn ?_ I.yO;exact Heap.get?_none_of_le (Zs I.ok.bsz I.ok.above)
def Inv.eW (I:Inv X ac σ H s):∀ b ∈ frs X.stack,b ∈ X.env.locals::X.fs:=λ b hb=>by
 rcases I.ok.stk with e | ⟨e,hf⟩
 · rw [e] at hb; exact Za _ hb
 ·rw [e] at hb
  unfold frs at hb;rw [Wf,hf] at hb;exact hb
def Inv.jT (I:Inv X ac σ H s):∀ b ∈ frs X.stack,H b=none:=λ b hb=>by
 rcases Zd.mp (I.eW b hb) with e | hb
 · rw [e]; exact I.free
 ·obtain ⟨_,o,ho,_⟩:=I.ok.yO.mem hb
  exact I.base.free b o ho (I.ok.frf b hb) λ z=>I.ok.I0 b z hb
def Inv.step {g':Array GenState} {t':Nat} {d':Drawn} {ch:List Addr} (I:Inv X ac σ H s)
  (hch:∀ b ∈ ch,(b ∈ X.ex\/X.s₀.heap.objs.size<=b)/\b≠X.env.locals/\(∀ x c,X.env.cells.lookup x=some c->c≠b)/\∀ p ∈ X.pn++ac,p.1≠b)
  (keep:∀ b o,b≠X.env.locals->b ∉ X.fs->b ∉ ch->s.heap.get? b=some o->H b=none->h'.get? b=some o)
  (slot:∀ b o,b≠X.env.locals->b ∈ X.fs->b ∉ ch->s.heap.get? b=some o->H b=none->∃ sl,h'.get? b=some { o with slots:=sl }) (free:∀ b o,b ∉ ch->s.heap.get? b=some o->H b=none->H' b=none)
  (there:∀ b o,b ∉ ch->s.heap.get? b=some o->∃ o',h'.get? b=some o')
  (rN:∀ b xs,H b=some (.tup xs)->H' b=some (.tup xs)) (qY:∀ b o u,H b=some (.frz o u)->H' b=some (.frz o u)) (rO:∀ b ps,H b=some (.tbl ps)->∃ more,H' b=some (.tbl (ps++more)))
  (ns:∀ m,s.heap.Ns X.env.locals m->h'.Ns X.env.locals m) (hok:HOk X.prog X.w H' h') (hg:AllBare g'):Inv X ac σ H' { s with heap:=h',gens:=g',drawn:=d',toks:=t' }:=by
 have neL:∀ b o,X.s₀.heap.get? b=some o->b≠X.env.locals:=λ b o e=>Z1 (Zl (Zt e) I.ok.above)
 have neC:∀ b o,X.s₀.heap.get? b=some o->b ∉ X.ex->b ∉ ch:=λ b o e hx hb=>by
  rcases (hch b hb).1 with z | z
  · exact hx z
  · exact absurd (Zl (Zt e) z) (Yo _)
 have cellK:∀ x c,X.env.cells.lookup x=some c->∀ v,s.heap.IsCell c v->h'.IsCell c v:=λ x c e v ⟨o,ho,hd⟩=>by
  have nch:c ∉ ch:=λ z=>(hch c z).2.2.1 x c e rfl
  by_cases hc:c ∈ X.fs
  ·obtain ⟨sl,q⟩:=slot c o (I.cne x c e) hc nch ho (I.iH x c e)
   exact ⟨_,q,hd⟩
  · exact ⟨o,keep c o (I.cne x c e) hc nch ho (I.iH x c e),hd⟩
 refine ⟨I.ok,I.os,hg,⟨λ b o e n hb hx=>?_,λ b o e n hb hx=>?_,λ b o e n hx=>?_,λ b o e hx=>?_,λ b xs e=>rN b xs (I.base.rN b xs e),λ b o xs e=>qY b o xs (I.base.qY b o xs e),λ b ps e=>?_⟩,?_,λ x c e=>?_,?_,λ x c e=>?_,λ p hp=>?_,hok,I.len⟩
 · exact keep b o (neL b o e) hb (neC b o e hx) (I.base.keep b o e n hb hx) (I.base.free b o e n hx)
 ·obtain ⟨sl,e1⟩:=I.base.slot b o e n hb hx
  obtain ⟨sl',e2⟩:=slot b _ (neL b o e) hb (neC b o e hx) e1 (I.base.free b o e n hx);exact ⟨sl',e2⟩
 ·obtain ⟨o',e1⟩:=I.base.there b o e hx
  exact free b o' (neC b o e hx) e1 (I.base.free b o e n hx)
 ·obtain ⟨o',e1⟩:=I.base.there b o e hx
  exact there b o' (neC b o e hx) e1
 ·obtain ⟨m1,e1⟩:=I.base.rO b ps e
  obtain ⟨m2,e2⟩:=rO b _ e1;exact ⟨m1++m2,by rw [e2,Array.append_assoc]⟩
 ·obtain ⟨m,hn,hl⟩:=I.loc
  refine ⟨m,ns m hn,λ i x v e1 e2 e3=>?_⟩;obtain ⟨u,r,l⟩:=hl i x v e1 e2 e3;refine ⟨u,r,?_⟩;rcases l with l | ⟨k,c,e,z⟩
  · exact .inl l
  · exact .inr ⟨k,c,e,cellK x c e _ z⟩
 ·obtain ⟨v,z⟩:=I.cell x c e
  exact ⟨v,cellK x c e v z⟩
 ·obtain ⟨m,⟨o,_,_,ho,_⟩,_⟩:=I.loc
  exact free _ o (λ z=>(hch _ z).2.1 rfl) ho I.free
 ·obtain ⟨v,o,ho,hd⟩:=I.cell x c e
  exact free c o (λ z=>(hch c z).2.2.1 x c e rfl) ho (I.iH x c e)
 ·obtain ⟨e,n,ne,nf,d⟩:=I.pin p hp
  have nch:p.1 ∉ ch:=λ z=>(hch p.1 z).2.2.2 p hp rfl
  exact ⟨keep p.1 p.2 ne nf nch e n,free p.1 p.2 nch e n,ne,nf,d⟩
def Inv.un {t':Nat} (I:Inv X ac σ H s) (u:Un X.fs [] H H' s.heap h') (hok:HOk X.prog X.w H' h'):Inv X ac σ H' { s with heap:=h',toks:=t' }:=by
 obtain ⟨m,⟨o,es,ep,ho,r⟩,_⟩:=id I.loc;obtain ⟨sl,hL⟩:=u.any ho I.free (by simp)
 exact I.step (g':=s.gens) (d':=s.drawn) (ch:=[]) (λ _ z=>nomatch z) (λ b o _ hb _ e n=>u.keep b o e n hb (by simp)) (λ b o _ hb _ e n=>u.slot b o e n hb (by simp)) (λ b o _ e n=>u.free b o e n (by simp)) (λ b o _ e=>u.there b o e (by simp)) u.rN u.qY u.rO (λ m' hm=>by
  obtain ⟨o',es',ep',ho',r'⟩:=hm;rw [ho] at ho'; cases ho'
  exact ⟨_,es',ep',hL,r'⟩) hok I.bare
def Inv.call {g':Array GenState} {t':Nat} {d':Drawn} {ch:List Addr} (I:Inv X ac σ H s) (u:Un (frs X.stack) ch H H' s.heap h') (hok:HOk X.prog X.w H' h') (hg:AllBare g')
  (hch:∀ b ∈ ch,(b ∈ X.ex\/X.s₀.heap.objs.size<=b)/\b≠X.env.locals/\(∀ x c,X.env.cells.lookup x=some c->c≠b)/\∀ p ∈ X.pn++ac,p.1≠b):Inv X ac σ H' { s with heap:=h',gens:=g',drawn:=d',toks:=t' }:=by
 obtain ⟨m,⟨o,es,ep,ho,r⟩,_⟩:=id I.loc;obtain ⟨sl,hL⟩:=u.any ho I.free λ z=>(hch _ z).2.1 rfl
 exact I.step (ch:=ch) hch (λ b o hL hb hc e n=>u.keep b o e n (λ z=>(Zd.mp (I.eW b z)).elim hL hb) hc) (λ b o _ _ hc e n=>u.any e n hc) (λ b o hc e n=>u.free b o e n hc) (λ b o hc e=>u.there b o e hc) u.rN u.qY u.rO (λ m' hm=>by
  obtain ⟨o',es',ep',ho',r'⟩:=hm;rw [ho] at ho'; cases ho'
  exact ⟨_,es',ep',hL,r'⟩) hok hg
def Inv.turned {t':Nat} {it:Addr} (I:Inv X ac σ H s) (k:∀ b o,b≠it->s.heap.get? b=some o->h'.get? b=some o) (hn:H it=none) (hL:it≠X.env.locals)
  (h1:it ∈ X.ex\/X.s₀.heap.objs.size<=it) (h2:∀ x c,X.env.cells.lookup x=some c->c≠it) (h3:∀ p ∈ X.pn++ac,p.1≠it):Inv X ac σ H { s with heap:=h',toks:=t' }:=by
 have nit:∀ b u,H b=some u->b≠it:=λ b u e z=>by rw [z,hn] at e; cases e
 refine I.step (g':=s.gens) (d':=s.drawn) (ch:=[it]) (λ b hb=>?_) (λ b o _ _ hc e _=>k b o (λ z=>hc (by simp [z])) e) (λ b o _ _ hc e _=>⟨o.slots,k b o (λ z=>hc (by simp [z])) e⟩) (λ _ _ _ _ n=>n)
  (λ b o hc e=>⟨o,k b o (λ z=>hc (by simp [z])) e⟩) (λ _ _ e=>e) (λ _ _ _ e=>e) (λ b ps e=>⟨#[],by rw [e]; simp⟩) (λ m hm=>?_) (λ b u e=>?_) I.bare
 ·have e:b=it:=by simpa using hb
  subst e;exact ⟨h1,hL,h2,h3⟩
 ·obtain ⟨o,es,ep,ho,r⟩:=hm
  exact ⟨o,es,ep,k _ o (Ne.symm hL) ho,r⟩
 ·refine (I.hok b u e).yx (λ c v hc q=>k c v ?_ q) (λ _ q=>q) λ _ _ q=>q
  rcases hc with z | z
  · rw [z]; exact nit b u e
  · exact nit c _ z
def Inv.tok (I:Inv X ac σ H s) (t:Nat):Inv X ac σ H { s with toks:=t }:=I.un (h':=s.heap) (t':=t) Un.refl I.hok
def Inv.kept (I:Inv X ac σ H s) (k:∀ b u,s.heap.get? b=some u->h'.get? b=some u):Inv X ac σ H { s with heap:=h',toks:=t' }:=I.un (Un.kept k) (I.hok.kept k)
def Inv.laid (I:Inv X ac σ H s) (k:∀ b u,s.heap.get? b=some u->h'.get? b=some u) (hp:s.heap.objs.size<=a) (new:c8 X.prog X.w (upd H a o) h' a o):Inv X ac σ (upd H a o) { s with heap:=h',toks:=t' }:=I.un (Un.laid k hp (I.hok.fresh hp)) (I.hok.laid k hp new)
def Inv.write (I:Inv X ac σ H s) (mu:Mut (H x)) (he:e=x\/H e=some (.own x)) (k:∀ b u,b≠e->s.heap.get? b=some u->h'.get? b=some u) (heo:∃ u,h'.get? e=some u)
 (new:c8 X.prog X.w (upd H x o) h' x o):Inv X ac σ (upd H x o) { s with heap:=h',toks:=t' }:=I.un (Un.write mu he k heo) (I.hok.write mu he k heo new)
def Inv.iA (I:Inv X ac σ H s) (h:∀ p ∈ pins',s.heap.get? p.1=some p.2/\H p.1=none/\p.1≠X.env.locals/\p.1 ∉ X.fs/\∀ v,p.2.data≠.cell v):Inv X pins' σ H s:=
 ⟨I.ok,I.os,I.bare,I.base,I.loc,I.cell,I.free,I.iH,λ p hp=>(Z2.mp hp).elim (λ z=>I.pin p (Yt _ z)) (h p),I.hok,I.len⟩
def sr {N:List Str} (hN:N.Nodup) {i j:Nat} {x:Str} (a:N[i]?=some x) (b:N[j]?=some x):i=j:=by
 obtain ⟨h1,e1⟩:=List.getElem?_eq_some_iff.mp a;obtain ⟨h2,e2⟩:=List.getElem?_eq_some_iff.mp b;exact (List.getElem_inj hN).mp (e1.trans e2.symm)
def ir {M:Model} {A:Around} {E:Value->Shared->Prop} {i:Nat} {x:Str} {v:V} {u:Value} {Q:Unit->Shared->Prop} (I:Inv X ac σ H s) (hN:X.N.Nodup) (hi:X.N[i]?=some x) (hx:Loc X.env.scope x) (r:RelV v u)
  (h:∀ s',Inv X ac (σ.set i (some v)) H s'->(∃ a,Heap.SameBut a s.heap s'.heap/\(a=X.env.locals\/X.env.cells.lookup x=some a))->Q () s') (hf:X.fn x=true\/X.env.scope.names.lookup x=some .local:=by first | exact .inl rfl | exact .inr rfl | assumption):wpAny M A (storeName X.env x u) Q E s:=by
 obtain ⟨m,hn,hl⟩:=id I.loc;have hcls:(X.env.scope.kind == .class||(X.env.scope.kind == .module&&X.env.locals != X.env.globals))=false:=by rw [I.ok.kind]; rfl
 have hiσ:i < σ.length:=by rw [I.len]; exact (List.getElem?_eq_some_iff.mp hi).1
 have cne:=I.cne
 have tracked:∀ {a:Addr} {h':Heap},(∃ o,s.heap.get? a=some o/\H a=none)->Heap.SameBut a s.heap h'->HOk X.prog X.w H h':=λ {a h'} ha hs b ob e=>by
  obtain ⟨_,_,hfree⟩:=ha;refine (I.hok b ob e).yx (λ c w' hc q=>(hs.2 c ?_).trans q) (λ _ q=>q) λ _ _ q=>q
  rintro rfl
  rcases hc with rfl | hc
  · rw [hfree] at e; cases e
  · rw [hfree] at hc; cases hc
 rcases hx with hk | hk
 ·refine wpAny_storeName_local hk hn (λ h' hn' hs=>?_) hcls
  obtain ⟨oL,_,_,hoL,_⟩:=id hn;refine h _ ⟨I.ok,I.os,I.bare,⟨λ b o e n hb hx=>?_,λ b o e n hb hx=>?_,I.base.free,λ b o e hx=>?_,I.base.rN,I.base.qY,I.base.rO⟩,⟨_,hn',λ j y v' e1 e2 e3=>?_⟩,λ y c e=>?_,I.free,I.iH,λ p hp=>?_,tracked ⟨oL,hoL,I.free⟩ hs,by simpa using I.len⟩ ⟨_,hs,.inl rfl⟩
  · exact (hs.2 b (Z1 (Zl (Zt e) I.ok.above))).trans (I.base.keep b o e n hb hx)
  ·obtain ⟨sl,e1⟩:=I.base.slot b o e n hb hx
   exact ⟨sl,(hs.2 b (Z1 (Zl (Zt e) I.ok.above))).trans e1⟩
  ·obtain ⟨o',e1⟩:=I.base.there b o e hx
   exact ⟨o',(hs.2 b (Z1 (Zl (Zt e) I.ok.above))).trans e1⟩
  ·by_cases hj:j=i
   ·subst hj
    rw [hi] at e1; cases e1
    rw [List.getElem?_set_self hiσ] at e2;cases e2;exact ⟨u,r,.inl ⟨hk,by simp⟩⟩
   ·rw [List.getElem?_set_ne (Ne.symm hj)] at e2
    obtain ⟨u',r',q⟩:=hl j y v' e1 e2 e3;refine ⟨u',r',?_⟩;rcases q with ⟨k,e⟩ | ⟨k,c,e,z⟩
    ·refine .inl ⟨k,?_⟩
     have:y≠x:=λ e=>hj (sr hN e1 (e ▸ hi))
     simp [this,e]
    · exact .inr ⟨k,c,e,z.sameBut hs (cne y c e)⟩
  ·obtain ⟨w',z⟩:=I.cell y c e
   exact ⟨w',z.sameBut hs (cne y c e)⟩
  ·obtain ⟨e,n,ne,nf,d⟩:=I.pin p hp
   exact ⟨(hs.2 p.1 ne).trans e,n,ne,nf,d⟩
 ·have hfn:X.fn x=true:=by
   rcases hf with z | z
   · exact z
   · rw [z] at hk; cases hk
  obtain ⟨c,hc⟩:=I.ok.has x (.inl hk);obtain ⟨w',z⟩:=I.cell x c hc;refine wpAny_storeName_cell I.ok.kind hk hc z (λ h' hc' hs=>?_);obtain ⟨oc,hoc,hocd⟩:=id z;refine h { s with heap:=h' } ⟨I.ok,I.os,I.bare,⟨λ b o e n hb hx=>?_,λ b o e n hb hx=>?_,I.base.free,λ b o e hx=>?_,I.base.rN,I.base.qY,I.base.rO⟩,⟨m,hn.sameBut hs (Ne.symm (cne x c hc)),λ j y v' e1 e2 e3=>?_⟩,λ y c' e=>?_,I.free,I.iH,λ p hp=>?_,tracked ⟨oc,hoc,I.iH x c hc⟩ hs,by simpa using I.len⟩ ⟨c,hs,.inr hc⟩
  · exact (hs.2 b (Z1 (Zl (Zt e) (I.ok.cab x c hfn hc)))).trans (I.base.keep b o e n hb hx)
  ·obtain ⟨sl,e1⟩:=I.base.slot b o e n hb hx
   exact ⟨sl,(hs.2 b (Z1 (Zl (Zt e) (I.ok.cab x c hfn hc)))).trans e1⟩
  ·obtain ⟨o',e1⟩:=I.base.there b o e hx
   exact ⟨o',(hs.2 b (Z1 (Zl (Zt e) (I.ok.cab x c hfn hc)))).trans e1⟩
  ·by_cases hj:j=i
   ·subst hj
    rw [hi] at e1; cases e1
    rw [List.getElem?_set_self hiσ] at e2;cases e2;exact ⟨u,r,.inr ⟨.inl hk,c,hc,hc'⟩⟩
   ·rw [List.getElem?_set_ne (Ne.symm hj)] at e2
    obtain ⟨u',r',q⟩:=hl j y v' e1 e2 e3;refine ⟨u',r',?_⟩;rcases q with q | ⟨k,c',e,z'⟩
    · exact .inl q
    ·refine .inr ⟨k,c',e,z'.sameBut hs ?_⟩
     rintro rfl
     exact hj (sr hN e1 (I.ok.inj _ _ _ e hc ▸ hi))
  ·by_cases hcc:c'=c
   · subst hcc; exact ⟨_,hc'⟩
   ·obtain ⟨w2,z2⟩:=I.cell y c' e
    exact ⟨w2,z2.sameBut hs hcc⟩
  ·obtain ⟨e,n,ne,nf,d⟩:=I.pin p hp
   refine ⟨(hs.2 p.1 ?_).trans e,n,ne,nf,d⟩;intro q;rw [q,hoc] at e;have q':oc=p.2:=Zj e;exact d w' (by rw [<- q']; exact hocd)
def kN (I:Inv X ac σ H s) (hN:X.N.Nodup) (hi:X.N[i]?=some x) (hx:Loc X.env.scope x) (r:RelV v u)
  (h:∀ s',Inv X ac (σ.set i (some v)) H s'->Q () s') (hf:X.fn x=true\/X.env.scope.names.lookup x=some .local:=by first | exact .inl rfl | exact .inr rfl | assumption):wpAny M A (storeName X.env x u) Q E s:=
 ir I hN hi hx r (λ s' I' _=>h s' I') hf
def Inv.IG (I:Inv X ac σ H s) (ho:s'.os=s.os) (u:Un (frs X.stack) ch H H' s.heap s'.heap) (hok:HOk X.prog X.w H' s'.heap) (hg:AllBare s'.gens)
  (hch:∀ b ∈ ch,(b ∈ X.ex\/X.s₀.heap.objs.size<=b)/\b≠X.env.locals/\(∀ x c,X.env.cells.lookup x=some c->c≠b)/\∀ p ∈ X.pn++ac,p.1≠b):Inv X ac σ H' s':=by
 obtain ⟨h',g',d',t',o'⟩:=s';have e:o'=s.os:=ho;subst e;exact I.call (g':=g') (t':=t') (d':=d') u hok hg hch
end
abbrev XK:=Value->Option Addr->Hp->Prop
abbrev St:=List (Option V)
abbrev VK:=V->Hp->Prop
abbrev TE:=St->Hp->VK->Prop
abbrev TT:=St->Hp->(Bool->Hp->Prop)->Prop
abbrev TA:=St->Hp->(List V->Hp->Prop)->Prop
structure Ends where
 nx:St->Hp->Prop
 rt:VK
 bk:St->Hp->Prop:=λ _ _=>False
 ct:St->Hp->Prop:=λ _ _=>False
abbrev TS:=Ends->St->Hp->Prop
def EP (X:Cx) (ac:List (Addr×Obj)) (σ:St) (Q:VK) (u:Value) (s':Shared):Prop:=∃ v H',Inv X ac σ H' s'/\RelV v u/\Q v H'
def TP (X:Cx) (ac:List (Addr×Obj)) (σ:St) (Q:Bool->Hp->Prop) (b:Bool) (s':Shared):Prop:=∃ H',Inv X ac σ H' s'/\Q b H'
def AP (X:Cx) (ac:List (Addr×Obj)) (σ:St) (Q:List V->Hp->Prop) (us:List Value) (s':Shared):Prop:=∃ vs H',Inv X ac σ H' s'/\cu vs us/\Q vs H'
def SP (X:Cx) (ac:List (Addr×Obj)) (D:Ends) (f:Flow) (s':Shared):Prop:=
 match f with
 | .next=>∃ σ' H',Inv X ac σ' H' s'/\D.nx σ' H'
 | .brk=>∃ σ' H',Inv X ac σ' H' s'/\D.bk σ' H'
 | .cont=>∃ σ' H',Inv X ac σ' H' s'/\D.ct σ' H'
 | .ret u=>∃ v σ' H',Inv X ac σ' H' s'/\RelV v u/\D.rt v H'
def PE (X:Cx) (e:Expr) (t:TE):Prop:=
 ∀ (ac:List (Addr×Obj)) (s:Shared) (σ:St) (H:Hp) (Q:VK),Inv X ac σ H s->t σ H Q->wpAny (model X.prog X.w) X.A (eval e X.env) (EP X ac σ Q) X.xe s
def PT (X:Cx) (e:Expr) (t:TT):Prop:=
 ∀ (ac:List (Addr×Obj)) (s:Shared) (σ:St) (H:Hp) (Q:Bool->Hp->Prop),Inv X ac σ H s->t σ H Q->wpAny (model X.prog X.w) X.A (isTrue e X.env (eval e X.env)) (TP X ac σ Q) X.xe s
def PW (X:Cx) (e:Expr) (t:TT):Prop:=
 ∀ (whole:Sem Value) (ac:List (Addr×Obj)) (s:Shared) (σ:St) (H:Hp) (Q:Bool->Hp->Prop),Inv X ac σ H s->t σ H Q->wpAny (model X.prog X.w) X.A (isTrue e X.env whole) (TP X ac σ Q) X.xe s
def PW.pt (h:PW X e t):PT X e t:=h _
def PA (X:Cx) (es:List Expr) (t:TA):Prop:=
 ∀ (pos:Pos) (ac:List (Addr×Obj)) (s:Shared) (σ:St) (H:Hp) (Q:List V->Hp->Prop),Inv X ac σ H s->t σ H Q->wpAny (model X.prog X.w) X.A (spliced (backTo pos (starEach es X.env))) (AP X ac σ Q) X.xe s
def PS (X:Cx) (st:Stmt) (t:TS):Prop:=
 ∀ (ac:List (Addr×Obj)) (s:Shared) (σ:St) (H:Hp) (D:Ends),Inv X ac σ H s->t D σ H->wpAny (model X.prog X.w) X.A (exec st X.env) (SP X ac D) X.xe s
def PSs (X:Cx) (st:List Stmt) (t:TS):Prop:=
 ∀ (ac:List (Addr×Obj)) (s:Shared) (σ:St) (H:Hp) (D:Ends),Inv X ac σ H s->t D σ H->wpAny (model X.prog X.w) X.A (execs st X.env) (SP X ac D) X.xe s
def thn {α:Type} {t:Sem α} {Q Q':α->Shared->Prop} (h:wpAny M A t Q E s) (hQ:∀ a s,Q a s->Q' a s):wpAny M A t Q' E s:=Yv h hQ λ _ _ x=>x
section
variable {X:Cx}
def bin {a b:Expr} {ta tb:TE} (ha:PE X a ta) (hb:PE X b tb) {ac:List (Addr×Obj)} {s:Shared} {σ:St} {H:Hp} {R:V->V->Hp->Prop} (I:Inv X ac σ H s) (h:ta σ H λ x H1=>tb σ H1 λ y H2=>R x y H2)
  {α:Type} {Q:α->Shared->Prop} {f:Value->Value->Sem α}
  (hf:∀ v u s2 x y H2,Inv X ac σ H2 s2->RelV x v->RelV y u->R x y H2->wpAny (model X.prog X.w) X.A (f v u) Q X.xe s2):wpAny (model X.prog X.w) X.A (eval a X.env) (λ v s₁=>wpAny (model X.prog X.w) X.A (eval b X.env) (λ u s₂=>wpAny (model X.prog X.w) X.A (f v u) Q X.xe s₂) X.xe s₁) X.xe s:=by
 refine thn (ha ac s σ H _ I h) λ v s1 ⟨x,H1,I1,r1,q1⟩=>?_
 refine thn (hb ac s1 σ H1 _ I1 q1) λ u s2 ⟨y,H2,I2,r2,q2⟩=>?_
 exact hf v u s2 x y H2 I2 r1 r2 q2
def Od (i:Nat):TE:=λ σ H Q=>∃ v,σ[i]?=some (some v)/\Q v H
def tC (v:V):TE:=λ _ H Q=>Q v H
def oJ (hN:X.N[i]?=some x) (hv:Vis X.env.scope x) (hd:Dg x:=by decide) (hcd:(x == ("__classdict__":Str))=false:=by decide):PE X (.Name x pos) (Od i):=by
 intro ac s σ H Q I h;obtain ⟨v,e,h⟩:=h;obtain ⟨m,hn,hl⟩:=I.loc;obtain ⟨u,r,l⟩:=hl i x v hN e hv;have fin:EP X ac σ Q u s:=⟨v,H,I,r,h⟩
 rcases l with ⟨hk,hm⟩ | ⟨hk,c,hc,hcell⟩
 · exact wpAny_Name (wpAny_loadName_local I.ok.kind hk hn hm fin) hd
 ·rcases hk with hk | hk
  · exact wpAny_Name (wpAny_loadName_cell I.ok.kind hk hc hcell fin) hd
  · exact wpAny_Name (wpAny_loadName_free I.ok.kind hk hc hcell fin hcd) hd
def tY {i j pos}:PE X (.Constant (.int i) j pos) (tC (.int i)):=λ _ _ _ H _ I h=>wpAny_Constant_int ⟨.int i,H,I.tok _,⟨_,rfl⟩,h⟩
def Kj {b j pos}:PE X (.Constant (.bool b) j pos) (tC (.bl b)):=λ _ _ _ H _ I h=>Constant_bool ⟨.bl b,H,I,rfl,h⟩
def EY {j pos}:PE X (.Constant .none j pos) (tC .non):=λ _ _ _ H _ I h=>Constant_none ⟨.non,H,I,rfl,h⟩
def Aj {x j pos}:PE X (.Constant (.str x) j pos) (tC (.str x)):=λ _ _ _ H _ I h=>Calls.Constant_str ⟨.str x,H,I.tok _,⟨_,rfl⟩,h⟩
def Gl (X:Cx) (x:Str):Prop:=X.env.kindOf x=some .globalImplicit
def oW (I:Inv X ac σ H s) (hg:Gl X x) (hm:X.mg x=some u) (h:Q u s)
  (hd:Dg x:=by decide):wpAny (model X.prog X.w) X.A (eval (.Name x pos) X.env) Q E s:=
 X6 I.ok.kind hg (Calls.loadGlobal_global (by rw [I.ok.glob]; exact I.mod.glob.keeps I.bk) hm h) hd
def mE (I:Inv X ac σ H s) (hg:Gl X x) (hm:X.mg x=none) (hv:bootBuiltins x=some u) (h:Q u s)
  (hn:x≠"__name__":=by decide) (hd:Dg x:=by decide):wpAny (model X.prog X.w) X.A (eval (.Name x pos) X.env) Q E s:=by
 obtain ⟨mb,h1,h2⟩:=I.mod.blt;exact X6 I.ok.kind hg (Calls.loadGlobal_builtin (by rw [I.ok.glob]; exact I.mod.glob.keeps I.bk) hm (by rw [I.ok.blt]; exact h1.keeps I.bk) ((h2 x hn).trans hv) h) hd
def jW (hg:Gl X x) (hm:X.mg x=some u) (r:RelV v u) (hd:Dg x:=by decide):PE X (.Name x pos) (tC v):=
 λ _ _ _ H _ I h=>oW I hg hm ⟨v,H,I,r,h⟩ hd
def Am (hg:Gl X x) (hm:X.mg x=none) (hv:bootBuiltins x=some u) (r:RelV v u) (hn:x≠"__name__":=by decide) (hd:Dg x:=by decide):PE X (.Name x pos) (tC v):=
 λ _ _ _ H _ I h=>mE I hg hm hv ⟨v,H,I,r,h⟩ hn hd
def t2I (ta tb:TE) (k:Int->Int->Hp->Prop):St->Hp->Prop:=λ σ H=>ta σ H λ x H1=>tb σ H1 λ y H2=>∃ i j,x=.int i/\y=.int j/\k i j H2
variable {a b:Expr} {ta tb:TE} {pos:Pos}
def PC (X:Cx) (op:CmpOp) (a b:Expr) (t:TE):Prop:=
  ∀ (ac:List (Addr×Obj)) (s:Shared) (σ:St) (H:Hp) (Q:VK),Inv X ac σ H s->t σ H Q->wpAny (model X.prog X.w) X.A (eval a X.env) (λ v s₁=>wpAny (model X.prog X.w) X.A (eval b X.env) (λ u s₂=>wpAny (model X.prog X.w) X.A (compareOp op v u) (EP X ac σ Q) X.xe s₂) X.xe s₁) X.xe s
def DM (b:Expr) (h:op≠.In) (h2:op≠.NotIn):behindInMarks op b=false:=by
 have e1:(op == CmpOp.In)=false:=by cases op <;> first | rfl | exact absurd rfl h
 have e2:(op == CmpOp.NotIn)=false:=by cases op <;> first | rfl | exact absurd rfl h2
 cases b <;> simp [behindInMarks,e1,e2]
def RA (p:Int->Int->Bool) (ta tb:TE):TE:=λ σ H Q=>t2I ta tb (λ i j H2=>Q (.bl (p i j)) H2) σ H
abbrev Tf:TE->TE->TE:=RA λ i j=>decide (i=j)
def Kk {op:CmpOp} {p:Int->Int->Bool} (ha:PE X a ta) (hb:PE X b tb)
  (rule:∀ (i j:Int) (t u:Tok) (Q:Value->Shared->Prop) (s:Shared),Q (.bool (p i j)) s->wpAny (model X.prog X.w) X.A (compareOp op (.int i t) (.int j u)) Q X.xe s):PC X op a b (RA p ta tb):=by
 intro ac s σ H Q I h;refine bin ha hb I h λ v u s2 x y H2 I2 rx ry q=>?_
 obtain ⟨i,j,rfl,rfl,q⟩:=q;obtain ⟨t,rfl⟩:=rx;obtain ⟨t',rfl⟩:=ry;exact rule i j t t' _ s2 ⟨.bl _,H2,I2,rfl,q⟩
def xu (ha:PE X a ta) (hb:PE X b tb):PC X .Eq a b (Tf ta tb):=Kk ha hb λ _ _ _ _ _ _ h=>eq_int (by rw [Bool.beq_eq_decide_eq]; exact h)
def tB (t:TE):TT:=λ σ H Q=>t σ H λ x H1=>∃ c,x=.bl c/\Q c H1
def tX (h:PC X op a b t) (h1:behindInMarks op b=false:=by first | exact DM _ (by decide) (by decide) | rfl):PT X (.Compare a [op] [b] pos) (tB t):=by
 intro ac s σ H Q I hw;refine wpAny_isTrue_Compare1 (thn (h ac s σ H _ I hw) λ v s1 h1=>thn h1 λ u s2 h2=>thn h2 λ c s3 ⟨x,H1,I1,r1,q1⟩=>?_) h1;obtain ⟨d,rfl,q⟩:=q1;cases r1;exact Yk ⟨H1,I1,q⟩
def EO (h:PE X e t) (he:∀ whole,isTrue e X.env whole=(do let v <- whole; standAt e.pos; holding [v] (truthy v)):=by intro _; rfl):PT X e (tB t):=by
 intro ac s σ H Q I hw;refine isTrue_plain (thn (h ac s σ H _ I hw) λ v s1 ⟨x,H1,I1,r1,q1⟩=>?_) (he _);obtain ⟨d,rfl,q⟩:=q1;cases r1;exact Yk ⟨H1,I1,q⟩
variable {tA tB':TT} {rest:List Expr}
def Tj (t u:TT):TT:=λ σ H Q=>t σ H λ c H1=>if c=true then u σ H1 Q else Q false H1
def tOr (t u:TT):TT:=λ σ H Q=>t σ H λ c H1=>if c=true then Q true H1 else u σ H1 Q
def Tb (t:TT):TT:=λ σ H Q=>t σ H λ c H1=>Q (!c) H1
def pw_and1 (ha:PT X a tA):PW X (.BoolOp .And [a] pos) tA:=by
 intro wh ac s σ H Q I h;refine isTrue_and (thn (ha ac s σ H Q I h) λ c s1 e=>?_)
 cases c with
 | true=>exact isTrue_and_nil e
 | false=>exact e
def pw_or1 (ha:PT X a tA):PW X (.BoolOp .Or [a] pos) tA:=by
 intro wh ac s σ H Q I h;refine isTrue_or (thn (ha ac s σ H Q I h) λ c s1 e=>?_)
 cases c with
 | false=>exact isTrue_or_nil e
 | true=>exact e
def pw_and (ha:PT X a tA) (hb:PW X (.BoolOp .And (b::rest) pos) tB'):PW X (.BoolOp .And (a::b::rest) pos) (Tj tA tB'):=by
 intro wh ac s σ H Q I h;refine isTrue_and (thn (ha ac s σ H _ I h) λ c s1 ⟨H1,I1,q1⟩=>?_)
 cases c with
 | true=>exact hb wh ac s1 σ H1 Q I1 q1
 | false=>exact ⟨H1,I1,q1⟩
def pw_or (ha:PT X a tA) (hb:PW X (.BoolOp .Or (b::rest) pos) tB'):PW X (.BoolOp .Or (a::b::rest) pos) (tOr tA tB'):=by
 intro wh ac s σ H Q I h;refine isTrue_or (thn (ha ac s σ H _ I h) λ c s1 ⟨H1,I1,q1⟩=>?_)
 cases c with
 | true=>exact ⟨H1,I1,q1⟩
 | false=>exact hb wh ac s1 σ H1 Q I1 q1
def J4 (ha:PT X a tA):PT X (.UnaryOp .Not a pos) (Tb tA):=by
 intro ac s σ H Q I h;exact isTrue_not (ha ac s σ H (λ c H1=>Q (!c) H1) I h)
def Om (ta tb:TE):TE:=λ σ H Q=>ta σ H λ x H1=>∃ c,x=.bl c/\if c=true then tb σ H1 Q else Q (.bl false) H1
def Ta (ta tb:TE):TE:=λ σ H Q=>ta σ H λ x H1=>∃ c,x=.bl c/\if c=true then Q (.bl true) H1 else tb σ H1 Q
def Of (ta:TE):TE:=λ σ H Q=>ta σ H λ x H1=>∃ c,x=.bl c/\Q (.bl (!c)) H1
def Ak {op} (h:PE X a t):PE X (.BoolOp op [a] pos) t:=λ ac s σ H Q I hw=>BoolOp_one (h ac s σ H Q I hw)
def An (ha:PE X a ta) (hb:PE X (.BoolOp .And (b::rest) pos) tb):PE X (.BoolOp .And (a::b::rest) pos) (Om ta tb):=by
 intro ac s σ H Q I h;refine BoolOp_and (thn (ha ac s σ H _ I h) λ v s1 ⟨x,H1,I1,r1,q1⟩=>?_);obtain ⟨c,rfl,q1⟩:=q1;cases r1;refine Yk ?_
 cases c with
 | true=>exact hb ac s1 σ H1 Q I1 q1
 | false=>exact ⟨.bl false,H1,I1,rfl,q1⟩
def OE (ha:PE X a ta) (hb:PE X (.BoolOp .Or (b::rest) pos) tb):PE X (.BoolOp .Or (a::b::rest) pos) (Ta ta tb):=by
 intro ac s σ H Q I h;refine BoolOp_or (thn (ha ac s σ H _ I h) λ v s1 ⟨x,H1,I1,r1,q1⟩=>?_);obtain ⟨c,rfl,q1⟩:=q1;cases r1;refine Yk ?_
 cases c with
 | false=>exact hb ac s1 σ H1 Q I1 q1
 | true=>exact ⟨.bl true,H1,I1,rfl,q1⟩
def EW (ha:PE X a ta):PE X (.UnaryOp .Not a pos) (Of ta):=by
 intro ac s σ H Q I h;refine UnaryOp_ (thn (ha ac s σ H _ I h) λ v s1 ⟨x,H1,I1,r1,q1⟩=>?_);obtain ⟨c,rfl,q1⟩:=q1;cases r1;exact not_of (Yk ⟨.bl (!c),H1,I1,rfl,q1⟩)
def tIf (t:TT) (ta tb:TE):TE:=λ σ H Q=>t σ H λ c H1=>if c=true then ta σ H1 Q else tb σ H1 Q
def Ds (hc:PT X c tA) (ha:PE X a ta) (hb:PE X b tb):PE X (.IfExp c a b pos) (tIf tA ta tb):=by
 intro ac s σ H Q I h;refine wpAny_IfExp (thn (hc ac s σ H _ I h) λ d s1 ⟨H1,I1,q1⟩=>?_)
 cases d with
 | true=>exact ha ac s1 σ H1 Q I1 q1
 | false=>exact hb ac s1 σ H1 Q I1 q1
end
def SqL (K:W.Frag) (H:Hp) (a:Addr) (xs:List V):Prop:=
 Rd H a (.lst xs)\/∃ (o:Obj) (its:Array Value) (n:Nat),K.lookup a=some o/\o.cls=.type "list"/\o.dict=none/\o.data=.seq its n/\its.size<=sizeLine/\cu xs its.toList
def SqT (K:W.Frag) (H:Hp) (a:Addr) (xs:List V):Prop:=
 Rd H a (.tup xs)\/∃ (o:Obj) (its:Array Value) (n:Nat),K.lookup a=some o/\o.cls=.type "tuple"/\o.data=.seq its n/\its.size<=sizeLine/\cu xs its.toList
def US:Value->Option V
 | .none=>some .non
 | .bool b=>some (.bl b)
 | .int i _=>some (.int i)
 | .str x _=>some (.str x)
 | .bytes b _=>some (.byt b)
 | .float b _=>some (.flt b)
 | .ref a=>some (.ref a)
 | .type n=>some (.ty n)
 | _=>none
def RelV.abs (r:RelV x u):US u=some x:=by
 cases x with
 | non=>cases r; rfl
 | bl _=>cases r; rfl
 | int _=>obtain ⟨t,rfl⟩:=r; rfl
 | str _=>obtain ⟨t,rfl⟩:=r; rfl
 | byt _=>obtain ⟨t,rfl⟩:=r; rfl
 | flt _=>obtain ⟨t,rfl⟩:=r; rfl
 | ref _=>cases r; rfl
 | ty _=>cases r; rfl
def RelV.inj (r:RelV x u) (q:RelV y u):x=y:=Zj (r.abs.symm.trans q.abs)
theorem cu.inj:∀ {xs ys:List V} {us:List Value},cu xs us->cu ys us->xs=ys
 | _,_,_,.nil,.nil=>rfl
 | _,_,_,.cons r t,.cons r' t'=>by rw [r.inj r',cu.inj t t']
section
variable {X:Cx} {ac:List (Addr×Obj)} {σ:St} {H:Hp} {s:Shared} {a:Addr} {xs ys:List V}
def SqL.of {K:W.Frag} (h:H a=some (.lst xs)):SqL K H a xs:=.inl (.inl h)
def SqT.of {K:W.Frag} (h:H a=some (.tup xs)):SqT K H a xs:=.inl (.inl h)
theorem Inv.list (I:Inv X ac σ H s) (h:SqL X.K H a xs):∃ its:List Value,cu xs its/\PlainL s.heap a its.toArray/\xs.length<=sizeLine:=by
 rcases h with h | ⟨o,its,n,hk,hc,hd,hs,hz,r⟩
 ·obtain ⟨z,its,n,r,e⟩:=h.ok I.hok
  exact ⟨its,r,⟨_,n,e,rfl,rfl,rfl⟩,z⟩
 ·refine ⟨its.toList,r,⟨o,n,I.kIn a o hk,hc,hd,by simpa using hs⟩,?_⟩
  have e:=r.length;simp only [Array.length_toList] at e;omega
def Inv.tuple (I:Inv X ac σ H s) (h:SqT X.K H a xs):∃ its:List Value,cu xs its/\IsTup s.heap a its.toArray/\xs.length<=sizeLine:=by
 rcases h with h | ⟨o,its,n,hk,hc,hs,hz,r⟩
 ·obtain ⟨z,its,r,p⟩:=h.ok I.hok
  exact ⟨its,r,p,z⟩
 ·refine ⟨its.toList,r,⟨o,I.kIn a o hk,hc,n,by simpa using hs⟩,?_⟩
  have e:=r.length;simp only [Array.length_toList] at e;omega
def Inv.nR (I:Inv X ac σ H s) (h:SqL X.K H a xs) (h':SqL X.K H a ys):xs=ys:=by
 obtain ⟨its,r,⟨o,n,e,_,_,d⟩,_⟩:=I.list h;obtain ⟨its',r',⟨o',n',e',_,_,d'⟩,_⟩:=I.list h';rw [e] at e'; cases e'
 rw [d] at d';injection d' with d1 _
 have:its=its':=by simpa using Z8 Array.toList d1
 subst this;exact r.inj r'
def Inv.tF (I:Inv X ac σ H s) (h:SqT X.K H a xs) (h':SqT X.K H a ys):xs=ys:=by
 obtain ⟨its,r,⟨o,e,_,n,d⟩,_⟩:=I.tuple h;obtain ⟨its',r',⟨o',e',_,n',d'⟩,_⟩:=I.tuple h';rw [e] at e'; cases e'
 rw [d] at d';injection d' with d1 _
 have:its=its':=by simpa using Z8 Array.toList d1
 subst this;exact r.inj r'
end
abbrev Cx.tj (X:Cx) (E:Value->Shared->Prop):Cx:={ X with xe:=E }
abbrev Cx.nox (X:Cx):Cx:=X.tj λ _ _=>False
def Cx.Ok.tj {X:Cx} (ok:X.Ok) (E:Value->Shared->Prop):(X.tj E).Ok:=
 ⟨ok.mod,ok.kind,ok.glob,ok.blt,ok.above,ok.inj,ok.has,ok.cab,ok.hd,ok.frames,ok.stk,ok.exf,ok.bs,ok.bsz,ok.E6,ok.I0,ok.yO,ok.frf⟩
def Cx.Ok.mj {X:Cx} {E:Value->Shared->Prop} (ok:(X.tj E).Ok):X.Ok:=
 ⟨ok.mod,ok.kind,ok.glob,ok.blt,ok.above,ok.inj,ok.has,ok.cab,ok.hd,ok.frames,ok.stk,ok.exf,ok.bs,ok.bsz,ok.E6,ok.I0,ok.yO,ok.frf⟩
section
variable {X:Cx} {ac:List (Addr×Obj)} {σ:St} {H:Hp} {s:Shared} {E:Value->Shared->Prop}
def Inv.tj (I:Inv X ac σ H s) (E:Value->Shared->Prop):Inv (X.tj E) ac σ H s:=⟨I.ok.tj E,I.os,I.bare,I.base,I.loc,I.cell,I.free,I.iH,I.pin,I.hok,I.len⟩
def Inv.mj (I:Inv (X.tj E) ac σ H s):Inv X ac σ H s:=⟨I.ok.mj,I.os,I.bare,I.base,I.loc,I.cell,I.free,I.iH,I.pin,I.hok,I.len⟩
def SP.mj (h:SP (X.tj E) ac D f s'):SP X ac D f s':=by
 cases f with
 | next=>obtain ⟨σ',H',I,q⟩:=h; exact ⟨σ',H',I.mj,q⟩
 | brk=>obtain ⟨σ',H',I,q⟩:=h; exact ⟨σ',H',I.mj,q⟩
 | cont=>obtain ⟨σ',H',I,q⟩:=h; exact ⟨σ',H',I.mj,q⟩
 | ret u=>obtain ⟨v,σ',H',I,r,q⟩:=h; exact ⟨v,σ',H',I.mj,r,q⟩
def PSs.nox {st:List Stmt} {t:TS} (h:PSs X.nox st t):PSs X st t:=λ ac s σ H D I hw=>
 Yv (h ac s σ H D (I.tj _) hw) (λ _ _ q=>q.mj) λ _ _ z=>False.elim z
end
section
variable {X:Cx} {st:Stmt} {rest:List Stmt} {t u:TS} {e:Expr} {te:TE} {pos:Pos}
def Og:TS:=λ D σ H=>D.nx σ H
def S7 (t u:TS):TS:=λ D σ H=>t { D with nx:=u D } σ H
def vM:PSs X [] Og:=λ _ _ σ H _ I h=>wpAny_execs_nil ⟨σ,H,I,h⟩
def fC (h1:PS X st t) (h2:PSs X rest u):PSs X (st::rest) (S7 t u):=by
 intro ac s σ H D I h;refine wpAny_execs_cons (thn (h1 ac s σ H { D with nx:=u D } I h) λ f s1 q=>?_)
 cases f with
 | next=>
  obtain ⟨σ',H',I',q⟩:=q;exact h2 ac s1 σ' H' D I' q
 | ret v=>exact q
 | brk=>exact q
 | cont=>exact q
def dF (h1:PS X st t):PSs X [st] t:=by
 intro ac s σ H D I h;refine wpAny_execs_cons (thn (h1 ac s σ H D I h) λ f s1 q=>?_)
 cases f with
 | next=>exact wpAny_execs_nil q
 | ret v=>exact q
 | brk=>exact q
 | cont=>exact q
def Inv.quiet (I:Inv X ac σ H s):interactive X.env=false:=by simp [interactive,I.ok.kind]
def Oh (te:TE):TS:=λ D σ H=>te σ H λ _ H1=>D.nx σ H1
def vP (he:PE X e te) (hs:swapsWith e none pos.line X.env=pure false:=by rfl):PS X (.Expr e pos) (Oh te):=by
 intro ac s σ H D I h;exact wpAny_Expr_any (thn (he ac s σ H _ I h) λ v s1 ⟨x,H1,I1,r1,q1⟩=>⟨σ,H1,I1,q1⟩) I.quiet hs
def S8 (te:TE):TS:=λ D σ H=>te σ H D.rt
def xm (he:PE X e te):PS X (.Return (some e) pos) (S8 te):=by
 intro ac s σ H D I h;exact wpAny_Return_some (thn (he ac s σ H _ I h) λ v s1 ⟨x,H1,I1,r1,q1⟩=>⟨x,σ,H1,I1,r1,q1⟩)
def Td (c:TT) (t u:TS):TS:=λ D σ H=>c σ H λ b H1=>if b=true then t D σ H1 else u D σ H1
def vO (hc:PT X c tc) (ha:PSs X a t) (hb:PSs X b u):PS X (.If c a b pos) (Td tc t u):=by
 intro ac s σ H D I h;refine wpAny_If (thn (hc ac s σ H _ I h) λ d s1 ⟨H1,I1,q1⟩=>?_)
 cases d with
 | true=>exact ha ac s1 σ H1 D I1 q1
 | false=>exact hb ac s1 σ H1 D I1 q1
end
abbrev TG:=V->St->Hp->(St->Hp->Prop)->Prop
abbrev TGs:=List V->St->Hp->(St->Hp->Prop)->Prop
def PG (X:Cx) (target:Expr) (t:TG):Prop:=
  ∀ (ac:List (Addr×Obj)) (s:Shared) (σ:St) (H:Hp) (v:V) (u:Value) (Q:St->Hp->Prop),Inv X ac σ H s->RelV v u->t v σ H Q->wpAny (model X.prog X.w) X.A (assign target X.env u) (λ _ s'=>∃ σ' H',Inv X ac σ' H' s'/\Q σ' H') X.xe s
def PGs (X:Cx) (ts:List Expr) (t:TGs):Prop:=
  ∀ (ac:List (Addr×Obj)) (s:Shared) (σ:St) (H:Hp) (vs:List V) (us:List Value) (Q:St->Hp->Prop),Inv X ac σ H s->cu vs us->t vs σ H Q->wpAny (model X.prog X.w) X.A (assignInOrder ((assignEach ts X.env).map (·.2)) us) (λ _ s'=>∃ σ' H',Inv X ac σ' H' s'/\Q σ' H') X.xe s
abbrev SR:=V->V->V->Hp->(Hp->Prop)->Prop
def SU (X:Cx) (t:SR):Prop:=
  ∀ (ac:List (Addr×Obj)) (s:Shared) (σ:St) (H:Hp) (o i v:V) (ov iv u:Value) (Q:Hp->Prop),Inv X ac σ H s->RelV o ov->RelV i iv->RelV v u->t o i v H Q->wpAny (model X.prog X.w) X.A (setItem ov iv u) (λ _ s'=>∃ H',Inv X ac σ H' s'/\Q H') X.xe s
abbrev TIp:=V->V->Hp->VK->Prop
def PIp (X:Cx) (op:Operator) (t:TIp):Prop:=
  ∀ (ac:List (Addr×Obj)) (s:Shared) (σ:St) (H:Hp) (x y:V) (v u:Value) (Q:VK),Inv X ac σ H s->RelV x v->RelV y u->t x y H Q->wpAny (model X.prog X.w) X.A (inplaceOp op v u) (EP X ac σ Q) X.xe s
section
variable {X:Cx} {pos:Pos}
def nJ (i:Nat):TG:=λ v σ H Q=>Q (σ.set i (some v)) H
def sd (hN:X.N.Nodup) (hi:X.N[i]?=some x) (hx:Loc X.env.scope x) (hf:X.fn x=true\/X.env.scope.names.lookup x=some .local:=by first | exact .inl rfl | exact .inr rfl | assumption):PG X (.Name x pos) (nJ i):=by
 intro ac s σ H v u Q I r h;exact wpAny_assign_Name (kN I hN hi hx r (λ s' I'=>⟨_,H,I',h⟩) hf)
def SK:TGs:=λ vs σ H Q=>vs=[]/\Q σ H
def Ih (t:TG) (u:TGs):TGs:=λ vs σ H Q=>∃ v r,vs=v::r/\t v σ H λ σ' H'=>u r σ' H' Q
def Ah:PGs X [] SK:=by
 intro ac s σ H vs us Q I r h;obtain ⟨e,h⟩:=h;subst e;cases r;exact assignInOrder_nil ⟨σ,H,I,h⟩
def r9 (h1:PG X e t) (h2:PGs X es u)
  (hs:(assignEach (e::es) X.env).map (·.2)=assign e X.env::(assignEach es X.env).map (·.2):=by rfl):PGs X (e::es) (Ih t u):=by
 intro ac s σ H vs us Q I r h;obtain ⟨v,vr,e1,h⟩:=h;subst e1
 cases r with
 | cons r rr=>
  rw [hs];refine assignInOrder_cons (thn (h1 ac s σ H _ _ _ I r h) λ _ s1 ⟨σ1,H1,I1,q1⟩=>?_);exact h2 ac s1 σ1 H1 _ _ Q I1 rr q1
def SJ (K:W.Frag) (n:Nat) (t:TGs):TG:=λ v σ H Q=>∃ a xs,v=.ref a/\SqT K H a xs/\xs.length=n/\t xs σ H Q
def EV (hc:X.calm=true) (h:PGs X es t)
  (hn:(assignEach es X.env).length=n:=by rfl) (hst:(assignEach es X.env).findIdx? (·.1)=none:=by rfl):PG X (.Tuple es k pos) (SJ X.K n t):=by
 intro ac s σ H v u Q I r hw;obtain ⟨a,xs,e1,hq,hl,hw⟩:=hw;subst e1;cases r;obtain ⟨its,rv,ht,hz⟩:=I.tuple hq;refine assign_Tuple_tuple (I.ok.hd hc) ht (by simp [hn,<- hl,rv.length]) hst λ h' hx=>?_
 have I1:Inv X ac σ H { s with heap:=h' }:=I.kept (t':=s.toks) λ b o e=>hx b o (Z1 (Zt e)) e
 exact h ac _ σ H xs _ Q I1 (by simpa using rv) hw
def UN (to ti:TE) (t:SR):TG:=λ v σ H Q=>to σ H λ o H1=>ti σ H1 λ i H2=>t o i v H2 λ H3=>Q σ H3
def Kh (ho:PE X o to) (hi:PE X i ti) (hs:SU X t)
  (ha:∀ v,assign (.Subscript o i pos) X.env v=(do
    let ov <- holding [v] (eval o X.env)
    let iv <- holding [v,ov] (eval i X.env)
    standAt pos
    holding [v,ov,iv] (setItem ov iv v)
    release [v,ov,iv] []):=by intro _; rfl):PG X (.Subscript o i pos) (UN to ti t):=by
 intro ac s σ H v u Q I r h;rw [ha];refine Zr (wpAny_holding (thn (ho ac s σ H _ I h) λ ov s1 ⟨x,H1,I1,r1,q1⟩=>?_));refine Zr (wpAny_holding (thn (hi ac s1 σ H1 _ I1 q1) λ iv s2 ⟨y,H2,I2,r2,q2⟩=>?_));refine Zr (Wg (Zr (wpAny_holding (thn (hs ac s2 σ H2 x y v ov iv u _ I2 r1 r2 r q2) λ _ s3 ⟨H3,I3,q3⟩=>?_))));exact wpAny_release ⟨σ,H3,I3,q3⟩
def JH (te:TE) (g:TG):TS:=λ D σ H=>te σ H λ x H1=>g x σ H1 D.nx
def J9 (he:PE X e te) (hg:PG X tg g) (hs:swapsWithSole [tg] e pos.line X.env=pure false:=by rfl) (hw:swappedStores [tg] e X.env=pure none:=by rfl)
  (h1:(assignEach [tg] X.env).map (·.2)=[assign tg X.env]:=by rfl):PS X (.Assign [tg] e pos) (JH te g):=by
 intro ac s σ H D I h;refine wpAny_Assign_stores (thn (he ac s σ H _ I h) λ v s1 ⟨x,H1,I1,r1,q1⟩=>?_) hs hw;rw [h1];exact thn (hg ac s1 σ H1 x v _ I1 r1 q1) λ _ s2 q=>q
def g9 {i:Nat} {x:Str} {e:Expr} {te:TE} {pos':Pos} (hN:X.N.Nodup) (hi:X.N[i]?=some x) (hx:Loc X.env.scope x) (he:PE X e te) (hs:swapsWith e (some (.Name x pos')) pos.line X.env=pure false:=by rfl) (hf:X.fn x=true\/X.env.scope.names.lookup x=some .local:=by first | exact .inl rfl | exact .inr rfl | assumption):PS X (.Assign [.Name x pos'] e pos) (JH te (nJ i)):=by
 intro ac s σ H D I h;refine wpAny_Assign_Name (thn (he ac s σ H _ I h) λ v s1 ⟨y,H1,I1,r1,q1⟩=>?_) hs;exact kN I1 hN hi hx r1 (λ s2 I2=>⟨_,H1,I2,q1⟩) hf
def S9 (i j:Nat) (ta:TA):TS:=λ D σ H=>ta σ H λ vs H1=>∃ v w,vs=[v,w]/\D.nx ((σ.set i (some v)).set j (some w)) H1
def J7 {kt k2 pt2} (hc:X.calm=true) (hN:X.N.Nodup) (hi:X.N[i]?=some x) (hj:X.N[j]?=some y) (hij:i≠j)
  (hx:X.env.scope.names.lookup x=some .local) (hy:X.env.scope.names.lookup y=some .local) (ha:PA X [a,b] ta)
  (hw:swappedStores [.Tuple [.Name x px,.Name y py] kt pt] (.Tuple [a,b] k2 pt2) X.env=pure (some [x,y]))
  (hs:swapsWithSole [.Tuple [.Name x px,.Name y py] kt pt] (.Tuple [a,b] k2 pt2) pos.line X.env=pure false:=by rfl):PS X (.Assign [.Tuple [.Name x px,.Name y py] kt pt] (.Tuple [a,b] k2 pt2) pos) (S9 i j ta):=by
 intro ac s σ H D I h;rw [exec_Assign_arm];refine Zr (Wg ?_);rw [hs];refine Zr (Z4 ?_);rw [if_neg (by decide)];refine Zr (Tuple_ (thn (ha _ ac s σ H _ I h) λ us s1 ⟨vs,H1,I1,r1,q1⟩=>?_));obtain ⟨v,w,e1,q1⟩:=q1;subst e1
 obtain ⟨u1,u2,rfl,rv,rw'⟩:∃ u1 u2,us=[u1,u2]/\RelV v u1/\RelV w u2:=by
  cases r1 with
  | cons p q=>
   cases q with
   | cons p' q'=>
    cases q';exact ⟨_,_,rfl,p,p'⟩
 refine X5 ?_ (by show 2<=sizeLine; decide)
 have I2:Inv X ac σ H1 { s1 with heap:=s1.heap.push { cls:=.type "tuple",data:=.seq [u1,u2].toArray } }:=I1.kept (t':=s1.toks) λ b o e=>Heap.get?_push_of_some _ e
 rw [hw];refine Zr (Z4 ?_);show wpAny (model X.prog X.w) X.A (do rule "assign.swapped-stores"; let items <- unpackItems (.ref s1.heap.objs.size) 2 none; assignInOrder [λ v=>bindName X.env y v,λ v=>bindName X.env x v] items.reverse; pure Flow.next) _ _ _;refine Zr (wpAny_rule (Zr (unpackItems_tuple (items:=#[u1,u2]) (I.ok.hd hc) (IsTup.new s1.heap _) λ h' hx'=>?_)));have I3:=I2.kept (h':=h') (t':=s1.toks) λ b o e=>hx' b o (Z1 (Zt e)) e
 show wpAny _ _ (assignInOrder [λ v=>bindName X.env y v,λ v=>bindName X.env x v] [u2,u1] >>= λ _=>pure Flow.next) _ _ _;refine Zr (assignInOrder_cons (wpAny_bindName (kN I3 hN hj (.inl hy) rw' (λ s2 I4=>?_) (.inr hy))));refine assignInOrder_cons (wpAny_bindName (kN I4 hN hi (.inl hx) rv (λ s3 I5=>assignInOrder_nil (Z4 ?_)) (.inr hx)));rw [List.set_comm _ _ (Ne.symm hij)] at I5;exact ⟨_,H1,I5,q1⟩
def Ti (i:Nat) (te:TE) (ti:TIp):TS:=λ D σ H=>∃ x,σ[i]?=some (some x)/\te σ H λ y H1=>ti x y H1 λ z H2=>D.nx (σ.set i (some z)) H2
def J8 (hN:X.N.Nodup) (hi:X.N[i]?=some x) (hx:Loc X.env.scope x) (he:PE X e te) (ho:PIp X op ti) (hf:X.fn x=true\/X.env.scope.names.lookup x=some .local:=by first | exact .inl rfl | exact .inr rfl | assumption):PS X (.AugAssign (.Name x pos') op e pos) (Ti i te ti):=by
 intro ac s σ H D I h;obtain ⟨v,e1,h⟩:=h;obtain ⟨m,hn,hl⟩:=I.loc;have vis:Vis X.env.scope x:=by rcases hx with k | k; exact .inl k; exact .inr (.inl k)
 obtain ⟨u,r,l⟩:=hl i x v hi e1 vis;refine wpAny_AugAssign_Name ?_
 have go:wpAny (model X.prog X.w) X.A (eval e X.env) (λ w s₂=>wpAny (model X.prog X.w) X.A (inplaceOp op u w) (λ r s₃=>wpAny (model X.prog X.w) X.A (storeName X.env x r) (λ _=>SP X ac D .next) X.xe s₃) X.xe s₂) X.xe s:=by
  refine thn (he ac s σ H _ I h) λ w s1 ⟨y,H1,I1,r1,q1⟩=>?_
  refine thn (ho ac s1 σ H1 v y u w _ I1 r r1 q1) λ z s2 ⟨zv,H2,I2,r2,q2⟩=>?_
  exact kN I2 hN hi hx r2 (λ s3 I3=>⟨_,H2,I3,q2⟩) hf
 rcases l with ⟨hk,hm⟩ | ⟨hk,c,hc,hcell⟩
 · exact wpAny_loadName_local I.ok.kind hk hn hm go
 ·rcases hk with hk | hk
  · exact wpAny_loadName_cell I.ok.kind hk hc hcell go
  ·rcases hx with k | k
   ·have:X.env.scope.names.lookup x=some .free:=hk
    rw [k] at this; cases this
   ·have:X.env.scope.names.lookup x=some .free:=hk
    rw [k] at this; cases this
def JA (c:TT) (tb:TS):TS:=λ D σ H=>∃ W:Nat->St->Hp->Prop,(∃ m,W m σ H)/\∀ m σ H,W m σ H->c σ H λ b H1=>if b=true then ∃ N:St->Hp->Prop,(∀ σ' H',N σ' H'->∃ m',m' < m/\W m' σ' H')/\tb { D with nx:=N,ct:=N,bk:=D.nx } σ H1 else D.nx σ H1
def Dj (hp:PassesOwn (model X.prog X.w) X.A X.env X.xe) (hc:PT X c tc) (hb:PSs X body tb):PS X (.While c body [] pos) (JA tc tb):=by
 intro ac s σ H D I h;obtain ⟨W,⟨m0,w0⟩,turn⟩:=h;refine wpAny_While (codeAny_whileLoop (λ n s'=>∃ σ' H',Inv X ac σ' H' s'/\W n σ' H') ?_ m0 ⟨σ,H,I,w0⟩)
 rintro n s1 ⟨σ1,H1,I1,w1⟩
 refine Xh hp (thn (hc ac s1 σ1 H1 _ I1 (turn n σ1 H1 w1)) λ b s2 ⟨H2,I2,q2⟩=>?_)
 cases b with
 | true=>
  obtain ⟨N,hN,q2⟩:=q2;rw [if_pos rfl];refine Xh hp (thn (hb ac s2 σ1 H2 _ I2 q2) λ f s3 q3=>?_)
  cases f with
  | next=>
   obtain ⟨σ3,H3,I3,n3⟩:=q3;obtain ⟨m',hm,w3⟩:=hN σ3 H3 n3;exact ⟨m',hm,σ3,H3,I3,w3⟩
  | cont=>
   obtain ⟨σ3,H3,I3,n3⟩:=q3;obtain ⟨m',hm,w3⟩:=hN σ3 H3 n3;exact ⟨m',hm,σ3,H3,I3,w3⟩
  | brk=>exact q3
  | ret v=>exact q3
 | false=>
  rw [if_neg Zf];exact wpAny_execs_nil ⟨σ1,H2,I2,q2⟩
end
structure It where
 go:Nat->Hp->Prop
 yld:Nat->Hp->V->Hp->Prop
 stop:Nat->Hp->Prop
def rE (X:Cx) (ac:List (Addr×Obj)) (H:Hp) (b:Addr):Prop:=
 H b=none/\b≠X.env.locals/\b ∉ X.fs/\(b ∈ X.ex\/X.s₀.heap.objs.size<=b)/\(∀ x c,X.env.cells.lookup x=some c->c≠b)/\∀ p ∈ X.pn++ac,p.1≠b
def Inv.wq (I:Inv X ac σ H s) (hb:s.heap.objs.size<=b) (hn:H' b=none):rE X ac H' b:=by
 refine ⟨hn,Nat.ne_of_gt (Zl I.lt hb),I.TQ hb,.inr (Zs I.sz hb),λ x c e z=>?_,λ p hp z=>?_⟩
 ·obtain ⟨v,q⟩:=I.cell x c e
  exact absurd (Zl q.lt (by rw [z]; exact hb)) (Yo _)
 · exact absurd (Zl (Zt (I.pin p hp).1) (by rw [z]; exact hb)) (Yo _)
structure Turn (P:Program) (w:World) (K:W.Frag) (tg:Expr) (J:It) (fp:List Addr) (it:Addr) (tn:Nat->Heap->Prop):Prop where
 mem:it ∈ fp
 obj:∀ i h,tn i h->∀ b ∈ fp,∃ o,h.get? b=some o/\∀ v,o.data≠.cell v
 keep:∀ i h h',tn i h->(∀ b ∈ fp,∀ o,h.get? b=some o->h'.get? b=some o)->tn i h'
 item:∀ (X:Cx),X.prog=P->X.w=w->X.K=K->X.calm=true->∀ (i:Nat) (ac:List (Addr×Obj)) (s:Shared) (σ:St) (H:Hp) (E:Value->Shared->Prop),Inv X ac σ H s->(∀ b ∈ fp,rE X ac H b)->tn i s.heap->J.go i H->wpAny (model P w) X.A (pyNext (.ref it)) (λ r s1=>∃ u,r=some u/\wpAny (model P w) X.A (letOwnedTupleGo tg (.ref it) u) (λ _ s2=>∃ x H',Inv X ac σ H' s2/\RelV x u/\J.yld i H x H'/\tn (i+1) s2.heap/\∀ b ∈ fp,H' b=none) E s1) E s
 done:∀ (X:Cx),X.prog=P->X.w=w->X.K=K->X.calm=true->∀ (i:Nat) (ac:List (Addr×Obj)) (s:Shared) (σ:St) (H:Hp) (E:Value->Shared->Prop),Inv X ac σ H s->(∀ b ∈ fp,rE X ac H b)->tn i s.heap->J.stop i H->wpAny (model P w) X.A (pyNext (.ref it)) (λ r s1=>r=none/\Inv X ac σ H s1) E s
 self:∀ (A:Around) (i:Nat) (s:Shared) (Q:Value->Shared->Prop) (E:Value->Shared->Prop),tn i s.heap->Q (.ref it) s->wpAny (model P w) A (pyIter (.ref it)) Q E s
abbrev TI:=St->Hp->(It->Hp->Prop)->Prop
def PIE (X:Cx) (ac:List (Addr×Obj)) (σ:St) (tg:Expr) (R:It->Hp->Prop) (itv:Value) (s2:Shared):Prop:=
 ∃ (it:Addr) (fp:List Addr) (tn:Nat->Heap->Prop) (J:It) (H':Hp),itv=.ref it/\Inv X ac σ H' s2/\Turn X.prog X.w X.K tg J fp it tn/\tn 0 s2.heap/\(∀ b ∈ fp,rE X ac H' b)/\R J H'
def PI (X:Cx) (tg iter:Expr) (wi:TI):Prop:=
  ∀ (ac:List (Addr×Obj)) (s:Shared) (σ:St) (H:Hp) (R:It->Hp->Prop),Inv X ac σ H s->wi σ H R->wpAny (model X.prog X.w) X.A (eval iter X.env) (λ v s1=>wpAny (model X.prog X.w) X.A (pyIter v) (PIE X ac σ tg R) X.xe s1) X.xe s
def By (ho:s.heap.get? it=some o) (hc:o.cls=.type n) (hd:o.data=.fields vs)
    (hn:["enumerate","zip","dict_itemiterator","dict_reverseitemiterator","odict_iterator","itertools.zip_longest","itertools.pairwise"].contains n=false) (hQ:Q () s):wpAny M A (letOwnedTupleGo tg (.ref it) u) Q E s:=by
  unfold letOwnedTupleGo
  cases tg <;> first
    | exact Z4 hQ
    | (cases u <;> first
        | exact Z4 hQ
        | (refine Zr (wpAny_load ho ?_)
           rw [hc,hd];show wpAny M A (if (["enumerate","zip","dict_itemiterator","dict_reverseitemiterator","odict_iterator","itertools.zip_longest","itertools.pairwise"].contains n&&vs[0]? == some (rawInt _))=true then _ else _) Q E s;rw [if_neg (by intro h; rw [hn,Xr] at h; cases h)]
           exact Z4 hQ))
def Itl (K:W.Frag) (a:Addr):It:=
 ⟨λ i H=>∃ xs x,SqL K H a xs/\xs[i]?=some x,λ i H x H'=>H'=H/\∀ xs,SqL K H a xs->xs[i]?=some x,λ i H=>∃ xs,SqL K H a xs/\xs.length<=i⟩
def Itt (K:W.Frag) (a:Addr):It:=
 ⟨λ i H=>∃ xs x,SqT K H a xs/\xs[i]?=some x,λ i H x H'=>H'=H/\∀ xs,SqT K H a xs->xs[i]?=some x,λ i H=>∃ xs,SqT K H a xs/\xs.length<=i⟩
def Itr (lo:Int) (n:Nat):It:=⟨λ i _=>i < n,λ i H x H'=>H'=H/\x=.int (lo+i),λ i _=>n<=i⟩
theorem zH {P:Program} {w:World} {K:W.Frag} {tg:Expr} (a it:Addr):Turn P w K tg (Itl K a) [it] it (λ i h=>h.IsListIter it a i) where
 mem:=by simp
 obj:=λ i h st b hb=>by
  have e:b=it:=by simpa using hb
  subst e;obtain ⟨o,e,c,d⟩:=st;exact ⟨o,e,λ v z=>by rw [d] at z; cases z⟩
 keep:=λ i h h' st k=>st.at λ o e=>k it (by simp) o e
 item:=by
  intro X hP hw hK hc i ac s σ H E I hf st hg;subst hP hw hK;obtain ⟨xs,x,hq,hx⟩:=hg;obtain ⟨its,rv,p,hz⟩:=I.list hq;obtain ⟨u,hu,ru⟩:=rv.get hx;obtain ⟨f0,f1,f2,f3,f4,f5⟩:=hf it (by simp);refine wpAny_pyNext_list_item st p.isList (x:=u) (by simpa using hu) λ h' st' sb=>?_
  have I1:Inv X ac σ H { s with heap:=h' }:=I.turned (t':=s.toks) (λ b o hb e=>(sb.2 b hb).trans e) f0 f1 f3 f4 f5;obtain ⟨o,e,c,d⟩:=id st';exact ⟨u,rfl,By (s:={ s with heap:=h' }) e c d (by decide) ⟨x,H,I1,ru,⟨rfl,λ ys hy=>by rw [I.nR hy hq]; exact hx⟩,st',λ b hb=>(hf b hb).1⟩⟩
 done:=by
  intro X hP hw hK hc i ac s σ H E I hf st hg;subst hP hw hK;obtain ⟨xs,hq,hx⟩:=hg;obtain ⟨its,rv,p,hz⟩:=I.list hq;obtain ⟨f0,f1,f2,f3,f4,f5⟩:=hf it (by simp);have hl:=rv.length;exact wpAny_pyNext_list_end (I.ok.hd hc) st p.isList (by simp; omega) λ h' eb=>⟨rfl,I.turned (t':=s.toks) (λ b o hb e=>eb b o hb e) f0 f1 f3 f4 f5⟩
 self:=λ _ _ _ _ _ st h=>wpAny_pyIter_listiter st h
def yp {P:Program} {w:World} {K:W.Frag} {tg:Expr} (a it:Addr):Turn P w K tg (Itt K a) [it] it (λ i h=>h.IsTupleIter it a i) where
 mem:=by simp
 obj:=λ i h st b hb=>by
  have e:b=it:=by simpa using hb
  subst e;obtain ⟨o,e,c,d⟩:=st;exact ⟨o,e,λ v z=>by rw [d] at z; cases z⟩
 keep:=λ i h h' st k=>st.at λ o e=>k it (by simp) o e
 item:=by
  intro X hP hw hK hc i ac s σ H E I hf st hg;subst hP hw hK;obtain ⟨xs,x,hq,hx⟩:=hg;obtain ⟨its,rv,p,hz⟩:=I.tuple hq;obtain ⟨u,hu,ru⟩:=rv.get hx;obtain ⟨f0,f1,f2,f3,f4,f5⟩:=hf it (by simp);refine wpAny_pyNext_tuple_item st (show s.heap.IsTuple a its.toArray from p) (x:=u) (by simpa using hu) λ h' st' sb=>?_
  have I1:Inv X ac σ H { s with heap:=h' }:=I.turned (t':=s.toks) (λ b o hb e=>(sb.2 b hb).trans e) f0 f1 f3 f4 f5;obtain ⟨o,e,c,d⟩:=id st';exact ⟨u,rfl,By (s:={ s with heap:=h' }) e c d (by decide) ⟨x,H,I1,ru,⟨rfl,λ ys hy=>by rw [I.tF hy hq]; exact hx⟩,st',λ b hb=>(hf b hb).1⟩⟩
 done:=by
  intro X hP hw hK hc i ac s σ H E I hf st hg;subst hP hw hK;obtain ⟨xs,hq,hx⟩:=hg;obtain ⟨its,rv,p,hz⟩:=I.tuple hq;obtain ⟨f0,f1,f2,f3,f4,f5⟩:=hf it (by simp);have hl:=rv.length;exact wpAny_pyNext_tuple_end (I.ok.hd hc) st (show s.heap.IsTuple a its.toArray from p) (by simp; omega) λ h' eb=>⟨rfl,I.turned (t':=s.toks) (λ b o hb e=>eb b o hb e) f0 f1 f3 f4 f5⟩
 self:=λ _ _ _ _ _ st h=>wpAny_pyIter_tupleiter st h
theorem yq {P:Program} {w:World} {K:W.Frag} {tg:Expr} (it:Addr) (lo:Int) (n:Nat):Turn P w K tg (Itr lo n) [it] it (λ i h=>IsRangeIter h it (lo+(i:Nat) * 1) ((n:Int) - (i:Nat)) 1) where
 mem:=by simp
 obj:=λ i h st b hb=>by
  have e:b=it:=by simpa using hb
  subst e
  exact ⟨_,st,λ v z=>by
   have z':Data.fields _=Data.cell v:=z
   cases z'⟩
 keep:=λ i h h' st k=>k it (by simp) _ st
 item:=by
  intro X hP hw hK hc i ac s σ H E I hf st hg;subst hP hw hK;obtain ⟨f0,f1,f2,f3,f4,f5⟩:=hf it (by simp);have W:=Walks.range (prog:=X.prog) (w:=X.w) (I.ok.hd hc) it lo 1 n;refine W.item i s _ _ hg st λ v h' tk hv st' kk=>?_
  obtain ⟨t,rfl⟩:=hv;have I1:Inv X ac σ H { s with heap:=h',toks:=tk }:=I.turned (λ b o hb e=>kk b o (by simpa using hb) e) f0 f1 f3 f4 f5;refine ⟨_,rfl,By (s:={ s with heap:=h',toks:=tk }) (n:="range_iterator") st' rfl rfl (by decide) ⟨.int (lo+i),H,I1,⟨t,?_⟩,⟨rfl,rfl⟩,st',λ b hb=>(hf b hb).1⟩⟩;rw [Int.mul_one]
 done:=by
  intro X hP hw hK hc i ac s σ H E I hf st hg;subst hP hw hK;obtain ⟨f0,f1,f2,f3,f4,f5⟩:=hf it (by simp);exact wpAny_pyNext_range_end (I.ok.hd hc) st (by have:n<=i:=hg; omega) λ h' eb=>⟨rfl,I.turned (t':=s.toks) (λ b o hb e=>eb b o hb e) f0 f1 f3 f4 f5⟩
 self:=λ _ _ _ _ _ st h=>wpAny_pyIter_rangeiter st h
section
variable {X:Cx} {tg:Expr}
def QZ (K:W.Frag) (tl:TE):TI:=λ σ H R=>tl σ H λ x H1=>∃ a,x=.ref a/\(∃ xs,SqL K H1 a xs)/\R (Itl K a) H1
def UG (K:W.Frag) (tl:TE):TI:=λ σ H R=>tl σ H λ x H1=>∃ a,x=.ref a/\(∃ xs,SqT K H1 a xs)/\R (Itt K a) H1
def GV {l:Expr} {tl:TE} (hl:PE X l tl):PI X tg l (QZ X.K tl):=by
 intro ac s σ H R I h;refine thn (hl ac s σ H _ I h) λ v s1 ⟨x,H1,I1,r1,q1⟩=>?_
 obtain ⟨a,e,⟨xs,hq⟩,q⟩:=q1;subst e;cases r1;obtain ⟨its,rv,p,hz⟩:=I1.list hq;refine wpAny_pyIter_list p.isList ?_
 refine ⟨s1.heap.objs.size,[s1.heap.objs.size],_,_,H1,rfl,I1.kept (t':=s1.toks) λ b o e=>Heap.get?_push_of_some _ e,zH a _,⟨_,Heap.get?_push_size _ rfl,rfl,rfl⟩,λ b hb=>?_,q⟩;have e:b=s1.heap.objs.size:=by simpa using hb
 subst e;exact I1.wq (Zo _) (I1.hok.fresh (Zo _))
def Ke {l:Expr} {tl:TE} (hl:PE X l tl):PI X tg l (UG X.K tl):=by
 intro ac s σ H R I h;refine thn (hl ac s σ H _ I h) λ v s1 ⟨x,H1,I1,r1,q1⟩=>?_
 obtain ⟨a,e,⟨xs,hq⟩,q⟩:=q1;subst e;cases r1;obtain ⟨its,rv,p,hz⟩:=I1.tuple hq;refine wpAny_pyIter_tuple (show s1.heap.IsTuple a its.toArray from p) ?_
 refine ⟨s1.heap.objs.size,[s1.heap.objs.size],_,_,H1,rfl,I1.kept (t':=s1.toks) λ b o e=>Heap.get?_push_of_some _ e,yp a _,⟨_,Heap.get?_push_size _ rfl,rfl,rfl⟩,λ b hb=>?_,q⟩;have e:b=s1.heap.objs.size:=by simpa using hb
 subst e;exact I1.wq (Zo _) (I1.hok.fresh (Zo _))
theorem Dh {ac:List (Addr×Obj)} {σ:St} {H:Hp} {s:Shared} {R:It->Hp->Prop} {E:Value->Shared->Prop} {lo hi:Int} {t u v:Tok} {tk:Nat} (I:Inv X ac σ H s) (h1:-(2 ^ 62)<=lo) (h2:lo < 2 ^ 62) (h3:-(2 ^ 62)<=hi) (h4:hi < 2 ^ 62)
  (q:R (Itr lo (hi - lo).toNat) H):wpAny (model X.prog X.w) X.A (pyIter (.ref s.heap.objs.size)) (PIE X ac σ tg R) E { s with heap:=s.heap.push { cls:=.type "range",data:=.fields #[.int lo t,.int hi u,.int 1 v] },toks:=tk }:=by
 refine wpAny_pyIter_range (IsRange.new ..) (small_one h1 h2 h3 h4) ?_
 have I1:Inv X ac σ H { s with heap:=s.heap.push { cls:=.type "range",data:=.fields #[.int lo t,.int hi u,.int 1 v] },toks:=tk }:=I.kept λ b o e=>Heap.get?_push_of_some _ e
 refine ⟨(s.heap.push { cls:=.type "range",data:=.fields #[.int lo t,.int hi u,.int 1 v] }).objs.size,[(s.heap.push { cls:=.type "range",data:=.fields #[.int lo t,.int hi u,.int 1 v] }).objs.size],_,_,H,rfl,
  I1.kept (t':=tk) λ b o e=>Heap.get?_push_of_some _ e,yq _ lo (hi - lo).toNat,?_,λ b hb=>?_,q⟩
 ·have e1:lo+((0:Nat):Int) * 1=lo:=by simp
  have e2:(((hi - lo).toNat:Nat):Int) - ((0:Nat):Int)=Builtin.Range.rangeSize lo hi 1:=by rw [rangeSize_one]; split <;> omega
  show IsRangeIter _ _ (lo+((0:Nat):Int) * 1) ((((hi - lo).toNat:Nat):Int) - ((0:Nat):Int)) 1;rw [e1,e2];exact Heap.get?_push_size _ rfl
 ·have e:b=(s.heap.push { cls:=.type "range",data:=.fields #[.int lo t,.int hi u,.int 1 v] }).objs.size:=by simpa using hb
  subst e;exact I1.wq (Zo _) (I1.hok.fresh (Zo _))
def QY (ta:TA):TI:=λ σ H R=>ta σ H λ vs H1=>∃ j:Int,vs=[.int j]/\-(2 ^ 62)<=j/\j < 2 ^ 62/\R (Itr 0 j.toNat) H1
theorem Ag {a:Expr} {ta:TA} {p pos:Pos} (hg:Gl X "range") (hm:X.mg "range"=none) (ha:PA X [a] ta) (hs:starEach [a] X.env=[(false,eval a X.env)]:=by rfl):PI X tg (.Call (.Name "range" p) [a] [] pos) (QY ta):=by
 intro ac s σ H R I h;refine Call_ (mE I hg hm boot_range (Yr (thn (ha pos ac s σ H _ I h) λ us s1 ⟨vs,H1,I1,r1,q1⟩=>?_) hs rfl));obtain ⟨j,e,q1,q2,q⟩:=q1;subst e
 cases r1 with
 | cons r rr=>
  cases rr;obtain ⟨t,rfl⟩:=r;exact call_range_1 (Dh I1 (by omega) (by omega) q1 q2 (by simpa using q))
def Te (wi:TI) (g:TG) (tb:TS):TS:=λ D σ H=>wi σ H λ J H1=>∃ W:Nat->Nat->St->Hp->Prop,(∃ m,W 0 m σ H1)/\∀ i m σ H,W i m σ H->(J.stop i H/\D.nx σ H)\/(J.go i H/\∃ N:St->Hp->Prop,(∀ σ' H',N σ' H'->∃ m',m' < m/\W (i+1) m' σ' H')/\∀ x H',J.yld i H x H'->g x σ H' λ σ2 H2=>tb { D with nx:=N,ct:=N,bk:=D.nx } σ2 H2)
def xq (fp:List Addr) (h:Heap):List (Addr×Obj):=fp.filterMap λ b=>(h.get? b).map λ o=>(b,o)
def eT (hb:b ∈ fp) (e:h.get? b=some o):(b,o) ∈ xq fp h:=Xy.mpr ⟨b,hb,by rw [e]; rfl⟩
def AH (hp:p ∈ xq fp h):p.1 ∈ fp/\h.get? p.1=some p.2:=by
 obtain ⟨b,hb,e⟩:=Xy.mp hp
 cases q:h.get? b with
 | none=>rw [q] at e; cases e
 | some o=>
  rw [q] at e;have e':(b,o)=p:=Zj e;subst e';exact ⟨hb,q⟩
def Inv.pinned (I:Inv X ac σ H s) (hf:∀ b ∈ fp,rE X ac H b) (ho:∀ b ∈ fp,∃ o,s.heap.get? b=some o/\∀ v,o.data≠.cell v):Inv X (ac++xq fp s.heap) σ H s:=
 I.iA λ p hp=>(Z2.mp hp).elim (λ z=>I.pin p (Zy _ z)) λ z=>by
  obtain ⟨hb,e⟩:=AH z;obtain ⟨f0,f1,f2,_⟩:=hf p.1 hb;obtain ⟨o,e',d⟩:=ho p.1 hb;rw [e] at e'; cases e'
  exact ⟨e,f0,f1,f2,d⟩
def Inv.rK (I:Inv X (ac++pl) σ H s):Inv X ac σ H s:=I.iA λ p hp=>I.pin p (Zy _ (Yt _ hp))
def ET (hp:PassesOwn (model X.prog X.w) X.A X.env X.xe) (hc:X.calm=true) (hi:PI X tg iter wi) (hg:PG X tg g) (hb:PSs X body tb)
  (hs:∀ x,foldedSetIterable iter X.env x=pure x:=by intro _; rfl):PS X (.For tg iter body [] pos) (Te wi g tb):=by
 intro ac s σ H D I h;refine wpAny_For (thn (hi ac s σ H _ I h) λ v s1 h1=>thn h1 λ itv s2 h2=>?_) hs;obtain ⟨it,fp,tn,J,H2,e,I2,T,st2,f2,W,⟨m0,w0⟩,turn⟩:=h2;subst e;have stat:∀ {H':Hp},(∀ b ∈ fp,H' b=none)->∀ b ∈ fp,rE X ac H' b:=λ hn b hb=>⟨hn b hb,(f2 b hb).2⟩
 refine codeAny_forLoop_any (λ n s'=>∃ i σ' H',Inv X ac σ' H' s'/\tn i s'.heap/\(∀ b ∈ fp,H' b=none)/\W i n σ' H') ?_ m0 ⟨0,σ,H2,I2,st2,λ b hb=>(f2 b hb).1,w0⟩
 rintro n s3 ⟨i,σ3,H3,I3,st3,fr3,w3⟩
 rcases turn i n σ3 H3 w3 with ⟨stop,qn⟩ | ⟨go,N,hN,step⟩
 ·refine Xh hp (thn (T.done X rfl rfl rfl hc i ac s3 σ3 H3 X.xe I3 (stat fr3) st3 stop) λ r s4 ⟨hr,I4⟩=>?_)
  subst hr;exact wpAny_execs_nil ⟨σ3,H3,I4,qn⟩
 ·refine Xh hp (thn (T.item X rfl rfl rfl hc i ac s3 σ3 H3 X.xe I3 (stat fr3) st3 go) λ r s4 ⟨u,hr,h4⟩=>?_)
  subst hr;refine Xh hp (thn h4 λ _ s5 ⟨x,H5,I5,r5,y5,st5,fr5⟩=>?_);have I5':=I5.pinned (stat fr5) (T.obj _ _ st5);refine Xh hp (thn (hg _ s5 σ3 H5 x u _ I5' r5 (step x H5 y5)) λ _ s6 ⟨σ6,H6,I6,q6⟩=>?_);refine Xh hp (thn (hb _ s6 σ6 H6 _ I6 q6) λ f s7 q7=>?_)
  have again:∀ {σ7:St} {H7:Hp},Inv X (ac++xq fp s5.heap) σ7 H7 s7->N σ7 H7->∃ m,m < n/\∃ i σ' H',Inv X ac σ' H' s7/\tn i s7.heap/\(∀ b ∈ fp,H' b=none)/\W i m σ' H':=λ {σ7 H7} I7 n7=>by
   obtain ⟨m',hm,w7⟩:=hN σ7 H7 n7;refine ⟨m',hm,i+1,σ7,H7,I7.rK,T.keep _ _ _ st5 λ b hb o e=>(I7.pin (b,o) (Zy _ (Zy _ (eT hb e)))).1,λ b hb=>?_,w7⟩;obtain ⟨o,e,d⟩:=T.obj _ _ st5 b hb;exact (I7.pin (b,o) (Zy _ (Zy _ (eT hb e)))).2.1
  cases f with
  | next=>obtain ⟨σ7,H7,I7,n7⟩:=q7; exact again I7 n7
  | cont=>obtain ⟨σ7,H7,I7,n7⟩:=q7; exact again I7 n7
  | brk=>obtain ⟨σ7,H7,I7,q7⟩:=q7; exact ⟨σ7,H7,I7.rK,q7⟩
  | ret v=>obtain ⟨x7,σ7,H7,I7,r7,q7⟩:=q7; exact ⟨x7,σ7,H7,I7.rK,r7,q7⟩
end
abbrev R2:=V->V->Hp->VK->Prop
def OpR (X:Cx) (f:Value->Value->Sem Value) (r:R2):Prop:=
  ∀ (ac:List (Addr×Obj)) (s:Shared) (σ:St) (H:Hp) (x y:V) (v u:Value) (Q:VK),Inv X ac σ H s->RelV x v->RelV y u->r x y H Q->wpAny (model X.prog X.w) X.A (f v u) (EP X ac σ Q) X.xe s
def UnR (X:Cx) (f:Value->Sem Value) (r:V->Hp->VK->Prop):Prop:=
  ∀ (ac:List (Addr×Obj)) (s:Shared) (σ:St) (H:Hp) (x:V) (v:Value) (Q:VK),Inv X ac σ H s->RelV x v->r x H Q->wpAny (model X.prog X.w) X.A (f v) (EP X ac σ Q) X.xe s
def eI (X:Cx) (f:Value) (r:List V->Hp->VK->Prop):Prop:=
  ∀ (ac:List (Addr×Obj)) (s:Shared) (σ:St) (H:Hp) (xs:List V) (us:List Value) (Q:VK),Inv X ac σ H s->cu xs us->r xs H Q->wpAny (model X.prog X.w) X.A (call f us) (EP X ac σ Q) X.xe s
def tOp (r:R2) (ta tb:TE):TE:=λ σ H Q=>ta σ H λ x H1=>tb σ H1 λ y H2=>r x y H2 Q
def tUn (r:V->Hp->VK->Prop) (ta:TE):TE:=λ σ H Q=>ta σ H λ x H1=>r x H1 Q
def rI (C:Int->Int->Prop) (g:Int->Int->V):R2:=λ x y H Q=>∃ i j,x=.int i/\y=.int j/\C i j/\Q (g i j) H
def rI0 (g:Int->Int->V):R2:=λ x y H Q=>∃ i j,x=.int i/\y=.int j/\Q (g i j) H
def rU (g:Int->V):V->Hp->VK->Prop:=λ x H Q=>∃ i,x=.int i/\Q (g i) H
section
variable {X:Cx} {a b c:Expr} {ta tb tc:TE} {pos:Pos}
def Rk (ha:PE X a ta) (hb:PE X b tb) {ac:List (Addr×Obj)} {s:Shared} {σ:St} {H:Hp} {R:V->V->Hp->Prop} (I:Inv X ac σ H s)
  (h:ta σ H λ x H1=>tb σ H1 λ y H2=>R x y H2) {Q:Value->Shared->Prop} {f:Value->Value->Sem Value}
  (hf:∀ v u s2 x y H2,Inv X ac σ H2 s2->RelV x v->RelV y u->R x y H2->wpAny (model X.prog X.w) X.A (f v u) Q X.xe s2):wpAny (model X.prog X.w) X.A (eval a X.env) (λ v s₁=>wpAny (model X.prog X.w) X.A (eval b X.env) (λ u s₂=>wpAny (model X.prog X.w) X.A (f v u) Q X.xe s₂) X.xe s₁) X.xe s:=by
 refine thn (ha ac s σ H _ I h) λ v s1 ⟨x,H1,I1,r1,q1⟩=>?_
 refine thn (hb ac s1 σ H1 _ I1 q1) λ u s2 ⟨y,H2,I2,r2,q2⟩=>?_
 exact hf v u s2 x y H2 I2 r1 r2 q2
def OF {op:Operator} {r:R2} (ho:OpR X (binaryOp op) r) (ha:PE X a ta) (hb:PE X b tb):PE X (.BinOp a op b pos) (tOp r ta tb):=by
 intro ac s σ H Q I h;exact wpAny_BinOp (Rk ha hb I h λ v u s2 x y H2 I2 rx ry q=>ho ac s2 σ H2 x y v u Q I2 rx ry q)
def OD (ho:UnR X (unaryOp op) r) (ha:PE X a ta):PE X (.UnaryOp op a pos) (tUn r ta):=by
 intro ac s σ H Q I h;exact UnaryOp_ (thn (ha ac s σ H _ I h) λ v s1 ⟨x,H1,I1,r1,q1⟩=>ho ac s1 σ H1 x v Q I1 r1 q1)
def opI {f:Value->Value->Sem Value} {C:Int->Int->Prop} {g:Int->Int->Int}
  (rule:∀ (i j:Int) (t u:Tok) (s:Shared) (Q:Value->Shared->Prop) (E:Value->Shared->Prop),C i j->Q (.int (g i j) s.toks) { s with toks:=s.toks+1 }->wpAny (model X.prog X.w) X.A (f (.int i t) (.int j u)) Q E s):OpR X f (rI C λ i j=>.int (g i j)):=by
 intro ac s σ H x y v u Q I rx ry h;obtain ⟨i,j,rfl,rfl,hc,q⟩:=h;obtain ⟨t,rfl⟩:=rx;obtain ⟨t',rfl⟩:=ry;exact rule i j t t' s _ _ hc ⟨.int (g i j),H,I.tok _,⟨_,rfl⟩,q⟩
def RL {f:Value->Value->Sem Value} {g:Int->Int->Int}
  (rule:∀ (i j:Int) (t u:Tok) (s:Shared) (Q:Value->Shared->Prop) (E:Value->Shared->Prop),Q (.int (g i j) s.toks) { s with toks:=s.toks+1 }->wpAny (model X.prog X.w) X.A (f (.int i t) (.int j u)) Q E s):OpR X f (rI0 λ i j=>.int (g i j)):=by
 intro ac s σ H x y v u Q I rx ry h;obtain ⟨i,j,rfl,rfl,q⟩:=h;obtain ⟨t,rfl⟩:=rx;obtain ⟨t',rfl⟩:=ry;exact rule i j t t' s _ _ ⟨.int (g i j),H,I.tok _,⟨_,rfl⟩,q⟩
def OV {f:Value->Value->Sem Value} {g:Int->Int->Bool}
  (rule:∀ (i j:Int) (t u:Tok) (s:Shared) (Q:Value->Shared->Prop) (E:Value->Shared->Prop),Q (.bool (g i j)) s->wpAny (model X.prog X.w) X.A (f (.int i t) (.int j u)) Q E s):OpR X f (rI0 λ i j=>.bl (g i j)):=by
 intro ac s σ H x y v u Q I rx ry h;obtain ⟨i,j,rfl,rfl,q⟩:=h;obtain ⟨t,rfl⟩:=rx;obtain ⟨t',rfl⟩:=ry;exact rule i j t t' s _ _ ⟨.bl (g i j),H,I,rfl,q⟩
def N0 (i j:Int):Prop:=0<=j/\j<=1000000/\i.natAbs < 2 ^ 64
def F8 (i j:Int):Prop:=(-(2 ^ 64) < i/\i < 2 ^ 64)\/(-(2 ^ 64) < j/\j < 2 ^ 64)
def F8.ok (h:F8 i j):IntMulOk i j:=by
 rcases h with ⟨h1,h2⟩ | ⟨h1,h2⟩
 · exact .of_left (intBits_le_64 h1 h2)
 · exact .of_right (intBits_le_64 h1 h2)
def Kw:OpR X (binaryOp .Add) (rI0 λ i j=>.int (i+j)):=RL λ _ _ _ _ _ _ _ q=>add_int q
def Kq:OpR X (binaryOp .Sub) (rI0 λ i j=>.int (i - j)):=RL λ _ _ _ _ _ _ _ q=>sub_int q
def G7:OpR X (binaryOp .Mod) (rI (λ _ j=>j≠0) λ i j=>.int (i.fmod j)):=opI λ _ _ _ _ _ _ _ hc q=>mod_int' hc q
def Kr:OpR X (binaryOp .Pow) (rI N0 λ i j=>.int (i ^ j.toNat)):=opI λ _ _ _ _ _ _ _ hc q=>pow_int_small hc.1 hc.2.1 hc.2.2 q
def unI {f:Value->Sem Value} {g:Int->Int}
  (rule:∀ (i:Int) (t:Tok) (s:Shared) (Q:Value->Shared->Prop) (E:Value->Shared->Prop),Q (.int (g i) s.toks) { s with toks:=s.toks+1 }->wpAny (model X.prog X.w) X.A (f (.int i t)) Q E s):UnR X f (rU λ i=>.int (g i)):=by
 intro ac s σ H x v Q I rx h;obtain ⟨i,rfl,q⟩:=h;obtain ⟨t,rfl⟩:=rx;exact rule i t s _ _ ⟨.int (g i),H,I.tok _,⟨_,rfl⟩,q⟩
def Jt:UnR X (unaryOp .USub) (rU λ i=>.int (-i)):=unI λ _ _ _ _ _ q=>neg_int q
end
def Ot:V->V->Bool
 | .non,.non=>true | .non,.int _=>true | .int _,.non=>true | .non,.bl _=>true | .bl _,.non=>true | .non,.str _=>true | .str _,.non=>true
 | .int _,.int _=>true | .bl _,.bl _=>true | .str _,.str _=>true | .byt _,.byt _=>true
 | .int _,.str _=>true | .str _,.int _=>true | .bl _,.str _=>true | .str _,.bl _=>true
 | _,_=>false
def rEq:R2:=λ x y H Q=>Ot x y=true/\Q (.bl (decide (x=y))) H
def rNe:R2:=λ x y H Q=>Ot x y=true/\Q (.bl (!decide (x=y))) H
def BV:decide (V.int i=V.int j)=(i == j):=by
 rw [Wh];simp
def F1:decide (V.bl i=V.bl j)=(i == j):=by
 rw [Wh];simp
def BU:decide (V.str i=V.str j)=(i == j):=by
 rw [Wh];simp
def BW:decide (V.byt i=V.byt j)=(i.toList == j.toList):=by
 rw [Wh];cases i;cases j;simp
section
variable {X:Cx} {a b c:Expr} {ta tb tc:TE} {pos:Pos}
def bP (I:Inv X ac σ H s) (q:Q (.bl k) H) (e:k=k'):EP X ac σ Q (.bool k') s:=by
 subst e;exact ⟨.bl k,H,I,rfl,q⟩
def OU:OpR X (compareOp .Eq) rEq:=by
 intro ac s σ H x y v u Q I rx ry h;obtain ⟨hs,q⟩:=h
 cases x with
 | non=>
  cases rx
  cases y with
  | non=>cases ry; exact PySem.EqNone.eq_none_none (bP I q (by simp))
  | bl j=>cases ry; exact PySem.EqNone.eq_none_bool (bP I q (by simp))
  | int j=>obtain ⟨t',rfl⟩:=ry; exact PySem.EqNone.eq_none_int (bP I q (by simp))
  | str j=>obtain ⟨t',rfl⟩:=ry; exact PySem.EqNone.eq_none_str (bP I q (by simp))
  | _=>exact absurd (show false=true from hs) Zf
 | bl i=>
  cases rx
  cases y with
  | non=>cases ry; exact PySem.EqNone.eq_bool_none (bP I q (by simp))
  | bl j=>cases ry; exact eq_bool (bP I q F1)
  | str j=>obtain ⟨t',rfl⟩:=ry; exact PySem.EqMixed.eq_bool_str (bP I q (by simp))
  | _=>exact absurd (show false=true from hs) Zf
 | int i=>
  obtain ⟨t,rfl⟩:=rx
  cases y with
  | non=>cases ry; exact PySem.EqNone.eq_int_none (bP I q (by simp))
  | int j=>obtain ⟨t',rfl⟩:=ry; exact eq_int (bP I q BV)
  | str j=>obtain ⟨t',rfl⟩:=ry; exact PySem.EqMixed.eq_int_str (bP I q (by simp))
  | _=>exact absurd (show false=true from hs) Zf
 | str i=>
  obtain ⟨t,rfl⟩:=rx
  cases y with
  | non=>cases ry; exact PySem.EqNone.eq_str_none (bP I q (by simp))
  | bl j=>cases ry; exact PySem.EqMixed.eq_str_bool (bP I q (by simp))
  | int j=>obtain ⟨t',rfl⟩:=ry; exact PySem.EqMixed.eq_str_int (bP I q (by simp))
  | str j=>obtain ⟨t',rfl⟩:=ry; exact eq_str (bP I q BU)
  | _=>exact absurd (show false=true from hs) Zf
 | byt i=>
  obtain ⟨t,rfl⟩:=rx
  cases y with
  | byt j=>obtain ⟨t',rfl⟩:=ry; exact PySem.W.eq_bytes (bP I q BW)
  | _=>exact absurd (show false=true from hs) Zf
 | _=>cases y <;> exact absurd (show false=true from hs) Zf
def OQ:OpR X (compareOp .NotEq) rNe:=by
 intro ac s σ H x y v u Q I rx ry h;obtain ⟨hs,q⟩:=h
 cases x with
 | non=>
  cases rx
  cases y with
  | non=>cases ry; exact PySem.EqNone.ne_none_none (bP I q (by simp))
  | bl j=>cases ry; exact PySem.EqNone.ne_none_bool (bP I q (by simp))
  | int j=>obtain ⟨t',rfl⟩:=ry; exact PySem.EqNone.ne_none_int (bP I q (by simp))
  | str j=>obtain ⟨t',rfl⟩:=ry; exact PySem.EqNone.ne_none_str (bP I q (by simp))
  | _=>exact absurd (show false=true from hs) Zf
 | bl i=>
  cases rx
  cases y with
  | non=>cases ry; exact PySem.EqNone.ne_bool_none (bP I q (by simp))
  | bl j=>cases ry; exact ne_bool (bP I q (Z8 not F1))
  | str j=>obtain ⟨t',rfl⟩:=ry; exact PySem.EqMixed.ne_bool_str (bP I q (by simp))
  | _=>exact absurd (show false=true from hs) Zf
 | int i=>
  obtain ⟨t,rfl⟩:=rx
  cases y with
  | non=>cases ry; exact PySem.EqNone.ne_int_none (bP I q (by simp))
  | int j=>obtain ⟨t',rfl⟩:=ry; exact ne_int (bP I q (Z8 not BV))
  | str j=>obtain ⟨t',rfl⟩:=ry; exact PySem.EqMixed.ne_int_str (bP I q (by simp))
  | _=>exact absurd (show false=true from hs) Zf
 | str i=>
  obtain ⟨t,rfl⟩:=rx
  cases y with
  | non=>cases ry; exact PySem.EqNone.ne_str_none (bP I q (by simp))
  | bl j=>cases ry; exact PySem.EqMixed.ne_str_bool (bP I q (by simp))
  | int j=>obtain ⟨t',rfl⟩:=ry; exact PySem.EqMixed.ne_str_int (bP I q (by simp))
  | str j=>obtain ⟨t',rfl⟩:=ry; exact ne_str (bP I q (Z8 not BU))
  | _=>exact absurd (show false=true from hs) Zf
 | byt i=>
  obtain ⟨t,rfl⟩:=rx
  cases y with
  | byt j=>obtain ⟨t',rfl⟩:=ry; exact PySem.W.ne_bytes (bP I q (Z8 not BW))
  | _=>exact absurd (show false=true from hs) Zf
 | _=>cases y <;> exact absurd (show false=true from hs) Zf
def OR:OpR X (compareOp .Lt) (rI0 λ i j=>.bl (decide (i < j))):=OV λ _ _ _ _ _ _ _ q=>lt_int q
def OS:OpR X (compareOp .LtE) (rI0 λ i j=>.bl (decide (i<=j))):=OV λ _ _ _ _ _ _ _ q=>le_int q
def OT:OpR X (compareOp .Gt) (rI0 λ i j=>.bl (decide (j < i))):=OV λ _ _ _ _ _ _ _ q=>gt_int q
def Az:OpR X (compareOp .Lt) (λ x y H Q=>∃ i j,x=.str i/\y=.str j/\Q (.bl (decide (i.cps.toList < j.cps.toList))) H):=by
 intro ac s σ H x y v u Q I rx ry h;obtain ⟨i,j,rfl,rfl,q⟩:=h;obtain ⟨t,rfl⟩:=rx;obtain ⟨t',rfl⟩:=ry;exact lt_str (bP I q rfl)
def AB:OpR X (compareOp .In) (λ x y H Q=>∃ i j,x=.str i/\y=.str j/\Q (.bl (!(Builtin.Str.occurrences j i 0 j.length 1).isEmpty)) H):=by
 intro ac s σ H x y v u Q I rx ry h;obtain ⟨i,j,rfl,rfl,q⟩:=h;obtain ⟨t,rfl⟩:=rx;obtain ⟨t',rfl⟩:=ry;exact in_str (bP I q rfl)
def OpR.or (h:OpR X f r) (h':OpR X f r'):OpR X f (λ x y H Q=>r x y H Q\/r' x y H Q):=by
 intro ac s σ H x y v u Q I rx ry q;rcases q with q | q
 · exact h ac s σ H x y v u Q I rx ry q
 · exact h' ac s σ H x y v u Q I rx ry q
def E5 (b:Expr) (h:op≠.In:=by decide) (h2:op≠.NotIn:=by decide):behindInMarks op b=false:=by
 have e1:(op == CmpOp.In)=false:=by cases op <;> first | rfl | exact absurd rfl h
 have e2:(op == CmpOp.NotIn)=false:=by cases op <;> first | rfl | exact absurd rfl h2
 cases b <;> simp [behindInMarks,e1,e2]
def G0 (ho:OpR X (compareOp op) r) (ha:PE X a ta) (hb:PE X b tb) (hm:behindInMarks op b=false):PE X (.Compare a [op] [b] pos) (tOp r ta tb):=by
 intro ac s σ H Q I h;exact wpAny_Compare1 (Rk ha hb I h λ v u s2 x y H2 I2 rx ry q=>ho ac s2 σ H2 x y v u Q I2 rx ry q) hm
def JB (t:TE):TT:=λ σ H Q=>t σ H λ x H'=>∃ k,x=.bl k/\Q k H'
def GN (ho:OpR X (compareOp op) r) (ha:PE X a ta) (hb:PE X b tb) (hm:behindInMarks op b=false):PT X (.Compare a [op] [b] pos) (JB (tOp r ta tb)):=by
 intro ac s σ H Q I h
 refine wpAny_isTrue_Compare1 (thn (ha ac s σ H _ I h) λ v s1 ⟨x,H1,I1,r1,q1⟩=>thn (hb ac s1 σ H1 _ I1 q1) λ u s2 ⟨y,H2,I2,r2,q2⟩=>
  thn (ho ac s2 σ H2 x y v u _ I2 r1 r2 q2) λ c s3 ⟨z,H3,I3,r3,k,e,q3⟩=>?_) hm
 subst e;cases r3;exact Yk ⟨H3,I3,q3⟩
def zM (r r':R2) (ta tb tc:TE):TE:=λ σ H Q=>ta σ H λ x H1=>tb σ H1 λ y H2=>r x y H2 λ z H3=>∃ k,z=.bl k/\(if k=true then tc σ H3 λ w' H4=>r' y w' H4 Q else Q (.bl false) H3)
def Du (ho:OpR X (compareOp op) r) (ho':OpR X (compareOp op') r') (ha:PE X a ta) (hb:PE X b tb) (hc:PE X c tc)
  (hm:lastMarks [op,op'] [b,c]=false:=by with_unfolding_all rfl):PE X (.Compare a [op,op'] [b,c] pos) (zM r r' ta tb tc):=by
 intro ac s σ H Q I h
 refine Compare_chain (thn (ha ac s σ H _ I h) λ v s1 ⟨x,H1,I1,r1,q1⟩=>chain_link (thn (hb ac s1 σ H1 _ I1 q1) λ u s2 ⟨y,H2,I2,r2,q2⟩=>
  thn (ho ac s2 σ H2 x y v u _ I2 r1 r2 q2) λ d s3 ⟨z,H3,I3,r3,k,e,q3⟩=>?_)) hm
 subst e;cases r3;refine Yk ?_
 cases k with
 | false=>exact ite_ff ⟨.bl false,H3,I3,rfl,q3⟩
 | true=>exact ite_tt (chain_last (thn (hc ac s3 σ H3 _ I3 q3) λ w' s4 ⟨z',H4,I4,r4,q4⟩=>ho' ac s4 σ H4 y z' u w' Q I4 r2 r4 q4))
def Di (ho:OpR X (compareOp op) r) (ho':OpR X (compareOp op') r') (ha:PE X a ta) (hb:PE X b tb) (hc:PE X c tc)
  (hm:lastMarks [op,op'] [b,c]=false:=by with_unfolding_all rfl):PT X (.Compare a [op,op'] [b,c] pos) (JB (zM r r' ta tb tc)):=by
 intro ac s σ H Q I h
 refine isTrue_chain (thn (ha ac s σ H _ I h) λ v s1 ⟨x,H1,I1,r1,q1⟩=>test_link (thn (hb ac s1 σ H1 _ I1 q1) λ u s2 ⟨y,H2,I2,r2,q2⟩=>
  thn (ho ac s2 σ H2 x y v u _ I2 r1 r2 q2) λ d s3 ⟨z,H3,I3,r3,k,e,q3⟩=>?_)) hm
 subst e;cases r3;refine Yk ?_
 cases k with
 | false=>
  obtain ⟨k',e',q'⟩:=q3;cases e';exact ite_ff ⟨H3,I3,q'⟩
 | true=>
  refine ite_tt (test_last (thn (hc ac s3 σ H3 _ I3 q3) λ w' s4 ⟨z',H4,I4,r4,q4⟩=>thn (ho' ac s4 σ H4 y z' u w' _ I4 r2 r4 q4) λ d' s5 ⟨z2,H5,I5,r5,k2,e2,q5⟩=>?_));subst e2;cases r5;exact Yk ⟨H5,I5,q5⟩
def uw:(sizeLine:Nat) < 2 ^ 63:=by rw [sizeLine_eq]; decide
def yF:OpR X (binaryOp .Add) (λ x y H Q=>∃ i j,x=.str i/\y=.str j/\i.length+j.length<=sizeLine/\Q (.str (i++j)) H):=by
 intro ac s σ H x y v u Q I rx ry h;obtain ⟨i,j,rfl,rfl,hz,q⟩:=h;obtain ⟨t,rfl⟩:=rx;obtain ⟨t',rfl⟩:=ry;exact add_str (λ t' tk=>⟨.str (i++j),H,I.tok _,⟨_,rfl⟩,q⟩) hz
def wk:OpR X (inplaceOp .Add) (λ x y H Q=>∃ i j,x=.str i/\y=.str j/\i.length+j.length<=sizeLine/\Q (.str (i++j)) H):=by
 intro ac s σ H x y v u Q I rx ry h;obtain ⟨i,j,rfl,rfl,hz,q⟩:=h;obtain ⟨t,rfl⟩:=rx;obtain ⟨t',rfl⟩:=ry;exact iadd_str (λ t' tk=>⟨.str (i++j),H,I.tok _,⟨_,rfl⟩,q⟩) hz
def vals1 (r:cu [x] us):∃ u,us=[u]/\RelV x u:=by
 cases r with
 | cons r1 r2=>cases r2; exact ⟨_,rfl,r1⟩
def vals2 (r:cu [x,y] us):∃ u w',us=[u,w']/\RelV x u/\RelV y w':=by
 cases r with
 | cons r1 r2=>
  cases r2 with
  | cons r3 r4=>cases r4; exact ⟨_,_,rfl,r1,r3⟩
def El:eI X (.builtin "abs") (λ xs H Q=>∃ i,xs=[.int i]/\Q (.int (if i < 0 then -i else i)) H):=by
 intro ac s σ H xs us Q I r h;obtain ⟨i,rfl,q⟩:=h;obtain ⟨u,rfl,t,rfl⟩:=vals1 r;exact call_abs_int λ u tk=>⟨.int (if i < 0 then -i else i),H,I.tok _,⟨_,rfl⟩,q⟩
def Cf (hc:X.calm=true):eI X (.builtin "max") (λ xs H Q=>∃ i j,xs=[.int i,.int j]/\Q (.int (if j > i then j else i)) H):=by
 intro ac s σ H xs us Q I r h;obtain ⟨i,j,rfl,q⟩:=h;obtain ⟨u,w',rfl,⟨t,rfl⟩,⟨t',rfl⟩⟩:=vals2 r;refine max_two_ints (I.ok.hd hc) λ h' tk k=>⟨_,H,I.kept k,?_,q⟩
 by_cases hj:j > i
 · rw [if_pos hj,if_pos hj]; exact ⟨_,rfl⟩
 · rw [if_neg hj,if_neg hj]; exact ⟨_,rfl⟩
def u7:eI X (.type "str") (λ xs H Q=>∃ i,xs=[.int i]/\i.natAbs.log2 < 1920/\Q (.str (toString i)) H):=by
 intro ac s σ H xs us Q I r h;obtain ⟨i,rfl,hz,q⟩:=h;obtain ⟨u,rfl,t,rfl⟩:=vals1 r;exact PySem.P.str_of_int hz ⟨.str _,H,I.tok _,⟨_,rfl⟩,q⟩
def UT (K:W.Frag) (x:V) (H:Hp) (n:Nat):Prop:=
 match x with
 | .str y=>y.length<=sizeLine/\n=y.length
 | .byt y=>y.size<=sizeLine/\n=y.size
 | .ref p=>(∃ xs,SqL K H p xs/\n=xs.length)\/∃ xs,SqT K H p xs/\n=xs.length
 | _=>False
theorem Ej:eI X (.builtin "len") (λ xs H Q=>∃ x n,xs=[x]/\UT X.K x H n/\Q (.int n) H):=by
 intro ac s σ H xs us Q I r h;obtain ⟨x,n,rfl,e,q⟩:=h;obtain ⟨u,rfl,rx⟩:=vals1 r;have hl:=uw;have hs:sizeLine=16777216:=sizeLine_eq
 cases x with
 | str y=>
  obtain ⟨t,rfl⟩:=rx;obtain ⟨hy,e'⟩:y.length<=sizeLine/\n=y.length:=e;subst e';exact len_str (by omega) ⟨.int _,H,I.tok _,⟨_,rfl⟩,q⟩
 | byt y=>
  obtain ⟨t,rfl⟩:=rx;obtain ⟨hy,e'⟩:y.size<=sizeLine/\n=y.size:=e;subst e';exact PySem.W.len_bytes (by omega) ⟨.int _,H,I.tok _,⟨_,rfl⟩,q⟩
 | ref p=>
  cases rx;have e':(∃ xs,SqL X.K H p xs/\n=xs.length)\/∃ xs,SqT X.K H p xs/\n=xs.length:=e
  rcases e' with ⟨xs,hx,e'⟩ | ⟨xs,hx,e'⟩
  ·subst e'
   obtain ⟨its,r',pl,hz⟩:=I.list hx;have hlen:=r'.length;exact Calls.call_len_list pl.isList (by simp only [Zw]; omega) ⟨.int xs.length,H,I.tok _,⟨_,by simp only [Zw]; rw [hlen]⟩,q⟩
  ·subst e'
   obtain ⟨its,r',pl,hz⟩:=I.tuple hx;have hlen:=r'.length;exact len_tuple pl (by simp only [Zw]; omega) ⟨.int xs.length,H,I.tok _,⟨_,by simp only [Zw]; rw [hlen]⟩,q⟩
 | _=>exact (show False from e).elim
end
structure Rq (h:Heap) (x dx C:Addr) (mA:Str->Option Value):Prop where
 obj:h.get? x=some (PySem.W.instObj C dx)
 ns:h.Ns1 dx mA
 ne:dx≠x
def A5 {h:Heap} {dx:Addr} {mA:Str->Option Value} (n:h.Ns1 dx mA):∃ od,h.get? dx=some od/\∀ name,PySem.W.lookIn name od=some (mA name):=by
 obtain ⟨o,es,ep,ho,hd,hk,_,hm⟩:=n;refine ⟨o,ho,λ name=>?_⟩;have e:=hm name;unfold nsFind findBy at e;rw [<- Array.find?_toList] at e;unfold PySem.W.lookIn;rw [hd];dsimp only;split
 ·rename_i y q
  rw [q] at e;exact Z8 some e
 ·rename_i q
  rw [q] at e
  have a:es.toList.any (·.refKey)=false:=by
   rw [List.any_eq_false];intro y hy;obtain ⟨z,t,hkey⟩:=hk y (Array.mem_toList_iff.mp hy);simp [DictEntry.refKey,hkey]
  have a':¬ es.toList.any (·.refKey)=true:=by rw [a]; exact Zf
  rw [if_neg a'];exact Z8 some e
def Rq.look (I:Rq h x dx C mA):∃ od,PySem.W.InstAt h x (PySem.W.instObj C dx) C (some od)/\∀ name,PySem.W.lookIn name od=some (mA name):=
 let ⟨od,ho,hl⟩:=A5 I.ns
 ⟨od,⟨I.obj,rfl,rfl,ho⟩,hl⟩
def zk.some_of (r:zk (some v) o):∃ u,o=some u/\RelV v u:=by
 cases o with
 | none=>exact (show False from r).elim
 | some u=>exact ⟨u,rfl,r⟩
section
variable {P:Program} {w:World} {H H':Hp} {h h':Heap} {a C dx:Addr} {fs fs':List (Str×V)}
def HS (hok:HOk P w H h) (e:H a=some (.ins C dx fs)):∃ mA,Rq h a dx C mA/\(∀ f,zk (fs.lookup f) (mA f))/\PySem.Within mA (fs.map (·.1))/\fs.length<=1000/\H dx=some (.own a):=by
 obtain ⟨d,z,ne,ob,mA,n,r,q⟩:=(show c8 P w H h a (.ins C dx fs) from hok a _ e)
 exact ⟨mA,⟨ob,n,ne⟩,r,q,z,d⟩
end
structure Cls (K:W.Frag) (C:Addr):Prop where
 pg:PySem.W.plainGet K C Str.empty=true
 hd:PySem.W.hasDictIn K C=true
 po:PySem.W.plainOver K C=true
 sa:W.findIn K (.ref C) "__setattr__"=some (some (.builtin "object.__setattr__"))
def Cls.get {K:W.Frag} {C:Addr} (c:Cls K C) (f:Str):PySem.W.plainGet K C f=true:=c.pg
section
variable {X:Cx} {ac:List (Addr×Obj)} {σ:St} {H:Hp} {s:Shared} {A:Around} {E:Value->Shared->Prop} {Q:Value->Shared->Prop} {c:Value} {b:Bool}
inductive zj (K:W.Frag) (H:Hp):V->Value->Prop where
 | non:zj K H .non (.type "NoneType")
 | bl (x:Bool):zj K H (.bl x) (.type "bool")
 | int (i:Int):zj K H (.int i) (.type "int")
 | str (x:Str):zj K H (.str x) (.type "str")
 | flt (x:UInt64):zj K H (.flt x) (.type "float")
 | lst {a:Addr} {xs:List V} (e:H a=some (.lst xs)):zj K H (.ref a) (.type "list")
 | frz {a:Addr} {o:Obj} {xs:List V} (e:H a=some (.frz o (.lst xs))):zj K H (.ref a) (.type "list")
 | tup {a:Addr} {xs:List V} (e:H a=some (.tup xs)):zj K H (.ref a) (.type "tuple")
 | dK {a:Addr} {am:List (Key×V)} (e:H a=some (.dK am)):zj K H (.ref a) (.type "dict")
 | dT {a:Addr} {am:List (List Key×V)} (e:H a=some (.dT am)):zj K H (.ref a) (.type "dict")
 | ins {a C dx:Addr} {fs:List (Str×V)} (e:H a=some (.ins C dx fs)) (cl:Cls K C) (ha:W.findIn K (.ref C) "__class__"=some (some (.builtin "object.__class__")))
  (hn:PySem.W.specialIn K (.builtin "object.__class__") "__get__"=some (some (.builtin "getset_descriptor.__get__"))) (htk:PySem.W.takesIn K (.builtin "object.__class__")=some true)
  (hm:PySem.W.mroIn K C (.type "object")=some true):zj K H (.ref a) (.ref C)
def Bk (I:Inv X ac σ H s) (rx:RelV x u) (ty:zj X.K H x t) (e:PySem.W.kitOne X.K t c=some b) (h:∀ tk,Q (.bool b) { s with toks:=tk }):wpAny (model X.prog X.w) A (call (.builtin "isinstance") [u,c]) Q E s:=by
 cases ty with
 | non=>cases (show u=Value.none from rx); exact Yn PySem.W.kitx_none I.kIn True.intro e (λ z=>nomatch z) h
 | bl y=>cases (show u=Value.bool y from rx); exact Yn PySem.W.kitx_bool I.kIn True.intro e (λ z=>nomatch z) h
 | int i=>obtain ⟨t,q⟩:=(show ∃ t,u=Value.int i t from rx); cases q; exact Yn PySem.W.kitx_int I.kIn True.intro e (λ z=>nomatch z) h
 | str y=>obtain ⟨t,q⟩:=(show ∃ t,u=Value.str y t from rx); cases q; exact Yn PySem.W.kitx_str I.kIn True.intro e (λ z=>nomatch z) h
 | flt y=>obtain ⟨t,q⟩:=(show ∃ t,u=Value.float y t from rx); cases q; exact Yn PySem.W.kitx_float I.kIn True.intro e (λ z=>nomatch z) h
 | @lst a xs ea=>
  cases (show u=Value.ref a from rx);obtain ⟨_,_,n,_,h1⟩:=(show c8 X.prog X.w H s.heap a (.lst xs) from I.hok a _ ea)
  exact Yn PySem.W.kitx_list I.kIn ⟨_,h1,rfl⟩ e (λ z=>nomatch z) h
 | @frz a ob xs ea=>
  cases (show u=Value.ref a from rx);obtain ⟨_,_,_,n,_,h1⟩:=(show c8 X.prog X.w H s.heap a (.frz ob (.lst xs)) from I.hok a _ ea)
  exact Yn PySem.W.kitx_list I.kIn ⟨_,h1,rfl⟩ e (λ z=>nomatch z) h
 | @tup a xs ea=>
  cases (show u=Value.ref a from rx);obtain ⟨_,_,_,p⟩:=(show c8 X.prog X.w H s.heap a (.tup xs) from I.hok a _ ea)
  obtain ⟨o,h1,h2,_⟩:=p;exact Yn PySem.W.kitx_tuple I.kIn ⟨o,h1,h2⟩ e (λ z=>nomatch z) h
 | @dK a am ea=>
  cases (show u=Value.ref a from rx);obtain ⟨_,_,vs,_,p⟩:=(show c8 X.prog X.w H s.heap a (.dK am) from I.hok a _ ea)
  obtain ⟨o,es,ep,h1,h2,_⟩:=p;exact Yn PySem.W.kitx_dict I.kIn ⟨o,h1,h2.1⟩ e (λ z=>nomatch z) h
 | @dT a am ea=>
  cases (show u=Value.ref a from rx);obtain ⟨_,_,xs,_,o,es,ep,h1,h2,_⟩:=(show c8 X.prog X.w H s.heap a (.dT am) from I.hok a _ ea)
  exact Yn PySem.W.kitx_dict I.kIn ⟨o,h1,h2.1⟩ e (λ z=>nomatch z) h
 | @ins a C dx fs ea cl ha hn htk hm=>
  cases (show u=Value.ref a from rx);obtain ⟨mA,O,_⟩:=HS I.hok ea;obtain ⟨od,J,_⟩:=O.look;exact Yn (PySem.W.kitx_own (cl.get _) cl.hd ha hn htk hm) I.kIn J e (λ z=>nomatch z) h
end
structure ip (k:Nat) (A:Around):Prop where
 hd:A.handled=none
 dp:A.depth+3 * k+5 < recursionLimit
 un:A.units+16 * k+200 < cLine
theorem ip.mono (r:ip k A) (h:j<=k):ip j A:=⟨r.hd,by have:=r.dp; omega,by have:=r.un; omega⟩
theorem ip.deeper (r:ip (k+1) A) (env:Env):ip k (A.deeper env):=
 ⟨r.hd,by have:=r.dp; show A.depth+1+3 * k+5 < _; omega,by have:=r.un; show A.units+3+16 * k+200 < _; omega⟩
theorem ip.depth (r:ip k A):A.depth < recursionLimit:=by have:=r.dp; omega
theorem ip.units (r:ip k A):A.units+64 < cLine:=by have:=r.un; omega
def Ry:TA:=λ _ H Q=>Q [] H
def Ol (ta:TE) (tr:TA):TA:=λ σ H Q=>ta σ H λ x H1=>tr σ H1 λ xs H2=>Q (x::xs) H2
section
variable {X:Cx} {e:Expr} {es:List Expr} {te:TE} {t:TA} {pos:Pos}
def d8:PA X [] Ry:=λ _ _ _ _ H Q I h=>Calls.spliced_nil ⟨[],H,I,.nil,h⟩
def bH (ha:PE X e te) (hr:PA X es t) (hs:Se X e es:=by rfl):PA X (e::es) (Ol te t):=by
 intro pos ac s σ H Q I h;rw [hs];show wpAny _ _ (spliced ((false,eval e X.env)::backTo pos (starEach es X.env))) _ _ s;refine Xz (thn (ha ac s σ H _ I h) λ u s1 ⟨x,H1,I1,r1,q1⟩=>?_);exact thn (hr pos ac s1 σ H1 _ I1 q1) λ us s2 ⟨xs,H2,I2,r2,q2⟩=>⟨x::xs,H2,I2,.cons r1 r2,q2⟩
def SX (t:TA):TE:=λ σ H Q=>t σ H λ xs H1=>xs.length<=sizeLine/\∀ p,H1 p=none->Q (.ref p) (upd H1 p (.tup xs))
def Tc (t:TA):TE:=λ σ H Q=>t σ H λ xs H1=>xs.length<=sizeLine/\∀ p,H1 p=none->Q (.ref p) (upd H1 p (.lst xs))
def Ai {x1} (h:PA X es t):PE X (.Tuple es x1 pos) (SX t):=by
 intro ac s σ H Q I hq;refine wpAny_Tuple_spliced (thn (h pos ac s σ H _ I hq) λ us s1 ⟨xs,H1,I1,r,z,q⟩=>⟨by rw [<- r.length]; exact z,?_⟩);have hf:H1 s1.heap.objs.size=none:=I1.hok.fresh (Zo _);refine ⟨.ref s1.heap.objs.size,upd H1 s1.heap.objs.size (.tup xs),I1.laid (t':=s1.toks) (λ b u e=>Heap.get?_push_of_some _ e) (Zo _) ?_,rfl,q _ hf⟩;exact ⟨z,us,r,⟨_,Heap.get?_push_size _ rfl,rfl,_,rfl⟩⟩
def EZ (h:PA X es t):PE X (.List es pos) (Tc t):=by
 intro ac s σ H Q I hq;refine wpAny_List_spliced (thn (h pos ac s σ H _ I hq) λ us s1 ⟨xs,H1,I1,r,z,q⟩=>⟨by rw [<- r.length]; exact z,?_⟩);have hf:H1 s1.heap.objs.size=none:=I1.hok.fresh (Zo _);refine ⟨.ref s1.heap.objs.size,upd H1 s1.heap.objs.size (.lst xs),I1.laid (t':=s1.toks) (λ b u e=>Heap.get?_push_of_some _ e) (Zo _) ?_,rfl,q _ hf⟩;exact ⟨z,us,0,r,Heap.get?_push_size _ rfl⟩
end
abbrev Sp:=List V->Hp->VK->XK->Prop
abbrev CXT:=List Env->Hp->Shared->XK->Value->Shared->Prop
structure NZ (P:Program) (w:World) (K:W.Frag) (mg:Str->Option Value) (base:Heap) (A:Around) (outer:List Env) (s:Shared) (H:Hp):Prop where
 frames:A.frames=some outer
 mod:Mod K mg base
 bs:∀ b o,base.get? b=some o->s.heap.get? b=some o/\H b=none
 bsz:base.objs.size<=s.heap.objs.size
 yO:s.heap.FunFrames base outer
 frf:∀ b ∈ frs outer,H b=none
 hok:HOk P w H s.heap
 bare:AllBare s.gens
def CE (outer:List Env) (P:Program) (w:World) (H:Hp) (s:Shared) (Q:VK) (u:Value) (s':Shared):Prop:=
 ∃ v H',s'.os=s.os/\AllBare s'.gens/\Un (frs outer) [] H H' s.heap s'.heap/\HOk P w H' s'.heap/\RelV v u/\Q v H'
def CR (CX:CXT) (outer:List Env) (P:Program) (w:World) (H:Hp) (s:Shared) (Q:VK) (E:XK) (r:Result) (s':Shared):Prop:=
 match r with
 | .ok (.ret u)=>CE outer P w H s Q u s'
 | .ok _=>False
 | .error e=>CX outer H s E e s'
structure qt (P:Program) (w:World) (K:W.Frag) (mg:Str->Option Value) (base:Heap) (CX:CXT) (k:Nat) (f:Addr) (fd:FuncData) (ps:List Str) (sp:Sp):Prop where
 len:∀ vs H Q E,sp vs H Q E->vs.length=ps.length
 run:∀ (A:Around) (outer:List Env) (s:Shared) (H:Hp) (args:Args) (us:List Value) (vs:List V) (Q:VK) (E:XK),ip k A->NZ P w K mg base A outer s H->BindsTo s fd args (ps.zip us)->cu vs us->sp vs H Q E->codeAny (model P w) A (.call (.ref f) args) (CR CX outer P w H s Q E) s
def qt.imp {P:Program} {w:World} {K:W.Frag} {mg:Str->Option Value} {base:Heap} {CX:CXT} {k:Nat} {f:Addr} {fd:FuncData} {ps:List Str} {sp sp':Sp} (F:qt P w K mg base CX k f fd ps sp)
  (h:∀ vs H Q E,sp' vs H Q E->sp vs H Q E):qt P w K mg base CX k f fd ps sp':=
 ⟨λ vs H Q E q=>F.len vs H Q E (h _ _ _ _ q),λ A outer s H args us vs Q E hr he hb hv hs=>F.run A outer s H args us vs Q E hr he hb hv (h _ _ _ _ hs)⟩
section
variable {X:Cx} {ac:List (Addr×Obj)} {σ:St} {H:Hp} {s s':Shared}
def Inv.SQ (I:Inv X ac σ H s):NZ X.prog X.w X.K X.mg X.base X.A X.stack s H:=
 ⟨I.ok.frames,I.ok.mod,I.bs,Zs I.ok.bsz I.sz,I.stack,I.jT,I.hok,I.bare⟩
def Inv.after (I:Inv X ac σ H s) (h:CE X.stack X.prog X.w H s Q u s'):EP X ac σ Q u s':=by
 obtain ⟨v,H',os,bare,un,hok,r,q⟩:=h;obtain ⟨hh,g,d,t,os'⟩:=s';obtain rfl:os'=s.os:=os;exact ⟨v,H',I.call (h':=hh) (g':=g) (d':=d) (t':=t) (ch:=[]) un hok bare (λ b z=>absurd z (by simp)),r,q⟩
end
def Gm (sp:Sp) (dvs:List V) (E:XK) (t:TA):TE:=λ σ H Q=>t σ H λ vs H1=>sp (vs++dvs) H1 Q E
def Binds (K:W.Frag) (fd:FuncData) (ps:List Str) (ds:List Value):Prop:=
 ∀ (s:Shared) (us:List Value),K.In s.heap->(us++ds).length=ps.length->BindsTo s fd ⟨us,[]⟩ (ps.zip (us++ds))
def Binds.all {K:W.Frag} {fd:FuncData} {ps:List Str} (h:∀ us:List Value,us.length=ps.length->bindArgs fd ⟨us,[]⟩=pure (ps.zip us)):Binds K fd ps []:=λ s us _ hl=>by
 rw [Yd] at hl ⊢;exact .of_eq (h us hl)
def qh (CX:CXT) (X:Cx) (E:XK):Prop:=∀ (ac:List (Addr×Obj)) (σ:St) (H:Hp) (s:Shared) (e:Value) (s':Shared),Inv X ac σ H s->CX X.stack H s E e s'->X.xe e s'
section
variable {X:Cx} {CX:CXT} {k:Nat} {f C:Addr} {fd:FuncData} {ps:List Str} {sp:Sp} {dvs:List V} {ds:List Value} {E:XK} {x m:Str} {p pos ap:Pos} {e o:Expr} {es:List Expr} {ta:TE} {t:TA}
def EL (F:qt X.prog X.w X.K X.mg X.base CX k f fd ps sp) (hr:ip k X.A) (hb:Binds X.K fd ps ds) (hd:cu dvs ds) (hx:qh CX X E)
  (I:Inv X ac σ H s) (r:cu vs us) (h:sp (vs++dvs) H Q E):wpAny (model X.prog X.w) X.A (call (.ref f) us) (EP X ac σ Q) X.xe s:=by
 have r2:cu (vs++dvs) (us++ds):=r.append hd;have hl:(us++ds).length=ps.length:=by rw [<- r2.length]; exact F.len _ _ _ _ h
 refine wpAny_call (codeAny_mono (F.run X.A X.stack s H ⟨us,[]⟩ (us++ds) (vs++dvs) Q E hr I.SQ (hb s us I.kIn hl) r2 h) λ r s' hq=>?_)
 cases r with
 | error e=>exact hx ac σ H s e s' I hq
 | ok fl=>
  cases fl with
  | ret u=>exact I.after hq
  | next=>exact False.elim hq
  | brk=>exact False.elim hq
  | cont=>exact False.elim hq
def se (F:qt X.prog X.w X.K X.mg X.base CX k f fd ps sp) (hr:ip k X.A) (hg:Gl X x) (hm:X.mg x=some (.ref f)) (hk:W.keepIn X.K (.ref f)=true) (hb:Binds X.K fd ps ds) (hd:cu dvs ds) (hx:qh CX X E)
  (ha:PA X (e::es) t) (hdb:Dg x:=by decide) (he:Se X e es:=by rfl) (hpl:Sb X pos es:=by rfl):PE X (.Call (.Name x p) (e::es) [] pos) (Gm sp dvs E t):=by
 intro ac s σ H Q I h;refine X0 (oW I hg hm ?_ hdb);refine PySem.W.callWith_K (h₀:=X.base) I.ok.mod.kin hk (thn (ha pos ac s σ H _ I h) λ us s1 ⟨vs,H1,I1,r,q⟩=>⟨I1.kIn,?_⟩) he hpl;exact EL F hr hb hd hx I1 r q
def Dv (F:qt X.prog X.w X.K X.mg X.base CX k f fd ps sp) (hr:ip k X.A) (hg:Gl X x) (hm:X.mg x=some (.ref f)) (hk:W.keepIn X.K (.ref f)=true) (hb:Binds X.K fd ps ds) (hd:cu dvs ds) (hx:qh CX X E)
  (hdb:Dg x:=by decide):PE X (.Call (.Name x p) [] [] pos) (Gm sp dvs E Ry):=by
 intro ac s σ H Q I h;refine X0 (oW I hg hm ?_ hdb);exact PySem.W.callWith_K0 I.kIn hk (EL (us:=[]) F hr hb hd hx I .nil h)
end
structure jc (N P:List Str) (sc:Scope):Prop where
 kind:sc.kind=.function
 co:sc.isCoroutine=false
 gen:sc.isGenerator=false
 nd:N.Nodup
 pre:N.take P.length=P
 par:∀ x ∈ P,sc.names.lookup x=some .local\/sc.names.lookup x=some .cell
 Li:∀ y ∈ sc.names,y.2≠.free
theorem vc {kindOf:Str->Option NameKind} {x:Str}:∀ {binds:List (Str×Value)} {m:Str->Option Value},(∀ v,(x,v) ∉ binds)->bindL kindOf binds m x=m x
 | [],_,_=>rfl
 | (n,v)::r,m,h=>by
  unfold bindL;rw [vc λ w hw=>h w (Za _ hw)];split
  ·have:x≠n:=by rintro rfl; exact h v Zp
   simp [this]
  · rfl
theorem ve {kindOf:Str->Option NameKind} {x:Str}:∀ {binds:List (Str×Value)} {m:Str->Option Value},(∀ v,(x,v) ∉ binds)->bindC kindOf binds m x=m x
 | [],_,_=>rfl
 | (n,v)::r,m,h=>by
  unfold bindC;rw [ve λ w hw=>h w (Za _ hw)];split
  · rfl
  ·have:x≠n:=by rintro rfl; exact h v Zp
   simp [this]
theorem vd {kindOf:Str->Option NameKind} {x:Str} {v:Value}:∀ {P:List Str} {vs:List Value} {i:Nat} {m:Str->Option Value},P.Nodup->P[i]?=some x->vs[i]?=some v->kindOf x=some .local->bindL kindOf (P.zip vs) m x=some v
 | [],_,_,_,_,h,_,_=>by simp at h
 | _::_,[],_,_,_,_,h,_=>by simp at h
 | p::P,w::vs,0,m,nd,h1,h2,hk=>by
  simp at h1 h2; subst h1; subst h2
  show bindL kindOf ((p,w)::P.zip vs) m p=_;unfold bindL;rw [vc λ v hv=>(List.nodup_cons.mp nd).1 (List.of_mem_zip hv).1,if_pos hk];simp
 | p::P,w::vs,i+1,m,nd,h1,h2,hk=>by
  show bindL kindOf ((p,w)::P.zip vs) m x=_;unfold bindL;exact vd (i:=i) (List.nodup_cons.mp nd).2 (by simpa using h1) (by simpa using h2) hk
theorem vf {kindOf:Str->Option NameKind} {x:Str} {v:Value}:∀ {P:List Str} {vs:List Value} {i:Nat} {m:Str->Option Value},P.Nodup->P[i]?=some x->vs[i]?=some v->kindOf x≠some .local->bindC kindOf (P.zip vs) m x=some v
 | [],_,_,_,_,h,_,_=>by simp at h
 | _::_,[],_,_,_,_,h,_=>by simp at h
 | p::P,w::vs,0,m,nd,h1,h2,hk=>by
  simp at h1 h2; subst h1; subst h2
  show bindC kindOf ((p,w)::P.zip vs) m p=_;unfold bindC;rw [ve λ v hv=>(List.nodup_cons.mp nd).1 (List.of_mem_zip hv).1,if_neg hk];simp
 | p::P,w::vs,i+1,m,nd,h1,h2,hk=>by
  show bindC kindOf ((p,w)::P.zip vs) m x=_;unfold bindC;exact vf (i:=i) (List.nodup_cons.mp nd).2 (by simpa using h1) (by simpa using h2) hk
def start (N:List Str) (vs:List V):St:=vs.map some++List.replicate (N.length - vs.length) none
def vo (CX:CXT) (P:Program) (w:World) (K:W.Frag) (mg:Str->Option Value) (base:Heap) (N:List Str) (qual:Str) (scope:Scope) (f:Addr) (cd:Value) (A:Around) (outer:List Env) (s:Shared) (H:Hp) (E:XK):Cx where
 prog:=P
 w:=w
 K:=K
 mg:=mg
 base:=base
 A:=A.deeper (envOfC qual scope s.heap.objs.size f cd)
 N:=N
 s₀:=s
 H₀:=H
 env:=envOfC qual scope s.heap.objs.size f cd
 outer:=outer
 stack:=envOfC qual scope s.heap.objs.size f cd::outer
 ex:=[]
 calm:=true
 fn:=λ _=>true
 pn:=[]
 xe:=λ e s'=>wpAny (model P w) (A.deeper (envOfC qual scope s.heap.objs.size f cd)) (leaving (envOfC qual scope s.heap.objs.size f cd) e) (λ _ s''=>CX outer H s E e s'') (λ e' s''=>CX outer H s E e' s'') s'
def ye {sc:Scope} {n:Nat} {x:Str} (h:sc.names.lookup x=some .cell):∃ c,(cellsFrom n sc.names []).lookup x=some c:=by
 have q:=PySem.W.cellsFrom_some sc.names n [] (.inl h);exact Yw.mp q
theorem Bo {CX:CXT} {P:Program} {w:World} {K:W.Frag} {mg:Str->Option Value} {base:Heap} {N ps:List Str} {qual:Str} {scope:Scope} {f:Addr} {cd:Value} {A:Around} {outer:List Env} {s s1:Shared} {H:Hp} {E:XK} {us:List Value} {vs:List V}
  (S:jc N ps scope) (hd:A.handled=none) (e0:NZ P w K mg base A outer s H) (hl:vs.length=ps.length) (r:cu vs us)
  (x:InCallC s s.heap.objs.size (bindL (envOfC qual scope s.heap.objs.size f cd).kindOf (ps.zip us) λ _=>none) (cellsFrom (s.heap.objs.size+1) scope.names []) (bindC (envOfC qual scope s.heap.objs.size f cd).kindOf (ps.zip us) λ _=>none) s1):Inv (vo CX P w K mg base N qual scope f cd A outer s H E) [] (start N vs) H s1:=by
 have hpl:ps.length<=N.length:=by have:=Z8 List.length S.pre; rw [Yh] at this; omega
 obtain ⟨h1,tk,rfl,hk⟩:=x.done;have noA:∀ b:Addr,b ∉ (vo CX P w K mg base N qual scope f cd A outer s H E).ex:=λ b z=>absurd (show b ∈ ([]:List Addr) from z) (by simp)
 refine ⟨⟨e0.mod,S.kind,rfl,rfl,Zo _,λ y z c h1 h2=>?_,λ y hy=>?_,λ y c _ h=>?_,λ _=>hd,Around.frames_deeper e0.frames,.inr ⟨rfl,rfl⟩,λ b z=>absurd z (noA b),e0.bs,e0.bsz,λ b _ _=>noA b,λ b z=>absurd z (noA b),e0.yO,e0.frf⟩,
  rfl,e0.bare,Un.kept hk,⟨_,x.toInCall.ns,λ i y v h1 h2 h3=>?_⟩,λ y c h=>⟨_,x.cell y c h⟩,e0.hok.fresh (Zo _),λ y c h=>?_,λ p hp=>absurd (show p ∈ ([]:List (Addr×Obj)) from hp) (by simp),e0.hok.kept hk,?_⟩
 · exact name_of_addr x.apart (Yq h1) (Yq h2)
 ·have hy:scope.names.lookup y=some .cell\/scope.names.lookup y=some .free:=hy
  rcases hy with hy | hy
  · exact ye hy
  · exact absurd rfl (S.Li _ (Yq hy))
 · exact Nat.le_of_lt (x.above y c (Yq h))
 ·have hi:i < vs.length:=by
   unfold start at h2
   by_cases hi:i < vs.length
   · exact hi
   ·rw [List.getElem?_append_right (by simpa using hi)] at h2
    rw [List.getElem?_replicate] at h2;split at h2 <;> cases h2
  have ha:vs[i]?=some v:=by
   unfold start at h2;rw [List.getElem?_append_left (by simpa using hi),List.getElem?_map] at h2
   cases e:vs[i]? with
   | none=>rw [e] at h2; cases h2
   | some a=>rw [e] at h2; cases h2; rfl
  obtain ⟨u,hu,rv⟩:=r.get ha
  have hp:ps[i]?=some y:=by
   rw [<- S.pre,List.getElem?_take_of_lt (by omega)]; exact h1
  have ndP:ps.Nodup:=by rw [<- S.pre]; exact S.nd.sublist (List.take_sublist _ _)
  refine ⟨u,rv,?_⟩;rcases S.par y (List.mem_of_getElem? hp) with k | k
  · exact .inl ⟨k,vd ndP hp hu k⟩
  ·obtain ⟨c,e⟩:=ye (n:=s.heap.objs.size+1) k
   refine .inr ⟨.inl k,c,e,?_⟩;have q:=x.cell y c e;rw [vf ndP hp hu (by show scope.names.lookup y≠_; rw [k]; decide)] at q;exact q
 · exact e0.hok.fresh (Nat.le_of_lt (x.above y c (Yq h)))
 ·unfold start
  show _=N.length;rw [Zh,Zk,List.length_replicate];omega
def LY {CX:CXT} {P:Program} {w:World} {K:W.Frag} {mg:Str->Option Value} {base:Heap} {k:Nat} {f:Addr} {name qual:Str} {params:Arguments} {body:List Stmt} {scope:Scope} {dV kV doc pm cdv ct oc:Value} {an od:Option Addr}
  {osl:Array (Option Value)} {N ps:List Str} {sp:Sp} (lk:K.lookup f=some ⟨oc,od,.func (PySem.W.fnOf name qual params body scope dV kV doc pm an cdv ct),osl⟩) (hcd:PySem.W.codeIn K cdv qual=true) (S:jc N ps scope)
  (len:∀ vs H Q E,sp vs H Q E->vs.length=ps.length)
  (hbody:∀ (A:Around) (outer:List Env) (s:Shared) (H:Hp) (vs:List V) (Q:VK) (E:XK),ip k (A.deeper (envOfC qual scope s.heap.objs.size f cdv))->sp vs H Q E->∃ t,PSs (vo CX P w K mg base N qual scope f cdv A outer s H E) body t/\t { nx:=λ _ H'=>Q .non H',rt:=Q } (start N vs) H):qt P w K mg base CX (k+1) f (PySem.W.fnOf name qual params body scope dV kV doc pm an cdv ct) ps sp:=by
 refine ⟨len,λ A outer s H args us vs Q E hr e0 hb r hsp=>?_⟩;have hl:=len _ _ _ _ hsp;have KX:K.In s.heap:=e0.mod.kin.keeps λ b o e=>(e0.bs b o e).1
 have lim:s.heap.NoLimit:=e0.mod.nolimit.keeps λ b o e=>(e0.bs b o e).1
 have hkind:∀ y ∈ ps.zip us,scope.names.lookup y.1=some .local\/(scope.names.lookup y.1=some .cell/\((cellsFrom (s.heap.objs.size+1) scope.names []).lookup y.1).isSome=true):=λ ⟨n,v⟩ hy=>by
  rcases S.par n (List.of_mem_zip hy).1 with q | q
  · exact .inl q
  · exact .inr ⟨q,PySem.W.cellsFrom_some _ _ _ (.inl q)⟩
 refine codeAny_call_function hr.depth (KX _ _ lk) rfl S.co S.gen rfl (PySem.W.codeRec_of KX hcd) (hb _ _ _ _ ?_);refine wpAny_newFunctionEnv_cells S.kind hkind λ env he s1 x=>?_
 subst he;refine ⟨lim.keeps x.toInCall.keep,codeAny_func ?_⟩;obtain ⟨t,ht,hq⟩:=hbody A outer s H vs Q E (hr.deeper _) hsp;have I:Inv (vo CX P w K mg base N qual scope f cdv A outer s H E) [] (start N vs) H s1:=Bo S hr.hd e0 hl r x;refine Yv (ht [] s1 (start N vs) H _ I hq) (λ fl s' hs=>?_) λ e s' hs=>hs
 have fin:∀ {σ':St} {H':Hp} {v:V} {u:Value},Inv (vo CX P w K mg base N qual scope f cdv A outer s H E) [] σ' H' s'->RelV v u->Q v H'->CE outer P w H s Q u s':=
  λ {σ' H' v u} J rv q=>⟨v,H',J.os,J.bare,J.base,J.hok,rv,q⟩
 cases fl with
 | ret u=>
  obtain ⟨v,σ',H',J,rv,q⟩:=hs;exact fin J rv q
 | next=>
  obtain ⟨σ',H',J,q⟩:=hs;exact fin (v:=V.non) (u:=Value.none) J rfl q
 | brk=>
  obtain ⟨_,_,_,q⟩:=hs;exact False.elim q
 | cont=>
  obtain ⟨_,_,_,q⟩:=hs;exact False.elim q
section
variable {X:Cx} {x:Str} {p pos:Pos} {e:Expr} {es:List Expr} {t:TA} {id T:String} {r:List V->Hp->VK->Prop}
def tCB (r:List V->Hp->VK->Prop) (t:TA):TE:=λ σ H Q=>t σ H λ vs H1=>r vs H1 Q
def nQ (hc:eI X (.builtin id) r) (hg:Gl X x) (hm:X.mg x=none) (hv:bootBuiltins x=some (.builtin id)) (ha:PA X (e::es) t) (hn:x≠"__name__":=by decide) (hdb:Dg x:=by decide)
  (he:Se X e es:=by rfl) (hpl:Sb X pos es:=by rfl):PE X (.Call (.Name x p) (e::es) [] pos) (tCB r t):=by
 intro ac s σ H Q I h;refine X0 (mE I hg hm hv ?_ hn hdb);exact PyProof.Rows.callWith_builtin1 (thn (ha pos ac s σ H _ I h) λ us s1 ⟨vs,H1,I1,r1,q1⟩=>hc ac s1 σ H1 vs us Q I1 r1 q1) he hpl
def t5 (hc:eI X (.type T) r) (hg:Gl X x) (hm:X.mg x=none) (hv:bootBuiltins x=some (.type T)) (ha:PA X (e::es) t) (hn:x≠"__name__":=by decide) (hdb:Dg x:=by decide)
  (he:Se X e es:=by rfl) (hpl:Sb X pos es:=by rfl):PE X (.Call (.Name x p) (e::es) [] pos) (tCB r t):=by
 intro ac s σ H Q I h;refine X0 (mE I hg hm hv ?_ hn hdb);exact Yr (thn (ha pos ac s σ H _ I h) λ us s1 ⟨vs,H1,I1,r1,q1⟩=>hc ac s1 σ H1 vs us Q I1 r1 q1) he hpl
end
end L2
namespace HT
open PySem PyProof.Rows
section
variable {prog:Program} {w:World} {A:Around} {E:Value->Shared->Prop} {s:Shared}
def IF (ht:IsTup s.heap t vs.toArray) (hb:IsTup s.heap b ws.toArray) (hv:vs≠[])
  (h1:ws=[]->Q (.ref t) s) (h2:ws≠[]->Q (.ref s.heap.objs.size) { s with heap:=s.heap.push { cls:=.type "tuple",data:=.seq (vs++ws).toArray } })
  (hsz:vs.length+ws.length<=sizeLine):wpAny (model prog w) A (binaryOp .Add (.ref t) (.ref b)) Q E s:=by
 obtain ⟨⟨cls,dd,data,sl⟩,ho,hc,n,hd⟩:=id ht;obtain ⟨⟨cls2,dd2,data2,sl2⟩,ho2,hc2,n2,hd2⟩:=id hb;simp only at hc hd hc2 hd2;subst hc hd hc2 hd2;have e:vs.toArray++ws.toArray=(vs++ws).toArray:=by simp
 by_cases hw:ws=[]
 ·exact concat_meets ⟨_,ho,rfl⟩ ⟨_,ho2,rfl⟩ noFill_tuple_add seq_tuple_add PySem.F.slot_tuple_add PySem.F.entry_tuple_add (PySem.F.args_tuple_add_2 _ _)
   (tuple_addW1 t b vs.toArray ws.toArray n n2 dd dd2 sl sl2 (by simpa using hv) (by simp [hw])) ⟨ho,ho2,h1 hw⟩
 ·refine concat_meets ⟨_,ho,rfl⟩ ⟨_,ho2,rfl⟩ noFill_tuple_add seq_tuple_add PySem.F.slot_tuple_add PySem.F.entry_tuple_add (PySem.F.args_tuple_add_2 _ _)
   (tuple_addW2 t b vs.toArray ws.toArray n n2 dd dd2 sl sl2 (by simpa using hv) (by simpa using hw) (by rw [Zw,Zw]; exact hsz)) ⟨ho,ho2,?_⟩
  rw [e];exact h2 hw
def sIx (n d:Nat):Option Int->Nat
 | none=>d
 | some v=>if v < 0 then (v+(n:Int)).toNat else min v.toNat n
def C3 (n d:Nat):sIx n d none=d:=rfl
theorem vD (n d k:Nat):sIx n d (some (k:Int))=min k n:=by
 show (if (k:Int) < 0 then ((k:Int)+(n:Int)).toNat else min (k:Int).toNat n)=min k n;rw [if_neg (by omega),Int.toNat_natCast]
end
end HT
namespace L2
open PySem PySem.Spec PyProof.Rows
abbrev TO:=St->Hp->(Option Int->Hp->Prop)->Prop
def PO (X:Cx) (e:Option Expr) (t:TO):Prop:=
  ∀ (ac:List (Addr×Obj)) (s:Shared) (σ:St) (H:Hp) (Q:Option Int->Hp->Prop),Inv X ac σ H s->t σ H Q->wpAny (model X.prog X.w) X.A (evalPart e X.env) (λ u s'=>∃ o H',Inv X ac σ H' s'/\IsPart u o/\Q o H') X.xe s
def Gh:TO:=λ _ H Q=>Q none H
def Oe (t:TE):TO:=λ σ H Q=>t σ H λ x H1=>∃ i,x=.int i/\Q (some i) H1
section
variable {X:Cx} {e:Expr} {te:TE} {lo hi:Option Expr} {tl th:TO} {pos p2:Pos}
def GU:PO X none Gh:=by
 intro ac s σ H Q I h;rw [evalPart_none];exact Z4 ⟨none,H,I,.none,h⟩
def GS (h:PE X e te):PO X (some e) (Oe te):=by
 intro ac s σ H Q I hw;rw [evalPart_some];refine thn (h ac s σ H _ I hw) λ u s1 ⟨x,H1,I1,r1,q1⟩=>?_
 obtain ⟨i,rfl,q⟩:=q1;obtain ⟨t,rfl⟩:=r1;exact ⟨some i,H1,I1,.int i t,q⟩
def SlR (X:Cx) (r:V->Option Int->Option Int->Hp->VK->Prop):Prop:=
  ∀ (ac:List (Addr×Obj)) (s:Shared) (σ:St) (H:Hp) (x:V) (v vl vu:Value) (lo hi:Option Int) (sl:Addr) (Q:VK),Inv X ac σ H s->RelV x v->s.heap.IsSliceOf sl vl vu .none->IsPart vl lo->IsPart vu hi->r x lo hi H Q->∃ T id,typeLookup (.type T) "__getitem__"=pure (some (.builtin id))/\s.TypeIs v T/\wpAny (model X.prog X.w) X.A (getItem v (.ref sl)) (EP X ac σ Q) X.xe s
def tSl (r:V->Option Int->Option Int->Hp->VK->Prop) (te:TE) (tl th:TO):TE:=λ σ H Q=>te σ H λ x H1=>tl σ H1 λ l H2=>th σ H2 λ u H3=>r x l u H3 Q
def xr (hr:SlR X r) (he:PE X e te) (hl:PO X lo tl) (hu:PO X hi th):PE X (.Subscript e (.Slice lo hi none p2) pos) (tSl r te tl th):=by
 intro ac s σ H Q I h;refine Subscript_ (thn (he ac s σ H _ I h) λ v s1 ⟨x,H1,I1,r1,q1⟩=>?_);refine wpAny_Slice (thn (hl ac s1 σ H1 _ I1 q1) λ vl s2 ⟨l,H2,I2,pl,q2⟩=>thn (hu ac s2 σ H2 _ I2 q2) λ vu s3 ⟨u,H3,I3,pu,q3⟩=>?_);rw [evalPart_none];refine Z4 ?_
 have I4:Inv X ac σ H3 { s3 with heap:=s3.heap.push { cls:=.type "slice",data:=.fields #[vl,vu,.none] } }:=I3.kept (t':=s3.toks) λ b ob q=>Heap.get?_push_of_some _ q
 obtain ⟨T,id,hT,ht,hg⟩:=hr ac { s3 with heap:=s3.heap.push { cls:=.type "slice",data:=.fields #[vl,vu,.none] } } σ H3 x v vl vu l u s3.heap.objs.size Q I4 r1 (Heap.IsSliceOf.new ..) pl pu q3;show wpAny (model X.prog X.w) X.A (subscriptTail e (.Slice lo hi none p2) v (.ref s3.heap.objs.size)) (EP X ac σ Q) X.xe { s3 with heap:=s3.heap.push { cls:=.type "slice",data:=.fields #[vl,vu,.none] } };exact tail_any (ops:=[.ref s3.heap.objs.size,v]) ht hT hg (by with_unfolding_all rfl)
def Jb (xs:List V) (lo hi:Option Int):List V:=(xs.drop (HT.sIx xs.length 0 lo)).take (HT.sIx xs.length xs.length hi - HT.sIx xs.length 0 lo)
theorem wK (xs:List V) (lo hi:Option Int):(Jb xs lo hi).length<=xs.length:=by
 unfold Jb;rw [Yh,Y7];omega
def OA (K:W.Frag):R2:=λ x y H Q=>∃ a b xs ys,x=.ref a/\y=.ref b/\SqT K H a xs/\SqT K H b ys/\xs≠[]/\xs.length+ys.length<=sizeLine/\(ys=[]->Q (.ref a) H)/\(ys≠[]->∀ p,H p=none->Q (.ref p) (upd H p (.tup (xs++ys))))
def cu.wa (r:cu xs us):us=[]↔xs=[]:=by
 cases r with
 | nil=>simp
 | cons _ _=>simp
def G9:OpR X (binaryOp .Add) (OA X.K):=by
 intro ac s σ H x y v u Q I rx ry h;obtain ⟨a,b,xs,ys,rfl,rfl,ha,hb,hx,hz,q1,q2⟩:=h;cases rx;cases ry;obtain ⟨its,r1,p1,_⟩:=I.tuple ha;obtain ⟨its2,r2,p2,_⟩:=I.tuple hb;refine HT.IF p1 p2 (λ z=>hx (r1.wa.mp z)) (λ z=>⟨.ref a,H,I,rfl,q1 (r2.wa.mp z)⟩) (λ z=>?_) (by rw [<- r1.length,<- r2.length]; exact hz);refine ⟨.ref s.heap.objs.size,_,I.laid (t':=s.toks) (o:=.tup (xs++ys)) (λ b ob q=>Heap.get?_push_of_some _ q) (Zo _) ?_,rfl,q2 (λ w=>z (r2.wa.mpr w)) _ (I.hok.fresh (Zo _))⟩;exact ⟨by rw [Zh]; exact hz,_,r1.append r2,IsTup.new _ _⟩
end
def ixN (n:Nat) (i:Int):Option Nat:=if 0<=i then (if i < n then some i.toNat else none) else if -(n:Int)<=i then some (i+n).toNat else none
def atI {α:Type} (xs:List α) (i:Int):Option α:=(ixN xs.length i).bind λ j=>xs[j]?
theorem Bg (h:ixN n i=some j):seqIndex? i n=some j/\j < n/\-(n:Int)<=i/\i < n:=by
 unfold ixN at h
 by_cases h0:0<=i
 ·rw [if_pos h0] at h
  by_cases h1:i < n
  ·rw [if_pos h1] at h
   have e:i.toNat=j:=Zj h;exact ⟨by rw [seqIndex_of h0 h1,e],by omega,by omega,h1⟩
  · rw [if_neg h1] at h; cases h
 ·rw [if_neg h0] at h
  by_cases h1:-(n:Int)<=i
  ·rw [if_pos h1] at h
   have e:(i+n).toNat=j:=Zj h;exact ⟨by rw [seqIndex_neg (by omega) h1,e],by omega,h1,by omega⟩
  · rw [if_neg h1] at h; cases h
def wU {α:Type} {xs:List α} {v:α} (h:atI xs i=some v):∃ j,seqIndex? i xs.length=some j/\xs[j]?=some v/\j < xs.length/\-(xs.length:Int)<=i/\i < xs.length:=by
 unfold atI at h
 cases e:ixN xs.length i with
 | none=>rw [e] at h; cases h
 | some j=>
  rw [e] at h;obtain ⟨h1,h2,h3,h4⟩:=Bg e;exact ⟨j,h1,h,h2,h3,h4⟩
theorem Cv {α:Type} {xs:List α} {j:Nat} {v:α} (h:xs[j]?=some v):atI xs (j:Int)=some v:=by
 have hj:j < xs.length:=(List.getElem?_eq_some_iff.mp h).1
 have e:ixN xs.length (j:Int)=some j:=by
  unfold ixN;rw [if_pos (by omega),if_pos (by omega)]; simp
 unfold atI; rw [e]; exact h
def CB (b:Expr):Prop:=∀ o i,subscripted b false o i=operate [o,i] (getItem o i)
def IxR (X:Cx) (r:R2):Prop:=
  ∀ (value slice:Expr) (ac:List (Addr×Obj)) (s:Shared) (σ:St) (H:Hp) (x y:V) (v u:Value) (Q:VK),Inv X ac σ H s->RelV x v->RelV y u->r x y H Q->subscripted slice false v u=operate [v,u] (getItem v u)->wpAny (model X.prog X.w) X.A (subscriptTail value slice v u) (EP X ac σ Q) X.xe s
def MtR (X:Cx) (id:String) (r:V->List V->Hp->VK->Prop):Prop:=
  ∀ (ac:List (Addr×Obj)) (s:Shared) (σ:St) (H:Hp) (x:V) (xs:List V) (v:Value) (us:List Value) (Q:VK),Inv X ac σ H s->RelV x v->cu xs us->r x xs H Q->wpAny (model X.prog X.w) X.A (call (.builtin id) (v::us)) (EP X ac σ Q) X.xe s
section
variable {X:Cx} {a b:Expr} {ta tb:TE} {pos:Pos}
def IxR.or (h:IxR X r) (h':IxR X r'):IxR X (λ x y H Q=>r x y H Q\/r' x y H Q):=by
 intro value slice ac s σ H x y v u Q I rx ry q hs;rcases q with q | q
 · exact h value slice ac s σ H x y v u Q I rx ry q hs
 · exact h' value slice ac s σ H x y v u Q I rx ry q hs
def OI (hr:IxR X r) (ha:PE X a ta) (hb:PE X b tb) (hs:CB b):PE X (.Subscript a b pos) (tOp r ta tb):=by
 intro ac s σ H Q I h;exact Subscript_ (Rk ha hb I h λ v u s2 x y H2 I2 rx ry q=>hr a b ac s2 σ H2 x y v u Q I2 rx ry q (hs _ _))
def TC (K:W.Frag):R2:=λ x y H Q=>∃ p xs i v,x=.ref p/\y=.int i/\SqL K H p xs/\atI xs i=some v/\Q v H
def Tz (K:W.Frag):R2:=λ x y H Q=>∃ p xs i v,x=.ref p/\y=.int i/\SqT K H p xs/\atI xs i=some v/\Q v H
def TB:R2:=λ x y H Q=>∃ z i c,x=.str z/\y=.int i/\z.length<=sizeLine/\atI z.cps.toList i=some c/\Q (.str ⟨#[c]⟩) H
theorem HL:IxR X (TC X.K):=by
 intro value slice ac s σ H x y v u Q I rx ry h hs;obtain ⟨p,xs,i,z,rfl,rfl,hq,he,q⟩:=h;cases rx;obtain ⟨t,rfl⟩:=ry;obtain ⟨its,r,pl,hz⟩:=I.list hq;obtain ⟨j,h1,h2,h3,h4,h5⟩:=wU he;obtain ⟨w,ew,rw'⟩:=r.get h2;have hl:=r.length;have hn:=uw;have fin:EP X ac σ Q w s:=⟨z,H,I,rw',q⟩
 by_cases h0:0<=i
 ·have hj:i.toNat=j:=by
   rw [seqIndex_of h0 h5] at h1;exact Zj h1
  exact item_listR pl.isList h0 (by omega) (by rw [hj]; simpa using ew) fin hs
 ·have hj:(i+(its.toArray.size:Int)).toNat=j:=by
   rw [seqIndex_neg (by omega) h4] at h1;rw [Zw,<- hl];exact Zj h1
  exact subscriptTail_builtinR (x:=w) pl.isList.typeIs slot_list_getitem.lookup
   (wpAny_getItem_list_neg (Q:=λ r s'=>r=w/\EP X ac σ Q r s') pl.isList (by omega) (by rw [Zw] <;> omega) (by omega) (by rw [hj]; simpa using ew) ⟨rfl,fin⟩) hs
theorem LF:IxR X (Tz X.K):=by
 intro value slice ac s σ H x y v u Q I rx ry h hs;obtain ⟨p,xs,i,z,rfl,rfl,hq,he,q⟩:=h;cases rx;obtain ⟨t,rfl⟩:=ry;obtain ⟨its,r,pl,hz⟩:=I.tuple hq;obtain ⟨j,h1,h2,h3,h4,h5⟩:=wU he;obtain ⟨w,ew,rw'⟩:=r.get h2;have hl:=r.length;have hn:=uw;have fin:EP X ac σ Q w s:=⟨z,H,I,rw',q⟩
 exact subscriptTail_builtinR (x:=w) pl.typeIs slot_tuple_getitem.lookup
  (getItem_tuple (j:=j) (Q:=λ r s'=>r=w/\EP X ac σ Q r s') pl (by omega) (by omega) (by rw [Zw,<- hl]; exact h1) (by simpa using ew) ⟨rfl,fin⟩) hs
theorem jL:IxR X TB:=by
 intro value slice ac s σ H x y v u Q I rx ry h hs;obtain ⟨z,i,c,rfl,rfl,hz,he,q⟩:=h;obtain ⟨t,rfl⟩:=rx;obtain ⟨t',rfl⟩:=ry;obtain ⟨j,h1,h2,h3,h4,h5⟩:=wU he;have hl:z.cps.toList.length=z.length:=by simp [Str.length]
 rw [hl] at h1 h4 h5;have hn:=uw
 exact tail_any (typeIs_str s z t) slot_str_getitem.lookup (getItem_str (c:=c) (by
  have e1:decide (i < -(2 ^ 63:Int))=false:=Zc (by omega);have e2:decide (i ≥ 2 ^ 63)=false:=Zc (by omega)
  rw [e1,e2,Bool.or_false]) (by rw [h1]; simpa using h2) ⟨.str ⟨#[c]⟩,H,I.tok _,⟨_,rfl⟩,q⟩) hs
def yK (its:List Value) (n j:Nat) (u:Value):Obj.mapSeq (·.setIfInBounds j u) { cls:=.type "list",data:=.seq its.toArray n }={ cls:=.type "list",data:=.seq (its.set j u).toArray n }:=by
 simp [Obj.mapSeq]
def Inv.lst (I:Inv X ac σ H s) (h:H p=some (.lst xs)):∃ (its:List Value) (n:Nat),cu xs its/\s.heap.get? p=some { cls:=.type "list",data:=.seq its.toArray n }/\xs.length<=sizeLine:=by
 obtain ⟨z,its,n,r,e⟩:=I.hok p _ h;exact ⟨its,n,r,e,z⟩
def Inv.Lo {ac:List (Addr×Obj)} {σ:St} {H:Hp} {s:Shared} {p:Addr} {xs ys:List V} {its its':List Value} {n n':Nat} {f:Obj->Obj} (I:Inv X ac σ H s) (h:H p=some (.lst xs))
  (ho:s.heap.get? p=some { cls:=.type "list",data:=.seq its.toArray n }) (hf:f { cls:=.type "list",data:=.seq its.toArray n }={ cls:=.type "list",data:=.seq its'.toArray n' }) (r:cu ys its') (hz:ys.length<=sizeLine) (t:Nat):Inv X ac σ (upd H p (.lst ys)) { s with heap:=s.heap.update p f,toks:=t }:=by
 have e:(s.heap.update p f).get? p=some { cls:=.type "list",data:=.seq its'.toArray n' }:=by
  rw [Heap.get?_update_self f ho (by rw [hf] <;> rfl),hf]
 refine I.write (x:=p) (e:=p) (by rw [h]; trivial) (.inl rfl) (λ b u hb q=>(Heap.get?_update_other _ _ (Ne.symm hb)).trans q) ⟨_,e⟩ ?_
 exact ⟨hz,its',n',r,e⟩
def Oy:V->V->V->Hp->(Hp->Prop)->Prop:=λ o i v H Q=>∃ p xs k j,o=.ref p/\i=.int k/\H p=some (.lst xs)/\ixN xs.length k=some j/\Q (upd H p (.lst (xs.set j v)))
theorem set_list:SU X Oy:=by
 intro ac s σ H o i v ov iv u Q I ro ri rv h;obtain ⟨p,xs,k,j,rfl,rfl,hp,hj,q⟩:=h;cases ro;obtain ⟨t,rfl⟩:=ri;obtain ⟨its,n,r,ho,hz⟩:=I.lst hp;obtain ⟨h1,h2,h3,h4⟩:=Bg hj;have hl:=r.length;have hn:=uw
 have I':Inv X ac σ (upd H p (.lst (xs.set j v))) { s with heap:=s.heap.update p (Obj.mapSeq (·.setIfInBounds j u)) }:=
  I.Lo hp ho (yK its n j u) (r.set rv j) (by rw [List.length_set]; exact hz) s.toks
 by_cases h0:0<=k
 ·have hk:k.toNat=j:=by
   rw [seqIndex_of h0 h4] at h1;exact Zj h1
  exact PySem.W.ki_setAt ho h0 (by omega) (by rw [Zw,<- hl]; exact h4) (by rw [hk]; exact ⟨_,I',q⟩)
 ·have hk:(k+(its.toArray.size:Int)).toNat=j:=by
   rw [seqIndex_neg (by omega) h3] at h1;rw [Zw,<- hl];exact Zj h1
  exact PySem.W.ki_setBack ho (by omega) (by rw [Zw,<- hl]; exact h3) (by omega) (by rw [hk]; exact ⟨_,I',q⟩)
theorem tP (lo hi:Option Int) (n:Nat):(sliceBounds lo hi none n).1=((HT.sIx n 0 lo:Nat):Int)/\(sliceBounds lo hi none n).2.1=((HT.sIx n n hi:Nat):Int)/\(sliceBounds lo hi none n).2.2=1:=by
 refine ⟨?_,?_,rfl⟩
 ·cases lo with
  | none=>simp [sliceBounds,HT.sIx]
  | some i=>
   simp only [sliceBounds,HT.sIx,Option.getD_none,show (1:Int) > 0 by decide,if_true]
   by_cases h:i < 0
   · simp only [h,if_true] <;> omega
   · simp only [h,if_false] <;> omega
 ·cases hi with
  | none=>simp [sliceBounds,HT.sIx]
  | some i=>
   simp only [sliceBounds,HT.sIx,Option.getD_none,show (1:Int) > 0 by decide,if_true]
   by_cases h:i < 0
   · simp only [h,if_true] <;> omega
   · simp only [h,if_false] <;> omega
def rS (its:List Value) (lo hi:Option Int):slicePick its.toArray lo hi none=((its.drop (HT.sIx its.length 0 lo)).take (HT.sIx its.length its.length hi - HT.sIx its.length 0 lo)).toArray:=by
 obtain ⟨h1,h2,h3⟩:=tP lo hi its.toArray.size;unfold slicePick;rw [h1,h2,h3];simp only [sliceRange_one,pick_run,Zw] <;> rfl
def Tu (K:W.Frag):V->Option Int->Option Int->Hp->VK->Prop:=λ x lo hi H Q=>∃ a xs,x=.ref a/\SqL K H a xs/\∀ p,H p=none->Q (.ref p) (upd H p (.lst (Jb xs lo hi)))
theorem Gu:SlR X (Tu X.K):=by
 intro ac s σ H x v vl vu lo hi sl Q I rx hs pl pu h;obtain ⟨a,xs,rfl,hx,q⟩:=h;cases rx;obtain ⟨its,r,ht,hz⟩:=I.list hx;have hlen:=r.length;refine ⟨"list",_,slot_list_getitem.lookup,ht.isList.typeIs,?_⟩;refine wpAny_getItem_list_slice ht.isList hs pl pu .none (by simp) ?_ (by rw [Zw] <;> omega)
 rw [rS,<- hlen];refine ⟨.ref s.heap.objs.size,_,I.laid (t':=s.toks) (o:=.lst (Jb xs lo hi)) (λ b ob q=>Heap.get?_push_of_some _ q) (Zo _) ?_,rfl,q _ (I.hok.fresh (Zo _))⟩;exact ⟨Zs (wK xs lo hi) hz,_,0,(r.drop (HT.sIx xs.length 0 lo)).take (HT.sIx xs.length xs.length hi - HT.sIx xs.length 0 lo),Heap.get?_push_size _ rfl⟩
def qD:V->Bool
 | .non=>true
 | .bl _=>true
 | .int _=>true
 | .str _=>true
 | _=>false
def eqV:V->V->Bool
 | .non,.non=>true
 | .bl a,.bl b=>a == b
 | .bl a,.int b=>(if a then 1 else 0) == b
 | .int a,.bl b=>a == (if b then 1 else 0)
 | .int a,.int b=>a == b
 | .str a,.str b=>a == b
 | _,_=>false
def L8 (ry:RelV y u) (rx:RelV x v) (fy:qD y=true) (fx:qD x=true):SeqAt.EqAt A s u v (eqV y x):=by
 cases y with
 | non=>
  cases ry
  cases x with
  | non=>cases rx; exact SeqAt.EqAt.same _
  | bl b=>cases rx; exact SeqAt.EqAt.none_bool b
  | int b=>obtain ⟨t,rfl⟩:=rx; exact SeqAt.EqAt.none_int b t
  | str b=>obtain ⟨t,rfl⟩:=rx; exact SeqAt.EqAt.none_str b t
  | _=>exact absurd (show false=true from fx) Zf
 | bl a=>
  cases ry
  cases x with
  | non=>cases rx; exact SeqAt.EqAt.bool_none a
  | bl b=>cases rx; exact SeqAt.EqAt.bool_bool a b
  | int b=>obtain ⟨t,rfl⟩:=rx; exact SeqAt.EqAt.bool_int a b t
  | str b=>obtain ⟨t,rfl⟩:=rx; exact SeqAt.EqAt.bool_str a b t
  | _=>exact absurd (show false=true from fx) Zf
 | int a=>
  obtain ⟨t',rfl⟩:=ry
  cases x with
  | non=>cases rx; exact SeqAt.EqAt.int_none a t'
  | bl b=>cases rx; exact SeqAt.EqAt.int_bool a t' b
  | int b=>obtain ⟨t,rfl⟩:=rx; exact SeqAt.EqAt.int_int a t' b t
  | str b=>obtain ⟨t,rfl⟩:=rx; exact SeqAt.EqAt.int_str a t' b t
  | _=>exact absurd (show false=true from fx) Zf
 | str a=>
  obtain ⟨t',rfl⟩:=ry
  cases x with
  | non=>cases rx; exact SeqAt.EqAt.str_none a t'
  | bl b=>cases rx; exact SeqAt.EqAt.str_bool a t' b
  | int b=>obtain ⟨t,rfl⟩:=rx; exact SeqAt.EqAt.str_int a t' b t
  | str b=>obtain ⟨t,rfl⟩:=rx; exact SeqAt.EqAt.str_str a t' b t
  | _=>exact absurd (show false=true from fx) Zf
 | _=>exact absurd (show false=true from fy) Zf
def eqU (x:V) (u:Value):Bool:=match u with
 | .none=>eqV .non x
 | .bool b=>eqV (.bl b) x
 | .int i _=>eqV (.int i) x
 | .str z _=>eqV (.str z) x
 | _=>false
def FX (r:RelV y u) (f:qD y=true):eqU x u=eqV y x:=by
 cases y with
 | non=>cases r; rfl
 | bl b=>cases r; rfl
 | int i=>obtain ⟨t,rfl⟩:=r; rfl
 | str z=>obtain ⟨t,rfl⟩:=r; rfl
 | _=>exact absurd (show false=true from f) Zf
theorem p7:∀ {xs:List V} {us:List Value},cu xs us->xs.all qD=true->us.any (eqU x)=xs.any λ y=>eqV y x
 | _,_,.nil,_=>rfl
 | y::xs,u::us,.cons r t,f=>by
  rw [Y1,Zg] at f;rw [Y2,Y2,FX r f.1,p7 t f.2]
theorem kW (rx:RelV x v) (fx:qD x=true):∀ {xs:List V} {us:List Value},cu xs us->xs.all qD=true->∀ u ∈ us,SeqAt.EqAt A s u v (eqU x u)
 | _,_,.nil,_=>λ u hu=>by cases hu
 | y::xs,u::us,.cons r t,f=>λ u' hu=>by
  rw [Y1,Zg] at f;rcases Zd.mp hu with rfl | hu
  · rw [FX r f.1]; exact L8 r rx f.1 fx
  · exact kW rx fx t f.2 u' hu
def inV (x:V) (xs:List V):Bool:=xs.any λ y=>eqV y x
def rIn (K:W.Frag) (neg:Bool):R2:=λ x y H Q=>∃ p xs,y=.ref p/\(SqL K H p xs\/SqT K H p xs)/\qD x=true/\xs.all qD=true/\Q (.bl (if neg then !inV x xs else inV x xs)) H
def AD:OpR X (compareOp .In) (rIn X.K false):=by
 intro ac s σ H x y v u Q I rx ry h;obtain ⟨p,xs,rfl,hq,fx,fs,q⟩:=h;cases ry;rcases hq with hq | hq
 ·obtain ⟨its,r,pl,hz⟩:=I.list hq
  refine SeqAt.in_listAt (eqU x) pl.isList (λ w hw=>kW rx fx r fs w (by simpa using hw)) ⟨.bl _,H,I,rfl,?_⟩;rw [show its.toArray.any (eqU x)=its.any (eqU x) by simp,p7 r fs];exact q
 ·obtain ⟨its,r,pl,hz⟩:=I.tuple hq
  refine SeqAt.in_tupleAt (eqU x) pl (λ w hw=>kW rx fx r fs w (by simpa using hw)) ⟨.bl _,H,I,rfl,?_⟩;rw [show its.toArray.any (eqU x)=its.any (eqU x) by simp,p7 r fs];exact q
def ua:OpR X (compareOp .NotIn) (rIn X.K true):=by
 intro ac s σ H x y v u Q I rx ry h;obtain ⟨p,xs,rfl,hq,fx,fs,q⟩:=h;cases ry;rcases hq with hq | hq
 ·obtain ⟨its,r,pl,hz⟩:=I.list hq
  refine SeqAt.notIn_listAt (eqU x) pl.isList (λ w hw=>kW rx fx r fs w (by simpa using hw)) ⟨.bl _,H,I,rfl,?_⟩;rw [show its.toArray.any (eqU x)=its.any (eqU x) by simp,p7 r fs];exact q
 ·obtain ⟨its,r,pl,hz⟩:=I.tuple hq
  refine SeqAt.notIn_tupleAt (eqU x) pl (λ w hw=>kW rx fx r fs w (by simpa using hw)) ⟨.bl _,H,I,rfl,?_⟩;rw [show its.toArray.any (eqU x)=its.any (eqU x) by simp,p7 r fs];exact q
def t9:OpR X (compareOp .NotIn) (λ x y H Q=>∃ i j,x=.str i/\y=.str j/\Q (.bl (!(!(Builtin.Str.occurrences j i 0 j.length 1).isEmpty))) H):=by
 intro ac s σ H x y v u Q I rx ry h;obtain ⟨i,j,rfl,rfl,q⟩:=h;obtain ⟨t,rfl⟩:=rx;obtain ⟨t',rfl⟩:=ry;exact notIn_str ⟨.bl _,H,I,rfl,q⟩
def sS:eI X (.type "tuple") (λ xs H Q=>∃ p ys,xs=[.ref p]/\((SqL X.K H p ys/\∀ l,H l=none->Q (.ref l) (upd H l (.tup ys)))\/(SqT X.K H p ys/\Q (.ref p) H))):=by
 intro ac s σ H xs us Q I r h;obtain ⟨p,ys,rfl,h⟩:=h;obtain ⟨u,rfl,rx⟩:=vals1 r;cases rx;rcases h with ⟨hq,q⟩ | ⟨hq,q⟩
 ·obtain ⟨its,r',pl,hz⟩:=I.list hq
  have hlen:=r'.length;refine call_tuple_list pl.isList (λ h' kp=>?_) (by simp only [Zw] <;> omega);have I1:Inv X ac σ H { s with heap:=h' }:=I.kept (t':=s.toks) kp
  have I2:Inv X ac σ (upd H h'.objs.size (.tup ys)) { s with heap:=h'.push { cls:=.type "tuple",data:=.seq its.toArray } }:=
   I1.laid (t':=s.toks) (λ b o e=>Heap.get?_push_of_some _ e) (Zo _) (show c8 X.prog X.w _ _ _ (.tup ys) from ⟨hz,its,r',IsTup.new _ _⟩)
  exact ⟨.ref h'.objs.size,_,I2,rfl,q _ (I1.hok.fresh (Zo _))⟩
 ·obtain ⟨its,r',pl,hz⟩:=I.tuple hq
  exact call_tuple_same pl ⟨.ref p,H,I,rfl,q⟩
def tyV (K:W.Frag) (T:String) (x:V) (H:Hp):Prop:=match x with
 | .str _=>T="str"
 | .int _=>T="int"
 | .ref p=>(T="list"/\∃ xs,SqL K H p xs)\/(T="tuple"/\∃ o,K.lookup p=some o/\o.cls=.type "tuple"/\o.dict=none)\/(T="dict"/\((∃ am,H p=some (.dK am))\/∃ am,H p=some (.dT am)))\/(T="set"/\∃ S n,H p=some (.set S n))
 | _=>False
def Ex (I:Inv X ac σ H s) (r:RelV x v) (ty:tyV X.K T x H):s.TypeIs v T/\∀ a,v=.ref a->∃ ob,s.heap.get? a=some ob/\ob.dict=none:=by
 cases x with
 | str z=>
  obtain ⟨t,rfl⟩:=r;cases (show T="str" from ty);exact ⟨typeIs_str s z t,λ _ e=>nomatch e⟩
 | int i=>
  obtain ⟨t,rfl⟩:=r;cases (show T="int" from ty);exact ⟨typeIs_int s i t,λ _ e=>nomatch e⟩
 | ref p=>
  cases r;rcases ty with ⟨rfl,xs,hq⟩ | ⟨rfl,o,hk,hc,hd⟩ | ⟨rfl,hk⟩ | ⟨rfl,S,n,hk⟩
  ·obtain ⟨its,_,pl,_⟩:=I.list hq
   refine ⟨pl.isList.typeIs,λ a e=>?_⟩;cases e;obtain ⟨o,n,e,c,hd,_⟩:=pl;exact ⟨o,e,hd⟩
  ·refine ⟨⟨o,I.kIn p o hk,hc⟩,λ a e=>?_⟩
   cases e;exact ⟨o,I.kIn _ o hk,hd⟩
  ·have z:∃ o,s.heap.get? p=some o/\o.ExactDict:=by
    rcases hk with ⟨am,hk⟩ | ⟨am,hk⟩
    ·obtain ⟨_,_,_,_,o,_,_,e,ex,_⟩:=I.hok p _ hk
     exact ⟨o,e,ex⟩
    ·obtain ⟨_,_,_,_,o,_,_,e,ex,_⟩:=I.hok p _ hk
     exact ⟨o,e,ex⟩
   obtain ⟨o,e,ex⟩:=z;refine ⟨⟨o,e,ex.1⟩,λ a e2=>?_⟩;cases e2;exact ⟨o,e,ex.2.1⟩
  ·obtain ⟨o,_,_,_,e,ex,_⟩:=I.hok p _ hk
   refine ⟨⟨o,e,ex.1⟩,λ a e2=>?_⟩;cases e2;exact ⟨o,e,ex.2.1⟩
 | _=>exact False.elim ty
def Th (K:W.Frag) (T:String) (r:V->List V->Hp->VK->Prop) (to:TE):TE:=λ σ H Q=>to σ H λ x H1=>tyV K T x H1/\r x [] H1 Q
def tBM (K:W.Frag) (T:String) (r:V->List V->Hp->VK->Prop) (to:TE) (t:TA):TE:=λ σ H Q=>to σ H λ x H1=>tyV K T x H1/\t σ H1 λ xs H2=>r x xs H2 Q
variable {o e:Expr} {es:List Expr} {to:TE} {t:TA} {name:Str} {ap bv:Pos} {T id:String} {r:V->List V->Hp->VK->Prop}
def Ki (pa:PlainAttrs T) (slot:Slot T name id) (hty:typeOf (.builtin id)=pure (.type "method_descriptor")) (hm:MtR X id r) (ho:PE X o to)
  (db:Sc X o name:=by rfl) (ci:SM ap bv:=by rfl):PE X (.Call (.Attribute o name ap) [] [] bv) (Th X.K T r to):=by
 intro ac s σ H Q I h;refine wpAny_Call_method0_late db ci (thn (ho ac s σ H _ I h) λ v s1 ⟨x,H1,I1,r1,ty,q1⟩=>?_);obtain ⟨h1,h2⟩:=Ex I1 r1 ty;exact ⟨T,id,pa,slot,hty,h1,h2,X1 rfl (PySem.evalArgs_none (hm ac s1 σ H1 x [] v [] Q I1 r1 .nil q1))⟩
def t6 (pa:PlainAttrs T) (slot:Slot T name id) (hty:typeOf (.builtin id)=pure (.type "method_descriptor")) (hm:MtR X id r) (ho:PE X o to) (ha:PA X (e::es) t)
  (db:Sc X o name:=by rfl)
  (ce:((backTo bv (starEach (e::es) X.env)).all (λ x=>!x.1)&&(backToKw bv (keywordEach [] X.env)).all (λ x=>x.1.isSome)
    && decide ((e::es).length+([]:List Keyword).length+(if ([]:List Keyword).isEmpty then 0 else 1) < 30))=true:=by rfl)
  (ci:SM ap bv:=by rfl) (hs:Se X e es:=by rfl) (cr:Sb X bv es:=by rfl):PE X (.Call (.Attribute o name ap) (e::es) [] bv) (tBM X.K T r to t):=by
 intro ac s σ H Q I h;refine wpAny_Call_method_late db ce ci rfl (thn (ho ac s σ H _ I h) λ v s1 ⟨x,H1,I1,r1,ty,q1⟩=>?_);obtain ⟨h1,h2⟩:=Ex I1 r1 ty;refine ⟨T,id,pa,slot,hty,h1,h2,?_⟩;have hA:=ha bv ac s1 σ H1 _ I1 q1;rw [hs] at hA ⊢;refine X1 (by show (false||(backTo bv (starEach es X.env)).any (·.1))=false; rw [cr] <;> rfl) (X7 ?_);exact thn hA λ us s2 ⟨vs,H2,I2,r2,q2⟩=>hm ac s2 σ H2 x vs v us Q I2 r1 r2 q2
end
def MtM (X:Cx) (id:String) (r:V->List V->Hp->VK->Prop):Prop:=
  ∀ (ac:List (Addr×Obj)) (s:Shared) (σ:St) (H:Hp) (x:V) (xs:List V) (v:Value) (us:List Value) (Q:VK),Inv X ac σ H s->RelV x v->cu xs us->r x xs H Q->wpAny (model X.prog X.w) X.A (call (.builtin id) (v::us)) (EP X ac σ Q) X.xe s
def cu.one:∀ {x:V} {us:List Value},cu [x] us->∃ u,us=[u]/\RelV x u
 | _,_,.cons r .nil=>⟨_,rfl,r⟩
def cu.zero:∀ {us:List Value},cu [] us->us=[]
 | _,.nil=>rfl
def cu.dropLast (h:cu xs us):cu xs.dropLast us.dropLast:=by
 induction h with
 | nil=>exact .nil
 | cons r t ih=>
  cases t with
  | nil=>exact .nil
  | cons q t'=>exact .cons r ih
theorem yW {α:Type} (l:List α):l.eraseIdx (l.length - 1)=l.dropLast:=by
 induction l with
 | nil=>rfl
 | cons a r ih=>
  cases r with
  | nil=>rfl
  | cons b r=>
   have e:(a::b::r).length - 1=((b::r).length - 1)+1:=by
    have h1:(a::b::r).length=r.length+2:=rfl;have h2:(b::r).length=r.length+1:=rfl;omega
   rw [e,List.eraseIdx_cons_succ,ih]
   all_goals rfl
section
variable {X:Cx} {ac:List (Addr×Obj)} {σ:St} {H:Hp} {s:Shared} {l b:Addr} {xs ys zs:List V}
def Inv.SD {its its':List Value} {n:Nat} {f:Array Value->Array Value} {t':Nat} (I:Inv X ac σ H s) (hH:H l=some (.lst xs))
  (e:s.heap.get? l=some { cls:=.type "list",data:=.seq its.toArray n }) (hf:f its.toArray=its'.toArray) (hv:cu ys its') (hz:ys.length<=sizeLine):Inv X ac σ (upd H l (.lst ys)) { s with heap:=s.heap.update l (Obj.mapSeq f),toks:=t' }:=by
 have q:=PySem.IsL.update e f;rw [hf] at q;refine I.write (x:=l) (e:=l) (by rw [hH]; exact trivial) (.inl rfl) (λ b' u hb hu=>(Heap.get?_update_other s.heap (Obj.mapSeq f) (Ne.symm hb)).trans hu) ⟨_,q⟩ ?_
 exact ⟨hz,its',_,hv,q⟩
def Inv.UC (I:Inv X ac σ H s) (hv:cu ys its) (hz:ys.length<=sizeLine):Inv X ac σ (upd H s.heap.objs.size (.lst ys)) { s with heap:=s.heap.push { cls:=.type "list",data:=.seq its.toArray },toks:=t' }:=
 I.laid (λ _ _ q=>Heap.get?_push_of_some _ q) (Zo _) ⟨hz,its,0,hv,Heap.get?_push_size _ rfl⟩
def Inv.fresh (I:Inv X ac σ H s):H s.heap.objs.size=none:=I.hok.fresh (Zo _)
def Inv.NP (I:Inv X ac σ H s) (hH:H l=some (.lst xs)):xs.length<=sizeLine/\∃ (its:List Value) (n:Nat),cu xs its/\xs.length=its.length/\s.heap.get? l=some { cls:=.type "list",data:=.seq its.toArray n }:=by
 obtain ⟨z,its,n,r,e⟩:=I.hok l _ hH;exact ⟨z,its,n,r,r.length,e⟩
end
section
variable {X:Cx}
def GJ:V->List V->Hp->VK->Prop:=λ x vs H Q=>∃ l xs y,x=.ref l/\vs=[y]/\H l=some (.lst xs)/\xs.length < sizeLine/\Q .non (upd H l (.lst (xs++[y])))
theorem um:MtM X "list.append" GJ:=by
 intro ac s σ H x vs v us Q I rx rv h;obtain ⟨l,xs,y,rfl,rfl,hH,hz,q⟩:=h;cases rx;obtain ⟨u,rfl,ru⟩:=rv.one;obtain ⟨z,its,n,r,hl,e⟩:=I.NP hH;refine Wi F.slot_list_append ⟨_,e,rfl⟩ F.entry_list_append (F.args_list_append_2 _ _) (PySem.list_append l its.toArray n u (by rw [Zw]; omega)) ⟨e,?_⟩;refine ⟨.non,_,I.SD (its':=its++[u]) hH e (by simp) (r.append (.cons ru .nil)) ?_,rfl,q⟩;rw [Zh,List.length_singleton];omega
def Tv:V->List V->Hp->VK->Prop:=λ x vs H Q=>∃ l xs y,x=.ref l/\vs=[]/\H l=some (.lst xs)/\xs[xs.length - 1]?=some y/\Q y (upd H l (.lst xs.dropLast))
theorem Ln:MtM X "list.pop" Tv:=by
 intro ac s σ H x vs v us Q I rx rv h;obtain ⟨l,xs,y,rfl,rfl,hH,hy,q⟩:=h;cases rx;have hus:=rv.zero;subst hus;obtain ⟨z,its,n,r,hl,e⟩:=I.NP hH;obtain ⟨u,hu,ru⟩:=r.get hy
 have hy':its.toArray[its.toArray.size - 1]?=some u:=by
  show its.toArray[its.length - 1]?=some u;rw [<- Array.getElem?_toList,<- hl];exact hu
 refine Wi F.slot_list_pop ⟨_,e,rfl⟩ F.entry_list_pop (F.args_list_pop_1 _) (MeetsSeq.list_pop_last l its.toArray n u hy' (by rw [Zw]; omega)) ⟨e,?_⟩;refine ⟨y,_,I.SD (its':=its.dropLast) hH e ?_ r.dropLast ?_,ru,q⟩
 ·show its.toArray.eraseIdxIfInBounds (its.toArray.size - 1)=its.dropLast.toArray
  rw [Zw,List.eraseIdxIfInBounds_toArray,yW]
 ·rw [List.length_dropLast]
  omega
def TH:R2:=λ x y H Q=>∃ l b xs zs,x=.ref l/\y=.ref b/\H l=some (.lst xs)/\H b=some (.lst zs)/\xs.length+zs.length<=sizeLine/\∀ p,H p=none->Q (.ref p) (upd H p (.lst (xs++zs)))
theorem Kv:OpR X (binaryOp .Add) TH:=by
 intro ac s σ H x y v u Q I rx ry h;obtain ⟨l,b,xs,zs,rfl,rfl,hH,hB,hz,q⟩:=h;cases rx;cases ry;obtain ⟨z,its,n,r,hl,e⟩:=I.NP hH;obtain ⟨z2,its2,n2,r2,hl2,e2⟩:=I.NP hB;refine PySem.P.add_list e e2 ?_ (by rw [Zw,Zw]; omega)
 have ea:its.toArray++its2.toArray=(its++its2).toArray:=by simp
 rw [ea];exact ⟨.ref _,_,I.UC (t':=s.toks) (r.append r2) (by rw [Zh]; omega),rfl,q _ I.fresh⟩
end
end L2
namespace Att
open PySem PySem.W PySem.Calls PyProof.Rows
def ph:∀ (ns:List Int) (vs:List Value),WellAll P h vs (ns.map WData.int)->IntsAre vs ns:=by
 intro ns
 induction ns with
 | nil=>
  intro vs w;rw [X2] at w;cases w;exact .nil
 | cons n ns ih=>
  intro vs w;rw [Zz] at w
  cases w with
  | cons a b=>
   cases a;exact .cons _ _ (ih _ b)
theorem zU {l:OpenLaw} {n:Nat} (hn:l.most=some n) {P:Params} {h:Heap} {args:List WData} {vals:List Value}
  (hpre:l.row.toRowW.claim.pre args=true) (hwl:WellAll P h vals args):∃ a vs ns,vals=[Value.ref a]/\args=[WData.list (ns.map WData.int)]/\h.get? a=some { cls:=.type "list",data:=.seq vs.toArray }/\IntsAre vs ns/\ns.length<=n:=by
 have hsh:WShape.hasAll [] args [.list .int]=true:=(pre_splitW hpre).1;have hc:l.pre.holds [] { args:=args }=true:=(pre_splitW hpre).2;obtain ⟨d,r,rfl,h1,h2⟩:=hasAllW_cons hsh;obtain rfl:=hasAllW_nil h2;obtain ⟨xs,rfl,h3⟩:=hasW_list h1;obtain ⟨ns,rfl⟩:=items_int h3
 have hlen:ns.length<=n:=by
  unfold OpenLaw.pre at hc
  have h4:(WTm.not (.lt (.lit (.int (n:Int))) (.len (.arg 0)))).holds [] { args:=[.list (ns.map .int)] }=true:=by
   have h4:=(holds_andW hc).1;rw [hn] at h4;exact h4
  have h5:=condW_of h4 (w_not (w_lt w_lit (w_len_list (w_arg rfl))));rw [Zk] at h5;refine Nat.le_of_not_lt λ q=>?_
  have q':(n:Int) < ((ns.length:Nat):Int):=by omega
  first
   | (rw [Ze q'] at h5; exact absurd h5 (by decide))
   | (simp at h5; omega)
 cases hwl with
 | cons w1 w2=>
  cases w2
  cases w1 with
  | list ho hall=>exact ⟨_,_,ns,rfl,rfl,ho,ph ns _ hall,hlen⟩
def Af (l:OpenLaw) (args:List WData):l.row.toRowW.claim.post args (.bool true) args=true:=
 postW_of (r:=l.row.toRowW) (X:=(true == true))
  (show WShape.has [] (.bool true) .bool=true by first | rfl | decide | simp [WShape.has,WShape.arms,WShape.armsAll])
  (show (WTm.eq .res (.lit (.bool true))).value [] { args:=args,res:=some (.bool true),after:=args }=some (.bool (true == true)) from w_eq_bool (w_res rfl) w_lit) rfl
def wQ {l:OpenLaw} {n:Nat} {q:Program} {loose:List Str} {XP:(Str->Option Value)->Heap->Prop} {YP:World->Heap->Prop} {d:DefRec}
  (hn:l.most=some n) (hdf:d.params.defaults=[])
  (call:∀ (w:World) (s₀ s₁:Shared) (mg mb:Str->Option Value) (fa:Addr) (o:Obj) (pm cd doc:Value) (a:Addr) (vs:List Value) (ns:List Int),
    Ground q loose [] XP w s₀ mg mb s₁.heap->YP w s₁.heap->s₁.heap.get? fa=some o->o.data=.func (docDef d.name d.params d.body d.scope pm cd doc)->s₁.heap.CodeRec cd d.name->mg d.name=some (.ref fa)->s₁.heap.get? a=some { cls:=.type "list",data:=.seq vs.toArray }->IntsAre vs ns->ns.length<=n->s₁.gens=#[]->codeAny (model l.prog w) callerA (.call (.ref fa) ⟨[.ref a],[]⟩) (λ r s'=>r=.ok (.ret (.bool true))/\OldK s₁.heap s'.heap/\s'.os=s₁.os/\AllBare s'.gens) s₁):WalkO q loose XP YP l.row.toRowW d [] (λ f vs=>PySem.call f vs):=by
 intro w s₀ s₁ mg mb G Y fa o pm cd doc dV kV ho hd hcd hD hmg hg args vals as hpre hlay hrd hwl hlo;obtain rfl:dV=.none:=Dflts.none hD hdf;obtain rfl:kV=.none:=Dflts.noKw hD;obtain ⟨a,vs,ns,rfl,rfl,hobj,hints,hlen⟩:=zU hn hpre hwl;refine enter_call (codeAny_mono (call w s₀ s₁ mg mb fa o pm cd doc a vs ns G Y ho (fd_plain hd) hcd hmg hobj hints hlen hg) λ r s' hq=>?_);obtain ⟨rfl,h2,h3,h4⟩:=hq;exact ⟨.inl ⟨.bool true,.bool true,[],rfl,λ _=>rfl,.bool true,Af l _,λ _=>⟨List.Pairwise.nil,λ _ hm=>(nomatch hm)⟩⟩,h2,h3,h4⟩
end Att
namespace L2
open PySem PySem.Spec PyProof.Rows
theorem tm:∀ {vs:List Value} {ns:List Int},IntsAre vs ns->cu (ns.map V.int) vs
 | _,_,.nil=>.nil
 | _,_,.cons n t h=>.cons ⟨t,rfl⟩ (tm h)
def NY (H:Hp):Prop:=∀ b,H b=none\/∃ o xs,H b=some (.frz o (.lst xs))
def DR {P:Program} {w:World} {K:W.Frag} {mg mb:Str->Option Value} {CX:CXT} {k:Nat} {fa a:Addr} {fd:FuncData} {x:Str} {sp:Sp} {s₁:Shared} {vs:List Value} {ns:List Int}
  (KX:K.In s₁.heap) (hns:s₁.heap.Ns mainGlobals mg) (hb:s₁.heap.Ns builtinsNs mb) (hbb:∀ x:Str,x≠"__name__"->mb x=bootBuiltins x) (hlim:s₁.heap.NoLimit) (hg:s₁.gens=#[])
  (ha:s₁.heap.get? a=some { cls:=.type "list",data:=.seq vs.toArray }) (hi:IntsAre vs ns) (hl:ns.length<=sizeLine) (hr:ip k callerA)
  (F:∀ base:Heap,K.In base->base.Ns mainGlobals mg->qt P w K mg base CX k fa fd [x] sp) (hbind:∀ (s:Shared) (u:Value),BindsTo s fd ⟨[u],[]⟩ [(x,u)])
  (hsp:∀ H:Hp,NY H->SqL K H a (ns.map V.int)->sp [.ref a] H (λ v _=>v=.bl true) λ _ _ _=>False)
  (hCX:∀ H e s',CX [] H s₁ (λ _ _ _=>False) e s'->False):codeAny (model P w) callerA (.call (.ref fa) ⟨[.ref a],[]⟩) (λ r s'=>r=.ok (.ret (.bool true))/\OldK s₁.heap s'.heap/\s'.os=s₁.os/\AllBare s'.gens) s₁:=by
 have rv:=tm hi;have lenV:=hi.length
 have core:∀ H:Hp,NY H->SqL K H a (ns.map V.int)->HOk P w H s₁.heap->(∀ b,H b≠none->b=a)->(H a≠none->K.lookup a=none)->codeAny (model P w) callerA (.call (.ref fa) ⟨[.ref a],[]⟩) (λ r s'=>r=.ok (.ret (.bool true))/\OldK s₁.heap s'.heap/\s'.os=s₁.os/\AllBare s'.gens) s₁:=by
  intro H hO hS hok hA hK;have base_of:∀ {b:Addr} {o:Obj},s₁.heap.get? b=some o->H b=none->(D5 s₁.heap H).get? b=some o:=λ e n=>D4 e n
  have noA:∀ {b:Addr} {o:Obj} {es:Array DictEntry} {ep:Nat},s₁.heap.get? b=some o->o.data=.dict es ep->H b=none:=λ {b o es ep} e d=>by
   cases q:H b with
   | none=>rfl
   | some u=>
    have e':b=a:=hA b (by rw [q]; simp);subst e';rw [ha] at e; cases e
    have d':Data.seq vs.toArray _=Data.dict es ep:=d;cases d'
  have nsK:∀ {b:Addr} {m:Str->Option Value},s₁.heap.Ns b m->(D5 s₁.heap H).Ns b m:=λ {b m} ⟨o,es,ep,e,d,r⟩=>⟨o,es,ep,base_of e (noA e d),d,r⟩
  have hKb:K.In (D5 s₁.heap H):=λ b o e=>base_of (KX b o e) (by
   cases q:H b with
   | none=>rfl
   | some u=>
    have e':b=a:=hA b (by rw [q]; simp);subst e'
    rw [hK (by rw [q]; simp)] at e; cases e)
  have hM:Mod K mg (D5 s₁.heap H):=⟨hKb,nsK hns,⟨mb,nsK hb,hbb⟩,let ⟨mc,h1,h2⟩:=hlim; ⟨mc,nsK h1,h2⟩⟩
  have e0:NZ P w K mg (D5 s₁.heap H) callerA [] s₁ H:=⟨rfl,hM,λ b o e=>Hc e,Nat.le_of_eq (Bv _ _),trivial,λ b hb=>absurd (show b ∈ ([]:List Addr) from hb) (by simp),hok,.of_eq hg⟩
  refine codeAny_mono ((F _ hKb (nsK hns)).run callerA [] s₁ H ⟨[.ref a],[]⟩ [.ref a] [.ref a] _ _ hr e0 (hbind s₁ (.ref a)) (.cons rfl .nil) (hsp H hO hS)) λ r s' h=>?_
  cases r with
  | error e=>exact (hCX H e s' h).elim
  | ok fl=>
   cases fl with
   | next=>exact False.elim h
   | brk=>exact False.elim h
   | cont=>exact False.elim h
   | ret u=>
    obtain ⟨v,H',os,bare,un,hok',r',q⟩:=h;have q':v=.bl true:=q;subst q';obtain rfl:u=Value.bool true:=r';refine ⟨rfl,OldK.of_keep λ b o e=>?_,os,bare⟩
    cases q:H b with
    | none=>exact un.keep b o e q (by intro z; exact absurd (show b ∈ ([]:List Addr) from z) (by simp)) (by simp)
    | some u=>
     rcases hO b with z | ⟨ob,xs,z⟩
     · rw [q] at z; cases z
     ·have z2:=un.qY b ob _ z
      obtain ⟨e1,_⟩:=hok b _ z;obtain ⟨e2,_⟩:=hok' b _ z2;rw [e] at e1; cases e1
      exact e2
 cases hk:K.lookup a with
 | some o=>
  have e:=KX a o hk;rw [ha] at e;cases e;refine core (λ _=>none) (λ _=>.inl rfl) (.inr ⟨_,vs.toArray,_,hk,rfl,rfl,rfl,by rw [Zw,lenV]; exact hl,by simpa using rv⟩) (λ b u z=>by have z':(none:Option HO)=some u:=z; cases z') (λ b z=>absurd rfl z) λ z=>absurd rfl z
 | none=>
  refine core (λ b=>if b=a then some (.frz { cls:=.type "list",data:=.seq vs.toArray } (.lst (ns.map V.int))) else none) (λ b=>?_) (.inl (.inr ⟨{ cls:=.type "list",data:=.seq vs.toArray },if_pos rfl⟩)) (λ b u z=>?_) (λ b z=>?_) λ _=>hk
  ·by_cases hb:b=a
   · exact .inr ⟨_,_,if_pos hb⟩
   · exact .inl (if_neg hb)
  ·by_cases hb:b=a
   ·have z':=(if_pos hb).symm.trans z
    cases z';subst hb;exact ⟨ha,by rw [Zk]; exact hl,vs,_,rv,ha⟩
   ·have z':=(if_neg hb).symm.trans z
    cases z'
  ·by_cases hb:b=a
   · exact hb
   · exact absurd (if_neg hb) z
abbrev KOf {K:W.Frag} {h:Heap} (_:K.In h):W.Frag:=K
def Ga {l:PySem.W.OpenLaw} {n k:Nat} {q:Program} {loose:List Str} {XP:(Str->Option Value)->Heap->Prop} {YP:World->Heap->Prop} {d:DefRec} {K:Params->W.Frag} {CX:World->CXT} {sp:World->Sp} {x:Str}
    (hn:l.most=some n) (hn2:n<=sizeLine) (hdf:d.params.defaults=[]) (hr:ip k callerA)
    (hY:∀ (w:World) (h:Heap),YP w h->(K w.params).In h)
    (F : ∀ (w:World) (mg:Str->Option Value) (fa:Addr) (h:Heap),(K w.params).In h->h.Ns mainGlobals mg->mg d.name=some (.ref fa)->∃ fd:FuncData,(∀ (s:Shared) (u:Value),BindsTo s fd ⟨[u],[]⟩ [(x,u)])/\∀ base:Heap,(K w.params).In base->base.Ns mainGlobals mg->qt l.prog w (K w.params) mg base (CX w) k fa fd [x] (sp w))
    (hsp:∀ (w:World) (H:Hp) (a:Addr) (ns:List Int),ns.length<=n->NY H->SqL (K w.params) H a (ns.map V.int)->sp w [.ref a] H (λ v _=>v=.bl true) λ _ _ _=>False)
    (hCX:∀ (w:World) (H:Hp) (s:Shared) (e:Value) (s':Shared),CX w [] H s (λ _ _ _=>False) e s'->False):PySem.W.WalkO q loose XP YP l.row.toRowW d [] (λ f vs=>PySem.call f vs):=by
  refine Att.wQ hn hdf λ w s₀ s₁ mg mb fa o pm cd doc a vs ns G Y ho hd hcd hmg hobj hints hlen hg=>?_
  have KX:=hY w _ Y;obtain ⟨fd,hb,hF⟩:=F w mg fa _ KX G.T.g hmg;exact DR KX G.T.g G.T.b G.T.builtins G.T.nolimit hg hobj hints (Zs hlen hn2) hr hF hb (λ H hO hS=>hsp w H a ns hlen hO hS) λ H e s'=>hCX w H s₁ e s'
def CQ {l:PySem.W.OpenLaw} {n k:Nat} {q:Program} {loose:List Str} {XP:(Str->Option Value)->Heap->Prop} {YP:World->Heap->Prop} {d:DefRec} {K:Params->W.Frag} {CX:CXT} {sp:W.Frag->Sp} {x:Str}
    (hn:l.most=some n) (hn2:n<=sizeLine) (hdf:d.params.defaults=[]) (hr:ip k callerA)
    (hY:∀ (w:World) (h:Heap),YP w h->(K w.params).In h)
    (F : ∀ (w:World) (mg:Str->Option Value) (fa:Addr) (h:Heap),(K w.params).In h->h.Ns mainGlobals mg->mg d.name=some (.ref fa)->∃ fd:FuncData,(∀ (s:Shared) (u:Value),BindsTo s fd ⟨[u],[]⟩ [(x,u)])/\∀ base:Heap,(K w.params).In base->base.Ns mainGlobals mg->qt l.prog w (K w.params) mg base CX k fa fd [x] (sp (K w.params)))
    (hsp:∀ (K:W.Frag) (H:Hp) (a:Addr) (ns:List Int),ns.length<=n->NY H->SqL K H a (ns.map V.int)->sp K [.ref a] H (λ v _=>v=.bl true) λ _ _ _=>False)
    (hCX:∀ (H:Hp) (s:Shared) (e:Value) (s':Shared),CX [] H s (λ _ _ _=>False) e s'->False):PySem.W.WalkO q loose XP YP l.row.toRowW d [] (λ f vs=>PySem.call f vs):=
  Ga (K:=K) (CX:=λ _=>CX) (sp:=λ w=>sp (K w.params)) hn hn2 hdf hr hY F (λ w H a ns h1 h2 h3=>hsp (K w.params) H a ns h1 h2 h3) λ _ H s e s'=>hCX H s e s'
end L2
namespace L2
open PySem PySem.Spec PyProof.Rows
def fW (s:Stmt):Arguments:=match s with
 | .FunctionDef _ a _ _ _ _ _ _ _ _=>a
 | _=>{ posonlyargs:=[],args:=[],vararg:=none,kwonlyargs:=[],kw_defaults:=[],kwarg:=none,defaults:=[] }
def cQ (s:Stmt):List Stmt:=match s with
 | .FunctionDef _ _ b _ _ _ _ _ _ _=>b
 | _=>[]
def bt (s:Stmt):Scope:=match s with
 | .FunctionDef _ _ _ _ _ _ sc _ _ _=>sc
 | _=>{ kind:=.function,names:=[],isGenerator:=false,isCoroutine:=false }
abbrev CX0:CXT:=λ _ _ _ _ _ _=>False
abbrev E0:XK:=λ _ _ _=>False
def Ar:qh CX0 X E0:=λ _ _ _ _ _ _ _ h=>h.elim
structure Fun (K:W.Frag) (x qual:Str) (st:Stmt) (f:Addr) (fd:FuncData):Prop where
 ex:∃ (oc:Value) (od:Option Addr) (kV doc pm:Value) (an:Option Addr) (cdv ct:Value) (osl:Array (Option Value)),
  fd=PySem.W.fnOf x qual (fW st) (cQ st) (bt st) .none kV doc pm an cdv ct/\K.lookup f=some ⟨oc,od,.func fd,osl⟩/\PySem.W.codeIn K cdv qual=true
 kp:W.keepIn K (.ref f)=true
section
variable {P:Program} {w:World} {K:W.Frag} {mg:Str->Option Value} {base:Heap}
def Fun.ok {x qual:Str} {st:Stmt} {f:Addr} {fd:FuncData} {N ps:List Str} {k:Nat} {sp:Sp} (F:Fun K x qual st f fd) (S:jc N ps (bt st)) (len:∀ vs H Q E,sp vs H Q E->vs.length=ps.length)
  (hbody:∀ (cdv:Value) (A:Around) (outer:List Env) (s:Shared) (H:Hp) (vs:List V) (Q:VK) (E:XK),ip k (A.deeper (envOfC qual (bt st) s.heap.objs.size f cdv))->sp vs H Q E->∃ t,PSs (vo CX0 P w K mg base N qual (bt st) f cdv A outer s H E).nox (cQ st) t/\t { nx:=λ _ H'=>Q .non H',rt:=Q } (start N vs) H):qt P w K mg base CX0 (k+1) f fd ps sp:=by
 obtain ⟨oc,od,kV,doc,pm,an,cdv,ct,osl,rfl,lk,hcd⟩:=F.ex;refine LY lk hcd S len λ A outer s H vs Q E hr hsp=>?_
 obtain ⟨t,h,q⟩:=hbody cdv A outer s H vs Q E hr hsp;exact ⟨t,h.nox,q⟩
def Fun.binds {x qual:Str} {st:Stmt} {f:Addr} {fd:FuncData} {ps:List Str} (F:Fun K x qual st f fd)
  (h:∀ (kV doc pm:Value) (an:Option Addr) (cdv ct:Value) (us:List Value),us.length=ps.length->bindArgs (PySem.W.fnOf x qual (fW st) (cQ st) (bt st) .none kV doc pm an cdv ct) ⟨us,[]⟩=pure (ps.zip us)):Binds K fd ps []:=by
 obtain ⟨oc,od,kV,doc,pm,an,cdv,ct,osl,rfl,lk,hcd⟩:=F.ex;exact .all (h kV doc pm an cdv ct)
def BA {x qual:Str} {st:Stmt} {f:Addr} {oc:Value} {od an:Option Addr} {osl:Array (Option Value)} {kV doc pm cdv ct:Value} (l:K.lookup f=some ⟨oc,od,.func (PySem.W.fnOf x qual (fW st) (cQ st) (bt st) .none kV doc pm an cdv ct),osl⟩)
 (c:PySem.W.codeIn K cdv qual=true) (k:W.keepIn K (.ref f)=true):Fun K x qual st f (PySem.W.fnOf x qual (fW st) (cQ st) (bt st) .none kV doc pm an cdv ct):=⟨⟨oc,od,kV,doc,pm,an,cdv,ct,osl,rfl,l,c⟩,k⟩
end
section
variable {X:Cx}
def pv (i:Nat) (hN:X.N[i]?=some x:=by rfl) (hv:Vis X.env.scope x:=by first | exact Or.inl rfl | exact Or.inr (Or.inl rfl) | exact Or.inr (Or.inr rfl)) (hd:Dg x:=by decide)
 (hcd:(x == ("__classdict__":Str))=false:=by decide):PE X (.Name x pos) (Od i):=oJ hN hv hd hcd
end
def DZ {A B:Prop} (h:B):if false=true then A else B:=by
 rw [if_neg Zf];exact h
def nS {A B:Prop} (h:A):if true=true then A else B:=by
 rw [if_pos rfl];exact h
def c9 (H H':Hp):Prop:=∀ b o,H b=some o->H' b=some o
def c9.refl (H:Hp):c9 H H:=λ _ _ h=>h
def c9.trans (a:c9 H H1) (b:c9 H1 H2):c9 H H2:=λ c o h=>b c o (a c o h)
def c9.free (e:c9 H H') (h:H' l=Option.none):H l=Option.none:=by
 cases q:H l with
 | none=>rfl
 | some o=>
  rw [e l o q] at h;cases h
def c9.seq {K:W.Frag} {H H':Hp} {a:Addr} {xs:List V} (e:c9 H H') (h:SqL K H a xs):SqL K H' a xs:=by
 rcases h with (h | ⟨o,h⟩) | h
 · exact .inl (.inl (e _ _ h))
 · exact .inl (.inr ⟨o,e _ _ h⟩)
 · exact .inr h
end L2
end
section
namespace HD50
open PySem PySem.W PySem.W.X PyProof.Rows L2
abbrev hp:Program:=PySem.Challenge.pw_stylehouse_k50_texts_refused
abbrev hl:OpenLaw:=zHl
def U2 (i:Nat):Stmt:=PySem.Challenge.pw_stylehouse_k50_texts_refused.main.body.getD i (.Pass ⟨0,0,0,0⟩)
abbrev tL (o:Params->Obj) (P:Params):BT:=.node (o P) .nil .nil
abbrev tN (o:Params->Obj) (l r:Params->BT) (P:Params):BT:=.node (o P) (l P) (r P)
abbrev tZ (_:Params):BT:=.nil
abbrev dE (P:Params) (n:Str) (t:Nat) (v:Value):DictEntry:=⟨PyData.keyHash P n,.str n t,v⟩
abbrev oF (y:String) (l:List Value) (_:Params):Obj:=⟨.type y,none,.fields ⟨l⟩,⟨[]⟩⟩
abbrev oQ (y:String) (l:List Value) (n:Nat) (_:Params):Obj:=⟨.type y,none,.seq ⟨l⟩ n,⟨[]⟩⟩
abbrev oD (y:String) (l:List DictEntry) (n:Nat):Obj:=⟨.type y,none,.dict ⟨l⟩ n,⟨[]⟩⟩
abbrev oM (y:String) (n q:Str) (s:Stmt) (g:Nat) (c:List (Str×Addr)) (d k dc pm:Value) (an:Option Addr) (cd ct:Value) (b:Nat):Obj:=⟨.type y,none,.func ⟨n,q,fW s,.stmts (cQ s),bt s,g,c,d,k,dc,pm,an,cd,ct,b⟩,⟨[]⟩⟩
abbrev oC (y:String) (n:Str) (a:Nat) (q:Str) (b:Nat) (f:Str) (c i1 i2 i3 i4 i5 r1:Nat) (o:Bool) (i6 r2:Nat) (v1 v2 v3 v4:Value) (i7 i8:Nat) (g:Str) (d:Nat):Obj:=⟨.type y,none,.fields ⟨[.str n a,.str q b,.str f c,.int (.ofNat i1) 0,.int (.ofNat i2) 0,.int (.ofNat i3) 0,.int (.ofNat i4) 0,.int (.ofNat i5) 0,.ref r1,.bool o,.int (.ofNat i6) 0,.ref r2,v1,v2,v3,v4,.int (.ofNat i7) 0,.int (.ofNat i8) 0,.str g d]⟩,⟨[]⟩⟩
abbrev vI (i t:Nat):Value:=.int (.ofNat i) t
abbrev vS (s:Str) (t:Nat):Value:=.str s t
abbrev vR (a:Nat):Value:=.ref a
abbrev y0:String:=PySem.W.SL.s2766695959194262286x5
abbrev y1:String:=PySem.W.SL.s5856160107412720595x4
abbrev y2:String:=PySem.W.SL.s658472552662922059x5
abbrev y3:String:=PySem.W.SL.s14018661285674007319x4
abbrev y4:String:=PySem.W.SL.s7097527257260152453x26
abbrev y5:String:=PySem.W.SL.s6070975301684473832x10
abbrev y6:String:=PySem.W.SL.s11030030927630378310x26
abbrev y7:String:=PySem.W.SL.s10062305145149207511x16
abbrev y8:String:=PySem.W.SL.s17162191345867700912x4
abbrev y9:String:=PySem.W.SL.s5946037652744460706x9
abbrev y10:String:=PySem.W.SL.s4278001404047624695x13
abbrev y11:String:=PySem.W.SL.s2742458400755230247x6
abbrev y12:String:=PySem.W.SL.s4209523147560561109x18
abbrev y13:String:=PySem.W.SL.s14755015743595814543x17
abbrev y14:String:=PySem.W.SL.s10220274742760427390x26
abbrev y15:String:=PySem.W.SL.s4290257624100764138x5
abbrev y16:String:=PySem.W.SL.s4860613602091757760x24
abbrev y17:String:=PySem.W.SL.s7174869446012820540x8
def n0:Str:="<module>"
def n1:Str:="/claim/cut.py"
def n2:Str:="__main__"
def n3:Str:="__name__"
def n4:Str:="stylehouse.errors"
def n5:Str:="__doc__"
def n6:Str:="__package__"
def n7:Str:="__loader__"
def n8:Str:="__spec__"
def n9:Str:="__annotations__"
def n10:Str:="__builtins__"
def n11:Str:="__file__"
def n12:Str:="__cached__"
def n13:Str:="HouseError"
def n14:Str:="NoFraction"
def n15:Str:="TooMuch"
def n16:Str:="__module__"
def n17:Str:="__qualname__"
def n18:Str:="__firstlineno__"
def n19:Str:="__static_attributes__"
def n20:Str:="__weakref__"
def n21:Str:="stylehouse.props"
def n22:Str:="NoValue"
def n23:Str:="NoText"
def n24:Str:="NoRow"
def n25:Str:="LONGEST_NAME"
def n26:Str:="is_name"
def n27:Str:="is_whole"
def n28:Str:="divisor_of"
def n29:Str:="fraction"
def n30:Str:="stylehouse.names"
def n31:Str:="thing"
def n32:Str:="stylehouse.shares"
def n33:Str:="one"
def n34:Str:="other"
def n35:Str:="rest"
def n36:Str:="top"
def n37:Str:="bottom"
def n38:Str:="divisor"
def n39:Str:="stylehouse.rulenotes"
def n40:Str:="PROPS"
def n41:Str:="NUMBER_PROPS"
def n42:Str:="PART_PROPS"
def n43:Str:="WORDS"
def n44:Str:="is_value"
def n45:Str:="is_word"
def n46:Str:="is_ratio"
def n47:Str:="MOST_FIGURES"
def n48:Str:="is_numeral"
def n49:Str:="read_whole"
def n50:Str:="show_ratio"
def n51:Str:="read_pair"
def n52:Str:="read_ratio"
def n53:Str:="show_fraction"
def n54:Str:="read_fraction"
def n55:Str:="show_value"
def n56:Str:="read_value"
def n57:Str:="show_row"
def n58:Str:="read_row"
def n59:Str:="SIGNS"
def n60:Str:="JOINS"
def n61:Str:="show_pattern"
def n62:Str:="show_trait"
def n63:Str:="show_count"
def n64:Str:="read_pattern"
def n65:Str:="read_step"
def n66:Str:="ink"
def n67:Str:="size"
def n68:Str:="wide"
def n69:Str:="least"
def n70:Str:="most"
def n71:Str:="grow"
def n72:Str:="shrink"
def n73:Str:="gap"
def n74:Str:="pad"
def n75:Str:="tall"
def n76:Str:="flow"
def n77:Str:="spread"
def n78:Str:="stand"
def n79:Str:="auto"
def n80:Str:="none"
def n81:Str:="stack"
def n82:Str:="row"
def n83:Str:="wrap"
def n84:Str:="fair"
def n85:Str:="left"
def n86:Str:="middle"
def n87:Str:="right"
def n88:Str:="apart"
def n89:Str:="full"
def n90:Str:="prop"
def n91:Str:="value"
def n92:Str:="word"
def n93:Str:="stylehouse.notes"
def n94:Str:="text"
def n95:Str:="parts"
def n96:Str:="found"
def n97:Str:="kind"
def n98:Str:="words"
def n99:Str:="ratio"
def Sy:Str:="first"
def UB:Str:="."
def UA:Str:="!"
def Uz:Str:="@"
def Uy:Str:="^"
def Ux:Str:=">"
def Uw:Str:="+"
def Uv:Str:="~"
def Uu:Str:="trait"
def Sx:Str:="sign"
def Ut:Str:="step"
def Us:Str:="steps"
def Ur:Str:="join"
def j6:Str:="law_stylehouse_k50_texts_refused"
def FG:Str:="read_head"
def FF:Str:="read_trait"
def FE:Str:="read_count"
def FA:Str:="checked_name"
def Fz:Str:="show_rows"
def Fy:Str:="read_rows"
def Fw:Str:="show_rule"
def Fv:Str:="read_rule"
def Fu:Str:="_law_cell"
def Ft:Str:="_law_mix"
def Fq:Str:="_law_name"
def Fp:Str:="_law_pool"
def Fn:Str:="_law_whole"
def Fm:Str:="_law_props"
def Fk:Str:="_law_share_text"
def Fj:Str:="_law_value_text"
def Fi:Str:="_law_noted"
def Fh:Str:="_law_row_text"
def Fg:Str:="_law_trait_text"
def Ff:Str:="_law_pattern_text"
def Fe:Str:="_law_rule_text"
def Fd:Str:="_law_step"
def Fc:Str:="_law_steps"
def Fb:Str:="_law_is_name"
def E9:Str:="_law_is_whole"
def E8:Str:="_law_is_share"
def Uq:Str:="count"
def QK:Str:="_law_script"
def Lm:Str:="_law_k"
def IX:Str:="_law_cell_here"
def Ll:Str:="_law_way"
def Sv:Str:="_law_first"
def QJ:Str:="_law_at"
def Up:Str:="_law_letters"
def Su:Str:="_law_one"
def Lk:Str:="_law_draw"
def Uo:Str:="_law_place"
def Ss:Str:="_law_sign"
def Um:Str:="_law_two"
def Ul:Str:="_law_three"
def Uk:Str:="_law_found"
def Uj:Str:="_law_some"
def Ui:Str:="_law_top"
def Uh:Str:="_law_bottom"
def Ug:Str:="_law_value"
def vm:Str:="_law_text"
def Ue:Str:="_law_prop"
def QI:Str:="_law_other"
def QH:Str:="_law_word"
def QG:Str:="_law_words"
def Ud:Str:="_law_pair"
def QF:Str:="_law_row"
def Sr:Str:="_law_trait"
def Sq:Str:="_law_pattern"
def Uc:Str:="_law_step_here"
def Ub:Str:="_law_rule"
def QE:Str:="_law_pool_here"
def So:Str:="_law_most"
def Ua:Str:="_law_made"
def Sn:Str:="_law_j"
def T9:Str:="_law_every"
def T8:Str:="_law_many"
def T7:Str:="_law_steps_here"
def T6:Str:="_law_join"
def QD:Str:="_law_parts"
def Hw:Str:="_law_is_lowest"
def Hv:Str:="_law_is_value"
def Hu:Str:="_law_is_row"
def Ht:Str:="_law_is_step"
def Hr:Str:="_law_is_pattern"
def Hq:Str:="_law_is_rule"
def Ho:Str:="_law_is"
def Hn:Str:="_law_again"
def Hm:Str:="_law_right"
def Hl:Str:="_law_spoilt"
def Hk:Str:="law"
def T4:Str:="_law_good"
def Sm:Str:="_law_part"
def T3:Str:="_law_bits"
def T2:Str:="_law_early"
def T1:Str:="_law_rest"
def QC:Str:="_law_kind"
def TZ:Str:="_law_told"
def TY:Str:="_law_refused"
def TX:Str:="e"
def TV:Str:="_law_signs"
def TU:Str:="_law_due"
abbrev oN (n q:Str) (s:Stmt) (_:Params):Obj:=⟨.none,none,.func ⟨n,q,fW s,.stmts (cQ s),bt s,0,[],.none,.none,.none,.none,none,.none,.none,0⟩,⟨[]⟩⟩
abbrev SO (n:Str) (k:Nat):Params->Obj:=oN n n (U2 k)
def tri:List Nat->List Value
 | a::b::r=>.int (.ofNat a) 0::.int (.ofNat 0) 0::.ref b::tri r
 | _=>[]
abbrev oR (l:List Nat) (_:Params):Obj:=⟨.none,none,.fields ⟨tri l⟩,⟨[]⟩⟩
abbrev oE (n q:Str) (t l a r s:Nat) (_:Params):Obj:=oC y1 n t q (t+1) n1 (t+2) l a 0 0 3 r true 181 (r+1) .none (.ref (r+2)) (.ref (r+3)) (.ref (r+4)) s l n1 (s+1)
abbrev oG (n q:Str) (s:Stmt) (m:Str) (t r:Nat) (_:Params):Obj:=oM y17 n q s 3 [] .none .none .none (.str m t) none (.ref r) .none 0
abbrev ST (n:Str) (k:Nat) (m:Str) (t r:Nat):Params->Obj:=oG n n (U2 k) m t r
def o0:=oQ y0 [] 0
def o1 (P:Params):Obj:=⟨.none,none,(.fields ⟨[]⟩),⟨[]⟩⟩
def o2 (P:Params):Obj:=oC y1 n0 182 n0 183 n1 184 1 0 0 0 0 11 false 181 12 .none .none .none .none 185 1 n1 186
def o3 (P:Params):Obj:=⟨(.type y2),none,.plain,⟨[(some (vR 13)),(some (vR 3)),(some (vR 3)),none,(some (vS n2 164)),none,(some (vR 0))]⟩⟩
def o4 (P:Params):Obj:=oD y3 [dE P n3 165 (vS n4 187),dE P n5 166 .none,dE P n6 167 .none,dE P n7 168 (.builtin y4),dE P n8 169 .none,dE P n9 170 (vR 6),dE P n10 171 (vR 4),dE P n11 173 (vS n1 172),dE P n12 174 .none,dE P n13 206 (vR 24),dE P n14 222 (vR 37),dE P n15 238 (vR 49)] 12
def o5:=oR [2,20,4,33,6,45]
def o6:=oQ y0 [(.type y5)] 0
def o7:=oF y6 [(.builtin y7),(.type y8)]
def o8 (P:Params):Obj:=oD y3 [dE P n16 196 (vS n4 187),dE P n17 198 (vS n13 197),dE P n18 200 (vI 2 199),dE P n19 201 (vR 22)] 4
def o9 (P:Params):Obj:=oC y1 n13 191 n13 192 n1 193 2 0 0 0 0 18 false 181 19 .none .none .none .none 194 2 n1 195
def o10 (P:Params):Obj:=⟨(.type y2),none,.plain,⟨[(some (vR 20)),(some (vR 3)),(some (vR 17)),none,(some (vS n4 187)),none,(some (vR 0))]⟩⟩
def o11 (P:Params):Obj:=oD y3 [dE P n16 196 (vS n4 187),dE P n18 200 (vI 2 199),dE P n19 201 (vR 22),dE P n20 203 (vR 25),dE P n5 204 .none] 3
def o12 (P:Params):Obj:=⟨(.type y8),none,(.cls ⟨n13,[(.type y5)],[vR 24,(.type y5),(.type y9),(.type y10),(.type y11)],23,n13,true,[],[vR 37,vR 49],false,none,false⟩),⟨[(some (vR 15)),none,(some (vS n13 189)),(some (vS n13 197)),(some (.builtin y12)),(some (.bool true))]⟩⟩
def o13:=oF y13 [vS n20 202,vR 24,(.builtin y14),.none]
def o14:=oF y15 [vR 24,vR 24,vR 24]
def o15:=oF y6 [(.builtin y16),vR 24]
def o16:=oQ y0 [vR 24] 0
def o17 (P:Params):Obj:=oD y3 [dE P n16 214 (vS n4 187),dE P n17 216 (vS n14 215),dE P n18 218 (vI 4 217),dE P n19 219 (vR 35)] 4
def o18 (P:Params):Obj:=oC y1 n14 209 n14 210 n1 211 4 0 0 0 0 31 false 181 32 .none .none .none .none 212 4 n1 213
def o19 (P:Params):Obj:=⟨(.type y2),none,.plain,⟨[(some (vR 33)),(some (vR 3)),(some (vR 30)),none,(some (vS n4 187)),none,(some (vR 0))]⟩⟩
def o20 (P:Params):Obj:=oD y3 [dE P n16 214 (vS n4 187),dE P n18 218 (vI 4 217),dE P n19 219 (vR 35),dE P n5 220 .none] 2
def o21 (P:Params):Obj:=⟨(.type y8),none,(.cls ⟨n14,[vR 24],[vR 37,vR 24,(.type y5),(.type y9),(.type y10),(.type y11)],36,n14,true,[],[],false,none,false⟩),⟨[(some (vR 28)),none,(some (vS n14 207)),(some (vS n14 215)),(some (.builtin y12)),(some (.bool true))]⟩⟩
def o22:=oF y15 [vR 37,vR 37,vR 37]
def o23:=oF y6 [(.builtin y16),vR 37]
def o24 (P:Params):Obj:=oD y3 [dE P n16 230 (vS n4 187),dE P n17 232 (vS n15 231),dE P n18 234 (vI 6 233),dE P n19 235 (vR 47)] 4
def o25 (P:Params):Obj:=oC y1 n15 225 n15 226 n1 227 6 0 0 0 0 43 false 181 44 .none .none .none .none 228 6 n1 229
def o26 (P:Params):Obj:=⟨(.type y2),none,.plain,⟨[(some (vR 45)),(some (vR 3)),(some (vR 42)),none,(some (vS n4 187)),none,(some (vR 0))]⟩⟩
def o27 (P:Params):Obj:=oD y3 [dE P n16 230 (vS n4 187),dE P n18 234 (vI 6 233),dE P n19 235 (vR 47),dE P n5 236 .none] 2
def o28 (P:Params):Obj:=⟨(.type y8),none,(.cls ⟨n15,[vR 24],[vR 49,vR 24,(.type y5),(.type y9),(.type y10),(.type y11)],48,n15,true,[],[],false,none,false⟩),⟨[(some (vR 40)),none,(some (vS n15 223)),(some (vS n15 231)),(some (.builtin y12)),(some (.bool true))]⟩⟩
def o29:=oF y15 [vR 49,vR 49,vR 49]
def o30:=oF y6 [(.builtin y16),vR 49]
def o31 (P:Params):Obj:=oD y3 [dE P n3 165 (vS n21 324),dE P n5 166 .none,dE P n6 167 .none,dE P n7 168 (.builtin y4),dE P n8 169 .none,dE P n9 170 (vR 6),dE P n10 171 (vR 4),dE P n11 173 (vS n1 172),dE P n12 174 .none,dE P n13 206 (vR 24),dE P n14 222 (vR 37),dE P n15 238 (vR 49),dE P n22 254 (vR 61),dE P n23 270 (vR 73),dE P n24 286 (vR 85),dE P n25 290 (vI 8 289),dE P n26 296 (vR 92),dE P n27 305 (vR 99),dE P n28 314 (vR 106),dE P n29 323 (vR 113)] 20
def o32:=oR [2,20,4,33,6,45,8,57,10,69,12,81,16,91,23,98,25,105,33,112]
def o33 (P:Params):Obj:=⟨(.type y8),none,(.cls ⟨n13,[(.type y5)],[vR 24,(.type y5),(.type y9),(.type y10),(.type y11)],23,n13,true,[],[vR 37,vR 49,vR 61,vR 73,vR 85],false,none,false⟩),⟨[(some (vR 15)),none,(some (vS n13 189)),(some (vS n13 197)),(some (.builtin y12)),(some (.bool true))]⟩⟩
def o34 (P:Params):Obj:=oD y3 [dE P n16 246 (vS n4 187),dE P n17 248 (vS n22 247),dE P n18 250 (vI 8 249),dE P n19 251 (vR 59)] 4
def o35 (P:Params):Obj:=oC y1 n22 241 n22 242 n1 243 8 0 0 0 0 55 false 181 56 .none .none .none .none 244 8 n1 245
def o36 (P:Params):Obj:=⟨(.type y2),none,.plain,⟨[(some (vR 57)),(some (vR 3)),(some (vR 54)),none,(some (vS n4 187)),none,(some (vR 0))]⟩⟩
def o37 (P:Params):Obj:=oD y3 [dE P n16 246 (vS n4 187),dE P n18 250 (vI 8 249),dE P n19 251 (vR 59),dE P n5 252 .none] 2
def o38 (P:Params):Obj:=⟨(.type y8),none,(.cls ⟨n22,[vR 24],[vR 61,vR 24,(.type y5),(.type y9),(.type y10),(.type y11)],60,n22,true,[],[],false,none,false⟩),⟨[(some (vR 52)),none,(some (vS n22 239)),(some (vS n22 247)),(some (.builtin y12)),(some (.bool true))]⟩⟩
def o39:=oF y15 [vR 61,vR 61,vR 61]
def o40:=oF y6 [(.builtin y16),vR 61]
def o41 (P:Params):Obj:=oD y3 [dE P n16 262 (vS n4 187),dE P n17 264 (vS n23 263),dE P n18 266 (vI 10 265),dE P n19 267 (vR 71)] 4
def o42 (P:Params):Obj:=oC y1 n23 257 n23 258 n1 259 10 0 0 0 0 67 false 181 68 .none .none .none .none 260 10 n1 261
def o43 (P:Params):Obj:=⟨(.type y2),none,.plain,⟨[(some (vR 69)),(some (vR 3)),(some (vR 66)),none,(some (vS n4 187)),none,(some (vR 0))]⟩⟩
def o44 (P:Params):Obj:=oD y3 [dE P n16 262 (vS n4 187),dE P n18 266 (vI 10 265),dE P n19 267 (vR 71),dE P n5 268 .none] 2
def o45 (P:Params):Obj:=⟨(.type y8),none,(.cls ⟨n23,[vR 24],[vR 73,vR 24,(.type y5),(.type y9),(.type y10),(.type y11)],72,n23,true,[],[],false,none,false⟩),⟨[(some (vR 64)),none,(some (vS n23 255)),(some (vS n23 263)),(some (.builtin y12)),(some (.bool true))]⟩⟩
def o46:=oF y15 [vR 73,vR 73,vR 73]
def o47:=oF y6 [(.builtin y16),vR 73]
def o48 (P:Params):Obj:=oD y3 [dE P n16 278 (vS n4 187),dE P n17 280 (vS n24 279),dE P n18 282 (vI 12 281),dE P n19 283 (vR 83)] 4
def o49 (P:Params):Obj:=oC y1 n24 273 n24 274 n1 275 12 0 0 0 0 79 false 181 80 .none .none .none .none 276 12 n1 277
def o50 (P:Params):Obj:=⟨(.type y2),none,.plain,⟨[(some (vR 81)),(some (vR 3)),(some (vR 78)),none,(some (vS n4 187)),none,(some (vR 0))]⟩⟩
def o51 (P:Params):Obj:=oD y3 [dE P n16 278 (vS n4 187),dE P n18 282 (vI 12 281),dE P n19 283 (vR 83),dE P n5 284 .none] 2
def o52 (P:Params):Obj:=⟨(.type y8),none,(.cls ⟨n24,[vR 24],[vR 85,vR 24,(.type y5),(.type y9),(.type y10),(.type y11)],84,n24,true,[],[],false,none,false⟩),⟨[(some (vR 76)),none,(some (vS n24 271)),(some (vS n24 279)),(some (.builtin y12)),(some (.bool true))]⟩⟩
def o53:=oF y15 [vR 85,vR 85,vR 85]
def o54:=oF y6 [(.builtin y16),vR 85]
def o55:=SO n26 9
def o56 (P:Params):Obj:=oC y1 n26 291 n26 292 n1 293 16 1 0 0 3 88 true 181 89 .none .none .none (vR 90) 294 16 n1 295
def o57:=ST n26 9 n30 287 91
def o58:=oQ y0 [vS n31 302] 0
def o59:=SO n27 11
def o60:=oE n27 n27 299 23 1 93 303
def o61:=ST n27 11 n32 297 98
def o62:=oQ y0 [vS n33 309,vS n34 310,vS n35 311] 0
def o63:=SO n28 12
def o64:=oE n28 n28 306 25 2 100 312
def o65:=ST n28 12 n32 297 105
def o66:=oQ y0 [vS n36 318,vS n37 319,vS n38 320] 0
def o67:=SO n29 13
def o68:=oE n29 n29 315 33 2 107 321
def o69:=ST n29 13 n32 297 112
def o70 (P:Params):Obj:=oD y3 [dE P n3 165 (vS n39 495),dE P n5 166 .none,dE P n6 167 .none,dE P n7 168 (.builtin y4),dE P n8 169 .none,dE P n9 170 (vR 6),dE P n10 171 (vR 4),dE P n11 173 (vS n1 172),dE P n12 174 .none,dE P n13 206 (vR 24),dE P n14 222 (vR 37),dE P n15 238 (vR 49),dE P n22 254 (vR 61),dE P n23 270 (vR 73),dE P n24 286 (vR 85),dE P n25 290 (vI 8 289),dE P n26 296 (vR 92),dE P n27 305 (vR 99),dE P n28 314 (vR 106),dE P n29 323 (vR 113),dE P n40 339 (vR 114),dE P n41 349 (vR 115),dE P n42 353 (vR 116),dE P n43 378 (vR 117),dE P n44 386 (vR 129),dE P n45 394 (vR 136),dE P n46 402 (vR 143),dE P n47 406 (vI 30 405),dE P n48 412 (vR 148),dE P n49 419 (vR 155),dE P n50 427 (vR 162),dE P n51 436 (vR 169),dE P n52 444 (vR 176),dE P n53 451 (vR 183),dE P n54 459 (vR 190),dE P n55 467 (vR 197),dE P n56 476 (vR 204),dE P n57 484 (vR 211),dE P n58 494 (vR 218),dE P n59 501 (vR 219),dE P n60 505 (vR 220),dE P n61 511 (vR 225),dE P n62 520 (vR 232),dE P n63 528 (vR 239),dE P n64 538 (vR 246),dE P n65 544 (vR 251)] 46
def o71:=oR [2,20,4,33,6,45,8,57,10,69,12,81,16,91,23,98,25,105,33,112,47,128,61,135,65,142,71,147,75,154,79,161,81,168,88,175,93,182,95,189,100,196,111,203,125,210,128,217,138,224,147,231,159,238,161,245,175,250]
def o72:=oQ y0 [vS n66 326,vS n67 327,vS n68 328,vS n69 329,vS n70 330,vS n71 331,vS n72 332,vS n73 333,vS n74 334,vS n75 335,vS n76 336,vS n77 337,vS n78 338] 0
def o73:=oQ y0 [vS n67 340,vS n68 341,vS n69 342,vS n70 343,vS n71 344,vS n72 345,vS n73 346,vS n74 347,vS n75 348] 0
def o74:=oQ y0 [vS n68 350,vS n69 351,vS n70 352] 0
def o75 (P:Params):Obj:=oD y3 [dE P n68 354 (vR 118),dE P n70 356 (vR 119),dE P n76 358 (vR 120),dE P n77 363 (vR 121),dE P n78 368 (vR 122)] 5
def o76:=oQ y0 [vS n79 355] 0
def o77:=oQ y0 [vS n80 357] 0
def o78:=oQ y0 [vS n81 359,vS n82 360,vS n83 361,vS n84 362] 0
def o79:=oQ y0 [vS n85 364,vS n86 365,vS n87 366,vS n88 367] 0
def o80:=oQ y0 [vS n36 369,vS n86 370,vS n37 371,vS n89 372] 0
def o81:=oQ y0 [vS n90 382,vS n91 383] 0
def o82:=SO n44 19
def o83:=oE n44 n44 379 47 2 123 384
def o84:=ST n44 19 n21 324 128
def o85:=oQ y0 [vS n90 390,vS n92 391] 0
def o86:=SO n45 20
def o87:=oE n45 n45 387 61 2 130 392
def o88:=ST n45 20 n21 324 135
def o89:=oQ y0 [vS n36 398,vS n37 399] 0
def o90:=SO n46 21
def o91:=oE n46 n46 395 65 2 137 400
def o92:=ST n46 21 n21 324 142
def o93:=SO n48 24
def o94 (P:Params):Obj:=oC y1 n48 407 n48 408 n1 409 71 2 0 0 3 144 true 181 145 .none .none .none (vR 146) 410 71 n1 411
def o95:=ST n48 24 n93 403 147
def o96:=oQ y0 [vS n94 416] 0
def o97:=SO n49 25
def o98:=oE n49 n49 413 75 1 149 417
def o99:=ST n49 25 n93 403 154
def NN:=oQ y0 [vS n36 423,vS n37 424] 0
def NM:=SO n50 26
def Lh:=oE n50 n50 420 79 2 156 425
def Lg:=ST n50 26 n93 403 161
def NL:=oQ y0 [vS n94 431,vS n34 432,vS n95 433] 0
def NK:=SO n51 27
def Le:=oE n51 n51 428 81 2 163 434
def Ld:=ST n51 27 n93 403 168
def NJ:=oQ y0 [vS n94 440,vS n96 441] 0
def NI:=SO n52 28
def Lc:=oE n52 n52 437 88 1 170 442
def Lb:=ST n52 28 n93 403 175
def NH:=oQ y0 [vS n33 448] 0
def NG:=SO n53 29
def La:=oE n53 n53 445 93 1 177 449
def K9:=ST n53 29 n93 403 182
def NF:=oQ y0 [vS n94 455,vS n96 456] 0
def ND:=SO n54 30
def K8:=oE n54 n54 452 95 1 184 457
def K7:=ST n54 30 n93 403 189
def NC:=oQ y0 [vS n91 463,vS n97 464] 0
def NB:=SO n55 31
def K6:=oE n55 n55 460 100 1 191 465
def K5:=ST n55 31 n93 403 196
def NA:=oQ y0 [vS n94 471,vS n98 472,vS n99 473] 0
def Nz:=SO n56 32
def K4:=oE n56 n56 468 111 1 198 474
def K3:=ST n56 32 n93 403 203
def Ny:=oQ y0 [vS n82 480,vS n94 481] 0
def Nw:=SO n57 33
def K2:=oE n57 n57 477 125 1 205 482
def K1:=ST n57 33 n93 403 210
def Nv:=oQ y0 [vS n94 488,vS n95 489,vS Sy 490,vS n91 491] 0
def Nu:=SO n58 34
def K0:=oE n58 n58 485 128 1 212 492
def KZ:=ST n58 34 n93 403 217
def KY:=oQ y0 [vS UB 497,vS UA 498,vS Uz 499,vS Uy 500] 0
def KW:=oQ y0 [vS Ux 502,vS Uw 503,vS Uv 504] 0
def Nt:=SO n61 38
def KU (P:Params):Obj:=oC y1 n61 506 n61 507 n1 508 138 1 0 0 3 221 true 181 222 .none .none .none (vR 223) 509 138 n1 510
def KS:=ST n61 38 n39 495 224
def Nr:=oQ y0 [vS Uu 515,vS n97 516,vS Sx 517] 0
def Nq:=SO n62 39
def KR:=oE n62 n62 512 147 1 226 518
def KQ:=ST n62 39 n39 495 231
def Np:=oQ y0 [vS Sy 524,vS Ut 525] 0
def Nn:=SO n63 40
def KP:=oE n63 n63 521 159 2 233 526
def KO:=ST n63 40 n39 495 238
def Nm:=oQ y0 [vS n94 532,vS Us 533,vS Ur 534,vS n92 535] 0
def Nl:=SO n64 41
def KN:=oE n64 n64 529 161 1 240 536
def KL:=ST n64 41 n39 495 245
def Nk:=SO n65 42
def KJ (P:Params):Obj:=oC y1 n65 539 n65 540 n1 541 175 1 0 0 3 247 true 181 248 .none .none .none (vR 249) 542 175 n1 543
def KI:=ST n65 42 n39 495 250
def TN (P:Params):Obj:=oD y3 [dE P n3 165 (vS j6 599),dE P n5 166 .none,dE P n6 167 .none,dE P n7 168 (.builtin y4),dE P n8 169 .none,dE P n9 170 (vR 6),dE P n10 171 (vR 4),dE P n11 173 (vS n1 172),dE P n12 174 .none,dE P n13 206 (vR 24),dE P n14 222 (vR 37),dE P n15 238 (vR 49),dE P n22 254 (vR 61),dE P n23 270 (vR 73),dE P n24 286 (vR 85),dE P n25 290 (vI 8 289),dE P n26 296 (vR 92),dE P n27 305 (vR 99),dE P n28 314 (vR 106),dE P n29 323 (vR 113),dE P n40 339 (vR 114),dE P n41 349 (vR 115),dE P n42 353 (vR 116),dE P n43 378 (vR 117),dE P n44 386 (vR 129),dE P n45 394 (vR 136),dE P n46 402 (vR 143),dE P n47 406 (vI 30 405),dE P n48 412 (vR 148),dE P n49 419 (vR 155),dE P n50 427 (vR 162),dE P n51 436 (vR 169),dE P n52 444 (vR 176),dE P n53 451 (vR 183),dE P n54 459 (vR 190),dE P n55 467 (vR 197),dE P n56 476 (vR 204),dE P n57 484 (vR 211),dE P n58 494 (vR 218),dE P n59 501 (vR 219),dE P n60 505 (vR 220),dE P n61 511 (vR 225),dE P n62 520 (vR 232),dE P n63 528 (vR 239),dE P n64 538 (vR 246),dE P n65 544 (vR 251),dE P FG 551 (vR 258),dE P FF 560 (vR 265),dE P FE 567 (vR 272),dE P FA 574 (vR 279),dE P Fz 580 (vR 284),dE P Fy 586 (vR 289),dE P Fw 592 (vR 294),dE P Fv 598 (vR 299),dE P Fu 608 (vR 306),dE P Ft 617 (vR 313),dE P Fq 623 (vR 318),dE P Fp 638 (vR 325),dE P Fn 645 (vR 332),dE P Fm 652 (vR 339),dE P Fk 660 (vR 346),dE P Fj 668 (vR 353),dE P Fi 682 (vR 360),dE P Fh 690 (vR 367),dE P Fg 698 (vR 374),dE P Ff 709 (vR 381),dE P Fe 720 (vR 388),dE P Fd 737 (vR 395),dE P Fc 751 (vR 402),dE P Fb 757 (vR 407),dE P E9 763 (vR 412),dE P E8 771 (vR 419)] 72
def TM:=oR [2,20,4,33,6,45,8,57,10,69,12,81,16,91,23,98,25,105,33,112,47,128,61,135,65,142,71,147,75,154,79,161,81,168,88,175,93,182,95,189,100,196,111,203,125,210,128,217,138,224,147,231,159,238,161,245,175,250,182,257,186,264,193,271,197,278,201,283,205,288,211,293,214,298,222,305,226,312,229,317,233,324,242,331,244,338,247,345,251,352,262,359,282,366,287,373,300,380,310,387,324,394,345,401,353,406,356,411,359,418]
def Qz:=oQ y0 [vS n94 548] 0
def Qy:=SO FG 43
def Nj:=oE FG FG 545 182 1 252 549
def Ni:=ST FG 43 n39 495 257
def Qx:=oQ y0 [vS Sx 555,vS n94 556,vS Uq 557] 0
def Qw:=SO FF 44
def Nh:=oE FF FF 552 186 2 259 558
def Ng:=ST FF 44 n39 495 264
def Qv:=oQ y0 [vS n94 564] 0
def Qu:=SO FE 45
def Nf:=oE FE FE 561 193 1 266 565
def Nd:=ST FE 45 n39 495 271
def Qt:=oQ y0 [vS n94 571] 0
def Qs:=SO FA 46
def Nc:=oE FA FA 568 197 1 273 572
def Nb:=ST FA 46 n39 495 278
def Qr:=SO Fz 47
def Na (P:Params):Obj:=oC y1 Fz 575 Fz 576 n1 577 201 1 0 0 3 280 true 181 281 .none .none .none (vR 282) 578 201 n1 579
def M9:=ST Fz 47 n39 495 283
def Qq:=SO Fy 48
def M8 (P:Params):Obj:=oC y1 Fy 581 Fy 582 n1 583 205 1 0 0 3 285 true 181 286 .none .none .none (vR 287) 584 205 n1 585
def M7:=ST Fy 48 n39 495 288
def Qp:=SO Fw 49
def M6 (P:Params):Obj:=oC y1 Fw 587 Fw 588 n1 589 211 1 0 0 3 290 true 181 291 .none .none .none (vR 292) 590 211 n1 591
def M5:=ST Fw 49 n39 495 293
def Qo:=SO Fv 50
def M4 (P:Params):Obj:=oC y1 Fv 593 Fv 594 n1 595 214 1 0 0 3 295 true 181 296 .none .none .none (vR 297) 596 214 n1 597
def M3:=ST Fv 50 n39 495 298
def Qm:=oQ y0 [vS QK 604,vS Lm 605] 0
def Ql:=SO Fu 52
def M1:=oE Fu Fu 601 222 2 300 606
def M0:=ST Fu 52 j6 599 305
def Qk:=oQ y0 [vS IX 612,vS Ll 613,vS Sv 614] 0
def Qj:=SO Ft 53
def MZ:=oE Ft Ft 609 226 2 307 615
def MY:=ST Ft 53 j6 599 312
def Qi:=SO Fq 54
def MX (P:Params):Obj:=oC y1 Fq 618 Fq 619 n1 620 229 2 0 0 3 314 true 181 315 .none .none .none (vR 316) 621 229 n1 622
def MW:=ST Fq 54 j6 599 317
def Qh:=oQ y0 [vS QK 627,vS QJ 628,vS Up 629,vS Su 630,vS Lk 631,vS Uo 632,vS Ss 633,vS Um 634,vS Ul 635] 0
def Qg:=SO Fp 55
def MV:=oE Fp Fp 624 233 2 319 636
def MU:=ST Fp 55 j6 599 324
def Qf:=oQ y0 [vS Uk 642] 0
def Qe:=SO Fn 56
def Qd:=oE Fn Fn 639 242 1 326 643
def Qc:=ST Fn 56 j6 599 331
def Qb:=oQ y0 [vS Uj 649] 0
def Qa:=SO Fm 57
def MT:=oE Fm Fm 646 244 0 333 650
def MS:=ST Fm 57 j6 599 338
def P8:=oQ y0 [vS Ui 656,vS Uh 657] 0
def P7:=SO Fk 58
def MR:=oE Fk Fk 653 247 2 340 658
def MQ:=ST Fk 58 j6 599 345
def P6:=oQ y0 [vS Ug 664,vS vm 665] 0
def P5:=SO Fj 59
def MP:=oE Fj Fj 661 251 1 347 666
def MO:=ST Fj 59 j6 599 352
def P4:=oQ y0 [vS Ue 672,vS IX 673,vS QI 674,vS Ll 675,vS Lk 676,vS QH 677,vS QG 678,vS Ud 679] 0
def P2:=SO Fi 60
def MN:=oE Fi Fi 669 262 4 354 680
def MM:=ST Fi 60 j6 599 359
def P1:=oQ y0 [vS QF 686,vS vm 687] 0
def P0:=SO Fh 61
def ML:=oE Fh Fh 683 282 1 361 688
def MK:=ST Fh 61 j6 599 366
def PZ:=oQ y0 [vS Sr 694,vS vm 695] 0
def PY:=SO Fg 62
def MJ:=oE Fg Fg 691 287 1 368 696
def MI:=ST Fg 62 j6 599 373
def PX:=oQ y0 [vS Sq 702,vS vm 703,vS Lm 704,vS Uc 705,vS Sr 706] 0
def PV:=SO Ff 63
def MH:=oE Ff Ff 699 300 1 375 707
def MG:=ST Ff 63 j6 599 380
def PU:=oQ y0 [vS Ub 713,vS vm 714,vS Lm 715,vS Sq 716,vS QF 717] 0
def PR:=SO Fe 64
def MF:=oE Fe Fe 710 310 1 382 718
def ME:=ST Fe 64 j6 599 387
def PQ:=oQ y0 [vS IX 724,vS Ll 725,vS QE 726,vS So 727,vS Lk 728,vS Ua 729,vS Sn 730,vS QI 731,vS QH 732,vS Sv 733,vS T9 734] 0
def PN:=SO Fd 65
def MD:=oE Fd Fd 721 324 4 389 735
def MC:=ST Fd 65 j6 599 394
def PM:=oQ y0 [vS IX 741,vS Ll 742,vS QE 743,vS T8 744,vS So 745,vS T7 746,vS Lm 747,vS T6 748] 0
def PL:=SO Fc 66
def MB:=oE Fc Fc 738 345 5 396 749
def MA:=ST Fc 66 j6 599 401
def PK:=SO Fb 67
def Mz (P:Params):Obj:=oC y1 Fb 752 Fb 753 n1 754 353 1 0 0 3 403 true 181 404 .none .none .none (vR 405) 755 353 n1 756
def Mx:=ST Fb 67 j6 599 406
def PJ:=SO E9 68
def Mw (P:Params):Obj:=oC y1 E9 758 E9 759 n1 760 356 1 0 0 3 408 true 181 409 .none .none .none (vR 410) 761 356 n1 762
def Mv:=ST E9 68 j6 599 411
def PD:=oQ y0 [vS vm 767,vS QD 768] 0
def PB:=SO E8 69
def Mu:=oE E8 E8 764 359 1 413 769
def Ms:=ST E8 69 j6 599 418
def Pz (P:Params):Obj:=oD y3 [dE P n3 165 (vS j6 599),dE P n5 166 .none,dE P n6 167 .none,dE P n7 168 (.builtin y4),dE P n8 169 .none,dE P n9 170 (vR 6),dE P n10 171 (vR 4),dE P n11 173 (vS n1 172),dE P n12 174 .none,dE P n13 206 (vR 24),dE P n14 222 (vR 37),dE P n15 238 (vR 49),dE P n22 254 (vR 61),dE P n23 270 (vR 73),dE P n24 286 (vR 85),dE P n25 290 (vI 8 289),dE P n26 296 (vR 92),dE P n27 305 (vR 99),dE P n28 314 (vR 106),dE P n29 323 (vR 113),dE P n40 339 (vR 114),dE P n41 349 (vR 115),dE P n42 353 (vR 116),dE P n43 378 (vR 117),dE P n44 386 (vR 129),dE P n45 394 (vR 136),dE P n46 402 (vR 143),dE P n47 406 (vI 30 405),dE P n48 412 (vR 148),dE P n49 419 (vR 155),dE P n50 427 (vR 162),dE P n51 436 (vR 169),dE P n52 444 (vR 176),dE P n53 451 (vR 183),dE P n54 459 (vR 190),dE P n55 467 (vR 197),dE P n56 476 (vR 204),dE P n57 484 (vR 211),dE P n58 494 (vR 218),dE P n59 501 (vR 219),dE P n60 505 (vR 220),dE P n61 511 (vR 225),dE P n62 520 (vR 232),dE P n63 528 (vR 239),dE P n64 538 (vR 246),dE P n65 544 (vR 251),dE P FG 551 (vR 258),dE P FF 560 (vR 265),dE P FE 567 (vR 272),dE P FA 574 (vR 279),dE P Fz 580 (vR 284),dE P Fy 586 (vR 289),dE P Fw 592 (vR 294),dE P Fv 598 (vR 299),dE P Fu 608 (vR 306),dE P Ft 617 (vR 313),dE P Fq 623 (vR 318),dE P Fp 638 (vR 325),dE P Fn 645 (vR 332),dE P Fm 652 (vR 339),dE P Fk 660 (vR 346),dE P Fj 668 (vR 353),dE P Fi 682 (vR 360),dE P Fh 690 (vR 367),dE P Fg 698 (vR 374),dE P Ff 709 (vR 381),dE P Fe 720 (vR 388),dE P Fd 737 (vR 395),dE P Fc 751 (vR 402),dE P Fb 757 (vR 407),dE P E9 763 (vR 412),dE P E8 771 (vR 419),dE P Hw 781 (vR 426),dE P Hv 789 (vR 433),dE P Hu 798 (vR 440),dE P Ht 809 (vR 447),dE P Hr 818 (vR 454),dE P Hq 829 (vR 461),dE P Ho 837 (vR 468),dE P Hn 848 (vR 475),dE P Hm 854 (vR 480),dE P Hl 866 (vR 487),dE P Hk 881 (vR 494)] 83
def Sj:=oR [2,20,4,33,6,45,8,57,10,69,12,81,16,91,23,98,25,105,33,112,47,128,61,135,65,142,71,147,75,154,79,161,81,168,88,175,93,182,95,189,100,196,111,203,125,210,128,217,138,224,147,231,159,238,161,245,175,250,182,257,186,264,193,271,197,278,201,283,205,288,211,293,214,298,222,305,226,312,229,317,233,324,242,331,244,338,247,345,251,352,262,359,282,366,287,373,300,380,310,387,324,394,345,401,353,406,356,411,359,418,364,425,373,432,382,439,398,446,417,453,427,460,443,467,453,474,473,479,487,486,503,493]
def Si:=oQ y0 [vS vm 775,vS QD 776,vS Su 777,vS QI 778] 0
def Sh:=SO Hw 70
def Py:=oE Hw Hw 772 364 1 420 779
def Px:=ST Hw 70 j6 599 425
def Sg:=oQ y0 [vS vm 785,vS QG 786] 0
def Sf:=SO Hv 71
def Pw:=oE Hv Hv 782 373 1 427 787
def Pu:=ST Hv 71 j6 599 432
def Sd:=oQ y0 [vS vm 793,vS QG 794,vS T4 795] 0
def Sa:=SO Hu 72
def Pt:=oE Hu Hu 790 382 1 434 796
def Pr:=ST Hu 72 j6 599 439
def R9:=oQ y0 [vS vm 802,vS QD 803,vS Ss 804,vS Sm 805,vS T3 806] 0
def R8:=SO Ht 73
def Pq:=oE Ht Ht 799 398 1 441 807
def Pp:=ST Ht 73 j6 599 446
def R7:=oQ y0 [vS vm 813,vS T2 814,vS QH 815] 0
def R6:=SO Hr 74
def Po:=oE Hr Hr 810 417 1 448 816
def Pn:=ST Hr 74 j6 599 453
def R5:=oQ y0 [vS vm 822,vS QJ 823,vS Sm 824,vS T1 825,vS QF 826] 0
def R4:=SO Hq 75
def Pm:=oE Hq Hq 819 427 1 455 827
def Pl:=ST Hq 75 j6 599 460
def R3:=oQ y0 [vS QC 833,vS vm 834] 0
def R1:=SO Ho 76
def Pk:=oE Ho Ho 830 443 2 462 835
def Pj:=ST Ho 76 j6 599 467
def R0:=oQ y0 [vS QC 841,vS vm 842,vS TZ 843,vS TY 844,vS TX 845] 0
def RZ:=SO Hn 77
def Ph:=oE Hn Hn 838 453 2 469 846
def Pg:=ST Hn 77 j6 599 474
def RY:=SO Hm 78
def Pf (P:Params):Obj:=oC y1 Hm 849 Hm 850 n1 851 473 4 0 0 3 476 true 181 477 .none .none .none (vR 478) 852 473 n1 853
def Pe:=ST Hm 78 j6 599 479
def RW:=oQ y0 [vS vm 858,vS IX 859,vS Ll 860,vS TV 861,vS Lk 862,vS QJ 863] 0
def RV:=SO Hl 79
def Pd:=oE Hl Hl 855 487 3 481 864
def Pc:=ST Hl 79 j6 599 486
def RU:=oQ y0 [vS QK 870,vS QE 871,vS Lm 872,vS IX 873,vS Lk 874,vS QC 875,vS vm 876,vS Sn 877,vS TU 878] 0
def RQ:=SO Hk 80
def Pb:=oE Hk Hk 867 503 1 488 879
def O9:=ST Hk 80 j6 599 493
def lf0:Life:=⟨[],[],[],0,[],[],false,⟨[]⟩,[],0,false,false,false,(.ofNat 0),[(.ofNat 2000),(.ofNat 10),(.ofNat 10)],false,0,true,[],[],0,false⟩
def hcd:Value:=(vR 13)
def hq:Pos:=⟨0,0,0,0⟩
def hE:Env:={ scope:=hp.main.scope,locals:=mainNs,globals:=mainNs,cells:=[],code:=hcd,frame:=some 14 }
def hC:Code:=.body (behindTheImports hp) hE
def hB:List Frame:=[topFrame hq]
def hAn:Option Value:=(some (vR 6))
def hA (P:Params):Heap:=⟨⟨(boot_o_0 P::boot_o_1 P::boot_o_2 P::boot_o_3 P::boot_o_4 P::boot_o_5 P::boot_o_6 P::boot_o_7 P::boot_o_8 P::boot_o_9 P::boot_o_10 P::o0 P::o1 P::o2 P::o3 P::[])⟩,lf0⟩
def U8:=(tL o0)
def U9:=(tL o1)
def UF:=(tN o1 U8 U8)
def UV:=(tN o0 U8 tZ)
def UX:=(tN o1 U9 tZ)
def UY:=(tN o0 U9 tZ)
def UZ:=(tN o1 U9 U8)
def tr1:=(tN boot_o_0 (tN boot_o_1 (tN boot_o_3 (tL boot_o_7) U8) (tN boot_o_5 (tL boot_o_9) (tL o2))) (tN boot_o_2 (tN boot_o_4 (tL boot_o_8) U9) (tN boot_o_6 (tL boot_o_10) (tL o3))))
def S1 (w:World) (os:OsState):SharedT:=⟨tr1 w.params,15,lf0,⟨[]⟩,⟨0,0,0,0⟩,187,os⟩
def tr2:=(tN boot_o_0 (tN boot_o_1 (tN o4 (tN boot_o_7 (tN o6 U8 U8) (tN o11 (tL o23) tZ)) (tN o0 (tN o1 U8 (tL o30)) (tN o15 U8 tZ))) (tN boot_o_5 (tN boot_o_9 (tN o8 (tL o18) (tL o28)) (tN o13 (tL o7) tZ)) (tN o2 (tN o10 (tL o21) tZ) (tN o7 (tL o25) tZ)))) (tN boot_o_2 (tN boot_o_4 (tN boot_o_8 (tN o7 U9 (tL o27)) (tN o12 (tL o16) tZ)) (tN o5 (tN o9 (tL o20) tZ) (tN o16 U9 tZ))) (tN boot_o_6 (tN boot_o_10 (tN o0 (tL o19) (tL o29)) (tN o14 (tL o24) tZ)) (tN o3 (tN o0 (tL o22) tZ) (tN o17 (tL o26) tZ)))))
def S2 (w:World) (os:OsState):SharedT:=⟨tr2 w.params,52,lf0,⟨[]⟩,⟨0,0,0,0⟩,239,os⟩
def tr3:=(tN boot_o_0 (tN boot_o_1 (tN o31 (tN boot_o_7 (tN o6 (tN o0 (tL o40) (tL o58)) (tN o0 U8 (tL o67))) (tN o11 (tN o23 U8 U8) (tN o0 (tL o54) tZ))) (tN o0 (tN o1 (tN o0 U8 (tL o61)) (tN o30 U8 tZ)) (tN o15 (tN o0 (tL o47) U8) (tN o0 (tL o56) tZ)))) (tN boot_o_5 (tN boot_o_9 (tN o8 (tN o18 (tL o7) (tL o59)) (tN o28 (tL o49) (tL o69))) (tN o13 (tN o7 (tL o45) (tL o64)) (tN o35 U9 tZ))) (tN o2 (tN o10 (tN o21 (tL o42) U9) (tN o7 (tL o52) tZ)) (tN o7 (tN o25 (tL o7) (tL o66)) (tN o38 U8 tZ))))) (tN boot_o_2 (tN boot_o_4 (tN boot_o_8 (tN o7 (tN o1 (tL o16) U8) (tN o27 U9 (tL o68))) (tN o33 (tN o16 (tL o44) (tL o63)) (tN o1 U8 tZ))) (tN o32 (tN o9 (tN o20 U9 U8) (tN o16 (tL o51) tZ)) (tN o16 (tN o1 (tL o16) U9) (tN o37 (tL o57) tZ)))) (tN boot_o_6 (tN boot_o_10 (tN o0 (tN o19 (tL o41) (tL o60)) (tN o29 (tL o50) tZ)) (tN o14 (tN o24 (tL o46) (tL o65)) (tN o36 (tL o55) tZ))) (tN o3 (tN o0 (tN o22 (tL o43) (tL o62)) (tN o34 (tL o53) tZ)) (tN o17 (tN o26 (tL o48) U8) (tN o39 U9 tZ))))))
def S3 (w:World) (os:OsState):SharedT:=⟨tr3 w.params,114,lf0,⟨[]⟩,⟨0,0,0,0⟩,326,os⟩
def tr4:=(tN boot_o_0 (tN boot_o_1 (tN o70 (tN boot_o_7 (tN o6 (tN o0 (tN o40 (tL o82) U8) (tN o58 U8 (tL Nt))) (tN o0 (tN o0 (tL o92) (tL Ny)) (tN o67 (tL Lc) (tL KO)))) (tN o11 (tN o23 (tN o0 (tL o87) U9) (tN o0 (tL NK) (tL KR))) (tN o0 (tN o54 (tL o96) U8) (tN o77 (tL K9) U8)))) (tN o0 (tN o1 (tN o0 (tN o0 U9 (tL NB)) (tN o61 U8 U9)) (tN o30 (tN o0 (tL o94) (tL K1)) (tN o73 (tL NH) U8))) (tN o15 (tN o0 (tN o47 (tL o89) (tL K4)) (tN o0 U9 (tL Np))) (tN o0 (tN o56 (tL o99) (tL KY)) (tN o0 U8 (tL KI)))))) (tN boot_o_5 (tN boot_o_9 (tN o8 (tN o18 (tN o7 (tL o84) (tL NC)) (tN o59 (tL Lh) (tL KS))) (tN o28 (tN o49 U9 (tL Nw)) (tN o69 U8 U9))) (tN o13 (tN o7 (tN o45 U8 U8) (tN o64 (tL Ld) U8)) (tN o35 (tN o1 (tL o97) (tL K0)) (tN o79 U9 (tL Nk))))) (tN o2 (tN o10 (tN o21 (tN o42 U8 (tL K5)) (tN o1 (tL NL) U8)) (tN o7 (tN o52 U8 U9) (tN o75 (tL NG) (tL KN)))) (tN o7 (tN o25 (tN o7 (tL o90) U8) (tN o66 U8 (tL Nn))) (tN o38 (tN o0 U9 U8) (tN o81 (tL K8) tZ)))))) (tN boot_o_2 (tN boot_o_4 (tN boot_o_8 (tN o7 (tN o1 (tN o16 (tL o83) U9) (tN o0 (tL NM) (tL KU))) (tN o27 UF (tN o68 (tL Lb) U8))) (tN o33 (tN o16 (tN o44 (tL o88) (tL NA)) (tN o63 (tL Le) (tL KQ))) (tN o1 (tN o0 U8 (tL Nu)) (tN o78 U8 U9)))) (tN o71 (tN o9 (tN o20 (tN o1 (tL o85) (tL K6)) (tN o0 U9 (tL Nr))) (tN o16 (tN o51 (tL o95) U8) (tN o74 U8 (tL Nl)))) (tN o16 (tN o1 (tN o16 U8 (tL K3)) (tN o1 (tL NJ) U8)) (tN o37 (tN o57 U8 (tL KW)) (tN o1 (tL ND) tZ))))) (tN boot_o_6 (tN boot_o_10 (tN o0 (tN o19 (tN o41 U8 U8) (tN o60 (tL Lg) U8)) (tN o29 (tN o50 (tL o93) (tL K2)) (tN o72 U9 (tL Nm)))) (tN o14 (tN o24 (tN o46 U9 (tL Nz)) (tN o65 U8 U9)) (tN o36 (tN o55 (tL o98) (tL KZ)) (tN o80 (tL NF) (tL KJ))))) (tN o3 (tN o0 (tN o22 (tN o43 (tL o86) U8) (tN o62 U8 (tL Nq))) (tN o34 (tN o53 U9 (tL Nv)) (tN o76 (tL La) (tL KL)))) (tN o17 (tN o26 (tN o48 (tL o91) U9) (tN o0 (tL NI) (tL KP))) (tN o39 (tN o1 (tL NN) U9) (tN o0 (tL K7) tZ)))))))
def S4 (w:World) (os:OsState):SharedT:=⟨tr4 w.params,252,lf0,⟨[]⟩,⟨0,0,0,0⟩,545,os⟩
def tr5:=(tN boot_o_0 (tN boot_o_1 (tN TN (tN boot_o_7 (tN o6 (tN o0 (tN o40 (tN o82 U8 U9) UV) (tN o58 (tN o0 (tL Qq) (tL PD)) (tN Nt (tL P5) tZ))) (tN o0 (tN o0 (tN o92 (tL Nf) U8) (tN Ny (tL Qb) tZ)) (tN o67 (tN Lc U8 tZ) (tN KO (tL MK) tZ)))) (tN o11 (tN o23 (tN o0 (tN o87 (tL Qw) (tL PQ)) UX) (tN o0 (tN NK U8 tZ) (tN KR (tL MN) tZ))) (tN o0 (tN o54 (tN o96 (tL Nb) (tL Mx)) UV) (tN o77 (tN K9 (tL Qj) tZ) UV)))) (tN o0 (tN o1 (tN o0 (tN o0 (tN o1 U8 (tL MF)) (tN NB (tL Qg) tZ)) (tN o61 (tN o0 U9 (tL Ms)) UX)) (tN o30 (tN o0 (tN o94 (tL Qt) U8) (tN K1 (tL MS) tZ)) (tN o73 (tN NH U8 tZ) UV))) (tN o15 (tN o0 (tN o47 (tN o89 U9 (tL MC)) (tN K4 (tL Qd) tZ)) (tN o0 (tN o1 (tL M3) tZ) (tN Np (tL P1) tZ))) (tN o0 (tN o56 (tN o99 (tL Na) (tL Mw)) (tN KY U8 tZ)) (tN o0 UY (tN KI (tL PV) tZ)))))) (tN boot_o_5 (tN boot_o_9 (tN o8 (tN o18 (tN o7 (tN o84 (tL Nj) U8) (tN NC (tL Qh) tZ)) (tN o59 (tN Lh (tL M7) (tL PB)) (tN KS (tL MO) tZ))) (tN o28 (tN o49 (tN o1 U8 (tL MB)) (tN Nw (tL Qa) tZ)) (tN o69 (tN o0 (tL M1) tZ) UX))) (tN o13 (tN o7 (tN o45 (tN o0 (tL Ng) (tL PN)) UV) (tN o64 (tN Ld (tL Qo) tZ) UV)) (tN o35 (tN o1 (tN o97 U9 U9) (tN K0 (tL MR) tZ)) (tN o79 (tN o1 (tL MY) tZ) (tN Nk (tL PX) tZ))))) (tN o2 (tN o10 (tN o21 (tN o42 (tN o0 (tL Qx) U8) (tN K5 (tL MU) tZ)) (tN o1 (tN NL (tL M6) tZ) UV)) (tN o7 (tN o52 (tN o0 (tL Qs) (tL PK)) UX) (tN o75 (tN NG (tL Qk) tZ) (tN KN (tL MJ) tZ)))) (tN o7 (tN o25 (tN o7 (tN o90 U8 U9) UV) (tN o66 UY (tN Nn (tL P0) tZ))) (tN o38 (tN o0 UF (tN o0 (tL P6) tZ)) (tN o81 (tN K8 (tL MX) tZ) (tN o1 (tL MG) tZ))))))) (tN boot_o_2 (tN boot_o_4 (tN boot_o_8 (tN o7 (tN o1 (tN o16 (tN o83 (tL Qy) (tL PU)) UX) (tN o0 (tN NM (tL M8) U8) (tN KU (tL MP) tZ))) (tN o27 (tN o1 (tN o0 (tL Nd) (tL PL)) UV) (tN o68 (tN Lb (tL Ql) tZ) UV))) (tN o33 (tN o16 (tN o44 (tN o88 (tL Nh) U8) (tN NA (tL Qf) tZ)) (tN o63 (tN Le U9 tZ) (tN KQ (tL MM) tZ))) (tN o1 (tN o0 (tN o0 U8 U8) (tN Nu (tL P7) tZ)) (tN o78 (tN o0 (tL MZ) tZ) UX)))) (tN TM (tN o9 (tN o20 (tN o1 (tN o85 U9 (tL ME)) (tN K6 (tL MV) tZ)) (tN o0 (tN o1 (tL Qp) tZ) (tN Nr (tL P4) tZ))) (tN o16 (tN o51 (tN o95 U8 U9) UV) (tN o74 UY (tN Nl (tL PY) tZ)))) (tN o16 (tN o1 (tN o16 (tN o0 (tL Qv) U8) (tN K3 (tL Qc) tZ)) (tN o1 (tN NJ U8 tZ) UV)) (tN o37 (tN o57 (tN o0 (tL M9) (tL Mv)) (tN KW U9 tZ)) (tN o1 (tN ND (tL Qi) tZ) (tN o0 (tL MH) tZ)))))) (tN boot_o_6 (tN boot_o_10 (tN o0 (tN o19 (tN o41 (tN o0 (tL Ni) (tL PR)) UV) (tN o60 (tN Lg U8 (tL Mu)) UV)) (tN o29 (tN o50 (tN o93 U9 (tL MA)) (tN K2 (tL MT) tZ)) (tN o72 (tN o1 (tL M0) tZ) (tN Nm (tL PZ) tZ)))) (tN o14 (tN o24 (tN o46 (tN o1 U8 (tL MD)) (tN Nz (tL Qe) tZ)) (tN o65 (tN o0 (tL M4) tZ) UX)) (tN o36 (tN o55 (tN o98 (tL Qr) (tL PJ)) (tN KZ (tL MQ) tZ)) (tN o80 (tN NF U8 tZ) (tN KJ U8 tZ))))) (tN o3 (tN o0 (tN o22 (tN o43 (tN o86 U8 U9) UV) (tN o62 (tN o0 (tL M5) tZ) (tN Nq (tL P2) tZ))) (tN o34 (tN o53 (tN o1 (tL Nc) (tL Mz)) (tN Nv (tL P8) tZ)) (tN o76 (tN La U8 tZ) (tN KL (tL MI) tZ)))) (tN o17 (tN o26 (tN o48 (tN o91 (tL Qu) (tL PM)) UX) (tN o0 (tN NI (tL Qm) tZ) (tN KP (tL ML) tZ))) (tN o39 (tN o1 (tN NN U9 U9) (tN o1 U8 tZ)) (tN o0 (tN K7 (tL MW) tZ) (tN Qz U8 tZ))))))))
def S5 (w:World) (os:OsState):SharedT:=⟨tr5 w.params,420,lf0,⟨[]⟩,⟨0,0,0,0⟩,772,os⟩
def tr6:=(tN boot_o_0 (tN boot_o_1 (tN Pz (tN boot_o_7 (tN o6 (tN o0 (tN o40 (tN o82 U8 U9) (tN o0 U8 (tL Pp))) (tN o58 (tN o0 (tL Qq) (tL PD)) (tN Nt (tL P5) (tL Pf)))) (tN o0 (tN o0 (tN o92 (tL Nf) U8) (tN Ny (tL Qb) U9)) (tN o67 (tN Lc U8 (tL Sf)) (tN KO (tL MK) tZ)))) (tN o11 (tN o23 (tN o0 (tN o87 (tL Qw) (tL PQ)) UZ) (tN o0 (tN NK U8 U8) (tN KR (tL MN) (tL Pc)))) (tN o0 (tN o54 (tN o96 (tL Nb) (tL Mx)) (tN o0 U8 (tL R0))) (tN o77 (tN K9 (tL Qj) (tL Pt)) UV)))) (tN o0 (tN o1 (tN o0 (tN o0 (tN o1 U8 (tL MF)) (tN NB (tL Qg) U8)) (tN o61 (tN o0 U9 (tL Ms)) (tN o1 U9 (tL RW)))) (tN o30 (tN o0 (tN o94 (tL Qt) U8) (tN K1 (tL MS) (tL Pk))) (tN o73 (tN NH U8 U9) UV))) (tN o15 (tN o0 (tN o47 (tN o89 U9 (tL MC)) (tN K4 (tL Qd) (tL R4))) (tN o0 (tN o1 (tL M3) U8) (tN Np (tL P1) U8))) (tN o0 (tN o56 (tN o99 (tL Na) (tL Mw)) (tN KY U8 (tL Pg))) (tN o0 (tN o0 U9 (tL R9)) (tN KI (tL PV) tZ)))))) (tN boot_o_5 (tN boot_o_9 (tN o8 (tN o18 (tN o7 (tN o84 (tL Nj) U8) (tN NC (tL Qh) U9)) (tN o59 (tN Lh (tL M7) (tL PB)) (tN KS (tL MO) U8))) (tN o28 (tN o49 (tN o1 U8 (tL MB)) (tN Nw (tL Qa) U8)) (tN o69 (tN o0 (tL M1) (tL Pu)) UX))) (tN o13 (tN o7 (tN o45 (tN o0 (tL Ng) (tL PN)) (tN o0 U8 (tL R5))) (tN o64 (tN Ld (tL Qo) (tL Py)) (tN o0 U8 U9))) (tN o35 (tN o1 (tN o97 U9 U9) (tN K0 (tL MR) (tL RZ))) (tN o79 (tN o1 (tL MY) U8) (tN Nk (tL PX) tZ))))) (tN o2 (tN o10 (tN o21 (tN o42 (tN o0 (tL Qx) U8) (tN K5 (tL MU) (tL Po))) (tN o1 (tN NL (tL M6) U9) (tN o0 U8 (tL RV)))) (tN o7 (tN o52 (tN o0 (tL Qs) (tL PK)) UZ) (tN o75 (tN NG (tL Qk) U8) (tN KN (tL MJ) tZ)))) (tN o7 (tN o25 (tN o7 (tN o90 U8 U9) (tN o0 U8 (tL Pl))) (tN o66 (tN o0 U9 (tL Sg)) (tN Nn (tL P0) (tL Pb)))) (tN o38 (tN o0 UF (tN o0 (tL P6) U9)) (tN o81 (tN K8 (tL MX) (tL R8)) (tN o1 (tL MG) tZ))))))) (tN boot_o_2 (tN boot_o_4 (tN boot_o_8 (tN o7 (tN o1 (tN o16 (tN o83 (tL Qy) (tL PU)) UZ) (tN o0 (tN NM (tL M8) U8) (tN KU (tL MP) (tL Pe)))) (tN o27 (tN o1 (tN o0 (tL Nd) (tL PL)) (tN o0 U8 (tL R3))) (tN o68 (tN Lb (tL Ql) (tL Pw)) UV))) (tN o33 (tN o16 (tN o44 (tN o88 (tL Nh) U8) (tN NA (tL Qf) U9)) (tN o63 (tN Le U9 (tL Sh)) (tN KQ (tL MM) U8))) (tN o1 (tN o0 (tN o0 U8 U8) (tN Nu (tL P7) U8)) (tN o78 (tN o0 (tL MZ) (tL Pr)) UX)))) (tN Sj (tN o9 (tN o20 (tN o1 (tN o85 U9 (tL ME)) (tN K6 (tL MV) (tL R6))) (tN o0 (tN o1 (tL Qp) U8) (tN Nr (tL P4) U8))) (tN o16 (tN o51 (tN o95 U8 U9) (tN o0 U8 (tL Pj))) (tN o74 (tN o0 U9 (tL Sd)) (tN Nl (tL PY) tZ)))) (tN o16 (tN o1 (tN o16 (tN o0 (tL Qv) U8) (tN K3 (tL Qc) (tL Pm))) (tN o1 (tN NJ U8 U9) (tN o0 U8 (tL RQ)))) (tN o37 (tN o57 (tN o0 (tL M9) (tL Mv)) (tN KW U9 U8)) (tN o1 (tN ND (tL Qi) U8) (tN o0 (tL MH) tZ)))))) (tN boot_o_6 (tN boot_o_10 (tN o0 (tN o19 (tN o41 (tN o0 (tL Ni) (tL PR)) (tN o0 U8 (tL R7))) (tN o60 (tN Lg U8 (tL Mu)) (tN o0 U8 U9))) (tN o29 (tN o50 (tN o93 U9 (tL MA)) (tN K2 (tL MT) (tL R1))) (tN o72 (tN o1 (tL M0) U8) (tN Nm (tL PZ) tZ)))) (tN o14 (tN o24 (tN o46 (tN o1 U8 (tL MD)) (tN Nz (tL Qe) U8)) (tN o65 (tN o0 (tL M4) (tL Px)) (tN o1 U9 (tL RU)))) (tN o36 (tN o55 (tN o98 (tL Qr) (tL PJ)) (tN KZ (tL MQ) (tL Ph))) (tN o80 (tN NF U8 U9) (tN KJ U8 tZ))))) (tN o3 (tN o0 (tN o22 (tN o43 (tN o86 U8 U9) (tN o0 U8 (tL Pn))) (tN o62 (tN o0 (tL M5) (tL Si)) (tN Nq (tL P2) (tL Pd)))) (tN o34 (tN o53 (tN o1 (tL Nc) (tL Mz)) (tN Nv (tL P8) U9)) (tN o76 (tN La U8 (tL Sa)) (tN KL (tL MI) tZ)))) (tN o17 (tN o26 (tN o48 (tN o91 (tL Qu) (tL PM)) UZ) (tN o0 (tN NI (tL Qm) U8) (tN KP (tL ML) (tL O9)))) (tN o39 (tN o1 (tN NN U9 U9) (tN o1 U8 (tL RY))) (tN o0 (tN K7 (tL MW) (tL Pq)) (tN Qz U8 tZ))))))))
def S6 (w:World) (os:OsState):SharedT:=⟨tr6 w.params,495,lf0,⟨[]⟩,⟨0,0,0,0⟩,882,os⟩
def hF (P:Params):Heap:=⟨⟨(boot_o_0 P::boot_o_1 P::boot_o_2 P::Pz P::boot_o_4 P::boot_o_5 P::boot_o_6 P::boot_o_7 P::boot_o_8 P::boot_o_9 P::boot_o_10 P::o0 P::Sj P::o2 P::o3 P::o6 P::o7 P::o8 P::o0 P::o1 P::o9 P::o10 P::o0 P::o11 P::o33 P::o13 P::o14 P::o15 P::o16 P::o7 P::o17 P::o0 P::o1 P::o18 P::o19 P::o0 P::o20 P::o21 P::o22 P::o23 P::o16 P::o7 P::o24 P::o0 P::o1 P::o25 P::o26 P::o0 P::o27 P::o28 P::o29 P::o30 P::o16 P::o7 P::o34 P::o0 P::o1 P::o35 P::o36 P::o0 P::o37 P::o38 P::o39 P::o40 P::o16 P::o7 P::o41 P::o0 P::o1 P::o42 P::o43 P::o0 P::o44 P::o45 P::o46 P::o47 P::o16 P::o7 P::o48 P::o0 P::o1 P::o49 P::o50 P::o0 P::o51 P::o52 P::o53 P::o54 P::o0 P::o1 P::o55 P::o56 P::o57 P::o0 P::o1 P::o58 P::o0 P::o59 P::o60 P::o61 P::o0 P::o1 P::o62 P::o0 P::o63 P::o64 P::o65 P::o0 P::o1 P::o66 P::o0 P::o67 P::o68 P::o69 P::o72 P::o73 P::o74 P::o75 P::o76 P::o77 P::o78 P::o79 P::o80 P::o0 P::o1 P::o81 P::o0 P::o82 P::o83 P::o84 P::o0 P::o1 P::o85 P::o0 P::o86 P::o87 P::o88 P::o0 P::o1 P::o89 P::o0 P::o90 P::o91 P::o92 P::o0 P::o1 P::o93 P::o94 P::o95 P::o0 P::o1 P::o96 P::o0 P::o97 P::o98 P::o99 P::o0 P::o1 P::NN P::o0 P::NM P::Lh P::Lg P::o0 P::o1 P::NL P::o0 P::NK P::Le P::Ld P::o0 P::o1 P::NJ P::o0 P::NI P::Lc P::Lb P::o0 P::o1 P::NH P::o0 P::NG P::La P::K9 P::o0 P::o1 P::NF P::o0 P::ND P::K8 P::K7 P::o0 P::o1 P::NC P::o0 P::NB P::K6 P::K5 P::o0 P::o1 P::NA P::o0 P::Nz P::K4 P::K3 P::o0 P::o1 P::Ny P::o0 P::Nw P::K2 P::K1 P::o0 P::o1 P::Nv P::o0 P::Nu P::K0 P::KZ P::KY P::KW P::o0 P::o1 P::Nt P::KU P::KS P::o0 P::o1 P::Nr P::o0 P::Nq P::KR P::KQ P::o0 P::o1 P::Np P::o0 P::Nn P::KP P::KO P::o0 P::o1 P::Nm P::o0 P::Nl P::KN P::KL P::o0 P::o1 P::Nk P::KJ P::KI P::o0 P::o1 P::Qz P::o0 P::Qy P::Nj P::Ni P::o0 P::o1 P::Qx P::o0 P::Qw P::Nh P::Ng P::o0 P::o1 P::Qv P::o0 P::Qu P::Nf P::Nd P::o0 P::o1 P::Qt P::o0 P::Qs P::Nc P::Nb P::o0 P::o1 P::Qr P::Na P::M9 P::o0 P::o1 P::Qq P::M8 P::M7 P::o0 P::o1 P::Qp P::M6 P::M5 P::o0 P::o1 P::Qo P::M4 P::M3 P::o0 P::o1 P::Qm P::o0 P::Ql P::M1 P::M0 P::o0 P::o1 P::Qk P::o0 P::Qj P::MZ P::MY P::o0 P::o1 P::Qi P::MX P::MW P::o0 P::o1 P::Qh P::o0 P::Qg P::MV P::MU P::o0 P::o1 P::Qf P::o0 P::Qe P::Qd P::Qc P::o0 P::o1 P::Qb P::o0 P::Qa P::MT P::MS P::o0 P::o1 P::P8 P::o0 P::P7 P::MR P::MQ P::o0 P::o1 P::P6 P::o0 P::P5 P::MP P::MO P::o0 P::o1 P::P4 P::o0 P::P2 P::MN P::MM P::o0 P::o1 P::P1 P::o0 P::P0 P::ML P::MK P::o0 P::o1 P::PZ P::o0 P::PY P::MJ P::MI P::o0 P::o1 P::PX P::o0 P::PV P::MH P::MG P::o0 P::o1 P::PU P::o0 P::PR P::MF P::ME P::o0 P::o1 P::PQ P::o0 P::PN P::MD P::MC P::o0 P::o1 P::PM P::o0 P::PL P::MB P::MA P::o0 P::o1 P::PK P::Mz P::Mx P::o0 P::o1 P::PJ P::Mw P::Mv P::o0 P::o1 P::PD P::o0 P::PB P::Mu P::Ms P::o0 P::o1 P::Si P::o0 P::Sh P::Py P::Px P::o0 P::o1 P::Sg P::o0 P::Sf P::Pw P::Pu P::o0 P::o1 P::Sd P::o0 P::Sa P::Pt P::Pr P::o0 P::o1 P::R9 P::o0 P::R8 P::Pq P::Pp P::o0 P::o1 P::R7 P::o0 P::R6 P::Po P::Pn P::o0 P::o1 P::R5 P::o0 P::R4 P::Pm P::Pl P::o0 P::o1 P::R3 P::o0 P::R1 P::Pk P::Pj P::o0 P::o1 P::R0 P::o0 P::RZ P::Ph P::Pg P::o0 P::o1 P::RY P::Pf P::Pe P::o0 P::o1 P::RW P::o0 P::RV P::Pd P::Pc P::o0 P::o1 P::RU P::o0 P::RQ P::Pb P::O9 P::[])⟩,lf0⟩
def SA (w:World) (os:OsState):Shared:=⟨hA w.params,⟨[]⟩,⟨0,0,0,0⟩,187,os⟩
def SF (w:World) (os:OsState):Shared:=⟨hF w.params,⟨[]⟩,⟨0,0,0,0⟩,882,os⟩
def S0 (w:World) (os:OsState):Shared:=⟨boot_heap w.params,⟨[]⟩,boot_drawn,boot_toks,os⟩
def RG:List Stmt:=[U2 0,U2 1,U2 2,U2 3]
def RF:List Stmt:=[U2 4,U2 5,U2 6,U2 7,U2 8,U2 9,U2 10,U2 11,U2 12,U2 13,U2 14]
def RE:List Stmt:=[U2 15,U2 16,U2 17,U2 18,U2 19,U2 20,U2 21,U2 22,U2 23,U2 24,U2 25,U2 26,U2 27,U2 28,U2 29,U2 30,U2 31,U2 32,U2 33,U2 34,U2 35,U2 36,U2 37,U2 38,U2 39,U2 40,U2 41,U2 42]
def RD:List Stmt:=[U2 43,U2 44,U2 45,U2 46,U2 47,U2 48,U2 49,U2 50,U2 51,U2 52,U2 53,U2 54,U2 55,U2 56,U2 57,U2 58,U2 59,U2 60,U2 61,U2 62,U2 63,U2 64,U2 65,U2 66,U2 67,U2 68,U2 69]
def RC:List Stmt:=[U2 70,U2 71,U2 72,U2 73,U2 74,U2 75,U2 76,U2 77,U2 78,U2 79,U2 80]
def hV:Program:={ hp with main:={ hp.main with body:=[U2 1,U2 2,U2 3,U2 4,U2 5,U2 6,U2 8,U2 9,U2 11,U2 12,U2 13,U2 15,U2 16,U2 17,U2 18,U2 19,U2 20,U2 21,U2 23,U2 24,U2 25,U2 26,U2 27,U2 28,U2 29,U2 30,U2 31,U2 32,U2 33,U2 34,U2 36,U2 37,U2 38,U2 39,U2 40,U2 41,U2 42,U2 43,U2 44,U2 45,U2 46,U2 47,U2 48,U2 49,U2 50,U2 52,U2 53,U2 54,U2 55,U2 56,U2 57,U2 58,U2 59,U2 60,U2 61,U2 62,U2 63,U2 64,U2 65,U2 66,U2 67,U2 68,U2 69,U2 70,U2 71,U2 72,U2 73,U2 74,U2 75,U2 76,U2 77,U2 78,U2 79,U2 80] } }
def hAs:List Addr:=0::1::2::3::4::5::6::7::8::9::10::13::14::22::23::24::25::35::36::37::47::48::49::59::60::61::71::72::73::83::84::85::91::92::98::99::105::106::112::113::114::115::116::117::118::119::120::121::122::128::129::135::136::142::143::147::148::154::155::161::162::168::169::175::176::182::183::189::190::196::197::203::204::210::211::217::218::219::220::224::225::231::232::238::239::245::246::250::251::257::258::264::265::271::272::278::279::283::284::288::289::293::294::298::299::305::306::312::313::317::318::324::325::338::339::345::346::352::353::359::360::366::367::373::374::380::381::387::388::394::395::401::402::406::407::411::412::418::419::425::426::432::433::439::440::446::447::453::454::460::461::467::468::474::475::479::480::486::487::493::494::[]
def hK:Params->W.Frag:=λ P=>((nat_lit 0,boot_o_0 P)::(nat_lit 1,boot_o_1 P)::(nat_lit 2,boot_o_2 P)::(nat_lit 3,Pz P)::(nat_lit 4,boot_o_4 P)::(nat_lit 5,boot_o_5 P)::(nat_lit 6,boot_o_6 P)::(nat_lit 7,boot_o_7 P)::(nat_lit 8,boot_o_8 P)::(nat_lit 9,boot_o_9 P)::(nat_lit 10,boot_o_10 P)::(nat_lit 13,o2 P)::(nat_lit 14,o3 P)::(nat_lit 22,o0 P)::(nat_lit 23,o11 P)::(nat_lit 24,o33 P)::(nat_lit 25,o13 P)::(nat_lit 35,o0 P)::(nat_lit 36,o20 P)::(nat_lit 37,o21 P)::(nat_lit 47,o0 P)::(nat_lit 48,o27 P)::(nat_lit 49,o28 P)::(nat_lit 59,o0 P)::(nat_lit 60,o37 P)::(nat_lit 61,o38 P)::(nat_lit 71,o0 P)::(nat_lit 72,o44 P)::(nat_lit 73,o45 P)::(nat_lit 83,o0 P)::(nat_lit 84,o51 P)::(nat_lit 85,o52 P)::(nat_lit 91,o56 P)::(nat_lit 92,o57 P)::(nat_lit 98,o60 P)::(nat_lit 99,o61 P)::(nat_lit 105,o64 P)::(nat_lit 106,o65 P)::(nat_lit 112,o68 P)::(nat_lit 113,o69 P)::(nat_lit 114,o72 P)::(nat_lit 115,o73 P)::(nat_lit 116,o74 P)::(nat_lit 117,o75 P)::(nat_lit 118,o76 P)::(nat_lit 119,o77 P)::(nat_lit 120,o78 P)::(nat_lit 121,o79 P)::(nat_lit 122,o80 P)::(nat_lit 128,o83 P)::(nat_lit 129,o84 P)::(nat_lit 135,o87 P)::(nat_lit 136,o88 P)::(nat_lit 142,o91 P)::(nat_lit 143,o92 P)::(nat_lit 147,o94 P)::(nat_lit 148,o95 P)::(nat_lit 154,o98 P)::(nat_lit 155,o99 P)::(nat_lit 161,Lh P)::(nat_lit 162,Lg P)::(nat_lit 168,Le P)::(nat_lit 169,Ld P)::(nat_lit 175,Lc P)::(nat_lit 176,Lb P)::(nat_lit 182,La P)::(nat_lit 183,K9 P)::(nat_lit 189,K8 P)::(nat_lit 190,K7 P)::(nat_lit 196,K6 P)::(nat_lit 197,K5 P)::(nat_lit 203,K4 P)::(nat_lit 204,K3 P)::(nat_lit 210,K2 P)::(nat_lit 211,K1 P)::(nat_lit 217,K0 P)::(nat_lit 218,KZ P)::(nat_lit 219,KY P)::(nat_lit 220,KW P)::(nat_lit 224,KU P)::(nat_lit 225,KS P)::(nat_lit 231,KR P)::(nat_lit 232,KQ P)::(nat_lit 238,KP P)::(nat_lit 239,KO P)::(nat_lit 245,KN P)::(nat_lit 246,KL P)::(nat_lit 250,KJ P)::(nat_lit 251,KI P)::(nat_lit 257,Nj P)::(nat_lit 258,Ni P)::(nat_lit 264,Nh P)::(nat_lit 265,Ng P)::(nat_lit 271,Nf P)::(nat_lit 272,Nd P)::(nat_lit 278,Nc P)::(nat_lit 279,Nb P)::(nat_lit 283,Na P)::(nat_lit 284,M9 P)::(nat_lit 288,M8 P)::(nat_lit 289,M7 P)::(nat_lit 293,M6 P)::(nat_lit 294,M5 P)::(nat_lit 298,M4 P)::(nat_lit 299,M3 P)::(nat_lit 305,M1 P)::(nat_lit 306,M0 P)::(nat_lit 312,MZ P)::(nat_lit 313,MY P)::(nat_lit 317,MX P)::(nat_lit 318,MW P)::(nat_lit 324,MV P)::(nat_lit 325,MU P)::(nat_lit 338,MT P)::(nat_lit 339,MS P)::(nat_lit 345,MR P)::(nat_lit 346,MQ P)::(nat_lit 352,MP P)::(nat_lit 353,MO P)::(nat_lit 359,MN P)::(nat_lit 360,MM P)::(nat_lit 366,ML P)::(nat_lit 367,MK P)::(nat_lit 373,MJ P)::(nat_lit 374,MI P)::(nat_lit 380,MH P)::(nat_lit 381,MG P)::(nat_lit 387,MF P)::(nat_lit 388,ME P)::(nat_lit 394,MD P)::(nat_lit 395,MC P)::(nat_lit 401,MB P)::(nat_lit 402,MA P)::(nat_lit 406,Mz P)::(nat_lit 407,Mx P)::(nat_lit 411,Mw P)::(nat_lit 412,Mv P)::(nat_lit 418,Mu P)::(nat_lit 419,Ms P)::(nat_lit 425,Py P)::(nat_lit 426,Px P)::(nat_lit 432,Pw P)::(nat_lit 433,Pu P)::(nat_lit 439,Pt P)::(nat_lit 440,Pr P)::(nat_lit 446,Pq P)::(nat_lit 447,Pp P)::(nat_lit 453,Po P)::(nat_lit 454,Pn P)::(nat_lit 460,Pm P)::(nat_lit 461,Pl P)::(nat_lit 467,Pk P)::(nat_lit 468,Pj P)::(nat_lit 474,Ph P)::(nat_lit 475,Pg P)::(nat_lit 479,Pf P)::(nat_lit 480,Pe P)::(nat_lit 486,Pd P)::(nat_lit 487,Pc P)::(nat_lit 493,Pb P)::(nat_lit 494,O9 P)::[])
abbrev hX:Shared->Bool:=λ s=>xlAt hV [] s&&recOk (RowW.records (OpenRow.toRowW (OpenLaw.row hl))) s
set_option maxHeartbeats 0
def fT (r:String) {Q:World->Prop} (h:∀ (w:World) (b:Bool),Q { w with params:={ w.params with followText:=λ x=>if x == r then b else w.params.followText x } }) (w:World):Q w:=by
 have e:(λ x=>if x == r then w.params.followText r else w.params.followText x)=w.params.followText:=by
  funext x
  by_cases z:x=r
  · subst z; simp
  · simp [z]
 have:=h w (w.params.followText r);rw [e] at this;exact this
def Q4:∀ w,(λ os=>topGo treeTable hp w 11 hAn 12 (S0 w os) (topStub hp))=λ os=>some (SA w os,⟨denote treeTable hC,hC,⟨0,0,0,0⟩,hB⟩):=by
 rewrite [PySem.W.Fast.te15667345088766844465,Z6,PySem.W.Fast.te11892475500146522536]
 refine fT "special-get-raises" ?_; intro w b0; cases b0 <;> kernel_rfl
def Q6:∀ w,(λ os=>segRun treeTable hp w 11 hAn 1 1 (SA w os) (blockOf (behindTheImports hp) hE hC ⟨0,0,0,0⟩ hB))=λ os=>some (Flow.next,(S1 w os).abs,hC,⟨0,0,0,0⟩):=by
 rewrite [PySem.W.Fast.te14374325043358763698,Z6]
 refine fT "special-get-raises" ?_; intro w b0; cases b0 <;> kernel_rfl
def UM:∀ w,(λ os=>segRunT treeTable hp w 11 hAn 1 622 (S1 w os) (piecesOf RG hE hC ⟨0,0,0,0⟩ hB))=λ os=>some (Flow.next,S2 w os,hC,⟨6,0,7,8⟩):=by
 rewrite [Yl,Z6]
 refine fT "special-get-raises" ?_; intro w b0; cases b0 <;> kernel_rfl
def UL:∀ w,(λ os=>segRunT treeTable hp w 11 hAn 1 793 (S2 w os) (piecesOf RF hE hC ⟨6,0,7,8⟩ hB))=λ os=>some (Flow.next,S3 w os,hC,⟨42,0,42,8⟩):=by
 rewrite [Yl,Z6]
 refine fT "special-get-raises" ?_; intro w b0; cases b0 <;> kernel_rfl
def UK:∀ w,(λ os=>segRunT treeTable hp w 11 hAn 1 777 (S3 w os) (piecesOf RE hE hC ⟨42,0,42,8⟩ hB))=λ os=>some (Flow.next,S4 w os,hC,⟨175,0,181,24⟩):=by
 rewrite [Yl,Z6]
 refine fT "special-get-raises" ?_; intro w b0; cases b0 <;> kernel_rfl
def UJ:∀ w,(λ os=>segRunT treeTable hp w 11 hAn 1 793 (S4 w os) (piecesOf RD hE hC ⟨175,0,181,24⟩ hB))=λ os=>some (Flow.next,S5 w os,hC,⟨359,0,363,92⟩):=by
 rewrite [Yl,Z6]
 refine fT "special-get-raises" ?_; intro w b0; cases b0 <;> kernel_rfl
def UI:∀ w,(λ os=>segRunT treeTable hp w 11 hAn 1 351 (S5 w os) (piecesOf RC hE hC ⟨359,0,363,92⟩ hB))=λ os=>some (Flow.next,S6 w os,hC,⟨503,0,516,15⟩):=by
 rewrite [Yl,Z6]
 refine fT "special-get-raises" ?_; intro w b0; cases b0 <;> kernel_rfl
def Q5:∀ w,(λ os=>topRun treeTable hp w 11 hAn 2 (S6 w os).abs ⟨doneF .next,hC,⟨503,0,516,15⟩,hB⟩)=λ os=>some (SF w os):=by
 rewrite [PySem.W.Fast.te14082659384304107361,Z6]
 refine fT "special-get-raises" ?_; intro w b0; cases b0 <;> kernel_rfl
def h_b:behindTheImports hp=RG++(RF++(RE++(RD++(RC++[])))):=by kernel_rfl
def Q3 (w:World) (os:OsState):topRun treeTable hp w 11 hAn (12+(1+(622+(793+(777+(793+(351+(2)))))))) (S0 w os) (topStub hp)=some (SF w os):=go_top (congrFun (Q4 w) os) (piece_block (congrFun (Q6 w) os) (by
 rw [h_b]
 exact piece_app (segRun_of (congrFun (UM w) os)) (piece_app (segRun_of (congrFun (UL w) os)) (piece_app (segRun_of (congrFun (UK w) os)) (piece_app (segRun_of (congrFun (UJ w) os)) (piece_app (segRun_of (congrFun (UI w) os)) (congrFun (Q5 w) os)))))))
def LS:∀ w:World,((boot_heap w.params).isNs mainGlobals&&(⟨[]⟩:Array GenState).size == 0,(boot_heap w.params).objs.size,(boot_heap w.params).nsMap mainGlobals "__annotations__")=(true,11,hAn):=by
 rewrite [PySem.W.Fast.te8920871248978507458]
 refine fT "special-get-raises" ?_; intro w b0; cases b0 <;> kernel_rfl
def zmX(w:World)(os:OsState):=(((staticsOk (importedModules hp.main.body) (boot_heap w.params) (hF w.params)&&namesBound hp (hF w.params)&&gensDone (SF w os)&&laidKept (boot_heap w.params) (hF w.params)),openSeen hV ["WORDS"] (importedModules hp.main.body) hX true (SF w os),obsZ hAs (SF w os)))
def zmY(w:World):=((true,openGood hV ["WORDS"],valZ hK 495 882 w))
def zmW(w:World)(b:Bool):World:={ w with params:={ w.params with followText:=λ x=>if x == "special-get-raises" then b else w.params.followText x } }
def zm0(w:World):Prop:=(λ os=>(zmX w os).1)=λ _=>(zmY w).1
theorem zm0Ib:∀ w,zm0 (zmW w false):=by
 unfold zm0 zmX zmY;rewrite [PySem.W.Fast.te5923862056798008813,PySem.W.Fast.te4187177175401517315];intro w;kernel_rfl
theorem zm0Ia:∀ w,zm0 (zmW w true):=by
 unfold zm0 zmX zmY;rewrite [PySem.W.Fast.te5923862056798008813,PySem.W.Fast.te4187177175401517315];intro w;kernel_rfl
def zm1(w:World):Prop:=(λ os=>(zmX w os).2.1.1)=λ _=>(zmY w).2.1.1
theorem zm1Ib:∀ w,zm1 (zmW w false):=by
 unfold zm1 zmX zmY;rewrite [PySem.W.Fast.te5923862056798008813,PySem.W.Fast.te4187177175401517315];intro w;kernel_rfl
theorem zm1Ia:∀ w,zm1 (zmW w true):=by
 unfold zm1 zmX zmY;rewrite [PySem.W.Fast.te5923862056798008813,PySem.W.Fast.te4187177175401517315];intro w;kernel_rfl
def zm2(w:World):Prop:=(λ os=>(zmX w os).2.1.2)=λ _=>(zmY w).2.1.2
theorem zm2Ib:∀ w,zm2 (zmW w false):=by
 unfold zm2 zmX zmY;rewrite [PySem.W.Fast.te5923862056798008813,PySem.W.Fast.te4187177175401517315];intro w;kernel_rfl
theorem zm2Ia:∀ w,zm2 (zmW w true):=by
 unfold zm2 zmX zmY;rewrite [PySem.W.Fast.te5923862056798008813,PySem.W.Fast.te4187177175401517315];intro w;kernel_rfl
def zm3(w:World):Prop:=(λ os=>(zmX w os).2.2)=λ _=>(zmY w).2.2
theorem zm3Ib:∀ w,zm3 (zmW w false):=by
 unfold zm3 zmX zmY;rewrite [PySem.W.Fast.te5923862056798008813,PySem.W.Fast.te4187177175401517315];intro w;kernel_rfl
theorem zm3Ia:∀ w,zm3 (zmW w true):=by
 unfold zm3 zmX zmY;rewrite [PySem.W.Fast.te5923862056798008813,PySem.W.Fast.te4187177175401517315];intro w;kernel_rfl
def LV:∀ w:World,(λ os=>((staticsOk (importedModules hp.main.body) (boot_heap w.params) (hF w.params)&&namesBound hp (hF w.params)&&gensDone (SF w os)&&laidKept (boot_heap w.params) (hF w.params)),openSeen hV ["WORDS"] (importedModules hp.main.body) hX true (SF w os),obsZ hAs (SF w os)))=λ _=>(true,openGood hV ["WORDS"],valZ hK 495 882 w):=λ w=>funext λ os=>Prod.ext (congrFun (fT "special-get-raises" (Q:=zm0) (λ w b=>by cases b;exact zm0Ib w;exact zm0Ia w) w) os) (Prod.ext (Prod.ext (congrFun (fT "special-get-raises" (Q:=zm1) (λ w b=>by cases b;exact zm1Ib w;exact zm1Ia w) w) os) (congrFun (fT "special-get-raises" (Q:=zm2) (λ w b=>by cases b;exact zm2Ib w;exact zm2Ia w) w) os)) (congrFun (fT "special-get-raises" (Q:=zm3) (λ w b=>by cases b;exact zm3Ib w;exact zm3Ia w) w) os))
def LW:LeftO hp hV ["WORDS"] hX (obsZ hAs) (valZ hK 495 882) 6788:=LeftO.of_pieces (boot_open (p:=hp) (N:=6788) (by kernel_rfl) (by decide) (λ _=>by kernel_rfl)) LS Q3 (by decide) LV
theorem zmS:(OpenLaw.row zHl).wellSaid=true:=by kernel_rfl
def LU:zHl.wellSaid=true:=by
 unfold OpenLaw.wellSaid;rw[zmS];kernel_rfl
theorem LX (said:(OpenLaw.row zHl).wellSaid=true) (hw:(OpenRow.toRowW (OpenLaw.row zHl)).promised) {d:DefRec} {kwd:List (Str×Expr)} (hdef:defOf hV (OpenLaw.row zHl).name=some (d,kwd)) (hp':(OpenLaw.row zHl).prog.theDef (OpenLaw.row zHl).name=some (d.params,d.body,d.scope)) (hk:kwWritten? d.params.kwonlyargs d.params.kw_defaults=some kwd) (call:WalkX hV ["WORDS"] (XL hV []) (obsZ hAs) (valZ hK 495 882) (OpenRow.toRowW (OpenLaw.row zHl)) d kwd λ f vs=>PySem.call f vs):(OpenLaw.row zHl).Holds:=
 holds_openX (q:=hV) (loose:=["WORDS"]) (Xt:=hX) (XP:=XL hV []) (Yf:=obsZ hAs) (Ya:=valZ hK 495 882) (N:=6788) LW (λ s e=>xl_of s (Bool.and_eq_true_iff.mp e).1) XL.keeps hdef hp' hk (λ s e=>recFacts_of (Bool.and_eq_true_iff.mp e).2) rfl said (by decide +kernel) ⟨rfl,rfl,rfl,rfl,rfl,by decide +kernel⟩ hw call
end HD50
end
section
namespace L2
open PySem PySem.Spec PyProof.Rows
section
variable {X:Cx}
def Sz (i:Int):Prop:=i.natAbs < 2 ^ 4000
def Sz.bits (h:Sz i):Builtin.Int.intBits i<=2 ^ 20:=Zs (PySem.intBits_le_iff.mpr h) (by decide)
def Sz.log (h:Sz i):i.natAbs.log2 < 9000:=by
 by_cases z:i.natAbs=0
 · rw [z]; decide
 · exact (Nat.log2_lt z).mpr (Wc h (Nat.pow_lt_pow_right (by decide) (by decide)))
def G8:OpR X (binaryOp .FloorDiv) (rI (λ _ j=>j≠0/\Sz j) λ i j=>.int (i.fdiv j)):=opI λ _ _ _ _ _ _ _ hc q=>floordiv_int hc.1 q (.inl (PyProof.noPylong_of_log2 hc.2.log))
def Rh:V->Value
 | .ty n=>.type n
 | .ref a=>.ref a
 | _=>.none
end
open PySem.W in
mutual
inductive RdD (K:W.Frag) (H:Hp):V->Dat->Prop where
 | non:RdD K H .non .none
 | int (i:Int):RdD K H (.int i) (.int i)
 | str (x:Str):RdD K H (.str x) (.str x)
 | tup {a:Addr} {xs:List V} {ds:List Dat} (h:SqT K H a xs) (r:zm K H xs ds):RdD K H (.ref a) (.tuple ds)
 | lst {a:Addr} {xs:List V} {ds:List Dat} (h:SqL K H a xs) (r:zm K H xs ds):RdD K H (.ref a) (.list ds)
inductive zm (K:W.Frag) (H:Hp):List V->List Dat->Prop where
 | nil:zm K H [] []
 | cons {x:V} {d:Dat} {xs:List V} {ds:List Dat} (h:RdD K H x d) (r:zm K H xs ds):zm K H (x::xs) (d::ds)
end
section
open PySem.W
variable {X:Cx} {ac:List (Addr×Obj)} {σ:St} {H:Hp} {s:Shared}
mutual
theorem RdD.reads (I:Inv X ac σ H s):∀ {v:V} {d:Dat} {u:Value},RdD X.K H v d->RelV v u->∃ as,Reads s.heap u (kqdP d) as
 | _,_,u,.non,rv=>by cases (show u=Value.none from rv); exact ⟨_,Reads.none⟩
 | _,_,u,.int i,rv=>by obtain ⟨t,rfl⟩:=(show ∃ t,u=Value.int i t from rv); exact ⟨_,Reads.int i t⟩
 | _,_,u,.str x,rv=>by obtain ⟨t,rfl⟩:=(show ∃ t,u=Value.str x t from rv); exact ⟨_,Reads.str x t⟩
 | _,_,u,@RdD.tup _ _ a xs ds h r,rv=>by
  cases (show u=Value.ref a from rv);obtain ⟨its,vs,p,_⟩:=I.tuple h;obtain ⟨as,q⟩:=zm.reads I r vs;obtain ⟨o,h1,h2,n,h3⟩:=p;rw [kqdP];exact ⟨as,reads_tuple_at h1 h2 h3 (by simpa using q)⟩
 | _,_,u,@RdD.lst _ _ a xs ds h r,rv=>by
  cases (show u=Value.ref a from rv);obtain ⟨its,vs,p,_⟩:=I.list h;obtain ⟨as,q⟩:=zm.reads I r vs;obtain ⟨o,h1,h2,n,h3⟩:=p.isList;rw [kqdP];exact ⟨a::as,reads_list_at h1 h2 h3 (by simpa using q)⟩
theorem zm.reads (I:Inv X ac σ H s):∀ {vs:List V} {ds:List Dat} {us:List Value},zm X.K H vs ds->cu vs us->∃ as,ReadsAll s.heap us (kqdPs ds) as
 | _,_,_,.nil,.nil=>by rw [kqdPs]; exact ⟨_,ReadsAll.nil⟩
 | _,_,_,.cons h r,.cons rv rs=>by
  obtain ⟨as,q⟩:=RdD.reads I h rv;obtain ⟨bs,p⟩:=zm.reads I r rs;rw [kqdPs];exact ⟨_,ReadsAll.cons q p⟩
end
def cV (h:kqdOk 9 d=true):SeqAt.shaped (kqdP d)=true:=by
 have la:=kqd_lay 9 d h;unfold SeqAt.shaped;rw [la.1,Zv];exact Ze (Zs la.2 (by decide))
open Classical in
def pN (h:kqdOk 9 d=true) (h':kqdOk 9 e=true):PyData.eqv (kqdP d) (kqdP e)=decide (d=e):=by
 have q:=kqd_eqv 9 d e 9 h h'
 by_cases hq:d=e
 · rw [Ze hq]; exact q.mpr hq
 · rw [Zc hq]; exact Xc.mpr λ x=>hq (q.mp x)
open Classical in
def eqD (d e:Dat):Bool:=decide (d=e)
open Classical in
def D8 (h:d=e):eqD d e=true:=Ze h
open Classical in
def BG (h:d≠e):eqD d e=false:=Zc h
def TF (K:W.Frag):R2:=λ x y H Q=>∃ d e,RdD K H x d/\RdD K H y e/\kqdOk 9 d=true/\kqdOk 9 e=true/\Q (.bl (eqD d e)) H
def Tw (K:W.Frag):R2:=λ x y H Q=>∃ d e,RdD K H x d/\RdD K H y e/\kqdOk 9 d=true/\kqdOk 9 e=true/\Q (.bl (!eqD d e)) H
def Ku (hu:X.A.units+64 < cLine):OpR X (compareOp .Eq) (TF X.K):=by
 intro ac s σ H x y v u Q I rx ry h;obtain ⟨d,e,hd,he,kd,ke,q⟩:=h;obtain ⟨as,ra⟩:=hd.reads I rx;obtain ⟨bs,rb⟩:=he.reads I ry;refine eq_dataH ra rb (cV kd) (cV ke) hu ⟨.bl _,H,I,rfl,?_⟩;rw [pN kd ke];exact q
def Ks (hu:X.A.units+64 < cLine):OpR X (compareOp .NotEq) (Tw X.K):=by
 intro ac s σ H x y v u Q I rx ry h;obtain ⟨d,e,hd,he,kd,ke,q⟩:=h;obtain ⟨as,ra⟩:=hd.reads I rx;obtain ⟨bs,rb⟩:=he.reads I ry;refine ne_dataH ra rb (cV kd) (cV ke) hu ⟨.bl _,H,I,rfl,?_⟩;rw [pN kd ke];exact q
end
def c9.tup {K:W.Frag} {H H':Hp} {a:Addr} {xs:List V} (e:c9 H H') (h:SqT K H a xs):SqT K H' a xs:=by
 rcases h with (h | ⟨o,h⟩) | h
 · exact .inl (.inl (e _ _ h))
 · exact .inl (.inr ⟨o,e _ _ h⟩)
 · exact .inr h
def bo (h:H p=none) (o:HO):c9 H (upd H p o):=λ b u q=>by rw [aF (bV q h)]; exact q
end L2
namespace L2
theorem DW {A B:Prop} (e:b=true) (h:A):if b=true then A else B:=by grind
theorem DY {A B:Prop} (e:b=false) (h:B):if b=true then A else B:=by grind
end L2
end
section
namespace L2
open PySem PySem.Spec PyProof.Rows
abbrev Rx (ifs:List Expr) (env:Env):Sem Bool:=forIn ifs true λ c r=>if r=true then do let ok <- isTrue c env (eval c env); pure (ForInStep.yield ok) else pure (ForInStep.yield r)
section
variable {prog:Program} {w:World} {A:Around} {R:Result->Shared->Prop} {s:Shared}
def k7 {EE:Value->Shared->Prop} (I:Nat->Shared->Prop)
  (turn:∀ n s,I n s->wpAny (model prog w) A (pyNext it) (λ r s₁=>match r with
    | none=>R (.ok .next) s₁
    | some v=>wpAny (model prog w) A (letOwnedTupleGo target it v) (λ _ s₁'=>wpAny (model prog w) A (assign target env v) (λ _ s₂=>wpAny (model prog w) A (Rx ifs env) (λ ok s₂'=>if ok=true then wpAny (model prog w) A (eval elt env) (λ x s₃=>
     wpAny (model prog w) A (call (.builtin "list.append") [acc,x]) (λ _ s₄=>∃ m,m < n/\I m s₄) EE s₃) EE s₂' else ∃ m,m < n/\I m s₂') EE s₂) EE s₁') EE s₁) EE s)
  (n:Nat) (h:I n s) (hE:∀ e s,EE e s->notedBy (model prog w) A env (λ e s'=>R (.error e) s') e s):codeAny (model prog w) A (.compLoop (.ListComp elt [⟨target,iter,ifs,0⟩] scope pos) 0 it acc env) R s:=by
 refine codeAny_loop rfl I (λ n s hI=>?_) n h;refine wpAny_noted ?_
 rw [compTurn_list];refine Zr (Wg (Zr (Yv (turn n s hI) (λ r s₁ h₁=>?_) hE)))
 cases r with
 | none=>exact Z4 h₁
 | some v=>
  refine Zr (Yv h₁ (λ _ s₁' h₁'=>?_) hE);refine Zr (Yv h₁' (λ _ s₂ h₂=>?_) hE);refine Zr (Yv h₂ (λ ok s₃ h₃=>?_) hE)
  cases ok with
  | false=>
    rw [if_neg Zf] at h₃
    rw [if_neg Zf];exact Zr (Z4 (Z4 ⟨rfl,h₃⟩))
  | true=>
    rw [if_pos rfl] at h₃
    rw [if_pos rfl];exact Zr (Zr (Yv h₃ (λ x s₄ h₄=>Zr (Yv h₄ (λ _ s₅ h₅=>Z4 (Z4 ⟨rfl,h₅⟩)) hE)) hE))
end
def bI (X:Cx) (scope:Scope) (cl:List (Str×Addr)) (N:List Str) (s:Shared) (H:Hp) (fp:List Addr) (C:Addr):Cx where
 prog:=X.prog
 w:=X.w
 K:=X.K
 mg:=X.mg
 base:=X.base
 A:=X.A
 N:=N
 s₀:=s
 H₀:=H
 env:=compEnvC scope cl C X.env
 outer:=X.stack
 stack:=X.stack
 ex:=fp
 calm:=X.calm
 fn:=λ _=>false
 pn:=[]
 xe:=λ _ _=>False
structure dA (X:Cx) (scope:Scope) (cl:List (Str×Addr)) (x:Str) (cs:List (Str×Nat)):Prop where
 Jc:closureFor scope X.env=pure cl
 kind:scope.kind=.function
 xD:∀ y ∈ scope.names,y.2≠.cell
 names:∀ y ∈ scope.names,y.2=.local->scope.names.lookup y.1=some .local
 own:scope.names.lookup x=some .local
 sub:∀ y c,cl.lookup y=some c->X.env.cells.lookup y=some c
 has:∀ y,((relabel scope X.env).names.lookup y=some .cell\/(relabel scope X.env).names.lookup y=some .free)->∃ c,cl.lookup y=some c
 NU:∀ p ∈ cs,X.N[p.2]?=some p.1/\(X.env.kindOf p.1=some .cell\/X.env.kindOf p.1=some .free)/\((relabel scope X.env).names.lookup p.1=some .cell\/(relabel scope X.env).names.lookup p.1=some .free)
 nd:(x::cs.map (·.1)).Nodup
def aK (σ:St) (cs:List (Str×Nat)):St:=cs.map λ p=>(σ[p.2]?).join
section
variable {X:Cx} {ac:List (Addr×Obj)} {σ:St} {H:Hp} {s:Shared} {scope:Scope} {cl:List (Str×Addr)} {x:Str} {cs:List (Str×Nat)} {fp:List Addr} {C:Addr} {h':Heap} {t':Nat}
def zb (O:dA X scope cl x cs) (I:Inv X ac σ H s) (f2:∀ b ∈ fp,rE X ac H b) (there:∀ b ∈ fp,b < s.heap.objs.size) (hC:s.heap.objs.size<=C)
  (old:∀ b o,s.heap.get? b=some o->h'.get? b=some o) (hn:h'.Ns C λ _=>none):Inv (bI X scope cl (x::cs.map (·.1)) s H fp C) [] (none::aK σ cs) H { s with heap:=h',toks:=t' }:=by
 refine ⟨⟨I.ok.mod,O.kind,I.ok.glob,I.ok.blt,hC,λ y z c h1 h2=>I.ok.inj y z c (O.sub y c h1) (O.sub z c h2),λ y hy=>O.has y hy,λ _ _ h=>absurd (h) Zf,I.ok.hd,I.ok.frames,.inl rfl,
   λ b hb=>⟨Z1 (Zl (there b hb) hC),λ y c e=>(f2 b hb).2.2.2.2.1 y c (O.sub y c e)⟩,I.bs,Zs I.ok.bsz I.sz,λ b o e hb=>?_,λ b hb z=>?_,I.stack,I.jT⟩,
  rfl,I.bare,Un.kept old,⟨_,hn,λ i y v e1 e2 e3=>?_⟩,λ y c e=>?_,I.hok.fresh hC,λ y c e=>I.iH y c (O.sub y c e),λ p hp=>absurd (show p ∈ ([]:List (Addr×Obj)) from hp) (by simp),I.hok.kept old,?_⟩
 ·rcases (f2 b hb).2.2.2.1 with z | z
  · exact I.ok.E6 b o e z
  · exact absurd (Zl (Zt e) (Zs I.ok.bsz z)) (Yo _)
 · exact (Zd.mp (I.eW b z)).elim (f2 b hb).2.1 (f2 b hb).2.2.1
 ·cases i with
  | zero=>simp at e2
  | succ j=>
   have e1':(cs.map (·.1))[j]?=some y:=by simpa [bI] using e1
   have e2':(aK σ cs)[j]?=some (some v):=by simpa using e2
   unfold aK at e2';rw [List.getElem?_map] at e1' e2'
   cases q:cs[j]? with
   | none=>rw [q] at e1'; cases e1'
   | some p=>
    rw [q] at e1' e2';have ey:p.1=y:=by simpa using e1'
    have ev:(σ[p.2]?).join=some v:=by simpa using e2'
    have ev':σ[p.2]?=some (some v):=by
     cases z:σ[p.2]? with
     | none=>rw [z] at ev; cases ev
     | some o=>rw [z] at ev; exact Z8 some ev
    obtain ⟨c1,c2,c3⟩:=O.NU p (List.mem_of_getElem? q);subst ey;obtain ⟨m,hm,hl⟩:=I.loc
    obtain ⟨u,ru,lk⟩:=hl p.2 p.1 v c1 ev' (by
     rcases c2 with c2 | c2
     · exact .inr (.inl c2)
     · exact .inr (.inr c2))
    obtain ⟨c',ec'⟩:=O.has p.1 c3;refine ⟨u,ru,.inr ⟨c3,c',ec',?_⟩⟩;rcases lk with ⟨k,_⟩ | ⟨_,c,ec,o,ho,hd⟩
    ·rcases c2 with c2 | c2
     · rw [c2] at k; cases k
     · rw [c2] at k; cases k
    ·have:=O.sub p.1 c' ec'
     rw [ec] at this;cases this;exact ⟨o,old _ o ho,hd⟩
 ·obtain ⟨v,o,ho,hd⟩:=I.cell y c (O.sub y c e)
  exact ⟨v,o,old c o ho,hd⟩
 · simp [bI,aK]
end
def PTs (X:Cx) (ifs:List Expr) (t:TT):Prop:=∀ (ac:List (Addr×Obj)) (s:Shared) (σ:St) (H:Hp) (Q:Bool->Hp->Prop),Inv X ac σ H s->t σ H Q->wpAny (model X.prog X.w) X.A (Rx ifs X.env) (TP X ac σ Q) X.xe s
def vK {X:Cx}:PTs X [] λ _ H Q=>Q true H:=λ _ _ _ H _ I h=>Z4 ⟨H,I,h⟩
def GL {X:Cx} {c:Expr} {t:TT} (h:PT X c t):PTs X [c] t:=λ ac s σ H Q I q=>wpAny_tests_one (h ac s σ H Q I q)
def zK (J:It) (te:TE) (cs:List (Str×Nat)) (σ:St) (Q:VK) (H1:Hp):Prop:=∃ W:Nat->Nat->List V->Hp->Prop,(∃ m,W 0 m [] H1)/\∀ i m ys H',W i m ys H'->(J.stop i H'/\ys.length<=sizeLine/\∀ p,H' p=none->Q (.ref p) (upd H' p (.lst ys)))\/(J.go i H'/\ys.length < sizeLine/\∀ v H2,J.yld i H' v H2->te (some v::aK σ cs) H2 λ y H3=>∃ m',m' < m/\W (i+1) m' (ys++[y]) H3)
def Gj (wi:TI) (te:TE) (cs:List (Str×Nat)):TE:=λ σ H Q=>wi σ H λ J H1=>zK J te cs σ Q H1
section
variable {X:Cx}
theorem Cc {ifs:List Expr} {tt:TT} {elt iter:Expr} {x:Str} {px pos:Pos} {scope:Scope} {cs:List (Str×Nat)} {te:TE} {ac:List (Addr×Obj)} {σ:St} {H:Hp} {s s1:Shared} {Q:VK} {it:Addr} {fp:List Addr} {tn:Nat->Heap->Prop} {J:It}
  {RR:Value->Addr->Result->Shared->Prop} {Y:Cx} {ev:Env} {C D:Addr} {W:Nat->Nat->List V->Hp->Prop} {m0:Nat} (hc:X.calm=true)
  (I:Inv X ac σ H s) (T:Turn X.prog X.w X.K (.Name x px) J fp it tn) (f2:∀ b ∈ fp,rE X ac H b) (there:∀ b ∈ fp,b < s.heap.objs.size) (w0:W 0 m0 [] H)
  (turn:∀ i m ys H',W i m ys H'->(J.stop i H'/\ys.length<=sizeLine/\∀ p,H' p=none->Q (.ref p) (upd H' p (.lst ys)))\/(J.go i H'/\ys.length < sizeLine/\∀ v H2,J.yld i H' v H2->tt (some v::aK σ cs) H2 λ b H3=>if b=true then te (some v::aK σ cs) H3 λ y H4=>∃ m',m' < m/\W (i+1) m' (ys++[y]) H4 else ∃ m',m' < m/\W (i+1) m' ys H3))
  (hRR:∀ D C s' H' ys,s.heap.objs.size<=D->s.heap.objs.size<=C->D≠C->(∃ m,s'.heap.Ns C m)->Inv X ac σ (upd H' D (.lst ys)) s'->H' C=none->Q (.ref D) (upd H' D (.lst ys))->RR (.ref D) C (.ok .next) s')
  (hD:s.heap.objs.size=D) (hDC:D≠C) (hCle:D<=C) (st1:tn 0 s1.heap) (hacc:s1.heap.get? D=some { cls:=.type "list",data:=.seq ([]:List Value).toArray 0 }) (I1:Inv Y [] (none::aK σ cs) H s1) (pgx:PG Y (.Name x px) (nJ 0)) (ptY:PTs Y ifs tt) (peY:PE Y elt te)
  (Yx:Y.prog=X.prog/\Y.w=X.w/\Y.K=X.K/\Y.A=X.A/\Y.env=ev/\Y.calm=X.calm/\Y.pn=[]/\Y.ex=fp/\Y.fs=frs X.stack/\Y.s₀=s/\Y.H₀=H) (yl0:ev.locals=C) (hZ:∀ e s',Y.xe e s'->notedBy (model X.prog X.w) X.A ev (λ x s''=>RR (.ref D) C (.error x) s'') e s') (yc:∀ z c,Y.env.cells.lookup z=some c->D < c\/X.env.cells.lookup z=some c):codeAny (model X.prog X.w) X.A (.compStart (.ListComp elt [⟨.Name x px,iter,ifs,0⟩] scope pos) 0 (.ref it) (.ref D) ev) (RR (.ref D) C) s1:=by
 have FD:=I.wq (b:=D) (by rw [<- hD]; exact Zo _) (I.hok.fresh (by rw [<- hD]; exact Zo _));have nfpD:∀ b ∈ fp,b≠D:=λ b hb=>by rw [<- hD]; exact Z1 (there b hb)
 have nfpC:∀ b ∈ fp,b≠C:=λ b hb=>Z1 (Zl (there b hb) (by rw [hD]; exact hCle))
 obtain ⟨y1,y2,y3,y4,y5,y6,y8,y9,y10,y11,y12⟩:=Yx;have nstk:∀ b,b≠X.env.locals->b ∉ X.fs->b ∉ Y.fs:=λ b h1 h2 z=>by rw [y10] at z; exact (Zd.mp (I.eW b z)).elim h1 h2
 have yl:Y.env.locals=C:=by rw [y5]; exact yl0
 have stat:∀ {ps:List (Addr×Obj)} {H':Hp},(∀ b ∈ fp,H' b=none)->(∀ p ∈ ps,p.1=D)->∀ b ∈ fp,rE Y ps H' b:=λ {ps H'} hn hp b hb=>
  ⟨hn b hb,by rw [yl]; exact nfpC b hb,nstk b (f2 b hb).2.1 (f2 b hb).2.2.1,.inl (by rw [y9]; exact hb),λ z c e=>(yc z c e).elim (λ e=>Nat.ne_of_gt (Wc (hD ▸ there b hb) e)) ((f2 b hb).2.2.2.2.1 z c),λ p hq=>by
    rw [y8,Yc] at hq;rw [hp p hq]
    exact Ne.symm (nfpD b hb)⟩
 have pinD:∀ {σ':St} {H':Hp} {s':Shared} {ob:Obj},Inv Y [] σ' H' s'->H' D=none->s'.heap.get? D=some ob->(∀ v,ob.data≠.cell v)->Inv Y [(D,ob)] σ' H' s':=λ {σ' H' s' ob} I' hn e hd=>
  I'.iA λ p hp=>by
    have e1:p=(D,ob):=by simpa using hp
    subst e1;exact ⟨e,hn,by rw [yl]; exact hDC,nstk D FD.2.1 FD.2.2.1,hd⟩
 have loop:∀ s₃:Shared,s₃=s1->codeAny (model X.prog X.w) X.A (.compLoop (.ListComp elt [⟨.Name x px,iter,ifs,0⟩] scope pos) 0 (.ref it) (.ref D) ev) (RR (.ref D) C) s₃:=by
  rintro s₃ rfl
  refine k7 (EE:=Y.xe) (λ n s'=>∃ i o H' ys its k,Inv Y [] (o::aK σ cs) H' s'/\tn i s'.heap/\(∀ b ∈ fp,H' b=none)/\H' D=none/\s'.heap.get? D=some { cls:=.type "list",data:=.seq (its:List Value).toArray k }/\cu ys its/\W i n ys H') ?_ m0
    ⟨0,none,H,[],[],0,I1,st1,λ b hb=>(f2 b hb).1,FD.1,hacc,.nil,w0⟩ hZ
  rintro n s3 ⟨i,o,H3,ys,its,k,I3,st3,fr3,frD,e3,vs3,w3⟩
  have I3p:=pinD I3 frD e3 (by intro v z; cases z)
  have onlyD:∀ p ∈ [(D,({ cls:=.type "list",data:=.seq its.toArray k }:Obj))],p.1=D:=λ p hp=>by
    have e1:=Zx.mp hp;rw [e1]
  rcases turn i n ys H3 w3 with ⟨stop,hz,q⟩ | ⟨go,hz,step⟩
  · have dn:=T.done Y y1 y2 y3 (by rw [y6]; exact hc) i _ s3 (o::aK σ cs) H3 Y.xe I3p (stat fr3 onlyD) st3 stop
    rw [y4] at dn;refine thn dn λ r s4 ⟨hr,I4⟩=>?_
    subst hr;obtain ⟨e4,_⟩:=I4.pin (D,_) (Zy _ (Zx.mpr rfl));have b4:=I4.base;rw [y9,y10,y11,y12] at b4;have hk4:=I4.hok;rw [y1,y2] at hk4;have hCn:H3 C=none:=by have:=I4.free; rw [yl] at this; exact this
    refine hRR D C s4 H3 ys (by rw [<- hD]; exact Zo _) (by rw [hD]; exact hCle) hDC (by obtain ⟨m,hm,_⟩:=I4.loc; rw [yl] at hm; exact ⟨m,hm⟩) ?_ hCn (q D frD);have neD:∀ b o,s.heap.get? b=some o->b≠D:=λ b o e=>by rw [<- hD]; exact Z1 (Zt e)
    have neDH:∀ b u,H b=some u->b≠D:=λ b u e=>by rw [<- hD]; exact Z1 (I.hok.lt e)
    refine I.IG (by have:=I4.os; rw [y11] at this; exact this) ⟨b4.keep,b4.slot,λ b o e n hx=>?_,b4.there,λ b xs e=>?_,λ b o u e=>?_,λ b ps e=>?_⟩ (λ b u e=>?_) I4.bare λ b hb=>?_
    · rw [aF (neD b o e)]; exact b4.free b o e n hx
    · rw [aF (neDH b _ e)]; exact b4.rN b xs e
    · rw [aF (neDH b _ e)]; exact b4.qY b o u e
    · rw [aF (neDH b _ e)]; exact b4.rO b ps e
    ·have t1:∀ c u,H3 c=some u->upd H3 D (.lst ys) c=some u:=λ c u z=>by
      rw [aF (λ zz=>by rw [zz,frD] at z; cases z)];exact z
     by_cases hb:b=D
     ·subst hb
      rw [aC] at e;cases e;exact ⟨hz,its,k,vs3,e4⟩
     ·rw [aF hb] at e
      exact (hk4 b u e).yx (λ _ _ _ z=>z) (λ c z=>t1 c _ z) λ c xs z=>t1 c _ z
    · exact ⟨(f2 b hb).2.2.2.1,(f2 b hb).2.1,(f2 b hb).2.2.2.2.1,(f2 b hb).2.2.2.2.2⟩
  · have im:=T.item Y y1 y2 y3 (by rw [y6]; exact hc) i _ s3 (o::aK σ cs) H3 Y.xe I3p (stat fr3 onlyD) st3 go
    rw [y4] at im;refine thn im λ r s4 ⟨u,hr,h4⟩=>?_
    subst hr;refine thn h4 λ _ s5 ⟨v,H5,I5,r5,y5',st5,fr5⟩=>?_
    have I5':=I5.pinned (stat fr5 onlyD) (T.obj _ _ st5);have as:=pgx _ s5 (o::aK σ cs) H5 v u _ I5' r5 (show nJ 0 v (o::aK σ cs) H5 (λ σ' H'=>σ'=some v::aK σ cs/\H'=H5) from ⟨rfl,rfl⟩);rw [y1,y2,y4,y5] at as;refine thn as λ _ s6 ⟨σ6,H6,I6,e6,e6'⟩=>?_
    subst e6 e6';have ts:=ptY _ s6 _ H6 _ I6 (step v H6 y5');rw [y1,y2,y4,y5] at ts;refine thn ts λ bb s7 ⟨H7,I7,q7⟩=>?_
    have fpk:∀ b ∈ fp,∀ o,s5.heap.get? b=some o->s7.heap.get? b=some o/\H7 b=none:=λ b hb o e=>by
     obtain ⟨z1,z2,_⟩:=I7.pin (b,o) (Zy _ (Zy _ (eT hb e)));exact ⟨z1,z2⟩
    cases bb with
    | false=>
     obtain ⟨m',hm',w7⟩:=(by rw [if_neg Zf] at q7; exact q7)
     rw [if_neg Zf];obtain ⟨e7,n7,_⟩:=I7.pin (D,_) (Zy _ (Yt _ (Zx.mpr rfl)));have I7n:Inv Y [] (some v::aK σ cs) H7 s7:=I7.iA λ p hp=>absurd hp (by simp)
     refine ⟨m',hm',i+1,some v,H7,ys,its,k,I7n,T.keep _ _ _ st5 λ b hb o e=>(fpk b hb o e).1,λ b hb=>?_,n7,e7,vs3,w7⟩;obtain ⟨o',e',_⟩:=T.obj _ _ st5 b hb;exact (fpk b hb o' e').2
    | true=>
    rw [if_pos rfl];have q7':=q7;rw [if_pos rfl] at q7';have el:=peY _ s7 _ H7 _ I7 q7';rw [y1,y2,y4,y5] at el;refine thn el λ u8 s8 ⟨y8',H8,I8,r8,m',hm',w8⟩=>?_
    obtain ⟨e8,n8,_⟩:=I8.pin (D,_) (Zy _ (Yt _ (Zx.mpr rfl)));have hl3:=vs3.length;refine Wi F.slot_list_append ⟨_,e8,rfl⟩ F.entry_list_append (F.args_list_append_2 _ _) (PySem.list_append D its.toArray k u8 (by rw [Zw]; omega)) ⟨e8,?_⟩;obtain ⟨k',up⟩:∃ k',(s8.heap.update D (Obj.mapSeq (·.push u8))).get? D=some { cls:=.type "list",data:=.seq (its.toArray.push u8) k' }:=⟨_,PySem.IsL.update e8 (·.push u8)⟩
    have fpk8:∀ b ∈ fp,∀ o,s5.heap.get? b=some o->s8.heap.get? b=some o/\H8 b=none:=λ b hb o e=>by
     obtain ⟨z1,z2,_⟩:=I8.pin (b,o) (Zy _ (Zy _ (eT hb e)));exact ⟨z1,z2⟩
    have I8n:Inv Y [] (some v::aK σ cs) H8 s8:=I8.iA λ p hp=>absurd hp (by simp)
    refine ⟨m',hm',i+1,some v,H8,ys++[y8'],its++[u8],k',?_,?_,?_,n8,?_,vs3.append (.cons r8 .nil),w8⟩
    ·refine I8n.turned (λ b o hb e=>(Heap.get?_update_other s8.heap (Obj.mapSeq (·.push u8)) (Ne.symm hb)).trans e) n8 (by rw [yl]; exact hDC) (.inr (by rw [y11,<- hD]; exact Zo _)) (λ z c e=>(yc z c e).elim Nat.ne_of_gt (FD.2.2.2.2.1 z c)) λ p hp=>?_
     rw [y8] at hp;exact absurd hp (by simp)
    ·refine T.keep _ _ _ st5 λ b hb o e=>?_
     exact (Heap.get?_update_other s8.heap (Obj.mapSeq (·.push u8)) (Ne.symm (nfpD b hb))).trans (fpk8 b hb o e).1
    ·intro b hb
     obtain ⟨o',e',_⟩:=T.obj _ _ st5 b hb;exact (fpk8 b hb o' e').2
    ·rw [List.push_toArray] at up
     exact up
 exact codeAny_compStart_list (loop _ rfl) (T.self _ 0 _ _ _ st1 (loop _ rfl))
theorem pR {Z:Addr->Value->Shared->Prop} {ifs:List Expr} {tt:TT} {elt iter:Expr} {x:Str} {px pos:Pos} {scope:Scope} {cl:List (Str×Addr)} {cs:List (Str×Nat)} {te:TE} {ac:List (Addr×Obj)} {σ:St} {H:Hp} {s:Shared} {Q:VK} {it:Addr} {fp:List Addr} {tn:Nat->Heap->Prop} {J:It}
  {RR:Value->Env->Result->Shared->Prop} {E:Value->Shared->Prop} (hc:X.calm=true) (O:dA X scope cl x cs) (hcd:∀ C,s.heap.objs.size<=C->PTs ((bI X scope cl (x::cs.map (·.1)) s H fp C).tj (Z C)) ifs tt) (he:∀ C,s.heap.objs.size<=C->PE ((bI X scope cl (x::cs.map (·.1)) s H fp C).tj (Z C)) elt te)
  (hZ:∀ D C e s',Z C e s'->notedBy (model X.prog X.w) X.A (compEnvC scope cl C X.env) (λ x s''=>RR (.ref D) (compEnvC scope cl C X.env) (.error x) s'') e s')
  (I:Inv X ac σ H s) (T:Turn X.prog X.w X.K (.Name x px) J fp it tn) (st:tn 0 s.heap) (f2:∀ b ∈ fp,rE X ac H b)
  (h : ∃ W:Nat->Nat->List V->Hp->Prop,(∃ m,W 0 m [] H)/\∀ i m ys H',W i m ys H'->(J.stop i H'/\ys.length<=sizeLine/\∀ p,H' p=none->Q (.ref p) (upd H' p (.lst ys)))\/(J.go i H'/\ys.length < sizeLine/\∀ v H2,J.yld i H' v H2->tt (some v::aK σ cs) H2 λ b H3=>if b=true then te (some v::aK σ cs) H3 λ y H4=>∃ m',m' < m/\W (i+1) m' (ys++[y]) H4 else ∃ m',m' < m/\W (i+1) m' ys H3))
  (hRR:∀ D C s' H' ys,s.heap.objs.size<=D->s.heap.objs.size<=C->D≠C->(∃ m,s'.heap.Ns C m)->Inv X ac σ (upd H' D (.lst ys)) s'->H' C=none->Q (.ref D) (upd H' D (.lst ys))->RR (.ref D) (compEnvC scope cl C X.env) (.ok .next) s'):wpAny (model X.prog X.w) X.A (newList []) (λ acc s₃=>wpAny (model X.prog X.w) X.A (newFunctionEnv scope X.env.globals cl [] X.env.qual none .none (some X.env)) (λ cenv s₄=>
    codeAny (model X.prog X.w) X.A (.compStart (.ListComp elt [⟨.Name x px,iter,ifs,0⟩] scope pos) 0 (.ref it) acc { cenv with scope:=relabel scope X.env }) (RR acc { cenv with scope:=relabel scope X.env }) s₄) E s₃) E s:=by
 obtain ⟨W,⟨m0,w0⟩,turn⟩:=h;refine X5 (wpAny_newFunctionEnv O.xD (by intro y hy; simp at hy) (λ h₁ hns₁ hsb₁=>?_) O.kind);generalize hH2:s.heap.push { cls:=.type "list",dict:=none,data:=.seq ([]:List Value).toArray }=H2 at hns₁ hsb₁ ⊢
 have hC:H2.objs.size=s.heap.objs.size+1:=by rw [<- hH2,Heap.size_push]
 have hDC:s.heap.objs.size≠H2.objs.size:=by rw [hC]; exact Z1 (Nat.lt_succ_self _)
 have hCle:s.heap.objs.size<=H2.objs.size:=by rw [hC]; exact Nat.le_succ _
 have neC:∀ b,b < s.heap.objs.size->b≠H2.objs.size:=λ b hb=>by rw [hC]; exact Z1 (Nat.lt_succ_of_lt hb)
 have old:∀ b o,s.heap.get? b=some o->h₁.get? b=some o:=λ b o e=>hsb₁.extBut b o (neC b (Zt e)) (Heap.get?_push_of_some _ (hH2 ▸ Heap.get?_push_of_some _ e))
 have hacc:=hsb₁.extBut _ _ hDC (Heap.get?_push_of_some _ (hH2 ▸ Heap.get?_push_size _ rfl))
 have there:∀ b ∈ fp,b < s.heap.objs.size:=λ b hb=>by
  obtain ⟨o,e,_⟩:=T.obj _ _ st b hb;exact Zt e
 have hns:h₁.Ns H2.objs.size λ _=>none:=by
  have e:(λ x=>List.lookup x ([]:List (Str×Value)).reverse)=λ _=>none:=by funext y; rfl
  rw [e] at hns₁
  exact hns₁
 generalize hD:s.heap.objs.size=D at hDC hCle hacc;generalize hCC:H2.objs.size=C at hDC hCle hns ⊢;have st1:=T.keep _ _ _ st λ b _ o e=>old b o e
 have I1:Inv (bI X scope cl (x::cs.map (·.1)) s H fp C) [] (none::aK σ cs) H { s with heap:=h₁,toks:=s.toks+([]:List (Str×Value)).length }:=
  zb O I f2 there (by rw [hD]; exact hCle) old hns
 exact Cc (RR:=λ acc C=>RR acc (compEnvC scope cl C X.env)) hc I T f2 there w0 turn hRR hD hDC hCle st1 hacc (I1.tj _) (sd O.nd rfl (.inl (Xa O.own)) (.inr (Xa O.own))) (hcd C (by rw [hD]; exact hCle)) (he C (by rw [hD]; exact hCle)) ⟨rfl,rfl,rfl,rfl,rfl,rfl,rfl,rfl,rfl,rfl,rfl⟩ rfl (hZ D C) λ z c e=>.inr (O.sub z c e)
def lT {ifs:List Expr} {tt:TT} {elt iter:Expr} {x:Str} {px pos:Pos} {scope:Scope} {cl:List (Str×Addr)} {cs:List (Str×Nat)} {te:TE} {ac:List (Addr×Obj)} {σ:St} {H:Hp} {s:Shared} {Q:VK} {it:Addr} {fp:List Addr} {tn:Nat->Heap->Prop} {J:It}
  {RR:Value->Addr->Result->Shared->Prop} {E:Value->Shared->Prop} (hc:X.calm=true) (O:dA X scope cl x cs) (hcd:∀ s H fp C,PTs (bI X scope cl (x::cs.map (·.1)) s H fp C) ifs tt) (he:∀ s H fp C,PE (bI X scope cl (x::cs.map (·.1)) s H fp C) elt te)
  (I:Inv X ac σ H s) (T:Turn X.prog X.w X.K (.Name x px) J fp it tn) (st:tn 0 s.heap) (f2:∀ b ∈ fp,rE X ac H b)
  (h : ∃ W:Nat->Nat->List V->Hp->Prop,(∃ m,W 0 m [] H)/\∀ i m ys H',W i m ys H'->(J.stop i H'/\ys.length<=sizeLine/\∀ p,H' p=none->Q (.ref p) (upd H' p (.lst ys)))\/(J.go i H'/\ys.length < sizeLine/\∀ v H2,J.yld i H' v H2->tt (some v::aK σ cs) H2 λ b H3=>if b=true then te (some v::aK σ cs) H3 λ y H4=>∃ m',m' < m/\W (i+1) m' (ys++[y]) H4 else ∃ m',m' < m/\W (i+1) m' ys H3))
  (hRR:∀ D C s' H' ys,s.heap.objs.size<=D->s.heap.objs.size<=C->D≠C->(∃ m,s'.heap.Ns C m)->Inv X ac σ (upd H' D (.lst ys)) s'->H' C=none->Q (.ref D) (upd H' D (.lst ys))->RR (.ref D) C (.ok .next) s'):wpAny (model X.prog X.w) X.A (newList []) (λ acc s₃=>wpAny (model X.prog X.w) X.A (newFunctionEnv scope X.env.globals cl [] X.env.qual none .none (some X.env)) (λ cenv s₄=>
    codeAny (model X.prog X.w) X.A (.compStart (.ListComp elt [⟨.Name x px,iter,ifs,0⟩] scope pos) 0 (.ref it) acc { cenv with scope:=relabel scope X.env }) (RR acc cenv.locals) s₄) E s₃) E s:=
 pR (Z:=λ _ _ _=>False) (RR:=λ acc ev=>RR acc ev.locals) hc O (λ _ _=>hcd _ _ _ _) (λ _ _=>he _ _ _ _) (λ _ _ _ _ h=>h.elim) I T st f2 h hRR
def rM {J:It} {te:TE} {cs:List (Str×Nat)} {σ:St} {Q:VK} {H1:Hp} (h:zK J te cs σ Q H1):∃ W:Nat->Nat->List V->Hp->Prop,(∃ m,W 0 m [] H1)/\∀ i m ys H',W i m ys H'->(J.stop i H'/\ys.length<=sizeLine/\∀ p,H' p=none->Q (.ref p) (upd H' p (.lst ys)))\/(J.go i H'/\ys.length < sizeLine/\∀ v H2,J.yld i H' v H2->(λ _ H Q=>Q true H:TT) (some v::aK σ cs) H2 λ b H3=>if b=true then te (some v::aK σ cs) H3 λ y H4=>∃ m',m' < m/\W (i+1) m' (ys++[y]) H4 else ∃ m',m' < m/\W (i+1) m' ys H3):=
 have ⟨W,w0,t⟩:=h
 ⟨W,w0,λ i m ys H' w=>(t i m ys H' w).imp id λ ⟨a,b,c⟩=>⟨a,b,λ v H2 y=>by show ite _ _ _; rw [if_pos rfl]; exact c v H2 y⟩⟩
def GZ {elt iter:Expr} {x:Str} {px pos:Pos} {scope:Scope} {cl:List (Str×Addr)} {cs:List (Str×Nat)} {wi:TI} {te:TE} (hc:X.calm=true) (O:dA X scope cl x cs) (hi:PI X (.Name x px) iter wi)
  (he:∀ s H fp C,PE (bI X scope cl (x::cs.map (·.1)) s H fp C) elt te) (hs:∀ x,foldedSetIterable iter X.env x=pure x:=by intro _; rfl):PE X (.ListComp elt [⟨.Name x px,iter,[],0⟩] scope pos) (Gj wi te cs):=by
 intro ac s σ H Q I h;rw [eval_ListComp];refine Xo rfl hs O.Jc O.kind O.names (thn (hi ac s σ H _ I h) λ v s1 h1=>thn h1 λ itv s2 h2=>?_);obtain ⟨it,fp,tn,J,H2,rfl,I2,T,st2,f2,hw⟩:=h2;refine lT hc O (λ _ _ _ _=>vK) he I2 T st2 f2 (rM hw) λ D C s' H' ys hD hC hDC ⟨m,hm⟩ I' hn q=>?_
 refine ⟨m,hm,λ h' hs'=>?_⟩;have hn':upd H' D (.lst ys) C=none:=by rw [aF (Ne.symm hDC)]; exact hn
 have FC:=I2.wq hC hn';exact ⟨.ref D,upd H' D (.lst ys),I'.turned (λ b o hb e=>(hs'.2 b hb).trans e) hn' FC.2.1 FC.2.2.2.1 FC.2.2.2.2.1 FC.2.2.2.2.2,rfl,q⟩
def GO {elt iter:Expr} {x y:Str} {px py pos spos:Pos} {i:Nat} {scope:Scope} {cl:List (Str×Addr)} {cs:List (Str×Nat)} {wi:TI} {te:TE} (hN:X.N.Nodup) (hy:X.N[i]?=some y) (hx:Loc X.env.scope y)
  (hc:X.calm=true) (O:dA X scope cl x cs) (hi:PI X (.Name x px) iter wi)
  (he:∀ s H fp C,PE (bI X scope cl (x::cs.map (·.1)) s H fp C) elt te) (hs:∀ x,foldedSetIterable iter X.env x=pure x:=by intro _; rfl)
  (hsw:swapsWith (.ListComp elt [⟨.Name x px,iter,[],0⟩] scope pos) (some (.Name y py)) spos.line X.env=pure true:=by rfl)
  (hf:X.fn y=true\/X.env.scope.names.lookup y=some .local:=by first | exact .inl rfl | exact .inr rfl | assumption):PS X (.Assign [.Name y py] (.ListComp elt [⟨.Name x px,iter,[],0⟩] scope pos) spos) (JH (Gj wi te cs) (nJ i)):=by
 intro ac s σ H Dd I h;rw [exec_Assign_Name_used _ _ _ _ hsw];refine Zr (Wg (Zr ?_))
 refine Zr (Yv (Xo rfl hs O.Jc O.kind O.names (thn (hi ac s σ H _ I h) λ v s1 h1=>thn h1 λ itv s2 h2=>?_))
  (λ _ s' hq=>Z4 (Z4 hq)) λ _ _ e=>e)
 obtain ⟨it,fp,tn,J,H2,rfl,I2,T,st2,f2,hw⟩:=h2;refine lT (Q:=λ v H1=>nJ i v σ H1 Dd.nx) hc O (λ _ _ _ _=>vK) he I2 T st2 f2 (rM hw) λ D C s' H' ys hD hC hDC ⟨m,hm⟩ I' hn q=>?_
 have hn':upd H' D (.lst ys) C=none:=by rw [aF (Ne.symm hDC)]; exact hn
 have FC:=I2.wq hC hn';refine wpAny_assign_Name (ir I' hN hy hx (v:=.ref D) rfl (λ s'' I'' ⟨a,hsb,ha⟩=>?_) hf)
 have na:C≠a:=by
  rcases ha with ha | ha
  · rw [ha]; exact FC.2.1
  · exact Ne.symm (FC.2.2.2.2.1 y a ha)
 refine ⟨m,hm.sameBut hsb na,λ h' hs'=>?_⟩;exact ⟨σ.set i (some (.ref D)),upd H' D (.lst ys),I''.turned (λ b o hb e=>(hs'.2 b hb).trans e) hn' FC.2.1 FC.2.2.2.1 FC.2.2.2.2.1 FC.2.2.2.2.2,q⟩
end
def ID (h1:scope.kind=.function) (h2:∀ y ∈ scope.names,y.2≠.cell) (h3:∀ y ∈ scope.names,y.2≠.free) (h4:∀ y ∈ scope.names,y.2=.local->scope.names.lookup y.1=some .local) (h5:scope.names.lookup x=some .local):dA X scope [] x [] where
 Jc:=closureFor_none h3
 kind:=h1
 xD:=h2
 names:=h4
 own:=h5
 sub:=λ _ _ e=>by cases e
 has := λ y hy=>by
  have rel:(relabel scope X.env).names=scope.names:=by
   exact map_eq_self λ z hz=>by
    obtain ⟨n,k⟩:=z;have:(k == NameKind.free)=false:=by simpa using h3 _ hz
    simp [this]
  rw [rel] at hy;rcases hy with hy | hy
  · exact absurd rfl (h2 _ (Yq hy))
  · exact absurd rfl (h3 _ (Yq hy))
 NU:=λ _ h=>by cases h
 nd:=by simp
section
variable {κ:Type} [DecidableEq κ]
def qu (am:List (κ×V)) (k:κ):Option V:=(am.find? λ kv=>decide (kv.1=k)).map (·.2)
def putK (am:List (κ×V)) (k:κ) (v:V):List (κ×V):=
 if (am.any λ kv=>decide (kv.1=k))=true then am.map (λ kv=>if kv.1=k then (kv.1,v) else kv) else am++[(k,v)]
def rH {p:κ×V} {r:List (κ×V)} {k:κ} (e:p.1=k):qu (p::r) k=some p.2:=by simp [qu,List.find?_cons,e]
def rJ {p:κ×V} {r:List (κ×V)} {k:κ} (e:¬ p.1=k):qu (p::r) k=qu r k:=by simp [qu,List.find?_cons,e]
theorem w4 (k:κ):∀ am:List (κ×V),(am.any λ kv=>decide (kv.1=k))=(qu am k).isSome
 | []=>rfl
 | p::r=>by
  rw [Y2]
  by_cases e:p.1=k
  · simp only [rH e,Ze e,Bool.true_or,Option.isSome_some]
  · rw [rJ e,Zc e,Bool.false_or]; exact w4 k r
theorem j8 (am:List (κ×V)) (k:κ) (v:V):(putK am k v).length<=am.length+1:=by
 unfold putK;split
 · rw [Zk]; omega
 · rw [Zh,Zi,List.length_nil]; omega
def zk.pf {o:Option V} {u:Option Value} (r:zk o u):o.isSome=u.isSome:=by
 cases o with
 | none=>cases u with
  | none=>rfl
  | some _=>exact (show False from r).elim
 | some _=>cases u with
  | none=>exact (show False from r).elim
  | some _=>rfl
def zk.getD {o:Option V} {u:Option Value} {d:V} {d':Value} (r:zk o u) (rd:RelV d d'):RelV (o.getD d) (u.getD d'):=by
 cases o with
 | none=>cases u with
  | none=>exact rd
  | some _=>exact (show False from r).elim
 | some _=>cases u with
  | none=>exact (show False from r).elim
  | some _=>exact r
def KV.val {am:List (κ×V)} {vs:List (κ×Value)} (r:KV am vs) (k:κ):zk (qu am k) (valueAt vs k):=by
 unfold KV at r
 induction r with
 | nil=>exact True.intro
 | @cons p q ps qs h t ih=>
  obtain ⟨h1,h2⟩:=h
  by_cases e:p.1=k
  ·have e':q.1=k:=h1.symm.trans e
   have b:valueAt (q::qs) k=some q.2:=by simp [valueAt,List.find?_cons,e']
   rw [rH e,b]; exact h2
  ·have e':¬ q.1=k:=λ z=>e (h1.trans z)
   have b:valueAt (q::qs) k=valueAt qs k:=by simp [valueAt,List.find?_cons,e']
   rw [rJ e,b]; exact ih
def KV.any {am:List (κ×V)} {vs:List (κ×Value)} (r:KV am vs) (k:κ):(am.any λ kv=>decide (kv.1=k))=vs.any λ kv=>decide (kv.1=k):=by
 unfold KV at r
 induction r with
 | nil=>rfl
 | cons h t ih=>rw [Y2,Y2,ih,h.1]
def KV.GH {am:List (κ×V)} {vs:List (κ×Value)} (r:KV am vs) (k:κ) {y:V} {u:Value} (ry:RelV y u):KV (am.map λ kv=>if kv.1=k then (kv.1,y) else kv) (vs.map λ kv=>if kv.1=k then (kv.1,u) else kv):=by
 unfold KV at r ⊢
 induction r with
 | nil=>exact .nil
 | @cons p q ps qs h t ih=>
  rw [Zz,Zz];refine .cons ?_ ih;obtain ⟨h1,h2⟩:=h
  by_cases e:p.1=k
  · rw [if_pos e,if_pos (h1.symm.trans e)]; exact ⟨h1,ry⟩
  · rw [if_neg e,if_neg (λ z=>e (h1.trans z))]; exact ⟨h1,h2⟩
def KV.put {am:List (κ×V)} {vs:List (κ×Value)} (r:KV am vs) (k:κ) {y:V} {u:Value} (ry:RelV y u):KV (putK am k y) (stored vs k u):=by
 unfold putK stored;rw [r.any k]
 by_cases e:(vs.any λ kv=>decide (kv.1=k))=true
 · rw [if_pos e,if_pos e]; exact r.GH k ry
 · rw [if_neg e,if_neg e]; exact Paired.snoc r ⟨rfl,ry⟩
def KV.length {am:List (κ×V)} {vs:List (κ×Value)} (r:KV am vs):am.length=vs.length:=Paired.length r
end
def wg {P:Program} {w:World} {k:Key} {u:Value} (r:RelV (kV k) u):(bN P w).is k u=true:=by
 cases k with
 | inl i=>obtain ⟨t,e⟩:=(show ∃ t,u=Value.int i t from r); subst e; exact wd P w i t
 | inr x=>obtain ⟨t,e⟩:=(show ∃ t,u=Value.str x t from r); subst e; exact j7 P w x t
theorem uA {P:Program} {w:World}:∀ {ks:List Key} {us:List Value},cu (ks.map kV) us->ItemsAre (bN P w) ks us
 | [],_,r=>by rw [X2] at r; cases r; exact .nil
 | k::ks,_,r=>by
  rw [Zz] at r
  cases r with
  | cons h t=>exact .cons (wg h) (uA t)
abbrev KT (H:Hp):List (List Key×V)->List (List Key×Addr×Value)->Prop:=Paired λ p q=>p.1=q.1/\H q.2.1=some (.tup (p.1.map kV))/\RelV p.2 q.2.2
def KT.val {H:Hp} {am:List (List Key×V)} {xs:List (List Key×Addr×Value)} (r:KT H am xs) (k:List Key):zk (qu am k) ((atKey xs k).map (·.2)):=by
 induction r with
 | nil=>exact True.intro
 | @cons p q ps qs h t ih=>
  obtain ⟨h1,_,h2⟩:=h
  by_cases e:p.1=k
  ·have e':q.1=k:=h1.symm.trans e
   have b:atKey (q::qs) k=some q.2:=by simp [atKey,List.find?_cons,e']
   rw [rH e,b]; exact h2
  ·have e':¬ q.1=k:=λ z=>e (h1.trans z)
   have b:atKey (q::qs) k=atKey qs k:=by simp [atKey,List.find?_cons,e']
   rw [rJ e,b]; exact ih
def KT.GH {H:Hp} {am:List (List Key×V)} {xs:List (List Key×Addr×Value)} (r:KT H am xs) (k:List Key) {y:V} {u:Value} (ry:RelV y u):KT H (am.map λ kv=>if kv.1=k then (kv.1,y) else kv) (xs.map (putAt k u)):=by
 induction r with
 | nil=>exact .nil
 | @cons p q ps qs h t ih=>
  rw [Zz,Zz];refine .cons ?_ ih;obtain ⟨h1,h2,h3⟩:=h;unfold putAt
  by_cases e:p.1=k
  · rw [if_pos e,if_pos (h1.symm.trans e)]; exact ⟨h1,h2,ry⟩
  · rw [if_neg e,if_neg (λ z=>e (h1.trans z))]; exact ⟨h1,h2,h3⟩
def KT.put {H:Hp} {am:List (List Key×V)} {xs:List (List Key×Addr×Value)} (r:KT H am xs) (k:List Key) {b:Addr} {y:V} {u:Value} (hb:H b=some (.tup (k.map kV))) (ry:RelV y u):KT H (putK am k y) (storedH xs k b u):=by
 have e:(am.any λ kv=>decide (kv.1=k))=(atKey xs k).isSome:=by
  rw [w4,(r.val k).pf,Option.isSome_map]
 unfold putK storedH;rw [e]
 by_cases q:(atKey xs k).isSome=true
 · rw [if_pos q,if_pos q]; exact r.GH k ry
 · rw [if_neg q,if_neg q]; exact Paired.snoc r ⟨rfl,hb,ry⟩
def KT.keeps {H H':Hp} {am:List (List Key×V)} {xs:List (List Key×Addr×Value)} (r:KT H am xs) (ht:∀ b ys,H b=some (.tup ys)->H' b=some (.tup ys)):KT H' am xs:=
 Paired.QL r λ _ _ z=>⟨z.1,ht _ _ z.2.1,z.2.2⟩
section
variable {P:Program} {w:World} {H:Hp} {h:Heap} {a:Addr}
def J1 {u:HO} (ok:HOk P w H h) (e:Rd H a u):c8 P w H h a u:=e.ok ok
def yZ {am:List (Key×V)} (ok:HOk P w H h) (e:Rd H a (.dK am)):am.length<=sizeLine/\(a == sysModules)=false/\∃ vs,KV am vs/\h.DictOf (bN P w) a vs:=
 show c8 P w H h a (.dK am) from J1 ok e
def Mb {am:List (Key×V)} (ok:HOk P w H h) (e:H a=some (.dK am)):am.length<=sizeLine/\(a == sysModules)=false/\∃ vs,KV am vs/\h.DictOf (bN P w) a vs:=yZ ok (.inl e)
def ux {ks:List Key} (ok:HOk P w H h) (e:H a=some (.tup (ks.map kV))):(tupleKind (bN P w)).is h ks a:=by
 obtain ⟨_,its,r,o,h1,h2,n,h3⟩:=(show c8 P w H h a (.tup (ks.map kV)) from ok a _ e)
 exact ⟨o,its.toArray,n,h1,h2,h3,by simpa using uA r⟩
def yX {am:List (List Key×V)} (ok:HOk P w H h) (e:Rd H a (.dT am)):am.length<=sizeLine/\(a == sysModules)=false/\∃ xs,KT H am xs/\h.DictOfH (tupleKind (bN P w)) a xs:=by
 obtain ⟨z,y,xs,r,o,es,ep,h1,h2,h3,h4,h5⟩:=(show c8 P w H h a (.dT am) from J1 ok e)
 refine ⟨z,y,xs,r,o,es,ep,h1,h2,h3,h4,λ x hx=>?_,h5⟩
 have all:∀ {l:List (List Key×V)} {m:List (List Key×Addr×Value)},KT H l m->∀ x ∈ m,(tupleKind (bN P w)).is h x.1 x.2.1:=by
  intro l m q
  induction q with
  | nil=>intro x hx; exact nomatch hx
  | @cons p q ps qs hq t ih=>
   intro x hx;rcases Zd.mp hx with e | hx
   ·subst e
    exact ux ok (by rw [<- hq.1]; exact hq.2.1)
   · exact ih x hx
 exact all r x hx
def Rb {am:List (List Key×V)} (ok:HOk P w H h) (e:H a=some (.dT am)):am.length<=sizeLine/\(a == sysModules)=false/\∃ xs,KT H am xs/\h.DictOfH (tupleKind (bN P w)) a xs:=yX ok (.inl e)
end
def zu (H:Hp) (a:Addr) (y:V) (r:Option V):Prop:=
 (∃ am k,Rd H a (.dK am)/\y=kV k/\r=qu am k)\/∃ am k b,Rd H a (.dT am)/\y=.ref b/\H b=some (.tup (k.map kV))/\r=qu am k
def Mn (H:Hp) (a:Addr) (y v:V) (H':Hp):Prop:=
 (∃ am k,H a=some (.dK am)/\y=kV k/\am.length < sizeLine/\H'=upd H a (.dK (putK am k v)))\/∃ am k b,H a=some (.dT am)/\y=.ref b/\H b=some (.tup (k.map kV))/\am.length < sizeLine/\H'=upd H a (.dT (putK am k v))
def zu.k {H:Hp} {a:Addr} {am:List (Key×V)} {k:Key} (e:H a=some (.dK am)):zu H a (kV k) (qu am k):=.inl ⟨am,k,.inl e,rfl,rfl⟩
def Mn.k {H:Hp} {a:Addr} {am:List (Key×V)} {k:Key} {v:V} (e:H a=some (.dK am)) (hl:am.length < sizeLine):Mn H a (kV k) v (upd H a (.dK (putK am k v))):=.inl ⟨am,k,e,rfl,hl,rfl⟩
section
variable {X:Cx} {ac:List (Addr×Obj)} {σ:St} {H:Hp} {s:Shared} {a:Addr} {y v:V} {u r:Value} {o:Option V} {A:Around} {E:Value->Shared->Prop}
def Inv.big (I:Inv X ac σ H s):sysModules < s.heap.objs.size:=by
 have h:mainGlobals < s.heap.objs.size:=(I.mod.glob.keeps I.bk).lt;exact Wc (by decide) h
def BY {Q:Value->Shared->Prop} (hu:A.units+1 < cLine) (I:Inv X ac σ H s) (g:zu H a y (some v)) (ry:RelV y u) (h:∀ w' s',Inv X ac σ H s'->RelV v w'->Q w' s'):wpAny (model X.prog X.w) A (getItem (.ref a) u) Q E s:=by
 rcases g with ⟨am,k,e,ey,l⟩ | ⟨am,k,b,e,ey,eb,l⟩
 ·subst ey
  obtain ⟨z,hd,vs,rel,dd⟩:=yZ I.hok e;obtain ⟨w',hw,rw'⟩:=zk.some_of (v:=v) (o:=valueAt vs k) (by rw [l]; exact rel.val k);exact wpAny_getItem_of (wg ry) dd.mapOf hw (h w' _ (I.tok _) rw')
 ·subst ey
  cases (show u=Value.ref b from ry);obtain ⟨z,hd,xs,rel,dd⟩:=yX I.hok e;obtain ⟨w',hw,rw'⟩:=zk.some_of (v:=v) (o:=(atKey xs k).map (·.2)) (by rw [l]; exact rel.val k);obtain ⟨p,hp,hp2⟩:=Zm hw;refine wpAny_getItem_heap (tupleKind_room_in1 hu) (ux I.hok eb) dd hp ?_
  rw [hp2];exact h w' _ (I.tok _) rw'
def UP {Q:Value->Shared->Prop} (hu:A.units+1 < cLine) (I:Inv X ac σ H s) (g:zu H a y o) (ry:RelV y u) (h:∀ s',Inv X ac σ H s'->Q (.bool o.isSome) s'):wpAny (model X.prog X.w) A (compareOp .In u (.ref a)) Q E s:=by
 rcases g with ⟨am,k,e,ey,l⟩ | ⟨am,k,b,e,ey,eb,l⟩
 ·subst ey
  obtain ⟨z,hd,vs,rel,dd⟩:=yZ I.hok e;refine wpAny_in_of (wg ry) hd dd.mapOf ?_
  rw [<- (rel.val k).pf,<- l];exact h _ (I.tok _)
 ·subst ey
  cases (show u=Value.ref b from ry);obtain ⟨z,hd,xs,rel,dd⟩:=yX I.hok e;refine wpAny_in_heap (tupleKind_room_in1 hu) (ux I.hok eb) hd dd ?_
  have q:=(rel.val k).pf;rw [Option.isSome_map] at q;rw [<- q,<- l];exact h _ (I.tok _)
def wJ {h':Heap} {t':Nat} {ob:HO} (I:Inv X ac σ H s) (mu:Mut (H a)) (hs:Heap.SameBut a s.heap h') (he:∃ q,h'.get? a=some q) (new:c8 X.prog X.w (upd H a ob) h' a ob):Inv X ac σ (upd H a ob) { s with heap:=h',toks:=t' }:=
 I.write (x:=a) (e:=a) mu (.inl rfl) (λ b q hb z=>(hs.2 b hb).trans z) he new
def F0 {P:Program} {w:World} {H':Hp} {h':Heap} {am:List (Key×V)} {vs:List (Key×Value)} (z:am.length<=sizeLine) (hd:(a == sysModules)=false) (rel:KV am vs) (dd:h'.DictOf (bN P w) a vs):c8 P w H' h' a (.dK am):=⟨z,hd,vs,rel,dd⟩
theorem BX {H':Hp} {Q:Unit->Shared->Prop} (hu:A.units+1 < cLine) (I:Inv X ac σ H s) (g:Mn H a y v H') (ry:RelV y u) (rv:RelV v r) (h:∀ s',Inv X ac σ H' s'->Q () s'):wpAny (model X.prog X.w) A (setItem (.ref a) u r) Q E s:=by
 rcases g with ⟨am,k,e,ey,l,eH⟩ | ⟨am,k,b,e,ey,eb,l,eH⟩
 ·subst ey eH
  obtain ⟨z,hd,vs,rel,dd⟩:=Mb I.hok e;have hz:vs.length<=sizeLine:=by rw [<- rel.length]; exact z
  have hl:(putK am k v).length<=sizeLine:=by have:=j8 am k v; omega
  refine wpAny_setItem_pairs (hsz:=hz) (wg ry) dd λ h' dd' hs=>h _ ?_
  have he:∃ q,h'.get? a=some q:=let ⟨q,_,_,hq,_⟩:=dd'; ⟨q,hq⟩
  exact wJ I (by rw [e]; exact True.intro) hs he (F0 hl hd (rel.put k rv) dd')
 ·subst ey eH
  cases (show u=Value.ref b from ry);obtain ⟨z,hd,xs,rel,dd⟩:=Rb I.hok e;have hz:xs.length<=sizeLine:=by rw [<- Paired.length rel]; exact z
  have hl:(putK am k v).length<=sizeLine:=by have:=j8 am k v; omega
  refine wpAny_setItem_heap (hsz:=hz) (tupleKind_room_in1 hu) (ux I.hok eb) dd λ h' dd' hs=>h _ ?_
  obtain ⟨q,es,ep,hq,h2,h3,h4,_,h5⟩:=dd';refine wJ I (by rw [e]; exact True.intro) hs ⟨q,hq⟩ ⟨hl,hd,_,(rel.put k eb rv).keeps λ c ys ec=>?_,q,es,ep,hq,h2,h3,h4,h5⟩;rw [aF (QB ec e (λ z=>nomatch z))];exact ec
end
def Rr (i:Expr):Prop:=∀ ov iv,subscripted i false ov iv=operate [ov,iv] (getItem ov iv)
def Gn {prog:Program} {w:World} {A:Around} {E:Value->Shared->Prop} {s:Shared} {env:Env} {value slice:Expr} {pos:Pos} {T id:String} {Q:Value->Shared->Prop}
  (hl:typeLookup (.type T) "__getitem__"=pure (some (.builtin id))) (hs:Rr slice)
  (h:wpAny (model prog w) A (eval value env) (λ o s₁=>wpAny (model prog w) A (eval slice env) (λ i s₂=>s₂.TypeIs o T/\wpAny (model prog w) A (getItem o i) Q E s₂) E s₁) E s):wpAny (model prog w) A (eval (.Subscript value slice pos) env) Q E s:=by
 refine Subscript_ (Yv h (λ o s₁ h₁=>Yv h₁ (λ i s₂ h₂=>?_) λ _ _ x=>x) λ _ _ x=>x);obtain ⟨hT,h₂⟩:=h₂;unfold subscriptTail;refine Zr ?_
 rw [getitemInPython_of_ne hT.not_modules];refine Zr (wpAny_specialOf hT hl ?_)
 have fin:wpAny (model prog w) A (subscripted slice false o i) (λ r s₃=>wpAny (model prog w) A (letTemporaryGo value o r >>= λ _=>pure r) Q E s₃) E s₂:=by
  rw [hs o i];exact wpAny_operating (Yv h₂ (λ r s₃ h₃=>Zr (wpAny_letTemporaryGo (Z4 h₃))) λ _ _ x=>x)
 first
  | exact Z4 (Zr fin)
  | exact Zr (Z4 (Zr fin))
  | exact Zr fin
def wI {X:Cx} {ac:List (Addr×Obj)} {σ:St} {H:Hp} {s:Shared} {a:Addr} {y:V} {o:Option V} (I:Inv X ac σ H s) (g:zu H a y o):s.TypeIs (.ref a) "dict":=by
 rcases g with ⟨am,k,e,_,_⟩ | ⟨am,k,b,e,_,_,_⟩
 ·obtain ⟨_,_,vs,_,dd⟩:=yZ I.hok e
  exact dd.typeIs
 ·obtain ⟨_,_,xs,_,dd⟩:=yX I.hok e
  exact dd.typeIs
def Oj (td ty:TE):TE:=λ σ H Q=>td σ H λ x H1=>ty σ H1 λ y H2=>∃ a v,x=.ref a/\zu H2 a y (some v)/\Q v H2
def Tg (ty td:TE):TE:=λ σ H Q=>ty σ H λ y H1=>td σ H1 λ x H2=>∃ a o,x=.ref a/\zu H2 a y o/\Q (.bl o.isSome) H2
def Ou (td ty tv:TE):TS:=λ D σ H=>tv σ H λ v H1=>td σ H1 λ x H2=>ty σ H2 λ y H3=>∃ a H4,x=.ref a/\Mn H3 a y v H4/\D.nx σ H4
section
variable {X:Cx} {o i e value:Expr} {pos pos' tpos:Pos} {td ty tv:TE}
def GY (hu:X.A.units+1 < cLine) (ho:PE X o td) (hi:PE X i ty) (hs:Rr i):PE X (.Subscript o i pos) (Oj td ty):=by
 intro ac s σ H Q I h;refine Gn PySem.F.slot_dict_getitem.lookup hs (thn (ho ac s σ H _ I h) λ u s1 ⟨x,H1,I1,rx,q1⟩=>thn (hi ac s1 σ H1 _ I1 q1) λ iv s2 ⟨y,H2,I2,ry,a,v,ex,g,q2⟩=>?_);subst ex;obtain rfl:u=Value.ref a:=rx;exact ⟨wI I2 g,BY hu I2 g ry λ w' s3 I3 rw'=>⟨v,H2,I3,rw',q2⟩⟩
def Kl (hu:X.A.units+1 < cLine) (hi:PE X i ty) (ho:PE X o td):PC X .In i o (Tg ty td):=by
 intro ac s σ H Q I h;refine thn (hi ac s σ H _ I h) λ iv s1 ⟨y,H1,I1,ry,q1⟩=>thn (ho ac s1 σ H1 _ I1 q1) λ u s2 ⟨x,H2,I2,rx,a,ov,ex,g,q2⟩=>?_
 subst ex;obtain rfl:u=Value.ref a:=rx;exact UP hu I2 g ry λ s3 I3=>⟨.bl ov.isSome,H2,I3,rfl,q2⟩
def GP (hu:X.A.units+1 < cLine) (ho:PE X o td) (hi:PE X i ty) (hv:PE X value tv) (hs:swapsWith value (some (.Subscript o i pos')) pos.line X.env=pure false):PS X (.Assign [.Subscript o i pos'] value pos) (Ou td ty tv):=by
 intro ac s σ H D I h;refine wpAny_Assign_Subscript (thn (hv ac s σ H _ I h) λ r s1 ⟨v,H1,I1,rv,q1⟩=>thn (ho ac s1 σ H1 _ I1 q1) λ u s2 ⟨x,H2,I2,rx,q2⟩=>thn (hi ac s2 σ H2 _ I2 q2) λ iv s3 ⟨y,H3,I3,ry,a,H4,ex,g,q3⟩=>?_) hs;subst ex;obtain rfl:u=Value.ref a:=rx;exact BX hu I3 g ry rv λ s4 I4=>⟨σ,H4,I4,q3⟩
end
def Ea {P:Program} {w:World} {H:Hp} (h:Heap) (hb:sysModules < h.objs.size):c8 P w H (h.push { cls:=.type "dict",data:=.dict #[] }) h.objs.size (.dK []):=
 ⟨Ye _,Xq.mpr (Ne.symm (Z1 hb)),[],.nil,Heap.DictOf.new h⟩
def w6:List (TE×TE)->St->Hp->(List (V×V)->Hp->Prop)->Prop
 | [],_,H,Q=>Q [] H
 | (tk,tv)::r,σ,H,Q=>tk σ H λ x H1=>tv σ H1 λ y H2=>w6 r σ H2 λ ps H3=>Q ((x,y)::ps) H3
abbrev VV:List (V×V)->List (Value×Value)->Prop:=Paired λ p q=>RelV p.1 q.1/\RelV p.2 q.2
def PPs (X:Cx) (pos:Pos) (keys:List (Option Expr)) (values:List Expr) (trs:List (TE×TE)):Prop:=
  ∀ (ac:List (Addr×Obj)) (s:Shared) (σ:St) (H:Hp) (Q:List (V×V)->Hp->Prop),Inv X ac σ H s->w6 trs σ H Q->wpAny (model X.prog X.w) X.A (evalPairs (pairTrees keys values X.env pos)) (λ vs s'=>∃ ps H',Inv X ac σ H' s'/\VV ps vs/\Q ps H') X.xe s
def GQ {X:Cx} {pos:Pos}:PPs X pos [] [] []:=λ ac s σ H Q I h=>pairTrees_nil_walk ⟨[],H,I,.nil,h⟩
def Dn {X:Cx} {pos:Pos} {k v:Expr} {ks:List (Option Expr)} {vs:List Expr} {tk tv:TE} {trs:List (TE×TE)} (hk:PE X k tk) (hv:PE X v tv) (hr:PPs X pos ks vs trs):PPs X pos (some k::ks) (v::vs) ((tk,tv)::trs):=λ ac s σ H Q I h=>
 pairTrees_cons_walk (thn (hk ac s σ H _ I h) λ u s1 ⟨x,H1,I1,rx,q1⟩=>thn (hv ac s1 σ H1 _ I1 q1) λ w2 s2 ⟨y,H2,I2,ry,q2⟩=>
  thn (hr ac s2 σ H2 _ I2 q2) λ ws s3 ⟨ps,H3,I3,rel,q3⟩=>⟨(x,y)::ps,H3,I3,.cons ⟨rx,ry⟩ rel,q3⟩)
def oV (am more:List (Key×V)):List (Key×V):=more.foldl (λ acc kv=>putK acc kv.1 kv.2) am
def KV.merge:∀ {more:List (Key×V)} {rs:List (Key×Value)} {am:List (Key×V)} {vs:List (Key×Value)},KV more rs->KV am vs->KV (oV am more) (merged vs rs):=by
 intro more rs am vs r;unfold KV at r
 induction r generalizing am vs with
 | nil=>intro q; exact q
 | @cons p q ps qs h t ih=>
  intro r0
  have e:KV (putK am p.1 p.2) (stored vs q.1 q.2):=by
   have:=r0.put p.1 h.2;rw [<- h.1]; exact this
  exact ih e
theorem kY:∀ (more am:List (Key×V)),(oV am more).length<=am.length+more.length
 | [],am=>by show am.length<=am.length+0; omega
 | p::r,am=>by
  have h1:=kY r (putK am p.1 p.2);have h2:=j8 am p.1 p.2;show (oV (putK am p.1 p.2) r).length<=_;rw [Zi]; omega
theorem rj {P:Program} {w:World}:∀ {am:List (Key×V)} {ws:List (Value×Value)},VV (am.map λ kv=>(kV kv.1,kv.2)) ws->∃ rs,Carries (bN P w) ws rs/\KV am rs
 | [],_,r=>by rw [X2] at r; cases r; exact ⟨[],True.intro,.nil⟩
 | p::am,_,r=>by
  rw [Zz] at r
  cases r with
  | @cons a b as bs h t=>
   obtain ⟨rs,c,q⟩:=rj (P:=P) (w:=w) t;obtain ⟨b1,b2⟩:=b;exact ⟨(p.1,b2)::rs,⟨wg h.1,rfl,c⟩,.cons ⟨rfl,h.2⟩ q⟩
def Oi (trs:List (TE×TE)):TE:=λ σ H Q=>∀ p,H p=none->w6 trs σ (upd H p (.dK [])) λ ps H2=>H2 p=some (.dK [])/\∃ am:List (Key×V),ps=am.map (λ kv=>(kV kv.1,kv.2))/\am.length<=15/\Q (.ref p) (upd H2 p (.dK (oV [] am)))
theorem GX {X:Cx} {pos:Pos} {keys:List (Option Expr)} {values:List Expr} {trs:List (TE×TE)} (h:PPs X pos keys values trs) (hall:keys.all (·.isSome)=true) (hl:keys.length=values.length) (h0:keys≠[])
  (h15:keys.length<=15):PE X (.Dict keys values pos) (Oi trs):=by
 intro ac s σ H Q I q;have hn:=I.hok.fresh (Zo s.heap.objs.size);have I1:=I.laid (a:=s.heap.objs.size) (o:=.dK []) (h':=s.heap.push { cls:=.type "dict",data:=.dict #[] }) (t':=s.toks) (λ _ _ q=>Heap.get?_push_of_some _ q) (Zo _) (Ea s.heap I.big);refine wpAny_Dict_walk (knd:=bN X.prog X.w) hall hl h0 h15 (thn (h ac _ σ _ _ I1 (q _ hn)) λ ws s2 ⟨ps,H2,I2,rel,e,am,ep,lk,q2⟩=>?_);subst ep;obtain ⟨rs,c,rk⟩:=rj (P:=X.prog) (w:=X.w) rel;obtain ⟨z,hd,vs0,r0,dd⟩:=Mb I2.hok e;cases r0;refine ⟨rs,c,dd,λ h' dd' hs=>⟨.ref s.heap.objs.size,_,?_,rfl,q2⟩⟩
 have hz:(oV [] am).length<=sizeLine:=by
  have h1:=kY am [];rw [List.length_nil] at h1;rw [sizeLine_eq]; omega
 have he:∃ q,h'.get? s.heap.objs.size=some q:=let ⟨q,_,_,hq,_⟩:=dd'; ⟨q,hq⟩
 exact wJ I2 (by rw [e]; exact True.intro) hs he (F0 hz hd (rk.merge .nil) dd')
structure M2 (X:Cx) (o:Expr) (m:Str) (ap:Pos) (e f:Expr) (bv:Pos):Prop where
 base:attributeBase o m X.env (eval o X.env)=eval o X.env
 few:((backTo bv (starEach [e,f] X.env)).all (λ x=>!x.1)&&(backToKw bv (keywordEach [] X.env)).all (λ x=>x.1.isSome)
  && decide (([e,f]:List Expr).length+([]:List Keyword).length+(if ([]:List Keyword).isEmpty then 0 else 1) < 30))=true
 line:(ap.endLine == bv.line)=true
 trees:backTo bv (starEach [e,f] X.env)=[(false,eval e X.env),(false,eval f X.env)]
def IsD (H:Hp) (a:Addr):Prop:=(∃ am,Rd H a (.dK am))\/∃ am,Rd H a (.dT am)
def LK {X:Cx} {ac:List (Addr×Obj)} {σ:St} {H:Hp} {s:Shared} {a:Addr} (I:Inv X ac σ H s) (d:IsD H a):s.TypeIs (.ref a) "dict"/\(∀ b,Value.ref a=.ref b->∃ ob,s.heap.get? b=some ob/\ob.dict=none)/\(a == sysModules)=false:=by
 rcases d with ⟨am,e⟩ | ⟨am,e⟩
 ·obtain ⟨_,hd,vs,_,dd⟩:=yZ I.hok e
  refine ⟨dd.typeIs,λ b q=>?_,hd⟩;cases q;obtain ⟨ob,_,_,h1,h2,_⟩:=dd;exact ⟨ob,h1,h2.2.1⟩
 ·obtain ⟨_,hd,xs,_,dd⟩:=yX I.hok e
  refine ⟨dd.typeIs,λ b q=>?_,hd⟩;cases q;obtain ⟨ob,_,_,h1,h2,_⟩:=dd;exact ⟨ob,h1,h2.2.1⟩
section
variable {X:Cx} {ac:List (Addr×Obj)} {σ:St} {H:Hp} {s:Shared} {a:Addr} {y d:V} {u r:Value} {o:Option V} {A:Around} {E:Value->Shared->Prop}
def Mc {Q:Value->Shared->Prop} (hu:A.units+1 < cLine) (I:Inv X ac σ H s) (g:zu H a y o) (ry:RelV y u) (rd:RelV d r) (h:∀ w' s',Inv X ac σ H s'->RelV (o.getD d) w'->Q w' s'):wpAny (model X.prog X.w) A (call (.builtin "dict.get") [.ref a,u,r]) Q E s:=by
 rcases g with ⟨am,k,e,ey,l⟩ | ⟨am,k,b,e,ey,eb,l⟩
 ·subst ey
  obtain ⟨z,hd,vs,rel,dd⟩:=yZ I.hok e;refine call_meetsIn Xf dd.typeIs PySem.F.entry_dict_get (PySem.F.args_dict_get_3 _ _ _) (meets_dict_get_default (bN X.prog X.w) a (wg ry) hd r) ⟨_,dd.mapOf,h _ _ (I.tok _) ?_⟩;rw [l];exact (rel.val k).getD rd
 ·subst ey
  cases (show u=Value.ref b from ry);obtain ⟨z,hd,xs,rel,dd⟩:=yX I.hok e;refine call_meetsIn Xf dd.typeIs PySem.F.entry_dict_get (PySem.F.args_dict_get_3 _ _ _) (meetsH_dict_get_default (tupleKind (bN X.prog X.w)) a b hd r) ⟨tupleKind_room_in1 hu,k,xs,ux I.hok eb,dd,h _ _ (I.tok _) ?_⟩;rw [l];exact (rel.val k).getD rd
end
def JE (td ty tx:TE):TE:=λ σ H Q=>td σ H λ x H1=>∃ a,x=.ref a/\IsD H1 a/\ty σ H1 λ y H2=>tx σ H2 λ z H3=>∃ o,zu H3 a y o/\Q (o.getD z) H3
section
variable {X:Cx} {o e f:Expr} {ap bv:Pos} {td ty tx:TE}
def Dt (hu:X.A.units+1 < cLine) (ho:PE X o td) (he:PE X e ty) (hf:PE X f tx) (m:M2 X o "get" ap e f bv):PE X (.Call (.Attribute o "get" ap) [e,f] [] bv) (JE td ty tx):=by
 intro ac s σ H Q I h;refine wpAny_Call_method m.base m.few m.line PySem.F.plainAttrs_dict Xf PySem.F.type_dict_get (thn (ho ac s σ H _ I h) λ u s1 ⟨x,H1,I1,rx,a,ex,d,q1⟩=>?_);subst ex;obtain rfl:u=Value.ref a:=rx;obtain ⟨t1,t2,_⟩:=LK I1 d;refine ⟨t1,t2,?_⟩;rw [m.trees]
 refine X1 rfl (X7 (Xz (thn (he ac s1 σ H1 _ I1 q1) λ iv s2 ⟨y,H2,I2,ry,q2⟩=>
  Xz (thn (hf ac s2 σ H2 _ I2 q2) λ fv s3 ⟨z,H3,I3,rz,ov,g,q3⟩=>Calls.spliced_nil ?_))))
 exact Mc hu I3 g ry rz λ w' s4 I4 rw'=>⟨_,H3,I4,rw',q3⟩
end
def Its (z:Str):It:=⟨λ i _=>i < z.cps.size,λ i H x H'=>H'=H/\∃ c,z.cps[i]?=some c/\x=.str ⟨#[c]⟩,λ i _=>z.cps.size<=i⟩
def yu {P:Program} {w:World} {K:W.Frag} {tg:Expr} (it:Addr) (z:Str) (t:Tok):Turn P w K tg (Its z) [it] it (λ i h=>h.IsStrIter it "str_ascii_iterator" z t i) where
 mem:=by simp
 obj:=λ i h st b hb=>by
  have e:b=it:=by simpa using hb
  subst e;obtain ⟨o,e,c,d⟩:=st;exact ⟨o,e,λ v z=>by rw [d] at z; cases z⟩
 keep:=λ i h h' st k=>let ⟨o,ho,r⟩:=st; ⟨o,k it (by simp) o ho,r⟩
 item:=by
  intro X hP hw hK hc i ac s σ H E I hf st hg;subst hP hw hK;obtain ⟨f0,f1,f2,f3,f4,f5⟩:=hf it (by simp);have hg':i < z.cps.size:=hg;have hx:z.cps[i]?=some z.cps[i]:=by simp [hg']
  refine wpAny_pyNext_ascii_item st hx λ h' st' sb=>?_
  have I1:Inv X ac σ H { s with heap:=h',toks:=s.toks+1 }:=I.turned (λ b o hb e=>(sb.2 b hb).trans e) f0 f1 f3 f4 f5;obtain ⟨o,e,c,d⟩:=id st';exact ⟨_,rfl,By e c d (by decide) ⟨.str ⟨#[z.cps[i]]⟩,H,I1,⟨_,rfl⟩,⟨rfl,_,hx,rfl⟩,st',λ b hb=>(hf b hb).1⟩⟩
 done:=by
  intro X hP hw hK hc i ac s σ H E I hf st hg;subst hP hw hK;obtain ⟨f0,f1,f2,f3,f4,f5⟩:=hf it (by simp);have hg':z.cps.size<=i:=hg;exact wpAny_pyNext_ascii_end (I.ok.hd hc) st (by simp [hg']) λ h' eb=>⟨rfl,I.turned (λ b o hb e=>eb b o hb e) f0 f1 f3 f4 f5⟩
 self:=λ _ _ _ _ _ st h=>wpAny_pyIter_striter_ascii st h
def zG {P:Program} {w:World} {K:W.Frag} {tg:Expr} (it:Addr) (z:Str) (t:Tok):Turn P w K tg (Its z) [it] it (λ i h=>h.IsStrIter it "str_iterator" z t i) where
 mem:=by simp
 obj:=λ i h st b hb=>by
  have e:b=it:=by simpa using hb
  subst e;obtain ⟨o,e,c,d⟩:=st;exact ⟨o,e,λ v z=>by rw [d] at z; cases z⟩
 keep:=λ i h h' st k=>let ⟨o,ho,r⟩:=st; ⟨o,k it (by simp) o ho,r⟩
 item:=by
  intro X hP hw hK hc i ac s σ H E I hf st hg;subst hP hw hK;obtain ⟨f0,f1,f2,f3,f4,f5⟩:=hf it (by simp);have hg':i < z.cps.size:=hg;have hx:z.cps[i]?=some z.cps[i]:=by simp [hg']
  refine wpAny_pyNext_wide_item st hx λ h' st' sb=>?_
  have I1:Inv X ac σ H { s with heap:=h',toks:=s.toks+1 }:=I.turned (λ b o hb e=>(sb.2 b hb).trans e) f0 f1 f3 f4 f5;obtain ⟨o,e,c,d⟩:=id st';exact ⟨_,rfl,By e c d (by decide) ⟨.str ⟨#[z.cps[i]]⟩,H,I1,⟨_,rfl⟩,⟨rfl,_,hx,rfl⟩,st',λ b hb=>(hf b hb).1⟩⟩
 done:=by
  intro X hP hw hK hc i ac s σ H E I hf st hg;subst hP hw hK;obtain ⟨f0,f1,f2,f3,f4,f5⟩:=hf it (by simp);have hg':z.cps.size<=i:=hg;exact wpAny_pyNext_wide_end (I.ok.hd hc) st (by simp [hg']) λ h' eb=>⟨rfl,I.turned (λ b o hb e=>eb b o hb e) f0 f1 f3 f4 f5⟩
 self:=λ _ _ _ _ _ st h=>wpAny_pyIter_striter_wide st h
section
variable {X:Cx} {tg:Expr}
def UH (tl:TE):TI:=λ σ H R=>tl σ H λ x H1=>∃ z,x=.str z/\R (Its z) H1
def Kf {l:Expr} {tl:TE} (hl:PE X l tl):PI X tg l (UH tl):=by
 intro ac s σ H R I h;refine thn (hl ac s σ H _ I h) λ v s1 ⟨x,H1,I1,r1,q1⟩=>?_
 obtain ⟨z,e,q⟩:=q1;subst e;obtain ⟨t,rfl⟩:=r1
 have fp:∀ b ∈ [s1.heap.objs.size],rE X ac H1 b:=λ b hb=>by
  have e:b=s1.heap.objs.size:=by simpa using hb
  subst e;exact I1.wq (Zo _) (I1.hok.fresh (Zo _))
 cases ha:z.cps.all (· < 128)
 ·refine wpAny_pyIter_wide ha ?_
  exact ⟨s1.heap.objs.size,[s1.heap.objs.size],_,_,H1,rfl,I1.kept λ b o e=>Heap.get?_push_of_some _ e,zG _ z t,⟨_,Heap.get?_push_size _ rfl,rfl,rfl⟩,fp,q⟩
 ·refine wpAny_pyIter_ascii ha ?_
  exact ⟨s1.heap.objs.size,[s1.heap.objs.size],_,_,H1,rfl,I1.kept (t':=s1.toks) λ b o e=>Heap.get?_push_of_some _ e,yu _ z t,⟨_,Heap.get?_push_size _ rfl,rfl,rfl⟩,fp,q⟩
def AA:OpR X (compareOp .LtE) (λ x y H Q=>∃ i j,x=.str i/\y=.str j/\Q (.bl (!decide (j.cps.toList < i.cps.toList))) H):=by
 intro ac s σ H x y v u Q I rx ry h;obtain ⟨i,j,rfl,rfl,q⟩:=h;obtain ⟨t,rfl⟩:=rx;obtain ⟨t',rfl⟩:=ry;exact PySem.P.le_str (bP I q (by simp))
theorem yi:∀ {bs:List Bool} {us:List Value},cu (bs.map V.bl) us->∀ (i:Nat) (v:Value),us[i]?=some v->∃ b,bs[i]?=some b/\v=Value.bool b
 | [],_,.nil,i,v,e=>by simp at e
 | b::bs,_,.cons r t,0,v,e=>by
  simp at e;subst e;exact ⟨b,by simp,r⟩
 | b::bs,_,.cons r t,i+1,v,e=>by
  obtain ⟨c,h1,h2⟩:=yi t i v (by simpa using e);exact ⟨c,by simpa using h1,h2⟩
def Ek (hc:X.calm=true):eI X (.builtin "all") (λ xs H Q=>∃ (p:Addr) (bs:List Bool),xs=[.ref p]/\SqL X.K H p (bs.map V.bl)/\Q (.bl (bs.all id)) H):=by
 intro ac s σ H xs us Q I r h;obtain ⟨p,bs,rfl,hL,q⟩:=h;obtain ⟨u,rfl,ru⟩:=vals1 r;cases (ru);obtain ⟨its,rv,pl,hz⟩:=I.list hL;have hl:=pl.isList;have hlen:=rv.length;rw [Zk] at hlen;have hlt:p < s.heap.objs.size:=by obtain ⟨_,e,_⟩:=hl; exact Zt e
 refine call_all_walk (wpAny_pyIter_list hl ?_)
 refine ⟨s.heap.objs.size,[s.heap.objs.size,p],[s.heap.objs.size],its.toArray.size,_,_,λ i=>(bs[i]?).getD true,rfl,Walks.list (A:=X.A.in1) (I.ok.hd hc) _ p (Z1 hlt) its.toArray,
  ⟨⟨_,Heap.get?_push_size _ rfl,rfl,rfl⟩,hl.push _⟩,λ i v s' Q' E' hP hQ=>?_,λ h' tk hk=>?_⟩
 ·obtain ⟨b,e,rfl⟩:=yi rv i v (by simpa using hP)
  simp only [e,Option.getD_some] at hQ;exact Yk hQ
 ·have e:((List.range its.toArray.size).all λ i=>(bs[i]?).getD true)=bs.all id:=by
   rw [Zw,<- hlen,Wh,Yi,Yi];constructor
   ·intro hh b hb
    obtain ⟨i,hi,rfl⟩:=List.getElem_of_mem hb;have:=hh i (List.mem_range.mpr hi)
    simpa [List.getElem?_eq_getElem hi] using this
   ·intro hh i hi
    have hi':=List.mem_range.mp hi;simp only [List.getElem?_eq_getElem hi',Option.getD_some];exact hh _ (List.getElem_mem hi')
  rw [e];refine ⟨.bl _,H,I.kept λ b x ex=>hk b x (λ hm=>?_) (Heap.get?_push_of_some _ ex),rfl,q⟩;rw [Zx.mp hm] at ex;exact Yo _ (Zt ex)
theorem oh:∀ {ts:List Str} {us:List Value},cu (ts.map V.str) us->StrsAre us ts
 | [],_,.nil=>.nil
 | x::ts,_,.cons r t=>by
  obtain ⟨tk,rfl⟩:=r;exact .cons x tk (oh t)
def Hy:MtR X "str.join" (λ x xs H Q=>∃ (z:Str) (p:Addr) (ts:List Str),x=.str z/\xs=[.ref p]/\SqL X.K H p (ts.map V.str)/\(ts.map (·.length)).sum+ts.length * z.length<=16777216/\Q (.str (Txt.join z ts)) H):=by
 intro ac s σ H x xs v us Q I rx rv h;obtain ⟨z,p,ts,rfl,rfl,hL,hz,q⟩:=h;obtain ⟨t,rfl⟩:=rx;obtain ⟨u,rfl,ru⟩:=vals1 rv;cases (ru);obtain ⟨its,rv',pl,_⟩:=I.list hL;exact join_list pl.isList (by simpa using oh rv') hz λ t' k=>⟨.str _,H,I.tok k,⟨_,rfl⟩,q⟩
end
def IC (h0:closureFor scope X.env=pure cl) (h1:scope.kind=.function) (h2:(scope.names.all λ y=>!(y.2 == .cell))=true)
  (h3:(scope.names.all λ y=>!(y.2 == .local)||(scope.names.lookup y.1 == some .local))=true) (h4:scope.names.lookup x=some .local) (h5:∀ p ∈ cl,X.env.cells.lookup p.1=some p.2)
  (h6:((relabel scope X.env).names.all λ p=>!(p.2 == .cell||p.2 == .free)||(cl.lookup p.1).isSome)=true)
  (h7:∀ p ∈ cs,X.N[p.2]?=some p.1/\X.env.kindOf p.1=some .cell/\(relabel scope X.env).names.lookup p.1=some .cell) (h8:(x::cs.map (·.1)).Nodup):dA X scope cl x cs where
 Jc:=h0
 kind:=h1
 xD:=λ y hy z=>by
  have:=Yi.mp h2 y hy;rw [z] at this;exact absurd this (by decide)
 names:=λ y hy z=>by
  have:=Yi.mp h3 y hy;rw [z] at this
  simpa using this
 own:=h4
 sub:=λ y c e=>h5 (y,c) (Yq e)
 has:=λ y hy=>by
  have key:∀ k,(relabel scope X.env).names.lookup y=some k->(k=.cell\/k=.free)->∃ c,cl.lookup y=some c:=λ k e hk=>by
   have:=Yi.mp h6 (y,k) (Yq e);rcases hk with rfl | rfl
   · exact Yw.mp (by simpa using this)
   · exact Yw.mp (by simpa using this)
  rcases hy with hy | hy
  · exact key _ hy (.inl rfl)
  · exact key _ hy (.inr rfl)
 NU:=λ p hp=>⟨(h7 p hp).1,.inl (h7 p hp).2.1,.inl (h7 p hp).2.2⟩
 nd:=h8
def Je (X:Cx):List (Str×Addr)->Prop
 | []=>True
 | p::r=>X.env.cells.lookup p.1=some p.2/\Je X r
def AllP (X:Cx) (scope:Scope):List (Str×Nat)->Prop
 | []=>True
 | p::r=>(X.N[p.2]?=some p.1/\X.env.kindOf p.1=some .cell/\(relabel scope X.env).names.lookup p.1=some .cell)/\AllP X scope r
theorem Je.all:∀ {cl:List (Str×Addr)},Je X cl->∀ p ∈ cl,X.env.cells.lookup p.1=some p.2
 | [],_,p,h=>by cases h
 | q::r,a,p,h=>by
  rcases Zd.mp h with rfl | h
  · exact a.1
  · exact Je.all a.2 p h
theorem AllP.all:∀ {cs:List (Str×Nat)},AllP X scope cs->∀ p ∈ cs,X.N[p.2]?=some p.1/\X.env.kindOf p.1=some .cell/\(relabel scope X.env).names.lookup p.1=some .cell
 | [],_,p,h=>by cases h
 | q::r,a,p,h=>by
  rcases Zd.mp h with rfl | h
  · exact a.1
  · exact AllP.all a.2 p h
def IB (cs:List (Str×Nat)) (h0:closureFor scope X.env=pure cl) (h1:scope.kind=.function) (h2:(scope.names.all λ y=>!(y.2 == .cell))=true)
 (h3:(scope.names.all λ y=>!(y.2 == .local)||(scope.names.lookup y.1 == some .local))=true) (h4:scope.names.lookup x=some .local) (h5:Je X cl)
 (h6:((relabel scope X.env).names.all λ p=>!(p.2 == .cell||p.2 == .free)||(cl.lookup p.1).isSome)=true)
 (h7:AllP X scope cs) (h8:(x::cs.map (·.1)).Nodup):dA X scope cl x cs:=IC h0 h1 h2 h3 h4 h5.all h6 h7.all h8
structure Fly (P:Program) (w:World) (fs:List Addr) (H H':Hp) (h0 B h:Heap):Prop where
 un:Un fs [] H H' h0 h
 hok:HOk P w H' B
 cov:∀ b o,h0.get? b=some o->H b=none->b ∉ fs->B.get? b=some o
 F2:∀ b o,h0.get? b=some o->b ∉ fs->∃ o',B.get? b=some o'
def Fly.step (F:Fly P w fs H H' h0 B h) (st:B.StaysIn h') (sm:h.UpToSlots h')
  (nf:∀ b ∈ fs,∀ o,h.get? b=some o->∀ vs,o.data≠.fields vs):Fly P w fs H H' h0 B h' where
 un := ⟨λ b o e n hb _=>st b o (F.cov b o e n hb),λ b o e n hb _=>by
   obtain ⟨sl,e1⟩:=F.un.slot b o e n hb (by simp);obtain ⟨sl',e2⟩:=sm b _ e1 (nf b hb _ e1);exact ⟨sl',e2⟩,F.un.free,λ b o e _=>by
   by_cases hb:b ∈ fs
   ·obtain ⟨o1,e1⟩:=F.un.there b o e (by simp)
    obtain ⟨sl',e2⟩:=sm b _ e1 (nf b hb _ e1);exact ⟨_,e2⟩
   ·obtain ⟨o',e1⟩:=F.F2 b o e hb
    exact ⟨o',st b o' e1⟩,F.un.rN,F.un.qY,F.un.rO⟩
 hok:=F.hok
 cov:=F.cov
 F2:=F.F2
def Fly.comp {stk outer:List Addr} (bs:Un outer [] H H1 h0 h1) (neL:∀ b o,h0.get? b=some o->b ∉ outer->b ∉ stk) (fy:Fly P w stk H1 H' h1 B h):Fly P w outer H H' h0 B h:=by
 have cov:∀ b o,h0.get? b=some o->H b=none->b ∉ outer->B.get? b=some o:=λ b o q n hb=>fy.cov b o (bs.keep b o q n hb (by simp)) (bs.free b o q n (by simp)) (neL b o q hb)
 refine ⟨⟨λ b o q n hb _=>?_,λ b o q n hb _=>?_,λ b o q n _=>?_,λ b o q _=>?_,λ b xs q=>fy.un.rN b xs (bs.rN b xs q),λ b o u q=>fy.un.qY b o u (bs.qY b o u q),λ b ps q=>?_⟩,fy.hok,cov,λ b o q hb=>?_⟩
 · exact fy.un.keep b o (bs.keep b o q n hb (by simp)) (bs.free b o q n (by simp)) (neL b o q hb) (by simp)
 ·obtain ⟨sl,e1⟩:=bs.slot b o q n hb (by simp)
  obtain ⟨sl',e2⟩:=fy.un.any e1 (bs.free b o q n (by simp)) (by simp);exact ⟨sl',e2⟩
 ·obtain ⟨o1,e1⟩:=bs.there b o q (by simp)
  exact fy.un.free b o1 e1 (bs.free b o q n (by simp)) (by simp)
 ·obtain ⟨o1,e1⟩:=bs.there b o q (by simp)
  exact fy.un.there b o1 e1 (by simp)
 ·obtain ⟨m1,e1⟩:=bs.rO b ps q
  obtain ⟨m2,e2⟩:=fy.un.rO b _ e1;exact ⟨m1++m2,by rw [e2,Array.append_assoc]⟩
 ·obtain ⟨o1,e1⟩:=bs.there b o q (by simp)
  exact fy.F2 b o1 e1 (neL b o q hb)
def wb {h base:Heap} {l:List Env} (hl:h.FunFrames base l):∀ b ∈ frs l,∀ o,h.get? b=some o->∀ vs,o.data≠.fields vs:=λ b hb o e=>by
 obtain ⟨_,o',e',nf⟩:=hl.mem hb;rw [e] at e';cases e';exact nf
def CX1 (P:Program) (w:World):CXT:=λ outer H s E e s'=>
 ∃ (ea:Addr) (cls a0:Value) (H':Hp) (B:Heap),e=.ref ea/\s'.os=s.os/\AllBare s'.gens/\Heap.FlyingW B outer ea cls a0 s'.heap/\Fly P w (frs outer) H H' s.heap B s'.heap/\E cls none H'
def CA (X:Cx) (E:XK):Prop:=∀ (ac:List (Addr×Obj)) (σ:St) (H:Hp) (s:Shared) (e:Addr) (cls:Value) (vs:List Value) (h':Heap),Inv X ac σ H s->Heap.MadeExcOf s.heap h' e cls vs->E cls none H->X.xe (.ref e) { s with heap:=h' }
section
variable {P:Program} {w:World} {K:W.Frag} {mg:Str->Option Value} {base:Heap} {N:List Str} {qual:Str} {scope:Scope} {f:Addr} {cd:Value} {A:Around} {outer:List Env} {s:Shared} {H:Hp} {E:XK}
def Aa:CA (vo (CX1 P w) P w K mg base N qual scope f cd A outer s H E) E:=by
 intro ac σ H1 s1 e cls vs h' I hx hE;show wpAny (model P w) (A.deeper (envOfC qual scope s.heap.objs.size f cd)) (leaving (envOfC qual scope s.heap.objs.size f cd) (.ref e)) (λ _ s''=>CX1 P w outer H s E (.ref e) s'') (λ e' s''=>CX1 P w outer H s E e' s'') { s1 with heap:=h' };generalize hX:vo (CX1 P w) P w K mg base N qual scope f cd A outer s H E=X at I;have hfr:X.A.frames=some (envOfC qual scope s.heap.objs.size f cd::outer):=by rw [I.ok.frames,<- hX]; rfl
 have hst:X.stack=envOfC qual scope s.heap.objs.size f cd::outer:=by rw [<- hX]; rfl
 have hfs:X.fs=frs outer:=by rw [<- hX]; rfl
 have bs:=I.base;rw [hfs] at bs;have hs0:X.s₀=s:=by rw [<- hX]; rfl
 have hH0:X.H₀=H:=by rw [<- hX]; rfl
 have hex:X.ex=[]:=by rw [<- hX]; rfl
 have hA:X.A=A.deeper (envOfC qual scope s.heap.objs.size f cd):=by rw [<- hX]; rfl
 have hP:X.prog=P:=by rw [<- hX]; rfl
 have hw:X.w=w:=by rw [<- hX]; rfl
 rw [hs0,hH0,hex] at bs;have stk:=I.stack;have eW:=I.eW;have jT:=I.jT;rw [hst] at stk eW jT;have hok:=I.hok;rw [hP,hw] at hok;rw [hA] at hfr;have aboveL:s.heap.objs.size<=X.env.locals:=by have:=I.ok.above; rw [hs0] at this; exact this
 have hin:∀ env ∈ (envOfC qual scope s.heap.objs.size f cd::outer),∀ b,env.frame=some b->b ∈ frs (envOfC qual scope s.heap.objs.size f cd::outer):=λ env he b hb=>Xy.mpr ⟨env,he,hb⟩
 refine wpAny_leaves_madeW (base:=PySem.W.hideAll s1.heap (frs (envOfC qual scope s.heap.objs.size f cd::outer))) (h:=s1.heap) hfr rfl (λ b o q=>Xx _ q) (PySem.W.funFrames_hide stk hin) hx λ h'' t x1 x2 x3 x4=>?_
 have inB:∀ b o,s1.heap.get? b=some o->b ∉ frs (envOfC qual scope s.heap.objs.size f cd::outer)->(PySem.W.hideAll s1.heap (frs (envOfC qual scope s.heap.objs.size f cd::outer))).get? b=some o:=λ b o q hb=>PySem.W.hideAll_get _ q hb
 have notF:∀ b u,H1 b=some u->b ∉ frs (envOfC qual scope s.heap.objs.size f cd::outer):=λ b u q z=>by rw [jT b z] at q; cases q
 have neL:∀ b o,s.heap.get? b=some o->b ∉ frs outer->b ∉ frs (envOfC qual scope s.heap.objs.size f cd::outer):=λ b o q hb z=>
  (Zd.mp (eW b z)).elim (Z1 (Zl (Zt q) aboveL)) (λ z'=>hb (by rw [<- hfs]; exact z'))
 have sub:∀ b,b ∈ frs outer->b ∈ frs (envOfC qual scope s.heap.objs.size f cd::outer):=λ b hb=>by
  obtain ⟨env,he,hf⟩:=Xy.mp hb;exact Xy.mpr ⟨env,Za _ he,hf⟩
 have nf:=wb stk;have cov:∀ b o,s.heap.get? b=some o->H b=none->b ∉ frs outer->(PySem.W.hideAll s1.heap (frs (envOfC qual scope s.heap.objs.size f cd::outer))).get? b=some o:=λ b o q n hb=>inB b o (bs.keep b o q n hb (by simp)) (neL b o q hb)
 have F2:∀ b o,s.heap.get? b=some o->b ∉ frs outer->∃ o',(PySem.W.hideAll s1.heap (frs (envOfC qual scope s.heap.objs.size f cd::outer))).get? b=some o':=λ b o q hb=>by
  obtain ⟨o1,e1⟩:=bs.there b o q (by simp);exact ⟨o1,inB b o1 e1 (neL b o q hb)⟩
 refine ⟨e,cls,_,H1,_,rfl,by have:=I.os; rw [hs0] at this; exact this,I.bare,x1,⟨⟨λ b o q n hb _=>x1.1 b o (cov b o q n hb),λ b o q n hb _=>?_,bs.free,λ b o q _=>?_,bs.rN,bs.qY,bs.rO⟩,λ b u q=>?_,cov,F2⟩,hE⟩
 ·obtain ⟨sl,e1⟩:=bs.slot b o q n hb (by simp)
  obtain ⟨sl',e2⟩:=x4 b _ (hx.keeps b _ e1) (nf b (sub b hb) _ e1);exact ⟨sl',e2⟩
 ·obtain ⟨o1,e1⟩:=bs.there b o q (by simp)
  by_cases hb:b ∈ frs (envOfC qual scope s.heap.objs.size f cd::outer)
  ·obtain ⟨sl',e2⟩:=x4 b _ (hx.keeps b _ e1) (nf b hb _ e1)
   exact ⟨_,e2⟩
  · exact ⟨o1,x1.1 b o1 (inB b o1 e1 hb)⟩
 ·exact (hok b u q).yx (λ c v hc z=>inB c v z (by
   rcases hc with rfl | hc
   · exact notF _ _ q
   · exact notF _ _ hc)) (λ _ z=>z) λ _ _ z=>z
def Aq:qh (CX1 P w) (vo (CX1 P w) P w K mg base N qual scope f cd A outer s H E) E:=by
 intro ac σ H1 s1 e s' I h;obtain ⟨ea,cls,a0,H',B,rfl,os,bare,fl,fy,hE⟩:=h;show wpAny (model P w) (A.deeper (envOfC qual scope s.heap.objs.size f cd)) (leaving (envOfC qual scope s.heap.objs.size f cd) (.ref ea)) (λ _ s''=>CX1 P w outer H s E (.ref ea) s'') (λ e' s''=>CX1 P w outer H s E e' s'') s';generalize hX:vo (CX1 P w) P w K mg base N qual scope f cd A outer s H E=X at I fl fy;have hst:X.stack=envOfC qual scope s.heap.objs.size f cd::outer:=by rw [<- hX]; rfl
 have hfr:X.A.frames=some (envOfC qual scope s.heap.objs.size f cd::outer):=by rw [I.ok.frames,hst]
 have hfs:X.fs=frs outer:=by rw [<- hX]; rfl
 have bs:=I.base;rw [hfs] at bs;have hs0:X.s₀=s:=by rw [<- hX]; rfl
 have hH0:X.H₀=H:=by rw [<- hX]; rfl
 have hex:X.ex=[]:=by rw [<- hX]; rfl
 have hA:X.A=A.deeper (envOfC qual scope s.heap.objs.size f cd):=by rw [<- hX]; rfl
 rw [hs0,hH0,hex] at bs;have eW:=I.eW;rw [hst] at eW fl fy;rw [hA] at hfr;have aboveL:s.heap.objs.size<=X.env.locals:=by have:=I.ok.above; rw [hs0] at this; exact this
 refine wpAny_leaves_onW hfr rfl fl λ h'' x1 x2=>?_
 have neL:∀ b o,s.heap.get? b=some o->b ∉ frs outer->b ∉ frs (envOfC qual scope s.heap.objs.size f cd::outer):=λ b o q hb z=>
  (Zd.mp (eW b z)).elim (Z1 (Zl (Zt q) aboveL)) (λ z'=>hb (by rw [<- hfs]; exact z'))
 have nf:=wb fl.2.2.1;exact ⟨ea,cls,a0,H',B,rfl,os.trans (by have:=I.os; rw [hs0] at this; exact this),bare,x1,.comp bs neL (fy.step x1.1 x2 nf),hE⟩
end
def Fun.okX {P:Program} {w:World} {K:W.Frag} {mg:Str->Option Value} {base:Heap} {x qual:Str} {st:Stmt} {f:Addr} {fd:FuncData} {N ps:List Str} {k:Nat} {sp:Sp} (F:Fun K x qual st f fd) (S:jc N ps (bt st)) (len:∀ vs H Q E,sp vs H Q E->vs.length=ps.length)
  (hbody:∀ (cdv:Value) (A:Around) (outer:List Env) (s:Shared) (H:Hp) (vs:List V) (Q:VK) (E:XK),ip k (A.deeper (envOfC qual (bt st) s.heap.objs.size f cdv))->sp vs H Q E->∃ t,PSs (vo (CX1 P w) P w K mg base N qual (bt st) f cdv A outer s H E) (cQ st) t/\t { nx:=λ _ H'=>Q .non H',rt:=Q } (start N vs) H):qt P w K mg base (CX1 P w) (k+1) f fd ps sp:=by
 obtain ⟨oc,od,kV,doc,pm,an,cdv,ct,osl,rfl,lk,hcd⟩:=F.ex;refine LY lk hcd S len λ A outer s H vs Q E hr hsp=>?_
 obtain ⟨t,h,q⟩:=hbody cdv A outer s H vs Q E hr hsp;exact ⟨t,h,q⟩
end L2
end
section
namespace L2
open PySem PySem.Spec PySem.W PySem.Calls PyProof.Rows
def Rj:List Value:=[.type "ValueError",.type "Exception",.type "BaseException",.type "object"]
def Ko {K:Frag} {h₀:Heap} {mg:Str->Option Value} {x:Str} {C:Addr} {bmB:List Value} {newId:String} (X:K.In h₀) (e:mg x=some (.ref C)) (q:excIn K C bmB newId=true):OwnCls x C bmB newId mg h₀:=by
 refine ⟨e,?_⟩;unfold excIn at q;split at q
 ·rename_i dd cd sl ho
  split at q
  ·rename_i C' bm k0 k1 k2 k3 n k5 hm hs
   simp only [Zg,beq_iff_eq,Z7] at q;obtain ⟨⟨⟨⟨⟨rfl,rfl⟩,hdel⟩,ht⟩,hok⟩,hni⟩:=q;obtain ⟨nm,bs,mro,ns,qn,hd,sn,sub,ab,col,del⟩:=cd;dsimp only at hm hdel hok hni;subst hm hdel
   have hsl:sl=#[k0,k1,k2,k3,some (.builtin n),k5]:=by
    obtain ⟨l⟩:=sl;simp only at hs;rw [hs]
   subst hsl;exact ⟨bm,ns,nm,qn,bs,hd,sn,sub,ab,col,dd,k0,k1,k2,k3,k5,_,X _ _ ho,.of_isNs (isNs_of_in X hok),nsMap_none_of_in X hok hni,tail_of_in X ht⟩
  · cases q
 · cases q
def JC (t:TA) (E:XK) (C:Addr):TS:=λ _ σ H=>t σ H λ vs H1=>vs.length<=sizeLine/\E (.ref C) none H1
def Dl {X:Cx} {E:XK} {x:Str} {C:Addr} {np bv pos:Pos} {e₀:Expr} {rest:List Expr} {t:TA} (hR:CA X E) (hc:X.calm=true) (hex:excIn X.K C Rj "ValueError.__new__"=true) (hg:Gl X x) (hm:X.mg x=some (.ref C))
  (ha:PA X (e₀::rest) t) (he:Se X e₀ rest:=by rfl)
  (cr:Sb X bv rest:=by rfl) (hd:Dg x:=by decide):PS X (.Raise (some (.Call (.Name x np) (e₀::rest) [] bv)) none pos) (JC t E C):=by
 intro ac s σ H D I h;have O:=Ko (mg:=X.mg) (x:=x) I.ok.mod.kin hm hex;obtain ⟨tl,N,nm,q,bs,hdct,sn,sub,ab,col,dd,k0,k1,k2,k3,k5,mN,hC,hN,hni,T⟩:=O.obj
 refine wpAny_Raise_call_subT (C:=C) (nm:=nm) (q:=q) (N:=N) (bs:=bs) (bm:=tl) (hdct:=hdct) (sn:=sn) (sub:=sub) (ab:=ab) (col:=col) (dd:=dd) (k0:=k0) (k1:=k1) (k2:=k2) (k3:=k3) (k5:=k5)
  PySem.F.excBase_ValueError (mN:=mN) (T.hasType PySem.F.excBase_ValueError.hasBase) (I.ok.hd hc) (by rw [he]; show (false||(backTo bv (starEach rest X.env)).any (·.1))=false; rw [cr]; rfl) hni (oW I hg hm ⟨rfl,?_⟩ hd)
 have A1:=ha bv ac s σ H _ I h;rw [he] at A1 ⊢;exact X7 (thn A1 λ us s1 ⟨vs,H1,I1,r,z,q⟩=>⟨rfl,by rw [<- r.length]; exact z,I1.bk _ _ hC,hN.keeps I1.bk,T.keeps I1.bk,λ h' e mk=>hR ac σ H1 s1 e _ _ h' I1 mk q⟩)
def uo (X:Cx) (ea:Addr):Cx:={ X with A:=X.A.mark (some (.ref ea)),calm:=false,xe:=λ _ _=>False }
section
variable {X:Cx} {ac:List (Addr×Obj)} {σ:St} {H:Hp} {s:Shared} {ea:Addr}
def Cx.Ok.mark (ok:X.Ok):(uo X ea).Ok:=⟨ok.mod,ok.kind,ok.glob,ok.blt,ok.above,ok.inj,ok.has,ok.cab,λ z=>absurd (show false=true from z) Zf,ok.frames,ok.stk,ok.exf,ok.bs,ok.bsz,ok.E6,ok.I0,ok.yO,ok.frf⟩
def Inv.mark (I:Inv X ac σ H s):Inv (uo X ea) ac σ H s:=⟨I.ok.mark,I.os,I.bare,I.base,I.loc,I.cell,I.free,I.iH,I.pin,I.hok,I.len⟩
def Inv.unmark (ok:X.Ok) (I:Inv (uo X ea) ac σ H s):Inv X ac σ H s:=⟨ok,I.os,I.bare,I.base,I.loc,I.cell,I.free,I.iH,I.pin,I.hok,I.len⟩
def SP.unmark (ok:X.Ok) (h:SP (uo X ea) ac D f s'):SP X ac D f s':=by
 cases f with
 | next=>obtain ⟨σ',H',I,q⟩:=h; exact ⟨σ',H',I.unmark ok,q⟩
 | brk=>obtain ⟨σ',H',I,q⟩:=h; exact ⟨σ',H',I.unmark ok,q⟩
 | cont=>obtain ⟨σ',H',I,q⟩:=h; exact ⟨σ',H',I.unmark ok,q⟩
 | ret u=>obtain ⟨v,σ',H',I,r,q⟩:=h; exact ⟨v,σ',H',I.unmark ok,r,q⟩
end
abbrev THn:=Ends->St->Hp->Addr->Value->Prop
def PH (X:Cx) (hs:List ExceptHandler) (th:THn):Prop:=
  ∀ (ac:List (Addr×Obj)) (s0 s:Shared) (σ:St) (H H':Hp) (D:Ends) (ea:Addr) (cls a0:Value) (B:Heap),Inv X ac σ H s0->Fly X.prog X.w (frs X.stack) H H' s0.heap B s.heap->s.os=s0.os->AllBare s.gens->Heap.FlyingW B X.stack ea cls a0 s.heap->th D σ H' ea cls->wpAny (model X.prog X.w) X.A (handleBy (.ref ea) X.env hs) (SP X ac D) X.xe s
def Fly.inv (I:Inv X ac σ H s0) (F:Fly X.prog X.w (frs X.stack) H H' s0.heap B s.heap) (ho:s.os=s0.os) (hg:AllBare s.gens) (st:B.StaysIn s.heap):Inv X ac σ H' s:=
 I.IG (ch:=[]) ho F.un (F.hok.kept st) hg λ b z=>absurd z (by simp)
section
variable {X:Cx} {x:Str} {C:Addr} {p pos:Pos} {b₀:Stmt} {f8:List Stmt} {rest:List ExceptHandler} {ts:TS} {th:THn}
def Kg:PH X [] (λ _ _ _ _ _=>False):=λ _ _ _ _ _ _ _ _ _ _ _ _ _ _ _ _ h=>h.elim
def DP (I:Inv X ac σ H s) (hg:Gl X x) (hm:X.mg x=some u) (h:Q u s)
  (hd:Dg x:=by decide):wpAny (model X.prog X.w) A (eval (.Name x pos) X.env) Q E s:=
 X6 I.ok.kind hg (Calls.loadGlobal_global (by rw [I.ok.glob]; exact I.mod.glob.keeps I.bk) hm h) hd
end
def zJ (X:Cx) (pn:List (Addr×Obj)) (E:Value->Shared->Prop):Cx:={ X with pn:=pn,xe:=E }
section
variable {X:Cx} {ac:List (Addr×Obj)} {σ:St} {H:Hp} {s:Shared} {E:Value->Shared->Prop}
def Cx.Ok.into (ok:X.Ok) {pn:List (Addr×Obj)}:(zJ X pn E).Ok:=⟨ok.mod,ok.kind,ok.glob,ok.blt,ok.above,ok.inj,ok.has,ok.cab,ok.hd,ok.frames,ok.stk,ok.exf,ok.bs,ok.bsz,ok.E6,ok.I0,ok.yO,ok.frf⟩
def Inv.into (I:Inv X ac σ H s):Inv (zJ X (X.pn++ac) E) [] σ H s:=⟨I.ok.into,I.os,I.bare,I.base,I.loc,I.cell,I.free,I.iH,λ p hp=>I.pin p (by
 have hp':p ∈ (X.pn++ac)++[]:=hp
 simpa using hp'),I.hok,I.len⟩
def Inv.out (ok:X.Ok) (I:Inv (zJ X (X.pn++ac) E) pins' σ H s):Inv X ac σ H s:=⟨ok,I.os,I.bare,I.base,I.loc,I.cell,I.free,I.iH,λ p hp=>I.pin p (Yt _ hp),I.hok,I.len⟩
end
def fJ (CX:CXT) (X:Cx) (σ:St) (E:XK):Prop:=∀ (ac:List (Addr×Obj)) (H:Hp) (s:Shared) (e:Value) (s':Shared),Inv X ac σ H s->CX X.stack H s E e s'->X.xe e s'
def qh.at (h:qh CX X E) (σ:St):fJ CX X σ E:=λ ac H s e s' I q=>h ac σ H s e s' I q
def SY (tb:(St->XK)->TS) (th:THn) (te:TS):TS:=λ D σ H=>tb (λ σ' cls _ H'=>∀ ea,th D σ' H' ea cls) { D with nx:=te D } σ H
def J6
  (hb:∀ (pn:List (Addr×Obj)) (E:Value->Shared->Prop) (EX:St->XK),(∀ σ,fJ (CX1 X.prog X.w) (zJ X pn E) σ (EX σ))->PSs (zJ X pn E) body (tb EX))
  (hh:PH X (h₀::hs) th) (ho:PSs X orelse te) (hst:X.stack=X.env::X.outer) (hf:X.env.frame=some L):PS X (.Try body (h₀::hs) orelse [] pos) (SY tb th te):=by
 intro ac s σ H D I h;refine wpAny_Try_except ?_
 refine Yv (hb (X.pn++ac) (λ e s₁=>wpAny (model X.prog X.w) X.A (noteFrame e X.env) (λ _ s₂=>wpAny (model X.prog X.w) X.A (setFlight e none) (λ _ s₃=>wpAny (model X.prog X.w) X.A (handleBy e X.env (h₀::hs)) (SP X ac D) X.xe s₃) X.xe s₂) X.xe s₁)
  (λ σ' cls _ H'=>∀ ea,th D σ' H' ea cls) ?_ [] s σ H { D with nx:=te D } I.into h) (λ f s1 q=>?_) λ e s1 q=>q
 ·intro σ' pins' H1 s1 e s' I' hc
  obtain ⟨ea,cls,a0,H',B,rfl,os,bare,fl,fy,hE⟩:=hc;have I1:Inv X ac σ' H1 s1:=I'.out I.ok;have fl':Heap.FlyingW B (X.env::X.outer) ea cls a0 s'.heap:=by rw [<- hst]; exact fl
  refine wpAny_looks_onW (by rw [I.ok.frames,hst]) hf fl' λ h4 held4 sm4=>?_
  refine wpAny_landsW held4 λ h5 fl5 sm5=>?_
  have F5:Fly X.prog X.w (frs X.stack) H1 H' s1.heap B h5:=fy.step fl5.1 (sm4.trans sm5) (wb fl.2.2.1);exact hh ac s1 { s' with heap:=h5 } σ' H1 H' D ea cls a0 B I1 F5 os bare (by rw [hst]; exact fl5) (hE ea)
 ·cases f with
  | next=>obtain ⟨σ',H',I',q⟩:=q; exact ho ac s1 σ' H' D (I'.out I.ok) q
  | brk=>obtain ⟨σ',H',I',q⟩:=q; exact ⟨σ',H',I'.out I.ok,q⟩
  | cont=>obtain ⟨σ',H',I',q⟩:=q; exact ⟨σ',H',I'.out I.ok,q⟩
  | ret u=>obtain ⟨v,σ',H',I',r,q⟩:=q; exact ⟨v,σ',H',I'.out I.ok,r,q⟩
section
variable {X:Cx} {CX:CXT} {k:Nat} {f C:Addr} {fd:FuncData} {ps:List Str} {sp:Sp} {dvs:List V} {ds:List Value} {EX:St->XK} {x m:Str} {p pos ap:Pos} {e o:Expr} {es:List Expr} {ta:TE} {t:TA}
def GB (F:qt X.prog X.w X.K X.mg X.base CX k f fd ps sp) (hr:ip k X.A) (hb:Binds X.K fd ps ds) (hd:cu dvs ds) (hx:fJ CX X σ E)
  (I:Inv X ac σ H s) (r:cu vs us) (h:sp (vs++dvs) H Q E):wpAny (model X.prog X.w) X.A (call (.ref f) us) (EP X ac σ Q) X.xe s:=by
 have r2:cu (vs++dvs) (us++ds):=r.append hd;have hl:(us++ds).length=ps.length:=by rw [<- r2.length]; exact F.len _ _ _ _ h
 refine wpAny_call (codeAny_mono (F.run X.A X.stack s H ⟨us,[]⟩ (us++ds) (vs++dvs) Q E hr I.SQ (hb s us I.kIn hl) r2 h) λ r s' hq=>?_)
 cases r with
 | error e=>exact hx ac H s e s' I hq
 | ok fl=>
  cases fl with
  | ret u=>exact I.after hq
  | next=>exact False.elim hq
  | brk=>exact False.elim hq
  | cont=>exact False.elim hq
def JF (sp:Sp) (dvs:List V) (EX:St->XK) (t:TA):TE:=λ σ H Q=>t σ H λ vs H1=>sp (vs++dvs) H1 Q (EX σ)
def xt (F:qt X.prog X.w X.K X.mg X.base CX k f fd ps sp) (hr:ip k X.A) (hg:Gl X x) (hm:X.mg x=some (.ref f)) (hk:keepIn X.K (.ref f)=true) (hb:Binds X.K fd ps ds) (hd:cu dvs ds) (hx:∀ σ,fJ CX X σ (EX σ))
  (ha:PA X (e::es) t) (hdb:Dg x:=by decide) (he:Se X e es:=by rfl) (hpl:Sb X pos es:=by rfl):PE X (.Call (.Name x p) (e::es) [] pos) (JF sp dvs EX t):=by
 intro ac s σ H Q I h;refine X0 (oW I hg hm ?_ hdb);refine callWith_K (h₀:=X.base) I.ok.mod.kin hk (thn (ha pos ac s σ H _ I h) λ us s1 ⟨vs,H1,I1,r,q⟩=>⟨I1.kIn,?_⟩) he hpl;exact GB F hr hb hd (hx σ) I1 r q
end
end L2
end
section
namespace L2
open PySem PySem.Spec PySem.W PySem.Calls PyProof.Rows Builtin Builtin.ObjectAttr Builtin.Getset_descriptor
def zt (x D:Addr) (h:Heap):Prop:=∃ o,h.get? x=some o/\o.cls=.ref D
def D7 (K:Frag) (D:Addr):Bool:=
 (clsIn K D).isSome&&(findIn K (.ref D) "__getattribute__" == some (some (.builtin "BaseException.__getattribute__")))&&(findIn K (.ref D) "__getattr__" == some none) &&
 (findIn K (.ref D) "__class__" == some (some (.builtin "object.__class__")))&&(specialIn K (.builtin "object.__class__") "__get__" == some (some (.builtin "getset_descriptor.__get__"))) &&
 (takesIn K (.builtin "object.__class__") == some true)&&(mroIn K D (.type "object") == some true)&&(mroIn K D (.type "BaseException") == some true)
section
variable {prog:Program} {w:World} {A:Around} {E:Value->Shared->Prop} {K:Frag} {x D:Addr} {s:Shared}
def zt.A3 (I:zt x D h):Looks M h (typeOf (.ref x)) (.ref D):=by
 obtain ⟨o,e,c⟩:=I;rw [<- c];exact Looks.andThen (Looks.ld e) .now
def Im (Y:K.In h) (ha:findIn K (.ref D) name=some (some a)) (hg:specialIn K a "__get__"=some (some g)) (ht:takesIn K a=some true):Looks M h (find (.ref x) (.ref D) name) (.bind g a):=by
 have q1:=looks_findIn (M:=M) Y ha;have q2:Looks M h (getOf (some a)) (some g):=looks_specialIn Y hg;have q3:=looks_takesIn (M:=M) Y ht;have q4:Looks M h (dataDescriptor? (some a) (some g)) (some (g,a)):=q3.andThen .now;exact q1.andThen (q2.andThen (q4.andThen (Looks.tag .now)))
theorem L5 (Y:K.In s.heap) (I:zt x D s.heap) (o5:mroIn K D (.type "object")=some true) (hq:R (.ok (.ret (.ref D))) s):codeAny (model prog w) A (.call (.builtin "getset_descriptor.__get__") ⟨[.builtin "object.__class__",.ref x,tp],[]⟩) R s:=by
 have a0:=I.A3 (M:=model prog w);have a4:=looks_mroIn (M:=model prog w) Y o5;obtain ⟨h0,gs,dr,tk,os⟩:=s;refine codeAny_call_builtin KF.slot_gs.plain KF.entry_gs ?_
 refine KF.slot_gs.check _ _ _ _ _ _ _ _ KF.type_class (KF.args_gs _ _ _) ?_
 unfold Builtin.«getset_descriptor.__get__» descrGet;rw [dga_obj];refine Zr (Z4 ?_);unfold descrGetter descrCheckInstance descrNameAndClass isInstance;simp only [KF.owner_class]
 repeat lk
 refine ⟨Code.quiet_builtin _ (by decide +kernel),?_⟩;refine codeAny_builtin KF.entry_class ?_
 unfold Builtin.«object.__class__» shownTypeOf
 repeat lk
 exact hq
def D6 (Y:K.In s.heap) (I:zt x D s.heap) (f:Looks (model prog w) s.heap (find (.ref x) (.ref D) "__class__") (.bind (.builtin "getset_descriptor.__get__") (.builtin "object.__class__"))) (o5:mroIn K D (.type "object")=some true)
  (hq:Q (.done (.ret (.ref D))) s):wpAny (model prog w) A (Builtin.«object.__getattribute__» ⟨[.ref x,.str "__class__" tk],[]⟩) Q E s:=by
 have a0:=I.A3 (M:=model prog w);obtain ⟨h0,gs,dr,t0,os⟩:=s;refine Zr (Z4 ?_);refine Zr (Z4 (Zr (a0.at (Zr (f.at ?_)))));unfold bindTo;dsimp only
 repeat (any_goals (first | assumption | wp_step))
 exact L5 Y I o5 (Z4 hq)
theorem L7 (Y:K.In s.heap) (I:zt x D s.heap) (o6:mroIn K D (.type "BaseException")=some true) (hq:Q () s):wpAny (model prog w) A (checkBuiltinCall "BaseException.__getattribute__" ⟨[.ref x,nm],[]⟩) Q E s:=by
 have e1:builtinKind "BaseException.__getattribute__"=some .slot:=by decide +kernel
 have e2:splitId "BaseException.__getattribute__"=some ("BaseException","__getattribute__"):=by decide +kernel
 have e3:=PySem.F.args_bexc_ga (.ref x) nm;have a0:=I.A3 (M:=model prog w);have a6:=looks_mroIn (M:=model prog w) Y o6;obtain ⟨h0,gs,dr,t0,os⟩:=s;simp only [checkBuiltinCall,e1,e2];refine Zr ?_
 unfold isInstance
 repeat lk
 exact hq
theorem L6 (Y:K.In s.heap) (I:zt x D s.heap) (ok:D7 K D=true) (hq:Q (some (.ref D)) { s with toks:=s.toks+1 }):wpAny (model prog w) A (getAttr? (.ref x) "__class__") Q E s:=by
 unfold D7 at ok;simp only [Zg,beq_iff_eq] at ok;obtain ⟨⟨⟨⟨⟨⟨⟨o0,g1⟩,g2⟩,o2⟩,o3⟩,o4⟩,o5⟩,o6⟩:=ok;have a0:=I.A3 (M:=model prog w);have a1:=looks_findIn (M:=model prog w) Y g1;have a2:=looks_findIn (M:=model prog w) Y g2;have a3:Looks (model prog w) s.heap (find (.ref x) (.ref D) "__class__") _:=Im Y o2 o3 o4;obtain ⟨h0,gs,dr,tk,os⟩:=s;have n1:(Value.builtin "BaseException.__getattribute__" == Value.builtin "object.__getattribute__")=false:=by decide +kernel
 have n2:(onTheHeap (Value.ref D)&&Value.builtin "BaseException.__getattribute__" == Value.builtin "object.__getattribute__")=false:=by rw [n1]; rfl
 have n3:=PySem.F.excAttr_ValueError.ga.bind (.ref x);unfold getAttr? getAttrBy? getAttrBy;refine Zr (wpAny_mkText (Zr (wpAny_attempt (wpAny_holding (Zr (a0.at (Zr (a1.at ?_))))))));dsimp only;rw [n2];simp only [Bool.false_eq_true,if_false];unfold getAttrByItsOwn hookBefore;rw [if_pos (show onTheHeap (Value.ref D)=true from rfl)];refine Zr (a2.at (Zr (wpAny_attempt (wpAny_holding ?_))));unfold callGetattribute boundAndCalled;rw [Xr,if_neg Zf,n3];refine Zr (Z4 (wpAny_call ?_));refine codeAny_call_builtin PySem.F.excAttr_ValueError.ga.plain PySem.F.entry_bexc_ga ?_
 refine L7 (s:=⟨h0,gs,dr,tk+1,os⟩) Y I o6 ?_
 refine D6 (s:=⟨h0,gs,dr,tk+1,os⟩) Y I a3 o5 ?_
 exact handed_on rfl (Z4 hq)
def A8 (ok:D7 K D=true):KitX K (.ref x) (.ref D) (zt x D) where
 ty:=λ _ _ _ I=>I.A3
 it := λ _ _ Y _=>by
  unfold D7 at ok;simp only [Zg] at ok;obtain ⟨cd,hc⟩:=Yw.mp ok.1.1.1.1.1.1.1;unfold clsIn at hc;split at hc
  ·rename_i ho
   intro A' Q' E' s' k q;unfold isType loadHead;exact Zr (wpAny_loadPart (k _ _ (Y _ _ ho)) (Z4 q))
  · cases hc
 ne := λ h tp dd its n sl Y htp=>by
  unfold D7 at ok;simp only [Zg] at ok;obtain ⟨cd,hc⟩:=Yw.mp ok.1.1.1.1.1.1.1;refine Xc.mpr λ q=>?_
  cases Value.ref.inj (beq_iff_eq.mp q);unfold clsIn at hc;split at hc
  ·rename_i ho
   rw [Y _ _ ho] at htp;cases htp
  · cases hc
 ca:=λ Y I k=>L6 Y I ok k
end
end L2
end
section
namespace L2
open PySem PySem.Spec PySem.W PySem.Calls PyProof.Rows
def c8.there (x:c8 P w H h a o):∃ u,h.get? a=some u:=by
 cases o with
 | lst xs=>obtain ⟨_,_,_,_,e⟩:=x; exact ⟨_,e⟩
 | tup xs=>obtain ⟨_,_,_,o,e,_⟩:=x; exact ⟨_,e⟩
 | dK am=>obtain ⟨_,_,_,_,o,_,_,e,_⟩:=x; exact ⟨_,e⟩
 | dT am=>obtain ⟨_,_,_,_,o,_,_,e,_⟩:=x; exact ⟨_,e⟩
 | set S n=>obtain ⟨o,_,_,_,e,_⟩:=x; exact ⟨_,e⟩
 | ins C dx fs=>obtain ⟨_,_,_,e,_⟩:=x; exact ⟨_,e⟩
 | own y=>exact x
 | xd fs=>obtain ⟨_,⟨_,_,_,e,_⟩,_⟩:=x; exact ⟨_,e⟩
 | rng lo hi=>obtain ⟨_,_,_,e⟩:=x; exact ⟨_,e⟩
 | frz ob u=>obtain ⟨e,_⟩:=x; exact ⟨_,e⟩
 | tbl ps=>exact ⟨_,(show h.get? a=some _ from x)⟩
 | met f y=>exact ⟨_,(show h.get? a=some _ from x)⟩
 | ext φ=>exact x.2.1
section
variable {X:Cx} {ac:List (Addr×Obj)} {σ:St} {H:Hp} {s:Shared}
def Inv.Oa (I:Inv X ac σ H s) (hn:H a=none) (h0:X.s₀.heap.get? a=none) (hl:a≠X.env.locals) (hc:∀ x c,X.env.cells.lookup x=some c->c≠a) (hp:∀ p ∈ X.pn++ac,p.1≠a)
  (ok:c8 X.prog X.w (upd H a o) s.heap a o):Inv X ac σ (upd H a o) s:=by
 have n0:∀ b u,X.s₀.heap.get? b=some u->b≠a:=λ b u e z=>by rw [z,h0] at e; cases e
 have nH:∀ b u,H b=some u->b≠a:=λ b u e z=>by rw [z,hn] at e; cases e
 refine ⟨I.ok,I.os,I.bare,⟨I.base.keep,I.base.slot,λ b u e n hx=>?_,I.base.there,λ b xs e=>?_,λ b u xs e=>?_,λ b ps e=>?_⟩,I.loc,I.cell,?_,λ x c e=>?_,λ p h=>?_,λ b u e=>?_,I.len⟩
 · rw [aF (n0 b u e)]; exact I.base.free b u e n hx
 · have z:=I.base.rN b xs e; rw [aF (nH b _ z)]; exact z
 · have z:=I.base.qY b u xs e; rw [aF (nH b _ z)]; exact z
 ·obtain ⟨more,z⟩:=I.base.rO b ps e
  exact ⟨more,by rw [aF (nH b _ z)]; exact z⟩
 · rw [aF (Ne.symm hl)]; exact I.free
 · rw [aF (hc x c e)]; exact I.iH x c e
 ·obtain ⟨z1,z2,z3⟩:=I.pin p h
  exact ⟨z1,by rw [aF (hp p h)]; exact z2,z3⟩
 ·by_cases hb:b=a
  · subst hb; rw [aC] at e; cases e; exact ok
  ·rw [aF hb] at e
   exact (I.hok b u e).yx (λ _ _ _ q=>q) (λ c q=>by rw [aF (nH c _ q)]; exact q) λ c xs q=>by rw [aF (nH c _ q)]; exact q
def kJ (I:Inv X ac σ H s) (hN:X.N.Nodup) (hi:X.N[i]?=some n) (hk:X.env.scope.names.lookup n=some .local)
  (h:∀ s',Inv X ac (σ.set i none) H s'->Q () s'):wpAny M A (do bindName X.env n .none; unbindBehindTheSuite X.env n pos) Q E s:=by
 obtain ⟨m,hn,hl⟩:=id I.loc;have hcls:(X.env.scope.kind == .class||(X.env.scope.kind == .module&&X.env.locals != X.env.globals))=false:=by rw [I.ok.kind]; rfl
 have below:∀ b o,X.s₀.heap.get? b=some o->b≠X.env.locals:=λ b o e=>Z1 (Zl (Zt e) I.ok.above)
 refine wpAny_nameGoes_keeps hk hn hcls λ h' v hn' hs=>h _ ⟨I.ok,I.os,I.bare,⟨λ b o e z hb hx=>?_,λ b o e z hb hx=>?_,I.base.free,λ b o e hx=>?_,I.base.rN,I.base.qY,I.base.rO⟩,⟨_,hn',λ j y v' e1 e2 e3=>?_⟩,λ y c e=>?_,I.free,I.iH,λ p hp=>?_,λ b o e=>?_,by simpa using I.len⟩
 · exact (hs.2 b (below b o e)).trans (I.base.keep b o e z hb hx)
 ·obtain ⟨sl,e1⟩:=I.base.slot b o e z hb hx
  exact ⟨sl,(hs.2 b (below b o e)).trans e1⟩
 ·obtain ⟨o',e1⟩:=I.base.there b o e hx
  exact ⟨o',(hs.2 b (below b o e)).trans e1⟩
 ·have hj:j≠i:=λ z=>by
   subst z;have hlt:j < σ.length:=by rw [I.len]; exact (List.getElem?_eq_some_iff.mp hi).1
   rw [List.getElem?_set_self hlt] at e2;cases e2
  rw [List.getElem?_set_ne (Ne.symm hj)] at e2;obtain ⟨u,r,q⟩:=hl j y v' e1 e2 e3;refine ⟨u,r,?_⟩;rcases q with ⟨k,e⟩ | ⟨k,c,e,z⟩
  ·refine .inl ⟨k,?_⟩
   have ne:y≠n:=λ z=>hj (sr hN e1 (z ▸ hi))
   show (if y=n then v else m y)=some u;rw [if_neg ne];exact e
  · exact .inr ⟨k,c,e,z.sameBut hs (I.cne y c e)⟩
 ·obtain ⟨v',z⟩:=I.cell y c e
  exact ⟨v',z.sameBut hs (I.cne y c e)⟩
 ·obtain ⟨z1,z2,z3,z4⟩:=I.pin p hp
  exact ⟨(hs.2 _ z3).trans z1,z2,z3,z4⟩
 ·refine (I.hok b o e).yx (λ c u hc q=>(hs.2 c ?_).trans q) (λ _ q=>q) λ _ _ q=>q
  rintro rfl
  rcases hc with z | z
  · rw [<- z,I.free] at e; cases e
  · rw [I.free] at z; cases z
end
section
variable {X:Cx} {x n:Str} {C:Addr} {i:Nat} {p pos:Pos} {b₀:Stmt} {f8:List Stmt} {rest:List ExceptHandler} {ts:TS} {th:THn}
def F7 (i:Nat) (D:Ends):Ends:={ nx:=λ σ H=>D.nx (σ.set i none) H,rt:=D.rt,bk:=λ σ H=>D.bk (σ.set i none) H,ct:=λ σ H=>D.ct (σ.set i none) H }
def SW (K:Frag) (C:Addr) (i:Nat) (ts:TS) (th:THn):THn:=λ D σ H ea cls=>∃ b,exmOne K cls (.ref C)=some b/\if b=true then ∃ Dc,cls=.ref Dc/\(H ea=none->ts (F7 i D) (σ.set i (some (.ref ea))) (upd H ea (.ext (zt ea Dc)))) else th D σ H ea cls
def OC (hN:X.N.Nodup) (hi:X.N[i]?=some n) (hk:X.env.scope.names.lookup n=some .local) (hg:Gl X x) (hm:X.mg x=some (.ref C)) (hs:∀ ea,PSs (uo X ea) (b₀::f8) ts) (hr:PH X rest th) (hex:X.ex=[]:=by rfl) (hd:Dg x:=by decide):PH X (.ExceptHandler (some (.Name x p)) (some n) (b₀::f8) pos::rest) (SW X.K C i ts th):=by
 intro ac s0 s σ H H' D ea cls a0 B I F ho hb fl h;obtain ⟨b,he,h⟩:=h;have I1:=F.inv I ho hb fl.1
 have LT:Looks (model X.prog X.w) s.heap (typeOf (.ref ea)) cls:=by
  obtain ⟨ob,hob,hc⟩:=fl.there;subst hc;exact (Looks.ld hob).andThen .now
 refine wpAny_handleBy_cons (codeAny_handlers_test (DP I1 hg hm ((exm_one I1.kIn LT he).here ?_) hd)) (by intro q; cases q)
 cases b with
 | false=>exact hr ac s0 s σ H H' D ea cls a0 B I F ho hb fl h
 | true=>
  obtain ⟨Dc,rfl,h⟩:=h;refine codeAny_handlers_suite_as (lands_againW fl λ h6 fl6 sm6=>?_);have F6:=F.step fl6.1 sm6 (wb fl.2.2.1);have I6:Inv X ac σ H' { s with heap:=h6 }:=F6.inv (s:={ s with heap:=h6 }) I ho hb fl6.1;obtain ⟨oe,vs,T,oT,ts',heq,⟨hcl,_⟩,hdat,_⟩:=fl6.2.2.2
  have fresh0:s0.heap.get? ea=none:=by
   cases q:s0.heap.get? ea with
   | none=>rfl
   | some o=>
    by_cases hf:ea ∈ frs X.stack
    · exact absurd hdat (wb fl6.2.2.1 ea hf oe heq vs)
    ·obtain ⟨o',e'⟩:=F.F2 ea o q hf
     rw [fl.2.1] at e'; cases e'
  have nH:H' ea=none:=by
   cases q:H' ea with
   | none=>rfl
   | some o=>
    obtain ⟨u,e'⟩:=(F.hok ea o q).there;rw [fl.2.1] at e'; cases e'
  have up:∀ b o,s0.heap.get? b=some o->b≠ea:=λ b o e z=>by rw [z,fresh0] at e; cases e
  have e0:X.s₀.heap.get? ea=none:=by
   cases q:X.s₀.heap.get? ea with
   | none=>rfl
   | some o=>
    by_cases hx:ea ∈ X.ex
    · rw [hex] at hx; cases hx
    ·obtain ⟨o',e'⟩:=I.base.there ea o q hx
     rw [fresh0] at e'; cases e'
  have I7:Inv X ac σ (upd H' ea (.ext (zt ea Dc))) { s with heap:=h6 }:=by
   refine I6.Oa nH e0 ?_ (λ y c e=>?_) (λ p hp=>?_) ⟨⟨oe,heq,hcl⟩,⟨oe,heq⟩,λ h1 h2 ⟨o,q1,q2⟩ k=>⟨o,k _ q1,q2⟩⟩
   ·intro z
    obtain ⟨m,⟨o,_,_,ho',_⟩,_⟩:=I.loc;exact up _ o ho' z.symm
   ·obtain ⟨v,o,ho',_⟩:=I.cell y c e
    exact up _ o ho'
   · exact up _ _ (I.pin p hp).1
  refine ir I7 hN hi (.inl hk) (v:=.ref ea) rfl (λ s2 I8 _=>?_) (.inr hk);refine Yv (hs ea ac s2 _ _ (F7 i D) I8.mark (h nH)) (λ f s3 q=>?_) λ _ _ q=>q.elim
  have q':=q.unmark I.ok
  cases f with
  | next=>obtain ⟨σ',H2,I9,q9⟩:=q'; exact kJ I9 hN hi hk λ s4 I10=>⟨_,H2,I10,q9⟩
  | brk=>obtain ⟨σ',H2,I9,q9⟩:=q'; exact kJ I9 hN hi hk λ s4 I10=>⟨_,H2,I10,q9⟩
  | cont=>obtain ⟨σ',H2,I9,q9⟩:=q'; exact kJ I9 hN hi hk λ s4 I10=>⟨_,H2,I10,q9⟩
  | ret u=>obtain ⟨v,σ',H2,I9,r,q9⟩:=q'; exact kJ I9 hN hi hk λ s4 I10=>⟨v,_,H2,I10,r,q9⟩
def Cg:eI X (.builtin "isinstance") (λ xs H Q=>∃ a D c b,xs=[.ref a,c]/\((∃ n,c=.ty n)\/∃ a,c=.ref a)/\H a=some (.ext (zt a D))/\D7 X.K D=true/\kitOne X.K (.ref D) (Rh c)=some b/\Q (.bl b) H):=by
 intro ac s σ H xs us Q I r h;obtain ⟨a,D,c,b,rfl,hc,hH,ok,e,q⟩:=h;obtain ⟨u,w',rfl,ru,rw'⟩:=vals2 r;cases (show u=Value.ref a from ru)
 have e2:w'=Rh c:=by
  rcases hc with ⟨n,rfl⟩ | ⟨a,rfl⟩
  · exact rw'
  · exact rw'
 subst e2;exact kia_one (A8 ok) I.kIn (I.hok _ _ hH).1 e (λ z=>nomatch z) λ tk=>⟨.bl b,H,I.tok tk,rfl,q⟩
end
def LJ {X:Cx} {K:Frag} (hK:X.K=K):eI X (.builtin "isinstance") (λ xs H Q=>∃ a D c b,xs=[.ref a,c]/\((∃ n,c=.ty n)\/∃ a,c=.ref a)/\H a=some (.ext (zt a D))/\D7 K D=true/\kitOne K (.ref D) (Rh c)=some b/\Q (.bl b) H):=by
 subst hK;exact Cg
end L2
end
section
namespace L2
open PySem PySem.Spec PyProof.Rows
inductive D where
 | non | bl (b:Bool) | int (i:Int) | str (x:Str) | ty (n:String)
 | tup (ds:List D) | lst (ds:List D) | fz (ds:List D) | dct (am:List (Key×D)) | obj (C:Addr) (fs:List (Str×D)) | cls (C:Addr) | dfz (am:List (Key×D))
mutual
inductive Rp (K:W.Frag) (H:Hp):V->D->Prop where
 | non:Rp K H .non .non
 | bl (b:Bool):Rp K H (.bl b) (.bl b)
 | int (i:Int):Rp K H (.int i) (.int i)
 | str (x:Str):Rp K H (.str x) (.str x)
 | ty (n:String):Rp K H (.ty n) (.ty n)
 | cls (C:Addr):Rp K H (.ref C) (.cls C)
 | tup {a:Addr} {xs:List V} {ds:List D} (h:SqT K H a xs) (r:Rps K H xs ds):Rp K H (.ref a) (.tup ds)
 | lst {a:Addr} {xs:List V} {ds:List D} (h:H a=some (.lst xs)) (r:Rps K H xs ds):Rp K H (.ref a) (.lst ds)
 | fz {a:Addr} {xs:List V} {ds:List D} (h:SqL K H a xs) (r:Rps K H xs ds):Rp K H (.ref a) (.fz ds)
 | dct {a:Addr} {am:List (Key×V)} {ds:List (Key×D)} (h:H a=some (.dK am)) (r:RpK K H am ds):Rp K H (.ref a) (.dct ds)
 | obj {a C dx:Addr} {fs:List (Str×V)} {ds:List (Str×D)} (h:H a=some (.ins C dx fs)) (r:RpF K H fs ds):Rp K H (.ref a) (.obj C ds)
 | dfz {a:Addr} {am:List (Key×V)} {ds:List (Key×D)} (h:Rd H a (.dK am)) (r:RpK K H am ds):Rp K H (.ref a) (.dfz ds)
inductive Rps (K:W.Frag) (H:Hp):List V->List D->Prop where
 | nil:Rps K H [] []
 | cons {x:V} {d:D} {xs:List V} {ds:List D} (h:Rp K H x d) (r:Rps K H xs ds):Rps K H (x::xs) (d::ds)
inductive RpK (K:W.Frag) (H:Hp):List (Key×V)->List (Key×D)->Prop where
 | nil:RpK K H [] []
 | cons {k:Key} {x:V} {d:D} {xs:List (Key×V)} {ds:List (Key×D)} (h:Rp K H x d) (r:RpK K H xs ds):RpK K H ((k,x)::xs) ((k,d)::ds)
inductive RpF (K:W.Frag) (H:Hp):List (Str×V)->List (Str×D)->Prop where
 | nil:RpF K H [] []
 | cons {k:Str} {x:V} {d:D} {xs:List (Str×V)} {ds:List (Str×D)} (h:Rp K H x d) (r:RpF K H xs ds):RpF K H ((k,x)::xs) ((k,d)::ds)
end
section
variable {K:W.Frag} {H H':Hp}
mutual
theorem Rp.same (g:c9 H H'):∀ {v:V} {d:D},Rp K H v d->Rp K H' v d
 | _,_,.non=>.non
 | _,_,.bl b=>.bl b
 | _,_,.int i=>.int i
 | _,_,.str x=>.str x
 | _,_,.ty n=>.ty n
 | _,_,.cls n=>.cls n
 | _,_,.tup h r=>.tup (g.tup h) (Rps.same g r)
 | _,_,.lst h r=>.lst (g _ _ h) (Rps.same g r)
 | _,_,.fz h r=>.fz (g.seq h) (Rps.same g r)
 | _,_,.dct h r=>.dct (g _ _ h) (RpK.same g r)
 | _,_,.obj h r=>.obj (g _ _ h) (RpF.same g r)
 | _,_,.dfz h r=>.dfz (h.elim (λ z=>.inl (g _ _ z)) λ ⟨o,z⟩=>.inr ⟨o,g _ _ z⟩) (RpK.same g r)
theorem Rps.same (g:c9 H H'):∀ {v:List V} {d:List D},Rps K H v d->Rps K H' v d
 | _,_,.nil=>.nil
 | _,_,.cons h r=>.cons (Rp.same g h) (Rps.same g r)
theorem RpK.same (g:c9 H H'):∀ {v:List (Key×V)} {d:List (Key×D)},RpK K H v d->RpK K H' v d
 | _,_,.nil=>.nil
 | _,_,.cons h r=>.cons (Rp.same g h) (RpK.same g r)
theorem RpF.same (g:c9 H H'):∀ {v:List (Str×V)} {d:List (Str×D)},RpF K H v d->RpF K H' v d
 | _,_,.nil=>.nil
 | _,_,.cons h r=>.cons (Rp.same g h) (RpF.same g r)
end
theorem Rps.length:∀ {xs:List V} {ds:List D},Rps K H xs ds->xs.length=ds.length
 | _,_,.nil=>rfl
 | _,_,.cons _ r=>Z8 (·+1) r.length
theorem Rps.get:∀ {xs:List V} {ds:List D} {i:Nat} {d:D},Rps K H xs ds->ds[i]?=some d->∃ x,xs[i]?=some x/\Rp K H x d
 | _,_,_,_,.nil,e=>by simp at e
 | _,_,0,_,.cons h _,e=>by simp at e; subst e; exact ⟨_,by simp,h⟩
 | _,_,i+1,d,.cons _ r,e=>by
  obtain ⟨x,h1,h2⟩:=Rps.get (i:=i) (d:=d) r (by simpa using e);exact ⟨x,by simpa using h1,h2⟩
theorem Rps.append:∀ {xs ys:List V} {ds es:List D},Rps K H xs ds->Rps K H ys es->Rps K H (xs++ys) (ds++es)
 | _,_,_,_,.nil,h=>h
 | _,_,_,_,.cons h r,h'=>.cons h (Rps.append r h')
theorem Rps.take:∀ {xs:List V} {ds:List D} (n:Nat),Rps K H xs ds->Rps K H (xs.take n) (ds.take n)
 | _,_,0,_=>.nil
 | _,_,_+1,.nil=>.nil
 | _,_,n+1,.cons h r=>.cons h (Rps.take n r)
theorem Rps.drop:∀ {xs:List V} {ds:List D} (n:Nat),Rps K H xs ds->Rps K H (xs.drop n) (ds.drop n)
 | _,_,0,h=>h
 | _,_,_+1,.nil=>.nil
 | _,_,n+1,.cons _ r=>Rps.drop n r
theorem Rps.set:∀ {xs:List V} {ds:List D} {x:V} {d:D} (n:Nat),Rps K H xs ds->Rp K H x d->Rps K H (xs.set n x) (ds.set n d)
 | _,_,_,_,_,.nil,_=>.nil
 | _,_,_,_,0,.cons _ r,h=>.cons h r
 | _,_,_,_,n+1,.cons h r,h'=>.cons h (Rps.set n r h')
theorem Rps.ints:∀ (ns:List Int),Rps K H (ns.map V.int) (ns.map D.int)
 | []=>.nil
 | n::ns=>.cons (.int n) (Rps.ints ns)
end
structure Ext (Hs H Hs' H':Hp):Prop where
 ss:c9 Hs Hs'
 sh:c9 Hs' H'
 hh:c9 H H'
 fr:∀ b,Hs b=none->H b≠none->Hs' b=none
def Ext.refl (h:c9 Hs H):Ext Hs H Hs H:=⟨.refl _,h,.refl _,λ _ h _=>h⟩
def oi {α:Type} {o:Option α} {x:α} (h:o=some x):o≠none:=by rw [h]; simp
def c9.live (g:c9 H H') (h:H b≠none):H' b≠none:=by
 cases q:H b with
 | none=>exact absurd q h
 | some o=>rw [g _ _ q]; simp
def Ext.trans (a:Ext Hs H Hs1 H1) (b:Ext Hs1 H1 Hs2 H2):Ext Hs H Hs2 H2:=
 ⟨a.ss.trans b.ss,b.sh,a.hh.trans b.hh,λ c h1 h2=>b.fr c (a.fr c h1 h2) (a.hh.live h2)⟩
def Ext.new (h:c9 Hs H) (hp:H p=none) (o:HO):Ext Hs H (upd Hs p o) (upd H p o):=by
 refine ⟨bo (h.free hp) o,λ b u q=>?_,bo hp o,λ b h1 h2=>?_⟩
 ·by_cases e:b=p
  · subst e; rw [aC] at q ⊢; exact q
  · rw [aF e] at q ⊢; exact h _ _ q
 ·by_cases e:b=p
  · subst e; exact absurd hp h2
  · rw [aF e]; exact h1
inductive Sl where
 | no | shr (d:D) | own (d:D)
inductive Ow (K:W.Frag) (Hs H:Hp) (a:Addr):D->Prop where
 | lst {xs:List V} {ds:List D} (h:H a=some (.lst xs)) (n:Hs a=none) (r:Rps K Hs xs ds):Ow K Hs H a (.lst ds)
 | dct {am:List (Key×V)} {ds:List (Key×D)} (h:H a=some (.dK am)) (n:Hs a=none) (r:RpK K Hs am ds):Ow K Hs H a (.dct ds)
def Ow.hid {K:W.Frag} {Hs H:Hp} {a:Addr} {d:D} (h:Ow K Hs H a d):Hs a=none:=by cases h <;> assumption
def Ow.live {K:W.Frag} {Hs H:Hp} {a:Addr} {d:D} (h:Ow K Hs H a d):H a≠none:=by
 cases h with
 | lst h _ _=>exact oi h
 | dct h _ _=>exact oi h
def Ow.ext {K:W.Frag} {Hs H Hs' H':Hp} {a:Addr} {d:D} (g:Ext Hs H Hs' H') (h:Ow K Hs H a d):Ow K Hs' H' a d:=by
 have n':=g.fr a h.hid h.live
 cases h with
 | lst h n r=>exact .lst (g.hh _ _ h) n' (r.same g.ss)
 | dct h n r=>exact .dct (g.hh _ _ h) n' (r.same g.ss)
def Ow.off {K:W.Frag} {Hs H H':Hp} {a:Addr} {d:D} (h:Ow K Hs H a d) (e:H' a=H a):Ow K Hs H' a d:=by
 cases h with
 | lst h n r=>exact .lst (e.trans h) n r
 | dct h n r=>exact .dct (e.trans h) n r
inductive StR (K:W.Frag) (H0 Hs H:Hp):List (Option V)->List Sl->List Addr->Prop where
 | nil:StR K H0 Hs H [] [] []
 | no {o:Option V} {σ:List (Option V)} {τ:List Sl} {fp:List Addr} (r:StR K H0 Hs H σ τ fp):StR K H0 Hs H (o::σ) (.no::τ) fp
 | shr {v:V} {d:D} {σ:List (Option V)} {τ:List Sl} {fp:List Addr} (h:Rp K Hs v d) (r:StR K H0 Hs H σ τ fp):StR K H0 Hs H (some v::σ) (.shr d::τ) fp
 | own {a:Addr} {d:D} {σ:List (Option V)} {τ:List Sl} {fp:List Addr} (h:Ow K Hs H a d) (z:H0 a=none) (m:a ∉ fp) (r:StR K H0 Hs H σ τ fp):StR K H0 Hs H (some (.ref a)::σ) (.own d::τ) (a::fp)
section
variable {K:W.Frag} {H0 Hs H Hs' H':Hp} {σ:List (Option V)} {τ:List Sl} {fp:List Addr}
def StR.ext (g:Ext Hs H Hs' H') (h:StR K H0 Hs H σ τ fp):StR K H0 Hs' H' σ τ fp:=by
 induction h with
 | nil=>exact .nil
 | no _ ih=>exact .no ih
 | shr h _ ih=>exact .shr (h.same g.ss) ih
 | own h z m _ ih=>exact .own (h.ext g) z m ih
def StR.off (h:StR K H0 Hs H σ τ fp) (m:a ∉ fp):StR K H0 Hs (upd H a o) σ τ fp:=by
 induction h with
 | nil=>exact .nil
 | no _ ih=>exact .no (ih m)
 | shr h _ ih=>exact .shr h (ih m)
 | @own b d σ τ fp h z n _ ih=>
  have ne:b≠a:=λ e=>m (by rw [e]; exact Zp ..)
  exact .own (h.off (aF ne)) z n (ih (λ q=>m (Za _ q)))
def StR.Ii (h:StR K H0 Hs H σ τ fp):∀ a ∈ fp,Hs a=none/\H0 a=none/\H a≠none:=by
 induction h with
 | nil=>intro a h; cases h
 | no _ ih=>exact ih
 | shr _ _ ih=>exact ih
 | own h z m _ ih=>
  intro b hb;rcases Zd.mp hb with e | e
  · subst e; exact ⟨h.hid,z,h.live⟩
  · exact ih b e
def StR.get {i:Nat} {d:D} (h:StR K H0 Hs H σ τ fp):τ[i]?=some (.shr d)->∃ v,σ[i]?=some (some v)/\Rp K Hs v d:=by
 induction h generalizing i with
 | nil=>intro e; simp at e
 | no _ ih=>
  intro e
  cases i with
  | zero=>simp at e
  | succ i=>exact ih (by simpa using e)
 | shr h _ ih=>
  intro e
  cases i with
  | zero=>simp at e; subst e; exact ⟨_,rfl,h⟩
  | succ i=>exact ih (by simpa using e)
 | own _ _ _ _ ih=>
  intro e
  cases i with
  | zero=>simp at e
  | succ i=>exact ih (by simpa using e)
def StR.Ie {i:Nat} {d:D} (h:StR K H0 Hs H σ τ fp):τ[i]?=some (.own d)->∃ a,σ[i]?=some (some (.ref a))/\Ow K Hs H a d/\H0 a=none/\a ∈ fp:=by
 induction h generalizing i with
 | nil=>intro e; simp at e
 | no _ ih=>
  intro e
  cases i with
  | zero=>simp at e
  | succ i=>exact ih (by simpa using e)
 | shr h _ ih=>
  intro e
  cases i with
  | zero=>simp at e
  | succ i=>exact ih (by simpa using e)
 | own h z m _ ih=>
  intro e
  cases i with
  | zero=>simp at e; subst e; exact ⟨_,rfl,h,z,Zp ..⟩
  | succ i=>
   obtain ⟨a,h1,h2,h3,h4⟩:=ih (by simpa using e);exact ⟨a,h1,h2,h3,Za _ h4⟩
def StR.EH (hv:Rp K Hs v d) (h:StR K H0 Hs H σ τ fp):∃ fp',(∀ a ∈ fp',a ∈ fp)/\StR K H0 Hs H (σ.set i (some v)) (τ.set i (.shr d)) fp':=by
 induction h generalizing i with
 | nil=>exact ⟨[],λ _ h=>h,.nil⟩
 | no r ih=>
  cases i with
  | zero=>exact ⟨_,λ _ h=>h,.shr hv r⟩
  | succ i=>obtain ⟨fp',h1,h2⟩:=ih; exact ⟨fp',h1,.no h2⟩
 | shr h r ih=>
  cases i with
  | zero=>exact ⟨_,λ _ h=>h,.shr hv r⟩
  | succ i=>obtain ⟨fp',h1,h2⟩:=ih (i:=i); exact ⟨fp',h1,.shr h h2⟩
 | own h z m r ih=>
  cases i with
  | zero=>exact ⟨_,λ _ h=>Za _ h,.shr hv r⟩
  | succ i=>
   obtain ⟨fp',h1,h2⟩:=ih (i:=i);exact ⟨_::fp',λ b hb=>(Zd.mp hb).elim (λ e=>by subst e; exact Zp ..) λ e=>Za _ (h1 b e),.own h z (λ q=>m (h1 _ q)) h2⟩
def StR.Tq (hv:Ow K Hs H a d) (z0:H0 a=none) (h:StR K H0 Hs H σ τ fp) (m0:a ∉ fp) (hi:i < τ.length):∃ fp',(∀ b ∈ fp',b=a\/b ∈ fp)/\StR K H0 Hs H (σ.set i (some (.ref a))) (τ.set i (.own d)) fp':=by
 induction h generalizing i with
 | nil=>exact absurd hi (by simp)
 | @no o σ τ fp r ih=>
  cases i with
  | zero=>exact ⟨a::fp,λ b h=>Zd.mp h,.own hv z0 m0 r⟩
  | succ i=>obtain ⟨fp',h1,h2⟩:=ih m0 (by simpa using hi); exact ⟨fp',h1,.no h2⟩
 | @shr v d σ τ fp h r ih=>
  cases i with
  | zero=>exact ⟨a::fp,λ b h=>Zd.mp h,.own hv z0 m0 r⟩
  | succ i=>obtain ⟨fp',h1,h2⟩:=ih m0 (i:=i) (by simpa using hi); exact ⟨fp',h1,.shr h h2⟩
 | @own b d' σ τ fp h z m r ih=>
  have m1:a ∉ fp:=λ q=>m0 (Za _ q)
  cases i with
  | zero=>exact ⟨a::fp,λ c hc=>(Zd.mp hc).imp id λ e=>Za _ e,.own hv z0 m1 r⟩
  | succ i=>
   obtain ⟨fp',h1,h2⟩:=ih m1 (i:=i) (by simpa using hi);refine ⟨b::fp',λ c hc=>?_,.own h z (λ q=>?_) h2⟩
   ·rcases Zd.mp hc with e | e
    · exact .inr (by subst e; exact Zp ..)
    · exact (h1 c e).imp id λ e=>Za _ e
   ·rcases h1 _ q with e | e
    · exact m0 (by rw [<- e]; exact Zp ..)
    · exact m e
def StR.mut {i:Nat} {a:Addr} {d d':D} {o:HO} (h:StR K H0 Hs H σ τ fp):τ[i]?=some (.own d)->σ[i]?=some (some (.ref a))->Ow K Hs (upd H a o) a d'->StR K H0 Hs (upd H a o) σ (τ.set i (.own d')) fp:=by
 induction h generalizing i with
 | nil=>intro e; simp at e
 | no _ ih=>
  intro e e2 hv
  cases i with
  | zero=>simp at e
  | succ i=>exact .no (ih (by simpa using e) (by simpa using e2) hv)
 | shr h _ ih=>
  intro e e2 hv
  cases i with
  | zero=>simp at e
  | succ i=>exact .shr h (ih (by simpa using e) (by simpa using e2) hv)
 | @own b d1 σ τ fp h z m r ih=>
  intro e e2 hv
  cases i with
  | zero=>
   have q:b=a:=by simpa using e2
   subst q;exact .own hv z m (r.off m)
  | succ i=>
   have e':τ[i]?=some (.own d):=by simpa using e
   have e2':σ[i]?=some (some (.ref a)):=by simpa using e2
   obtain ⟨c,h1,h2,h3,h4⟩:=r.Ie e';have q:c=a:=by rw [e2'] at h1; simpa using h1.symm
   subst q;have ne:b≠c:=λ e=>m (by rw [e]; exact h4)
   exact .own (h.off (aF ne)) z m (ih e' e2' hv)
end
def Ow.rp {K:W.Frag} {Hs H:Hp} {a:Addr} {d:D} (h:Ow K Hs H a d):∃ o,H a=some o/\Rp K (upd Hs a o) (.ref a) d:=by
 cases h with
 | lst h n r=>exact ⟨_,h,.lst aC (r.same (bo n _))⟩
 | dct h n r=>exact ⟨_,h,.dct aC (r.same (bo n _))⟩
section
variable {K:W.Frag} {H0 Hs H Hs' H':Hp} {σ:List (Option V)} {τ:List Sl} {fp:List Addr}
def StR.UO (h:StR K H0 Hs H σ τ fp) (n:Hs a=none) (m:a ∉ fp):StR K H0 (upd Hs a o) H σ τ fp:=by
 induction h with
 | nil=>exact .nil
 | no _ ih=>exact .no (ih m)
 | shr h _ ih=>exact .shr (h.same (bo n o)) (ih m)
 | @own b d σ τ fp h z k _ ih=>
  have ne:b≠a:=λ e=>m (by rw [e]; exact Zp ..)
  refine .own ?_ z k (ih (λ q=>m (Za _ q)))
  cases h with
  | lst h n' r=>exact .lst h (by rw [aF ne]; exact n') (r.same (bo n o))
  | dct h n' r=>exact .dct h (by rw [aF ne]; exact n') (r.same (bo n o))
def StR.frz {i:Nat} {d:D} (h:StR K H0 Hs H σ τ fp):τ[i]?=some (.own d)->∃ a o fp',H a=some o/\Hs a=none/\H0 a=none/\StR K H0 (upd Hs a o) H σ (τ.set i (.shr d)) fp'/\a ∉ fp'/\(∀ b ∈ fp',b ∈ fp)/\σ[i]?=some (some (.ref a))/\Ow K Hs H a d:=by
 induction h generalizing i with
 | nil=>intro e; simp at e
 | no _ ih=>
  intro e
  cases i with
  | zero=>simp at e
  | succ i=>
   obtain ⟨a,o,fp',h1,h2,h3,h4,h5,h6,h7,h8⟩:=ih (by simpa using e);exact ⟨a,o,fp',h1,h2,h3,.no h4,h5,h6,h7,h8⟩
 | shr h _ ih=>
  intro e
  cases i with
  | zero=>simp at e
  | succ i=>
   obtain ⟨a,o,fp',h1,h2,h3,h4,h5,h6,h7,h8⟩:=ih (i:=i) (by simpa using e);exact ⟨a,o,fp',h1,h2,h3,.shr (h.same (bo h2 o)) h4,h5,h6,h7,h8⟩
 | @own b d1 σ τ fp h z m r ih=>
  intro e
  cases i with
  | zero=>
   simp at e;subst e;obtain ⟨o,h1,h2⟩:=h.rp;exact ⟨b,o,fp,h1,h.hid,z,.shr h2 (r.UO h.hid m),m,λ _ q=>Za _ q,rfl,h⟩
  | succ i=>
   obtain ⟨a,o,fp',h1,h2,h3,h4,h5,h6,h7,h8⟩:=ih (i:=i) (by simpa using e);obtain ⟨c,k1,k2,k3,k4⟩:=r.Ie (i:=i) (by simpa using e);have q:c=a:=by rw [h7] at k1; simpa using k1.symm
   subst q;have ne:b≠c:=λ e=>m (by rw [e]; exact k4)
   refine ⟨c,o,b::fp',h1,h2,h3,.own ?_ z (λ q=>m (h6 _ q)) h4,?_,?_,h7,h8⟩
   ·cases h with
    | lst h n' r=>exact .lst h (by rw [aF ne]; exact n') (r.same (bo h2 o))
    | dct h n' r=>exact .dct h (by rw [aF ne]; exact n') (r.same (bo h2 o))
   ·intro q
    rcases Zd.mp q with e | e
    · exact ne e.symm
    · exact h5 e
   ·intro c' hc
    rcases Zd.mp hc with e | e
    · subst e; exact Zp ..
    · exact Za _ (h6 _ e)
end
abbrev DE:=List Sl->Option D
abbrev DT:=List Sl->Option Bool
abbrev DA:=List Sl->Option (List D)
inductive Out where
 | next (τ:List Sl) | ret (s:Sl) | brk (τ:List Sl) | cnt (τ:List Sl)
abbrev DS:=List Sl->Option Out
def SlV (K:W.Frag) (H0 Hs H:Hp) (v:V):Sl->Prop
 | .no=>False
 | .shr d=>Rp K Hs v d
 | .own d=>∃ a,v=.ref a/\Ow K Hs H a d/\H0 a=none
structure Rep (K:W.Frag) (Hs0 H0 Hs H:Hp) (σ:St) (τ:List Sl):Prop where
 ext:Ext Hs0 H0 Hs H
 st:∃ fp,StR K H0 Hs H σ τ fp
def rdE (K:W.Frag) (f:DE):TE:=λ σ H Q=>∃ H0 Hs τ fp d,StR K H0 Hs H σ τ fp/\c9 Hs H/\f τ=some d/\∀ v Hs' H',Ext Hs H Hs' H'->Rp K Hs' v d->Q v H'
def rdT (K:W.Frag) (f:DT):TT:=λ σ H Q=>∃ H0 Hs τ fp d,StR K H0 Hs H σ τ fp/\c9 Hs H/\f τ=some d/\∀ Hs' H',Ext Hs H Hs' H'->Q d H'
def rdA (K:W.Frag) (f:DA):TA:=λ σ H Q=>∃ H0 Hs τ fp d,StR K H0 Hs H σ τ fp/\c9 Hs H/\f τ=some d/\∀ v Hs' H',Ext Hs H Hs' H'->Rps K Hs' v d->Q v H'
def rdO (K:W.Frag) (f:DE):TE:=λ σ H Q=>∃ H0 Hs τ fp d,StR K H0 Hs H σ τ fp/\c9 Hs H/\f τ=some d/\∀ a Hs' H',Ext Hs H Hs' H'->Ow K Hs' H' a d->H a=none->Q (.ref a) H'
def PEd (X:Cx) (e:Expr) (f:DE):Prop:=PE X e (rdE X.K f)
def PEo (X:Cx) (e:Expr) (f:DE):Prop:=PE X e (rdO X.K f)
def PTd (X:Cx) (e:Expr) (f:DT):Prop:=PT X e (rdT X.K f)
def PAd (X:Cx) (es:List Expr) (f:DA):Prop:=PA X es (rdA X.K f)
def Fin (K:W.Frag) (Hs0 H0:Hp) (E:Ends):Out->Prop
 | .next τ=>∀ σ Hs H,Rep K Hs0 H0 Hs H σ τ->E.nx σ H
 | .brk τ=>∀ σ Hs H,Rep K Hs0 H0 Hs H σ τ->E.bk σ H
 | .cnt τ=>∀ σ Hs H,Rep K Hs0 H0 Hs H σ τ->E.ct σ H
 | .ret s=>∀ v Hs H,Ext Hs0 H0 Hs H->SlV K H0 Hs H v s->E.rt v H
def rdS (K:W.Frag) (f:DS):TS:=λ E σ H=>∃ Hs0 H0 Hs τ o,Rep K Hs0 H0 Hs H σ τ/\f τ=some o/\Fin K Hs0 H0 E o
def PSd (X:Cx) (s:Stmt) (f:DS):Prop:=PS X s (rdS X.K f)
def zr (X:Cx) (s:List Stmt) (f:DS):Prop:=PSs X s (rdS X.K f)
def PE.imp (h:PE X e t) (hi:∀ σ H Q,t' σ H Q->t σ H Q):PE X e t':=λ ac s σ H Q I q=>h ac s σ H Q I (hi _ _ _ q)
def PT.imp (h:PT X e t) (hi:∀ σ H Q,t' σ H Q->t σ H Q):PT X e t':=λ ac s σ H Q I q=>h ac s σ H Q I (hi _ _ _ q)
def PA.imp (h:PA X e t) (hi:∀ σ H Q,t' σ H Q->t σ H Q):PA X e t':=λ pos ac s σ H Q I q=>h pos ac s σ H Q I (hi _ _ _ q)
def PS.imp (h:PS X e t) (hi:∀ E σ H,t' E σ H->t E σ H):PS X e t':=λ ac s σ H E I q=>h ac s σ H E I (hi _ _ _ q)
def PSs.imp (h:PSs X e t) (hi:∀ E σ H,t' E σ H->t E σ H):PSs X e t':=λ ac s σ H E I q=>h ac s σ H E I (hi _ _ _ q)
def aM (i:Nat):DE:=λ τ=>match τ[i]? with | some (.shr d)=>some d | _=>none
def dC (d:D):DE:=λ _=>some d
def dOp (o:D->D->Option D) (f g:DE):DE:=λ τ=>(f τ).bind λ x=>(g τ).bind λ y=>o x y
def dUn (o:D->Option D) (f:DE):DE:=λ τ=>(f τ).bind o
def bR:DA:=λ _=>some []
def aG (f:DE) (g:DA):DA:=λ τ=>(f τ).bind λ x=>(g τ).bind λ xs=>some (x::xs)
def ej (o:List D->Option D) (f:DA):DE:=λ τ=>(f τ).bind o
def mM (f:DA):DE:=λ τ=>(f τ).bind λ ds=>if ds.length<=100000 then some (.tup ds) else none
def Md (f:DA):DE:=λ τ=>(f τ).bind λ ds=>if ds.length<=100000 then some (.lst ds) else none
def dIf (c:DT) (f g:DE):DE:=λ τ=>(c τ).bind λ b=>if b=true then f τ else g τ
def k6 (f g:DE):DE:=λ τ=>(f τ).bind λ x=>match x with | .bl true=>g τ | .bl false=>some (.bl false) | _=>none
def Iy (f g:DE):DE:=λ τ=>(f τ).bind λ x=>match x with | .bl true=>some (.bl true) | .bl false=>g τ | _=>none
def Eb (f:DE):DE:=λ τ=>(f τ).bind λ x=>match x with | .bl b=>some (.bl (!b)) | _=>none
def dT (f:DE):DT:=λ τ=>(f τ).bind λ x=>match x with | .bl b=>some b | _=>none
def B4 (f g:DT):DT:=λ τ=>(f τ).bind λ b=>if b=true then g τ else some false
def dOr (f g:DT):DT:=λ τ=>(f τ).bind λ b=>if b=true then some true else g τ
def pQ (f:DT):DT:=λ τ=>(f τ).map (!·)
def le5 (h:n<=100000):n < sizeLine:=Nat.lt_of_le_of_lt h (by rw [sizeLine_eq]; decide)
def CI (h:n<=100000):n<=sizeLine:=Nat.le_of_lt (le5 h)
def nn {α:Type} {d:α} {p:Prop} (h:(none:Option α)=some d):p:=nomatch h
def U0 {α β:Type} {o:Option α} {f:α->Option β} {b:β} (h:o.bind f=some b):∃ a,o=some a/\f a=some b:=Option.bind_eq_some_iff.mp h
section
variable {X:Cx} {a b c e:Expr} {es:List Expr} {pos:Pos} {f g h:DE}
def js (h:PE X e (tC v)) (r:∀ H,Rp X.K H v d):PEd X e (dC d):=
 h.imp λ σ H Q ⟨H0,Hs,τ,fp,d',st,sm,e,k⟩=>by
  have e':=Zj e;subst e';exact k v Hs H (.refl sm) (r Hs)
def Ao (hg:Gl X x) (hm:X.mg x=some u) (r:RelV v u) (rd:∀ H,Rp X.K H v d) (hd:Dg x:=by decide):PEd X (.Name x pos) (dC d):=js (jW hg hm r hd) rd
def rdR (K:W.Frag) (o:D->D->Option D):R2:=λ x y H Q=>∃ Hs dx dy d,c9 Hs H/\Rp K Hs x dx/\Rp K Hs y dy/\o dx dy=some d/\∀ v Hs' H',Ext Hs H Hs' H'->Rp K Hs' v d->Q v H'
def rdU (K:W.Frag) (o:D->Option D):V->Hp->VK->Prop:=λ x H Q=>∃ Hs dx d,c9 Hs H/\Rp K Hs x dx/\o dx=some d/\∀ v Hs' H',Ext Hs H Hs' H'->Rp K Hs' v d->Q v H'
def rdL (K:W.Frag) (o:List D->Option D):List V->Hp->VK->Prop:=λ xs H Q=>∃ Hs ds d,c9 Hs H/\Rps K Hs xs ds/\o ds=some d/\∀ v Hs' H',Ext Hs H Hs' H'->Rp K Hs' v d->Q v H'
def qL (K:W.Frag) (hh:rdE K (dOp o f g) σ H Q):tOp (rdR K o) (rdE K f) (rdE K g) σ H Q:=by
 obtain ⟨H0,Hs,τ,fp,d,st,sm,e,k⟩:=hh;obtain ⟨x,e1,e⟩:=U0 e;obtain ⟨y,e2,e⟩:=U0 e;refine ⟨H0,Hs,τ,fp,x,st,sm,e1,λ v Hs1 H1 g1 r1=>?_⟩;refine ⟨H0,Hs1,τ,fp,y,st.ext g1,g1.sh,e2,λ u Hs2 H2 g2 r2=>?_⟩;exact ⟨Hs2,x,y,d,g2.sh,r1.same g2.ss,r2,e,λ w Hs3 H3 g3 r3=>k w Hs3 H3 ((g1.trans g2).trans g3) r3⟩
def PEo.shr (h:PEo X e f):PEd X e f:=
 PE.imp h λ σ H Q ⟨H0,Hs,τ,fp,d,st,sm,e,k⟩=>⟨H0,Hs,τ,fp,d,st,sm,e,λ a Hs' H' g o z=>by
  obtain ⟨ob,h1,h2⟩:=o.rp;refine k _ (upd Hs' a ob) H' ⟨g.ss.trans (bo o.hid ob),λ b u q=>?_,g.hh,λ b h3 h4=>?_⟩ h2
  ·by_cases eb:b=a
   · subst eb; rw [aC] at q; rw [h1]; exact q
   · rw [aF eb] at q; exact g.sh _ _ q
  ·by_cases eb:b=a
   · subst eb; exact absurd z h4
   · rw [aF eb]; exact g.fr b h3 h4⟩
def PWd (X:Cx) (e:Expr) (f:DT):Prop:=PW X e (rdT X.K f)
def PW.imp (h:PW X e t) (hi:∀ σ H Q,t' σ H Q->t σ H Q):PW X e t':=λ wh ac s σ H Q I q=>h wh ac s σ H Q I (hi _ _ _ q)
def PWd.ptd {f:DT} (h:PWd X e f):PTd X e f:=PW.pt h
end
instance {i j:Int}:Decidable (F8 i j):=by unfold F8; infer_instance
instance {i:Int}:Decidable (Sz i):=by unfold Sz; infer_instance
instance {i j:Int}:Decidable (N0 i j):=by unfold N0; infer_instance
def jE:D->D->Option D
 | .int i,.int j=>some (.int (i+j))
 | .str x,.str y=>if x.length+y.length<=100000 then some (.str (x++y)) else none
 | .lst x,.lst y=>if x.length+y.length<=100000 then some (.lst (x++y)) else none
 | _,_=>none
def E4:D->D->Option D
 | .int i,.int j=>some (.int (i - j))
 | _,_=>none
def DK:D->D->Option D
 | .int i,.int j=>if F8 i j\/(Sz i/\Sz j) then some (.int (i * j)) else none
 | _,_=>none
def oDiv:D->D->Option D
 | .int i,.int j=>if j≠0/\Sz j then some (.int (i.fdiv j)) else none
 | _,_=>none
def oMod:D->D->Option D
 | .int i,.int j=>if j≠0 then some (.int (i.fmod j)) else none
 | _,_=>none
def KA:D->D->Option D
 | .int i,.int j=>if N0 i j then some (.int (i ^ j.toNat)) else none
 | _,_=>none
def ui:D->Option D
 | .int i=>some (.int (-i))
 | _=>none
def oLt:D->D->Option D
 | .int i,.int j=>some (.bl (decide (i < j)))
 | .str i,.str j=>some (.bl (decide (i.cps.toList < j.cps.toList)))
 | _,_=>none
def oLe:D->D->Option D
 | .int i,.int j=>some (.bl (decide (i<=j)))
 | _,_=>none
def oGt:D->D->Option D
 | .int i,.int j=>some (.bl (decide (j < i)))
 | _,_=>none
def eqS:D->D->Option Bool
 | .non,.non=>some true | .non,.int _=>some false | .int _,.non=>some false | .non,.bl _=>some false | .bl _,.non=>some false | .non,.str _=>some false | .str _,.non=>some false
 | .int i,.int j=>some (decide (i=j)) | .bl i,.bl j=>some (decide (i=j)) | .str i,.str j=>some (decide (i=j))
 | .int _,.str _=>some false | .str _,.int _=>some false | .bl _,.str _=>some false | .str _,.bl _=>some false
 | _,_=>none
mutual
def lA:D->PySem.W.Dat
 | .non=>.none | .bl b=>.bool b | .int i=>.int i | .str x=>.str x | .ty _=>.bytes #[]
 | .tup ds=>.tuple (gG ds) | .lst ds=>.list (gG ds) | .fz _=>.bytes #[] | .dct _=>.bytes #[] | .obj _ _=>.bytes #[] | .cls _=>.bytes #[] | .dfz _=>.bytes #[]
def gG:List D->List PySem.W.Dat
 | []=>[]
 | d::ds=>lA d::gG ds
end
mutual
def okD:Nat->D->Bool
 | _,.non=>true
 | _,.int _=>true
 | _,.str x=>PyData.strOk x
 | n+1,.tup ds=>mv n ds
 | n+1,.lst ds=>mv n ds
 | _,_=>false
def mv:Nat->List D->Bool
 | _,[]=>true
 | n,d::ds=>okD n d&&mv n ds
end
open PySem.W in
mutual
theorem jX:∀ (n:Nat) (d:D),okD n d=true->kqdOk n (lA d)=true
 | _,.non,_=>by simp [lA,kqdOk]
 | _,.int _,_=>by simp [lA,kqdOk]
 | n,.str x,h=>by simp [okD] at h; simp [lA,kqdOk,h]
 | n+1,.tup ds,h=>by
  simp [okD] at h;rw [lA,kqdOk];exact si n ds h
 | n+1,.lst ds,h=>by
  simp [okD] at h;rw [lA,kqdOk];exact si n ds h
 | _,.bl _,h=>by simp [okD] at h
 | _,.ty _,h=>by simp [okD] at h
 | _,.cls _,h=>by simp [okD] at h
 | _,.dct _,h=>by simp [okD] at h
 | _,.fz _,h=>by simp [okD] at h
 | _,.obj _ _,h=>by simp [okD] at h
 | _,.dfz _,h=>by simp [okD] at h
 | 0,.tup _,h=>by simp [okD] at h
 | 0,.lst _,h=>by simp [okD] at h
theorem si:∀ (n:Nat) (ds:List D),mv n ds=true->(gG ds).all (kqdOk n)=true
 | _,[],_=>by simp [gG]
 | n,d::ds,h=>by
  simp [mv] at h;simp only [gG,Y1,Zg];exact ⟨jX n d h.1,si n ds h.2⟩
end
mutual
theorem yd:∀ (n:Nat) (d e:D),okD n d=true->okD n e=true->lA d=lA e->d=e
 | _,.non,e,_,h,q=>by cases e <;> simp [lA] at q <;> simp [okD] at h <;> rfl
 | _,.int _,e,_,h,q=>by cases e <;> simp [lA] at q <;> simp [okD] at h <;> rw [q]
 | _,.str x,e,_,h,q=>by cases e <;> simp [lA] at q <;> simp [okD] at h <;> rw [q]
 | n+1,.tup ds,e,h1,h,q=>by
  cases e <;> simp [lA] at q <;> simp [okD] at h
  simp [okD] at h1;rw [pP n _ _ h1 h q]
 | n+1,.lst ds,e,h1,h,q=>by
  cases e <;> simp [lA] at q <;> simp [okD] at h
  simp [okD] at h1;rw [pP n _ _ h1 h q]
 | _,.bl _,_,h,_,_=>by simp [okD] at h
 | _,.ty _,_,h,_,_=>by simp [okD] at h
 | _,.cls _,_,h,_,_=>by simp [okD] at h
 | _,.dct _,_,h,_,_=>by simp [okD] at h
 | _,.fz _,_,h,_,_=>by simp [okD] at h
 | _,.obj _ _,_,h,_,_=>by simp [okD] at h
 | _,.dfz _,_,h,_,_=>by simp [okD] at h
 | 0,.tup _,_,h,_,_=>by simp [okD] at h
 | 0,.lst _,_,h,_,_=>by simp [okD] at h
theorem pP:∀ (n:Nat) (d e:List D),mv n d=true->mv n e=true->gG d=gG e->d=e
 | _,[],e,_,h,q=>by cases e <;> simp [gG] at q; rfl
 | n,d::ds,e,h1,h,q=>by
  cases e with
  | nil=>simp [gG] at q
  | cons e es=>
   simp [gG] at q;simp [mv] at h h1;rw [yd n d e h1.1 h.1 q.1,pP n ds es h1.2 h.2 q.2]
end
section
variable {K:W.Frag} {H:Hp}
mutual
theorem Rp.rdD:∀ {v:V} {d:D} (n:Nat),Rp K H v d->okD n d=true->RdD K H v (lA d)
 | _,_,_,.non,_=>by rw [lA]; exact .non
 | _,_,_,.int i,_=>by rw [lA]; exact .int i
 | _,_,_,.str i,_=>by rw [lA]; exact .str i
 | _,_,n,.tup h r,o=>by
  cases n with
  | zero=>simp [okD] at o
  | succ n=>simp [okD] at o; rw [lA]; exact .tup h (Rps.rdD n r o)
 | _,_,n,.lst h r,o=>by
  cases n with
  | zero=>simp [okD] at o
  | succ n=>simp [okD] at o; rw [lA]; exact .lst (SqL.of h) (Rps.rdD n r o)
 | _,_,_,.bl _,o=>by simp [okD] at o
 | _,_,_,.ty _,o=>by simp [okD] at o
 | _,_,_,.cls _,o=>by simp [okD] at o
 | _,_,_,.dct _ _,o=>by simp [okD] at o
 | _,_,_,.fz _ _,o=>by simp [okD] at o
 | _,_,_,.obj _ _,o=>by simp [okD] at o
 | _,_,_,.dfz _ _,o=>by simp [okD] at o
theorem Rps.rdD:∀ {v:List V} {d:List D} (n:Nat),Rps K H v d->mv n d=true->zm K H v (gG d)
 | _,_,_,.nil,_=>by rw [gG]; exact .nil
 | _,_,n,.cons h r,o=>by
  simp [mv] at o;rw [gG];exact .cons (Rp.rdD n h o.1) (Rps.rdD n r o.2)
end
end
open Classical in
def eqB (d e:D):Bool:=decide (d=e)
def kZ (d:D):eqB d d=true:=by unfold eqB; simp
def xY (h:d≠e):eqB d e=false:=by unfold eqB; simp [h]
def eqO (d e:D):Option Bool:=match eqS d e with
 | some b=>some b
 | none=>if okD 9 d=true/\okD 9 e=true then some (eqB d e) else none
def oEq (d e:D):Option D:=(eqO d e).map D.bl
def oNe (d e:D):Option D:=(eqO d e).map λ b=>.bl (!b)
section
variable {X:Cx}
def OpR.imp (h:OpR X fn r) (hi:∀ x y H Q,r' x y H Q->r x y H Q):OpR X fn r':=λ ac s σ H x y v u Q I rx ry q=>h ac s σ H x y v u Q I rx ry (hi _ _ _ _ q)
def O5 : OpR X (binaryOp .Add) (rdR X.K jE):=
  ((Kw.or yF).or Kv).imp λ x y H Q ⟨Hs,dx,dy,d,sm,rx,ry,e,k⟩=>by
    cases rx with
    | int i => cases ry with
      | int j => have e':D.int (i+j)=d:=by simpa [jE] using e
                 subst e';exact .inl (.inl ⟨i,j,rfl,rfl,k _ Hs H (.refl sm) (.int _)⟩)
      | _=>exact nn e
    | str x=>cases ry with
      | str y=>
        by_cases hl:x.length+y.length<=100000
        · have e':D.str (x++y)=d:=by simpa [jE,hl] using e
          subst e';exact .inl (.inr ⟨x,y,rfl,rfl,CI hl,k _ Hs H (.refl sm) (.str _)⟩)
        · simp [jE,hl] at e
      | _=>exact nn e
    | @lst a xs ds h r=>cases ry with
      | @lst b ys es h' r'=>
        by_cases hl:ds.length+es.length<=100000
        · have e':D.lst (ds++es)=d:=by simpa [jE,hl] using e
          subst e';refine .inr ⟨a,b,xs,ys,rfl,rfl,sm _ _ h,sm _ _ h',by rw [r.length,r'.length]; exact CI hl,λ p hp=>?_⟩;have g:=Ext.new sm hp (.lst (xs++ys));exact k _ _ _ g (.lst aC ((r.same g.ss).append (r'.same g.ss)))
        · simp [jE,hl] at e
      | _=>exact nn e
    | _=>exact nn e
def vT {fn:Value->Value->Sem Value} {C:Int->Int->Prop} [∀ i j,Decidable (C i j)] {gv:Int->Int->V} {gd:Int->Int->D} {o:D->D->Option D} (h:OpR X fn (rI C gv)) (hg:∀ i j H,Rp X.K H (gv i j) (gd i j))
  (ho:∀ x y d,o x y=some d->∃ i j,x=.int i/\y=.int j/\C i j/\d=gd i j):OpR X fn (rdR X.K o):=
 h.imp λ x y H Q ⟨Hs,dx,dy,d,sm,rx,ry,e,k⟩=>by
  obtain ⟨i,j,rfl,rfl,c,rfl⟩:=ho _ _ _ e;cases rx;cases ry;exact ⟨i,j,rfl,rfl,c,k _ Hs H (.refl sm) (hg i j Hs)⟩
def Oz (h:OpR X fn (rI0 g)):OpR X fn (rI (λ _ _=>True) g):=h.imp λ x y H Q ⟨i,j,h1,h2,_,q⟩=>⟨i,j,h1,h2,q⟩
def OX:OpR X (binaryOp .Sub) (rdR X.K E4):=vT (Oz Kq) (λ _ _ _=>.int _) λ x y d e=>by
 unfold E4 at e;split at e
 · exact ⟨_,_,rfl,rfl,trivial,(Zj e).symm⟩
 · cases e
def G6:OpR X (binaryOp .Mult) (rI (λ i j=>F8 i j\/(Sz i/\Sz j)) λ i j=>.int (i * j)):=opI λ _ _ _ _ _ _ _ hc q=>mul_int q (hc.elim (·.ok) λ h=>PySem.IntMulOk.of_bits h.1.bits h.2.bits)
def O0:OpR X (binaryOp .Mult) (rdR X.K DK):=vT G6 (λ _ _ _=>.int _) λ x y d e=>by
 unfold DK at e;split at e
 ·split at e
  ·rename_i c
   exact ⟨_,_,rfl,rfl,c,(Zj e).symm⟩
  · cases e
 · cases e
def O4:OpR X (binaryOp .FloorDiv) (rdR X.K oDiv):=vT G8 (λ _ _ _=>.int _) λ x y d e=>by
 unfold oDiv at e;split at e
 ·split at e
  ·rename_i c
   exact ⟨_,_,rfl,rfl,c,(Zj e).symm⟩
  · cases e
 · cases e
def O1:OpR X (binaryOp .Mod) (rdR X.K oMod):=vT G7 (λ _ _ _=>.int _) λ x y d e=>by
 unfold oMod at e;split at e
 ·split at e
  ·rename_i c
   exact ⟨_,_,rfl,rfl,c,(Zj e).symm⟩
  · cases e
 · cases e
def OY:OpR X (binaryOp .Pow) (rdR X.K KA):=vT Kr (λ _ _ _=>.int _) λ x y d e=>by
 unfold KA at e;split at e
 ·split at e
  ·rename_i c
   exact ⟨_,_,rfl,rfl,c,(Zj e).symm⟩
  · cases e
 · cases e
def CH:OpR X (compareOp .LtE) (rdR X.K oLe):=vT (Oz OS) (λ _ _ _=>.bl _) λ x y d e=>by
 unfold oLe at e;split at e
 · exact ⟨_,_,rfl,rfl,trivial,(Zj e).symm⟩
 · cases e
def RN:OpR X (compareOp .Gt) (rdR X.K oGt):=vT (Oz OT) (λ _ _ _=>.bl _) λ x y d e=>by
 unfold oGt at e;split at e
 · exact ⟨_,_,rfl,rfl,trivial,(Zj e).symm⟩
 · cases e
def O2:OpR X (compareOp .Lt) (rdR X.K oLt):=(OR.or Az).imp λ x y H Q ⟨Hs,dx,dy,d,sm,rx,ry,e,k⟩=>by
 cases rx with
 | int i=>cases ry with
  | int j=>
   have e':D.bl (decide (i < j))=d:=by simpa [oLt] using e
   subst e';exact .inl ⟨i,j,rfl,rfl,k _ Hs H (.refl sm) (.bl _)⟩
  | _=>exact nn e
 | str i=>cases ry with
  | str j=>
   have e':=Zj e;subst e';exact .inr ⟨i,j,rfl,rfl,k _ Hs H (.refl sm) (.bl _)⟩
  | _=>exact nn e
 | _=>exact nn e
def OZ:UnR X (unaryOp .USub) (rdU X.K ui):=λ ac s σ H x v Q I rx ⟨Hs,dx,d,sm,r,e,k⟩=>Jt ac s σ H x v Q I rx (by
 cases r with
 | int i=>
  have e':D.int (-i)=d:=by simpa [ui] using e
  subst e';exact ⟨i,rfl,k _ Hs H (.refl sm) (.int _)⟩
 | _=>simp [ui] at e)
def FY {K:W.Frag} {H:Hp} {x y:V} {dx dy:D} {b:Bool} (rx:Rp K H x dx) (ry:Rp K H y dy) (e:eqS dx dy=some b):Ot x y=true/\decide (x=y)=b:=by
  unfold eqS at e
  split at e <;> first
    | (cases e; done)
    | (have e':=Zj e
       subst e';cases rx;cases ry
       first | exact ⟨rfl,rfl⟩ | exact ⟨rfl,by simp⟩)
def sN (h:okD n d=true) (h':okD n e=true):eqD (lA d) (lA e)=eqB d e:=by
 by_cases q:d=e
 · subst q; rw [kZ,D8 rfl]
 · rw [xY q,BG λ z=>q (yd n _ _ h h' z)]
def Mq (hu:X.A.units+64 < cLine):OpR X (compareOp .Eq) (rdR X.K oEq):=(OU.or (Ku hu)).imp λ x y H Q ⟨Hs,dx,dy,d,sm,rx,ry,e,k⟩=>by
 obtain ⟨b,e',rfl⟩:=Zm (e);have e:=e';unfold eqO at e;split at e
 ·rename_i b' q
  have e':=Zj e;subst e';obtain ⟨h1,h2⟩:=FY rx ry q;refine .inl ⟨h1,?_⟩;rw [h2];exact k _ Hs H (.refl sm) (.bl _)
 ·split at e
  ·rename_i h
   have e':=Zj e;subst e';refine .inr ⟨lA dx,lA dy,(rx.same sm).rdD 9 h.1,(ry.same sm).rdD 9 h.2,jX 9 _ h.1,jX 9 _ h.2,?_⟩;rw [sN h.1 h.2];exact k _ Hs H (.refl sm) (.bl _)
  · cases e
def RM (hu:X.A.units+64 < cLine):OpR X (compareOp .NotEq) (rdR X.K oNe):=(OQ.or (Ks hu)).imp λ x y H Q ⟨Hs,dx,dy,d,sm,rx,ry,e,k⟩=>by
 obtain ⟨b,e',rfl⟩:=Zm (e);have e:=e';unfold eqO at e;split at e
 ·rename_i b' q
  have e':=Zj e;subst e';obtain ⟨h1,h2⟩:=FY rx ry q;refine .inl ⟨h1,?_⟩;rw [h2];exact k _ Hs H (.refl sm) (.bl _)
 ·split at e
  ·rename_i h
   have e':=Zj e;subst e';refine .inr ⟨lA dx,lA dy,(rx.same sm).rdD 9 h.1,(ry.same sm).rdD 9 h.2,jX 9 _ h.1,jX 9 _ h.2,?_⟩;rw [sN h.1 h.2];exact k _ Hs H (.refl sm) (.bl _)
  · cases e
end
def oIx:D->D->Option D
 | .tup ds,.int i=>atI ds i
 | .lst ds,.int i=>atI ds i
 | .fz ds,.int i=>atI ds i
 | .str z,.int i=>if z.length<=100000 then (atI z.cps.toList i).map λ c=>.str ⟨#[c]⟩ else none
 | _,_=>none
def DO:=List Sl->Option (Option Int)
def uX:DO:=λ _=>some none
def dP (f:DE):DO:=λ τ=>(f τ).bind λ x=>match x with | .int i=>some (some i) | _=>none
def cutD (xs:List D) (lo hi:Option Int):List D:=(xs.drop (HT.sIx xs.length 0 lo)).take (HT.sIx xs.length xs.length hi - HT.sIx xs.length 0 lo)
def oSl:D->Option Int->Option Int->Option D
 | .lst ds,lo,hi=>some (.lst (cutD ds lo hi))
 | .fz ds,lo,hi=>some (.lst (cutD ds lo hi))
 | _,_,_=>none
def dSl (f:DE) (lo hi:DO):DE:=λ τ=>(f τ).bind λ x=>(lo τ).bind λ l=>(hi τ).bind λ u=>oSl x l u
def jD:List D->Option D
 | [.str z]=>if z.length<=100000 then some (.int z.length) else none
 | [.tup ds]=>some (.int ds.length)
 | [.lst ds]=>some (.int ds.length)
 | [.fz ds]=>some (.int ds.length)
 | _=>none
def IW:List D->Option D
 | [.int i]=>some (.int (if i < 0 then -i else i))
 | _=>none
def AL:List D->Option D
 | [.tup ds]=>some (.tup ds)
 | [.lst ds]=>some (.tup ds)
 | _=>none
def O7:List D->Option D
 | [.int i,.int j]=>some (.int (if j > i then j else i))
 | _=>none
def tyN:D->Option String
 | .non=>some "NoneType" | .bl _=>some "bool" | .int _=>some "int" | .str _=>some "str" | .tup _=>some "tuple" | .lst _=>some "list" | .dct _=>some "dict" | _=>none
def QV (t n:String):Bool:=t == n||(t == "bool"&&n == "int")
def kinds:List String:=["int","bool","str","list","tuple","dict"]
def RP:List D->Option D
 | [d,.ty n]=>(tyN d).bind λ t=>if n ∈ kinds then some (.bl (QV t n)) else none
 | _=>none
def wR {K:W.Frag} {H:Hp} {xs:List V} {ds:List D} {i:Int} {d:D} (r:Rps K H xs ds) (e:atI ds i=some d):∃ v,atI xs i=some v/\Rp K H v d:=by
 unfold atI at *;obtain ⟨j,e1,e2⟩:=U0 e;obtain ⟨v,h1,h2⟩:=r.get e2;exact ⟨v,by rw [r.length,e1]; exact h1,h2⟩
def B5 {K:W.Frag} {H:Hp} {xs:List V} {ds:List D} (lo hi:Option Int) (r:Rps K H xs ds):Rps K H (Jb xs lo hi) (cutD ds lo hi):=by
 unfold Jb cutD;rw [r.length];exact (r.drop _).take _
def A9 {K:W.Frag} {t n:String} (ht:t ∈ ["NoneType","bool","int","str","tuple","list","dict"]) (hn:n ∈ kinds):PySem.W.kitOne K (.type t) (.type n)=some (QV t n):=by
 simp only [kinds,Zd,Zq,Z9] at ht hn;rcases ht with rfl | rfl | rfl | rfl | rfl | rfl | rfl <;> rcases hn with rfl | rfl | rfl | rfl | rfl | rfl <;> kernel_rfl
section
variable {X:Cx} {a b c e:Expr} {es:List Expr} {pos:Pos} {f g h:DE}
def IxR.imp {r r':R2} (h:IxR X r) (hi:∀ x y H Q,r' x y H Q->r x y H Q):IxR X r':=λ value slice ac s σ H x y v u Q I rx ry q=>h value slice ac s σ H x y v u Q I rx ry (hi _ _ _ _ q)
def ixd:IxR X (rdR X.K oIx):=((HL.or LF).or jL).imp λ x y H Q ⟨Hs,dx,dy,d,sm,rx,ry,e,k⟩=>by
 obtain ⟨i,rfl⟩:∃ i,dy=.int i:=by
  unfold oIx at e;split at e <;> first | exact ⟨_,rfl⟩ | cases e
 cases ry
 cases rx with
 | tup h r=>
  obtain ⟨v,h1,h2⟩:=wR r (e);exact .inl (.inr ⟨_,_,i,v,rfl,rfl,sm.tup h,h1,k v Hs H (.refl sm) h2⟩)
 | lst h r=>
  obtain ⟨v,h1,h2⟩:=wR r (show atI _ i=some d from e);exact .inl (.inl ⟨_,_,i,v,rfl,rfl,SqL.of (sm _ _ h),h1,k v Hs H (.refl sm) h2⟩)
 | fz h r=>
  obtain ⟨v,h1,h2⟩:=wR r (show atI _ i=some d from e);exact .inl (.inl ⟨_,_,i,v,rfl,rfl,sm.seq h,h1,k v Hs H (.refl sm) h2⟩)
 | str z=>
  by_cases hl:z.length<=100000
  ·have e0:(atI z.cps.toList i).map (λ c=>D.str ⟨#[c]⟩)=some d:=by simpa only [oIx,hl,if_true] using e
   obtain ⟨c,e1,rfl⟩:=Zm e0;exact .inr ⟨z,i,c,rfl,rfl,CI hl,e1,k _ Hs H (.refl sm) (.str _)⟩
  · simp [oIx,hl] at e
 | _=>exact nn e
def rdP (K:W.Frag) (f:DO):TO:=λ σ H Q=>∃ H0 Hs τ fp d,StR K H0 Hs H σ τ fp/\c9 Hs H/\f τ=some d/\∀ Hs' H',Ext Hs H Hs' H'->Q d H'
def POd (X:Cx) (e:Option Expr) (f:DO):Prop:=PO X e (rdP X.K f)
def PO.imp {e:Option Expr} {t t':TO} (h:PO X e t) (hi:∀ σ H Q,t' σ H Q->t σ H Q):PO X e t':=λ ac s σ H Q I q=>h ac s σ H Q I (hi _ _ _ q)
def eI.imp {fn:Value} {r r':List V->Hp->VK->Prop} (h:eI X fn r) (hi:∀ x H Q,r' x H Q->r x H Q):eI X fn r':=λ ac s σ H x u Q I rx q=>h ac s σ H x u Q I rx (hi _ _ _ q)
def call_of {o:List D->Option D} {g:DA} {σ:St} {H:Hp} {Q:VK} (K:W.Frag) (hh:rdE K (ej o g) σ H Q):tCB (rdL K o) (rdA K g) σ H Q:=by
 obtain ⟨H0,Hs,τ,fp,d,st,sm,e,k⟩:=hh;obtain ⟨xs,e1,e⟩:=U0 e;exact ⟨H0,Hs,τ,fp,xs,st,sm,e1,λ v Hs1 H1 g1 r1=>⟨Hs1,xs,d,g1.sh,r1,e,λ w Hs2 H2 g2 r2=>k w Hs2 H2 (g1.trans g2) r2⟩⟩
def b9:eI X (.builtin "len") (rdL X.K jD):=Ej.imp λ xs H Q ⟨Hs,ds,d,sm,r,e,k⟩=>by
 match ds,r,e with
 | [x],.cons hx .nil,e=>
  cases hx with
  | str z=>
   by_cases hl:z.length<=100000
   ·have e':D.int z.length=d:=by simpa [jD,hl] using e
    subst e';exact ⟨_,_,rfl,⟨CI hl,rfl⟩,k _ Hs H (.refl sm) (.int _)⟩
   · simp [jD,hl] at e
  | @tup a ys ds h r=>
   have e':=Zj e;subst e';exact ⟨_,_,rfl,.inr ⟨_,sm.tup h,rfl⟩,by rw [r.length]; exact k _ Hs H (.refl sm) (.int _)⟩
  | @lst a ys ds h r=>
   have e':D.int ds.length=d:=Zj e;subst e';exact ⟨_,_,rfl,.inl ⟨_,SqL.of (sm _ _ h),rfl⟩,by rw [r.length]; exact k _ Hs H (.refl sm) (.int _)⟩
  | @fz a ys ds h r=>
   have e':D.int ds.length=d:=Zj e;subst e';exact ⟨_,_,rfl,.inl ⟨_,sm.seq h,rfl⟩,by rw [r.length]; exact k _ Hs H (.refl sm) (.int _)⟩
  | _=>exact nn e
 | [],_,e=>simp [jD] at e
 | _::_::_,_,e=>simp [jD] at e
def Mi:eI X (.builtin "abs") (rdL X.K IW):=El.imp λ xs H Q ⟨Hs,ds,d,sm,r,e,k⟩=>by
 match ds,r,e with
 | [x],.cons hx .nil,e=>
  cases hx with
  | int i=>
   have e':=Zj e;subst e';exact ⟨i,rfl,k _ Hs H (.refl sm) (.int _)⟩
  | _=>exact nn e
 | [],_,e=>simp [IW] at e
 | _::_::_,_,e=>simp [IW] at e
def IE:eI X (.builtin "isinstance") (rdL X.K RP):=by
 intro ac s σ H xs us Q I rv ⟨Hs,ds,d,sm,r,e,k⟩
 have sh:∃ x n,ds=[x,.ty n]:=by
   unfold RP at e;split at e
   · exact ⟨_,_,rfl⟩
   · cases e
 obtain ⟨x,n,rfl⟩:=sh
 cases r with
 | cons hx rr=>cases rr with
  | cons hy rr=>cases rr with
   | nil=>
   cases hy;obtain ⟨t,e1,e2⟩:=U0 (e)
   by_cases hn:n ∈ kinds
   ·rw [if_pos hn] at e2
    have e':=Zj e2;subst e';obtain ⟨u,w',rfl,ru,rw'⟩:=vals2 rv;have e2:=rw';subst e2;have fin:∀ tk,EP X ac σ Q (.bool (QV t n)) { s with toks:=tk }:=λ tk=>⟨.bl _,H,I.tok tk,rfl,k _ Hs H (.refl sm) (.bl _)⟩
    have low:∀ {v:V} {T:String},zj X.K H v (.type T)->RelV v u->T ∈ ["NoneType","bool","int","str","tuple","list","dict"]->some T=some t->wpAny (model X.prog X.w) X.A (call (.builtin "isinstance") [u,.type n]) (EP X ac σ Q) X.xe s:=λ ty ru hm et=>by
     have et':=Zj et;subst et';exact Bk I ru ty (A9 hm hn) fin
    cases hx with
    | non=>exact low (.non) ru (by simp) e1
    | bl b=>exact low (.bl b) ru (by simp) e1
    | int i=>exact low (.int i) ru (by simp) e1
    | str z=>exact low (.str z) ru (by simp) e1
    | lst h _=>exact low (.lst (sm _ _ h)) ru (by simp) e1
    | dct h _=>exact low (.dK (sm _ _ h)) ru (by simp) e1
    | @tup p ys ds h _=>
     have et':=Zj e1;subst et';cases (ru);obtain ⟨its,_,⟨o,h1,h2,_⟩,_⟩:=I.tuple (sm.tup h);exact Yn PySem.W.kitx_tuple I.kIn ⟨o,h1,h2⟩ (A9 (by simp) hn) (λ z=>nomatch z) fin
    | ty m=>simp [tyN] at e1
    | cls m=>simp [tyN] at e1
    | dfz _ _=>simp [tyN] at e1
    | fz _ _=>simp [tyN] at e1
    | obj _ _=>simp [tyN] at e1
   · rw [if_neg hn] at e2; cases e2
def fc:eI X (.type "tuple") (rdL X.K AL):=sS.imp λ xs H Q ⟨Hs,ds,d,sm,r,e,k⟩=>by
 match ds,r,e with
 | [x],.cons hx .nil,e=>
  cases hx with
  | @tup a ys ds h r=>
   have e':=Zj e;subst e';exact ⟨_,_,rfl,.inr ⟨sm.tup h,k _ Hs H (.refl sm) (.tup h r)⟩⟩
  | @lst a ys ds h r=>
   have e':D.tup ds=d:=Zj e;subst e';refine ⟨_,_,rfl,.inl ⟨SqL.of (sm _ _ h),λ l hl=>?_⟩⟩;have g:=Ext.new sm hl (.tup ys);exact k _ _ _ g (.tup (SqT.of aC) (r.same g.ss))
  | _=>exact nn e
 | [],_,e=>simp [AL] at e
 | _::_::_,_,e=>simp [AL] at e
end
mutual
def lO:D->Bool
 | .non=>true | .bl _=>true | .int _=>true | .str _=>true | .ty _=>true
 | .tup ds=>xV ds
 | _=>false
def xV:List D->Bool
 | []=>true
 | d::ds=>lO d&&xV ds
end
def pA (a:Addr) (H:Hp):Hp:=λ b=>if b=a then none else H b
section
variable {K:W.Frag} {H:Hp} {a:Addr} {o:HO}
def D3 (ha:H a=some o) (ho:(∃ ys,o=.lst ys)\/∃ kv,o=.dK kv) (h:SqT K H b xs):SqT K (pA a H) b xs:=by
 have ne:∀ u,H b=some u->(∀ ys,u≠.lst ys)->(∀ kv,u≠.dK kv)->pA a H b=some u:=λ u e n1 n2=>by
  have:b≠a:=λ z=>by
   subst z;rw [ha] at e;have e':=Zj e;subst e';rcases ho with ⟨ys,z⟩ | ⟨kv,z⟩
   · exact n1 _ z
   · exact n2 _ z
  unfold pA;rw [if_neg this];exact e
 rcases h with (h | ⟨o',h⟩) | h
 · exact .inl (.inl (ne _ h (λ _ z=>nomatch z) (λ _ z=>nomatch z)))
 · exact .inl (.inr ⟨o',ne _ h (λ _ z=>nomatch z) (λ _ z=>nomatch z)⟩)
 · exact .inr h
mutual
theorem Rp.hide (ha:H a=some o) (ho:(∃ ys,o=.lst ys)\/∃ kv,o=.dK kv):∀ {v:V} {d:D},Rp K H v d->lO d=true->Rp K (pA a H) v d
 | _,_,.non,_=>.non
 | _,_,.bl b,_=>.bl b
 | _,_,.int i,_=>.int i
 | _,_,.str x,_=>.str x
 | _,_,.ty n,_=>.ty n
 | _,_,.tup h r,f=>.tup (D3 ha ho h) (Rps.hide ha ho r (by simpa [lO] using f))
 | _,_,.lst _ _,f=>by simp [lO] at f
 | _,_,.fz _ _,f=>by simp [lO] at f
 | _,_,.cls _,f=>by simp [lO] at f
 | _,_,.dct _ _,f=>by simp [lO] at f
 | _,_,.obj _ _,f=>by simp [lO] at f
 | _,_,.dfz _ _,f=>by simp [lO] at f
theorem Rps.hide (ha:H a=some o) (ho:(∃ ys,o=.lst ys)\/∃ kv,o=.dK kv):∀ {v:List V} {d:List D},Rps K H v d->xV d=true->Rps K (pA a H) v d
 | _,_,.nil,_=>.nil
 | _,_,.cons h r,f=>by
  simp [xV] at f;exact .cons (Rp.hide ha ho h f.1) (Rps.hide ha ho r f.2)
end
end
def Ja (i:Nat) (f:DE):DE:=λ τ=>match τ[i]? with
 | some (.own d0)=>(f (τ.set i (.shr d0))).bind λ d=>if lO d=true then some d else none
 | _=>f τ
def JG (i:Nat) (f:DT):DT:=λ τ=>match τ[i]? with
 | some (.own d0)=>f (τ.set i (.shr d0))
 | _=>f τ
def Ow.obj {K:W.Frag} {Hs H:Hp} {a:Addr} {d:D} {o:HO} (h:Ow K Hs H a d) (e:H a=some o):(∃ ys,o=.lst ys)\/∃ kv,o=.dK kv:=by
 cases h with
 | lst h _ _=>rw [h] at e; exact .inl ⟨_,(Zj e).symm⟩
 | dct h _ _=>rw [h] at e; exact .inr ⟨_,(Zj e).symm⟩
def Ext.Js (n:Hs a=none) (ha:H a=some o) (g:Ext (upd Hs a o) H Hs' H'):Ext Hs H (pA a Hs') H':=by
 refine ⟨λ b u q=>?_,λ b u q=>?_,g.hh,λ b h1 h2=>?_⟩
 ·have ne:b≠a:=λ z=>by subst z; rw [n] at q; cases q
  unfold pA;rw [if_neg ne];exact g.ss b u (by rw [aF ne]; exact q)
 ·unfold pA at q
  split at q
  · cases q
  · exact g.sh b u q
 ·unfold pA
  by_cases z:b=a
  · rw [if_pos z]
  ·rw [if_neg z]
   exact g.fr b (by rw [aF z]; exact h1) h2
def c9.frz (sm:c9 Hs H) (ha:H a=some o):c9 (upd Hs a o) H:=λ b u q=>by
 by_cases z:b=a
 · subst z; rw [aC] at q; rw [ha]; exact q
 · rw [aF z] at q; exact sm b u q
def fu (f g:DS):DS:=λ τ=>match f τ with
 | some (.next τ')=>g τ'
 | r=>r
def d6:DS:=λ τ=>some (.next τ)
def sIf (c:DT) (f g:DS):DS:=λ τ=>(c τ).bind λ b=>if b=true then f τ else g τ
def mo (i:Nat) (f:DE):DS:=λ τ=>(f τ).map λ d=>.next (τ.set i (.shr d))
def C2 (i:Nat) (f:DE):DS:=λ τ=>if i < τ.length then (f τ).map λ d=>.next (τ.set i (.own d)) else none
def nD (f:DE):DS:=λ τ=>(f τ).map λ d=>.ret (.shr d)
def IS (i:Nat) (f:DS):DS:=λ τ=>match τ[i]? with
 | some (.own d)=>f (τ.set i (.shr d))
 | _=>f τ
def EK:DS:=λ _=>none
def GA (i:Nat) (f:DE):DS:=λ τ=>(f τ).bind λ d=>match τ[i]? with
 | some (.own (.lst ds))=>if ds.length < 100000 then some (.next (τ.set i (.own (.lst (ds++[d]))))) else none
 | _=>none
section
variable {X:Cx} {a b c e:Expr} {es:List Expr} {pos:Pos} {st:Stmt} {rest:List Stmt} {f g:DS}
def Rep.same {K:W.Frag} {Hs0 H0 Hs H:Hp} {σ:St} {τ:List Sl} (r:Rep K Hs0 H0 Hs H σ τ):c9 Hs H:=r.ext.sh
def Rep.ext' {K:W.Frag} {Hs0 H0 Hs H Hs' H':Hp} {σ:St} {τ:List Sl} (r:Rep K Hs0 H0 Hs H σ τ) (g:Ext Hs H Hs' H'):Rep K Hs0 H0 Hs' H' σ τ:=⟨r.ext.trans g,let ⟨fp,h⟩:=r.st; ⟨fp,h.ext g⟩⟩
def Rep.old {K:W.Frag} {Hs0 H0 Hs H:Hp} {σ:St} {τ:List Sl} (r:Rep K Hs0 H0 Hs H σ τ) {p:Addr} (h:H p=none):H0 p=none:=r.ext.hh.free h
def Ay {K:W.Frag} {H0 Hs H:Hp} {σ:St} {τ:List Sl} {fp:List Addr} (h:StR K H0 Hs H σ τ fp) {p:Addr} (hp:H p=none):p ∉ fp:=λ q=>(h.Ii p q).2.2 hp
def Rep.frz {K:W.Frag} {Hs0 H0 Hs H:Hp} {σ:St} {τ:List Sl} {i:Nat} {d:D} (r:Rep K Hs0 H0 Hs H σ τ) (q:τ[i]?=some (.own d)):∃ Hs',Rep K Hs0 H0 Hs' H σ (τ.set i (.shr d)):=by
 obtain ⟨fp,h⟩:=r.st;obtain ⟨a,o,fp',h1,h2,h3,h4,h5,h6,h7,h8⟩:=h.frz q;refine ⟨upd Hs a o,⟨r.ext.ss.trans (bo h2 o),r.same.frz h1,r.ext.hh,λ b k1 k2=>?_⟩,fp',h4⟩;have ne:b≠a:=λ z=>by subst z; exact k2 h3
 rw [aF ne];exact r.ext.fr b k1 k2
end
abbrev DI:=List Sl->Option (List D)
def ItR (K:W.Frag) (J:It) (Hs:Hp) (ds:List D):Prop:=∀ Hs1 H,c9 Hs Hs1->c9 Hs1 H->(∀ i d,ds[i]?=some d->J.go i H/\∀ x H',J.yld i H x H'->∃ Hs2,Ext Hs1 H Hs2 H'/\Rp K Hs2 x d)/\∀ i,ds.length<=i->J.stop i H
def rdI (K:W.Frag) (f:DI):TI:=λ σ H R=>∃ H0 Hs τ fp ds,StR K H0 Hs H σ τ fp/\c9 Hs H/\f τ=some ds/\∀ J Hs' H',Ext Hs H Hs' H'->ItR K J Hs' ds->R J H'
def PId (X:Cx) (tg iter:Expr) (f:DI):Prop:=PI X tg iter (rdI X.K f)
def D2 (f:DE):DI:=λ τ=>(f τ).bind λ d=>match d with | .lst ds=>some ds | .fz ds=>some ds | _=>none
def HV (f:DE):DI:=λ τ=>(f τ).bind λ d=>match d with | .tup ds=>some ds | _=>none
def yC (lo:Int) (n:Nat):List D:=(List.range n).map λ (i:Nat)=>D.int (lo+(i:Int))
def Bu (f:DA):DI:=λ τ=>(f τ).bind λ ds=>match ds with | [.int j]=>if -(2 ^ 62)<=j/\j < 2 ^ 62 then some (yC 0 j.toNat) else none | _=>none
def xK {K:W.Frag} {a:Addr} {xs:List V} {Hs:Hp} {ds:List D} (h:SqL K Hs a xs) (r:Rps K Hs xs ds):ItR K (Itl K a) Hs ds:=λ Hs1 H g1 g2=>by
 have hq:=g2.seq (g1.seq h);refine ⟨λ i d e=>?_,λ i hi=>⟨xs,hq,by rw [r.length]; exact hi⟩⟩;obtain ⟨x,h1,h2⟩:=r.get e;refine ⟨⟨xs,x,hq,h1⟩,λ x' H' ⟨e1,e2⟩=>?_⟩;subst e1;have e3:=e2 xs hq;rw [h1] at e3;cases e3;exact ⟨Hs1,.refl g2,h2.same g1⟩
def Bh {K:W.Frag} {Hs:Hp} (lo:Int) (n:Nat):ItR K (Itr lo n) Hs (yC lo n):=λ Hs1 H g1 g2=>by
 refine ⟨λ i d e=>?_,λ i hi=>show n<=i by simpa [yC] using hi⟩;unfold yC at e;rw [List.getElem?_map] at e
 by_cases hi:i < n
 ·rw [List.getElem?_range hi] at e
  have e':D.int (lo+i)=d:=by simpa using e
  subst e';refine ⟨hi,λ x H' ⟨e1,e2⟩=>?_⟩;subst e1 e2;exact ⟨Hs1,.refl g2,.int _⟩
 ·rw [List.getElem?_eq_none (by simpa using hi)] at e
  cases e
def PI.imp (h:PI X tg iter t) (hi:∀ σ H R,t' σ H R->t σ H R):PI X tg iter t':=λ ac s σ H R I q=>h ac s σ H R I (hi _ _ _ q)
def HP {K:W.Frag} {a:Addr} {xs:List V} {Hs:Hp} {ds:List D} (h:SqT K Hs a xs) (r:Rps K Hs xs ds):ItR K (Itt K a) Hs ds:=λ Hs1 H g1 g2=>by
 have hq:=g2.tup (g1.tup h);refine ⟨λ i d e=>?_,λ i hi=>⟨xs,hq,by rw [r.length]; exact hi⟩⟩;obtain ⟨x,h1,h2⟩:=r.get e;refine ⟨⟨xs,x,hq,h1⟩,λ x' H' ⟨e1,e2⟩=>?_⟩;subst e1;have e3:=e2 xs hq;rw [h1] at e3;cases e3;exact ⟨Hs1,.refl g2,h2.same g1⟩
abbrev DG:=D->List Sl->Option (List Sl)
def rdG (K:W.Frag) (g:DG):TG:=λ v σ H Q=>∃ Hs0 H0 Hs τ τ' d,Rep K Hs0 H0 Hs H σ τ/\Rp K Hs v d/\g d τ=some τ'/\∀ σ',Rep K Hs0 H0 Hs H σ' τ'->Q σ' H
def PGd (X:Cx) (tg:Expr) (g:DG):Prop:=PG X tg (rdG X.K g)
def PG.imp (h:PG X tg t) (hi:∀ v σ H Q,t' v σ H Q->t v σ H Q):PG X tg t':=λ ac s σ H v u Q I r q=>h ac s σ H v u Q I r (hi _ _ _ _ q)
abbrev DGs:=List D->List Sl->Option (List Sl)
def Ts (K:W.Frag) (g:DGs):TGs:=λ v σ H Q=>∃ Hs0 H0 Hs τ τ' d,Rep K Hs0 H0 Hs H σ τ/\Rps K Hs v d/\g d τ=some τ'/\∀ σ',Rep K Hs0 H0 Hs H σ' τ'->Q σ' H
def NX (X:Cx) (tg:List Expr) (g:DGs):Prop:=PGs X tg (Ts X.K g)
def PGs.imp (h:PGs X tg t) (hi:∀ v σ H Q,t' v σ H Q->t v σ H Q):PGs X tg t':=λ ac s σ H v u Q I r q=>h ac s σ H v u Q I r (hi _ _ _ _ q)
def gN (i:Nat):DG:=λ d τ=>some (τ.set i (.shr d))
def Bw:DGs:=λ ds τ=>if ds.isEmpty=true then some τ else none
def mF (g:DG) (h:DGs):DGs:=λ ds τ=>match ds with | d::r=>(g d τ).bind λ τ'=>h r τ' | []=>none
def gT (n:Nat) (g:DGs):DG:=λ d τ=>match d with | .tup ds=>if ds.length=n then g ds τ else none | _=>none
def ia (b:D->DS):List D->DS
 | [],τ=>some (.next τ)
 | d::ds,τ=>match b d τ with
  | some (.next τ')=>ia b ds τ'
  | some (.cnt τ')=>ia b ds τ'
  | some (.brk τ')=>some (.next τ')
  | r=>r
def IT (it:DI) (g:DG) (b:DS):DS:=λ τ=>(it τ).bind λ ds=>ia (λ d τ=>(g d τ).bind b) ds τ
def cU (c:DT) (b:DS):Nat->DS
 | 0,_=>none
 | n+1,τ=>match c τ with
  | none=>none
  | some false=>some (.next τ)
  | some true=>match b τ with
   | some (.next τ')=>cU c b n τ'
   | some (.cnt τ')=>cU c b n τ'
   | some (.brk τ')=>some (.next τ')
   | r=>r
open Classical in
def ot (c:DT) (b:DS):DS:=λ τ=>if h:∃ n o,cU c b n τ=some o then some (Classical.choose (Xg h)) else none
theorem gz:∀ {n m:Nat} {τ:List Sl} {o:Out},cU c b n τ=some o->n<=m->cU c b m τ=some o
 | 0,_,_,_,h,_=>by simp [cU] at h
 | n+1,0,_,_,_,l=>by omega
 | n + 1,m+1,τ,o,h,l=>by
  have l':n<=m:=by omega
  unfold cU at h ⊢
  cases q:c τ with
  | none=>rw [q] at h; cases h
  | some x=>
   rw [q] at h
   cases x with
   | false=>exact h
   | true=>
    simp only at h ⊢
    cases q2:b τ with
    | none=>rw [q2] at h; exact h
    | some o'=>
     rw [q2] at h
     cases o' with
     | next τ'=>exact gz h l'
     | cnt τ'=>exact gz h l'
     | brk τ'=>exact h
     | ret s=>exact h
def tS (h:cU c b n τ=some o):ot c b τ=some o:=by
 have hx:∃ n o,cU c b n τ=some o:=⟨n,o,h⟩
 unfold ot;rw [dif_pos hx];have h2:=Xg (Xg hx);have h3:=gz h2 (Nat.le_max_left _ n);have h4:=gz h (Nat.le_max_right (Classical.choose hx) n);rw [h3] at h4;exact h4
def zV (h:ot c b τ=some o):∃ n,cU c b n τ=some o:=by
 unfold ot at h;split at h
 ·rename_i hx
  have e:=Zj h;subst e;exact ⟨_,Xg (Xg hx)⟩
 · cases h
def Ext.sub (a:Ext Hs0 H0 Hs1 H1) (b:Ext Hs1 H0 Hs H):Ext Hs0 H0 Hs H:=⟨a.ss.trans b.ss,b.sh,b.hh,λ c h1 h2=>b.fr c (a.fr c h1 h2) h2⟩
def Rep.rebase {K:W.Frag} {Hs0 H0 Hs H:Hp} {σ:St} {τ:List Sl} (r:Rep K Hs0 H0 Hs H σ τ):Rep K Hs H0 Hs H σ τ:=⟨⟨.refl _,r.same,r.ext.hh,λ _ h _=>h⟩,r.st⟩
def Rep.zB {K:W.Frag} {Hs0 H0 Hs1 H1 Hs H:Hp} {σ:St} {τ:List Sl} (a:Ext Hs0 H0 Hs1 H1) (r:Rep K Hs1 H0 Hs H σ τ):Rep K Hs0 H0 Hs H σ τ:=⟨a.sub r.ext,r.st⟩
def Fin.rebase {K:W.Frag} {Hs0 H0 Hs1 H1:Hp} {E:Ends} {o:Out} (a:Ext Hs0 H0 Hs1 H1) (h:Fin K Hs0 H0 E o):Fin K Hs1 H0 E o:=by
 cases o with
 | next τ=>exact λ σ Hs H r=>h σ Hs H (r.zB a)
 | brk τ=>exact λ σ Hs H r=>h σ Hs H (r.zB a)
 | cnt τ=>exact λ σ Hs H r=>h σ Hs H (r.zB a)
 | ret s=>exact λ v Hs H g r=>h v Hs H (a.sub g) r
def cF (n:Nat) (ds:List D):List Sl:=ds.map .shr++List.replicate (n - ds.length) .no
def cD (n m:Nat) (b:DS) (ds:List D):Option Sl:=if ds.length=m then (match b (cF n ds) with | some (.ret s)=>some s | some (.next _)=>some (.shr .non) | _=>none) else none
def spF (F:List D->Option Sl) (K:W.Frag):Sp:=λ vs H Q _=>∃ Hs ds s,c9 Hs H/\Rps K Hs vs ds/\F ds=some s/\∀ v Hs' H',Ext Hs H Hs' H'->SlV K H Hs' H' v s->Q v H'
theorem kM {K:W.Frag} {H0 Hs H:Hp}:∀ {vs:List V} {ds:List D} (k:Nat),Rps K Hs vs ds->StR K H0 Hs H (vs.map some++List.replicate k none) (ds.map .shr++List.replicate k .no) []
 | _,_,0,.nil=>.nil
 | _,_,k+1,.nil=>by
  rw [List.replicate_succ,List.replicate_succ];exact .no (kM k .nil)
 | _,_,k,.cons h r=>.shr h (kM k r)
section
variable {P:Program} {w:World} {K:W.Frag} {mg:Str->Option Value} {base:Heap}
def Fun.okD {x qual:Str} {st:Stmt} {f:Addr} {fd:FuncData} {N ps:List Str} {k:Nat} {b:DS} (F:Fun K x qual st f fd) (S:jc N ps (bt st))
  (hbody:∀ (cdv:Value) (A:Around) (outer:List Env) (s:Shared) (H:Hp) (E:XK),ip k (A.deeper (envOfC qual (bt st) s.heap.objs.size f cdv))->zr (vo CX0 P w K mg base N qual (bt st) f cdv A outer s H E).nox (cQ st) b):qt P w K mg base CX0 (k+1) f fd ps (spF (cD N.length ps.length b) K):=by
 refine F.ok S (λ vs H Q E h=>?_) (λ cdv A outer s H vs Q E hr h=>?_)
 ·obtain ⟨Hs,ds,s,sm,r,e,_⟩:=h
  unfold cD at e;split at e
  · rename_i hl
    rw [r.length]; exact hl
  · cases e
 obtain ⟨Hs,ds,sl,sm,r,e,q⟩:=h;refine ⟨_,hbody cdv A outer s H E hr,?_⟩;unfold cD at e;split at e
 ·have h0:Rep K Hs H Hs H (start N vs) (cF N.length ds):=⟨.refl sm,[],by unfold start cF; rw [r.length]; exact kM _ r⟩
  cases q2:b (cF N.length ds) with
  | none=>rw [q2] at e; cases e
  | some o=>
    rw [q2] at e;refine ⟨Hs,H,Hs,_,o,h0,q2,?_⟩
    cases o with
    | next τ=>
     have e':=Zj e;subst e';exact λ σ Hs' H' r'=>q .non Hs' H' r'.ext .non
    | ret s=>
     have e':=Zj e;subst e';exact λ v Hs' H' g rv=>q v Hs' H' g rv
    | brk τ=>cases e
    | cnt τ=>cases e
 · cases e
end
def slD:Sl->Option D
 | .shr d=>some d
 | .own d=>some d
 | .no=>none
def dFn (F:List D->Option Sl) (f:DA):DE:=λ τ=>(f τ).bind λ ds=>(F ds).bind slD
def SlV.shr {K:W.Frag} {H0 Hs H Hs0:Hp} {v:V} {s:Sl} {d:D} (g:Ext Hs0 H0 Hs H) (h:SlV K H0 Hs H v s) (e:slD s=some d):∃ Hs',Ext Hs0 H0 Hs' H/\Rp K Hs' v d:=by
 cases s with
 | no=>cases h
 | shr d'=>
  have e':=Zj e;subst e';exact ⟨Hs,g,h⟩
 | own d'=>
  have e':d'=d:=Zj e;subst e';obtain ⟨a,rfl,o,z⟩:=h;obtain ⟨ob,h1,h2⟩:=o.rp;refine ⟨upd Hs a ob,⟨g.ss.trans (bo o.hid ob),g.sh.frz h1,g.hh,λ b h3 h4=>?_⟩,h2⟩;have ne:b≠a:=λ y=>by subst y; exact h4 z
  rw [aF ne];exact g.fr b h3 h4
section
variable {X:Cx} {e:Expr} {es:List Expr} {x:Str} {p pos:Pos} {k:Nat} {f:Addr} {fd:FuncData} {ps:List Str} {F:List D->Option Sl} {g:DA}
def Ik {σ:St} {H:Hp} {Q:VK} (K:W.Frag) (h:rdE K (dFn F g) σ H Q):Gm (spF F K) [] E0 (rdA K g) σ H Q:=by
 obtain ⟨H0,Hs,τ,fp,d,st,sm,e,q⟩:=h;obtain ⟨ds,e1,e2⟩:=U0 e;obtain ⟨s,e2,e3⟩:=U0 e2;refine ⟨H0,Hs,τ,fp,ds,st,sm,e1,λ vs Hs1 H1 g1 r1=>?_⟩;refine ⟨Hs1,ds,s,g1.sh,by rw [Yd]; exact r1,e2,λ v Hs2 H2 g2 rv=>?_⟩;obtain ⟨Hs3,g3,r3⟩:=rv.shr g2 e3;exact q v Hs3 H2 (g1.trans g3) r3
def G1 (Fo:qt X.prog X.w X.K X.mg X.base CX0 k f fd ps (spF F X.K)) (hr:ip k X.A) (hg:Gl X x) (hm:X.mg x=some (.ref f)) (hk:W.keepIn X.K (.ref f)=true) (hb:Binds X.K fd ps [])
 (ha:PAd X (e::es) g) (hdb:Dg x:=by decide) (he:Se X e es:=by rfl) (hpl:Sb X pos es:=by rfl):PEd X (.Call (.Name x p) (e::es) [] pos) (dFn F g):=(se Fo hr hg hm hk hb .nil Ar ha hdb he hpl).imp λ σ H Q h=>Ik X.K h
def Dw (Fo:qt X.prog X.w X.K X.mg X.base CX0 k f fd ps (spF F X.K)) (hr:ip k X.A) (hg:Gl X x) (hm:X.mg x=some (.ref f)) (hk:W.keepIn X.K (.ref f)=true) (hb:Binds X.K fd ps [])
  (hdb:Dg x:=by decide):PEd X (.Call (.Name x p) [] [] pos) (dFn F bR):=(Dv Fo hr hg hm hk hb .nil Ar hdb).imp λ σ H Q h=>by
 obtain ⟨H0,Hs,τ,fp,d,st,sm,e,q⟩:=h;obtain ⟨ds,e1,e2⟩:=U0 e;have e':=Zj e1;subst e';obtain ⟨s,e2,e3⟩:=U0 e2;refine ⟨Hs,[],s,sm,.nil,e2,λ v Hs2 H2 g2 rv=>?_⟩;obtain ⟨Hs3,g3,r3⟩:=rv.shr g2 e3;exact q v Hs3 H2 g3 r3
end
def vn (g:D->Option D):List D->Option (List D)
 | []=>some []
 | d::ds=>(g d).bind λ x=>(vn g ds).bind λ xs=>some (x::xs)
def JO:Option Sl->Sl
 | some (.shr d)=>.shr d
 | _=>.no
def fe (τ:List Sl) (cs:List (Str×Nat)):List Sl:=cs.map λ p=>JO τ[p.2]?
def B3 (it:DI) (g:DE) (cs:List (Str×Nat)):DE:=λ τ=>(it τ).bind λ ds=>if ds.length<=100000 then (vn (λ d=>g (.shr d::fe τ cs)) ds).map .lst else none
theorem lF {K:W.Frag} {H0 Hs H:Hp} {σ:St} {τ:List Sl} {fp:List Addr} (st:StR K H0 Hs H σ τ fp):∀ cs:List (Str×Nat),StR K H0 Hs H (aK σ cs) (fe τ cs) []
 | []=>.nil
 | p :: cs=>by
  have ih:=lF st cs;show StR K H0 Hs H ((σ[p.2]?).join::aK σ cs) (JO τ[p.2]?::fe τ cs) []
  cases q:τ[p.2]? with
  | none=>exact .no ih
  | some sl=>
   cases sl with
   | no=>exact .no ih
   | own d=>exact .no ih
   | shr d=>
    obtain ⟨v,h1,h2⟩:=st.get q;rw [h1];exact .shr h2 ih
section
variable {X:Cx} {e:Expr} {es:List Expr} {pos:Pos}
theorem Cb {K:W.Frag} {it:DI} {g:DE} {cs:List (Str×Nat)} {σ:St} {H:Hp} {Q:VK} (h:rdO K (B3 it g cs) σ H Q):Gj (rdI K it) (rdE K g) cs σ H Q:=by
 obtain ⟨H0,Hs,τ,fp,d,st,sm,e,k⟩:=h;obtain ⟨ds,e1,e2⟩:=U0 e;split at e2
 ·rename_i hl
  obtain ⟨full,e3,rfl⟩:=Zm e2;refine ⟨H0,Hs,τ,fp,ds,st,sm,e1,λ J Hs1 H1 g1 hJ=>?_⟩;refine ⟨λ i m ys H'=>m=ds.length - i/\i<=ds.length/\∃ Hs2 es rest,Ext Hs1 H1 Hs2 H'/\Rps K Hs2 ys es/\es.length=i/\vn (λ d=>g (.shr d::fe τ cs)) (ds.drop i)=some rest/\es++rest=full,⟨ds.length,by simp,Ye _,Hs1,[],full,.refl g1.sh,.nil,rfl,by simpa using e3,rfl⟩,?_⟩
  rintro i m ys H2 ⟨rfl,hi,Hs2,es,rest,g2,ry,ley,e4,e5⟩
  obtain ⟨hgo,hstop⟩:=hJ Hs2 H2 g2.ss g2.sh;have ly:ys.length=i:=by rw [ry.length,ley]
  by_cases hlt:i < ds.length
  ·have ed:=Yg hlt
   rw [ed] at e4;obtain ⟨x,q1,q2⟩:=U0 e4;obtain ⟨xs,q3,q4⟩:=U0 q2;have eq:=Zj q4;subst eq;obtain ⟨go,yl⟩:=hgo i ds[i] (List.getElem?_eq_getElem hlt);refine .inr ⟨go,by rw [ly]; exact le5 (by omega),λ v H3 y=>?_⟩;obtain ⟨Hs3,g3,rv⟩:=yl v H3 y;have g13:=(g1.trans g2).trans g3;refine ⟨H0,Hs3,.shr ds[i]::fe τ cs,[],x,.shr rv (lF (st.ext g13) cs),g3.sh,q1,λ v4 Hs4 H4 g4 r4=>?_⟩;exact ⟨ds.length - (i+1),by omega,rfl,hlt,Hs4,es++[x],xs,(g2.trans g3).trans g4,((ry.same g3.ss).same g4.ss).append (.cons r4 .nil),by simp [ley],q3,by rw [<- e5]; simp⟩
  ·have e0:i=ds.length:=by omega
   subst e0;rw [Xs] at e4;have er:=Zj e4;subst er;rw [Yd] at e5;subst e5;refine .inl ⟨hstop _ (Zo _),by rw [ly]; exact CI hl,λ p hp=>?_⟩;have g12:=g1.trans g2;exact k p Hs2 _ ⟨g12.ss,g12.sh.trans (bo hp _),g12.hh.trans (bo hp _),g12.fr⟩ (.lst aC (g12.sh.free hp) ry) (g12.hh.free hp)
 · cases e2
def Ov (i:Nat) (o:D->D->Option D) (f:DE):DS:=λ τ=>(aM i τ).bind λ x=>(f τ).bind λ y=>(o x y).map λ z=>.next (τ.set i (.shr z))
end
theorem xT {b:D->DS} {o:Out} (P:Nat->List Sl->Prop):∀ {ds:List D} {τ:List Sl} (i:Nat),P i τ->(∀ j d τ,ds[j]?=some d->P (i+j) τ->∃ τ',b d τ=some (.next τ')/\P (i+j+1) τ')->∃ τ',ia b ds τ=some (.next τ')/\P (i+ds.length) τ'
 | [],τ,i,h,_=>⟨τ,rfl,h⟩
 | d::ds,τ,i,h,hs=>by
  obtain ⟨τ1,e1,p1⟩:=hs 0 d τ rfl h
  obtain ⟨τ2,e2,p2⟩:=xT (o:=o) P (ds:=ds) (τ:=τ1) (i+1) p1 λ j d' τ' hj p=>by
   have:=hs (j+1) d' τ' (by simpa using hj) (by rw [show i+(j+1)=i+1+j by omega]; exact p);rw [show i+(j+1)+1=i+1+j+1 by omega] at this;exact this
  refine ⟨τ2,?_,?_⟩
  · simp only [ia,e1]; exact e2
  · rw [Zi,show i+(ds.length+1)=i+1+ds.length by omega]; exact p2
section
variable {X:Cx}
def CV {K:W.Frag} {H:Hp} {xs:List V} {i j:Int} (r:Rps K H xs [.int i,.int j]):xs=[.int i,.int j]:=by
 cases r with
 | cons h r=>
  cases r with
  | cons h' r'=>
   cases r';cases h;cases h';rfl
def Mg (hc:X.calm=true):eI X (.builtin "max") (rdL X.K O7):=(Cf hc).imp λ xs H Q ⟨Hs,ds,d,sm,r,e,k⟩=>by
 match ds,e with
 | [.int i,.int j],e=>
  have e':=Zj e;subst e';exact ⟨i,j,CV r,k _ Hs H (.refl sm) (.int _)⟩
end
def Gi (J:It) (tt:TT) (te:TE) (cs:List (Str×Nat)) (σ:St) (Q:VK) (H1:Hp):Prop:=∃ W:Nat->Nat->List V->Hp->Prop,(∃ m,W 0 m [] H1)/\∀ i m ys H',W i m ys H'->(J.stop i H'/\ys.length<=sizeLine/\∀ p,H' p=none->Q (.ref p) (upd H' p (.lst ys)))\/(J.go i H'/\ys.length < sizeLine/\∀ v H2,J.yld i H' v H2->tt (some v::aK σ cs) H2 λ b H3=>if b=true then te (some v::aK σ cs) H3 λ y H4=>∃ m',m' < m/\W (i+1) m' (ys++[y]) H4 else ∃ m',m' < m/\W (i+1) m' ys H3)
def EA (wi:TI) (tt:TT) (te:TE) (cs:List (Str×Nat)):TE:=λ σ H Q=>wi σ H λ J H1=>Gi J tt te cs σ Q H1
section
variable {X:Cx}
def wM {elt iter:Expr} {x:Str} {px pos:Pos} {scope:Scope} {cl:List (Str×Addr)} {cs:List (Str×Nat)} {te:TE} {tt:TT} {cnd:Expr} {ac:List (Addr×Obj)} {σ:St} {H:Hp} {s:Shared} {Q:VK} {it:Addr} {fp:List Addr} {tn:Nat->Heap->Prop} {J:It}
 {RR:Value->Addr->Result->Shared->Prop} {E:Value->Shared->Prop} (hc:X.calm=true) (O:dA X scope cl x cs) (hcd:∀ s H fp C,PT (bI X scope cl (x::cs.map (·.1)) s H fp C) cnd tt) (he:∀ s H fp C,PE (bI X scope cl (x::cs.map (·.1)) s H fp C) elt te)
 (I:Inv X ac σ H s) (T:Turn X.prog X.w X.K (.Name x px) J fp it tn) (st:tn 0 s.heap) (f2:∀ b ∈ fp,rE X ac H b)
 (h : ∃ W:Nat->Nat->List V->Hp->Prop,(∃ m,W 0 m [] H)/\∀ i m ys H',W i m ys H'->(J.stop i H'/\ys.length<=sizeLine/\∀ p,H' p=none->Q (.ref p) (upd H' p (.lst ys)))\/(J.go i H'/\ys.length < sizeLine/\∀ v H2,J.yld i H' v H2->tt (some v::aK σ cs) H2 λ b H3=>if b=true then te (some v::aK σ cs) H3 λ y H4=>∃ m',m' < m/\W (i+1) m' (ys++[y]) H4 else ∃ m',m' < m/\W (i+1) m' ys H3))
 (hRR:∀ D C s' H' ys,s.heap.objs.size<=D->s.heap.objs.size<=C->D≠C->(∃ m,s'.heap.Ns C m)->Inv X ac σ (upd H' D (.lst ys)) s'->H' C=none->Q (.ref D) (upd H' D (.lst ys))->RR (.ref D) C (.ok .next) s'):wpAny (model X.prog X.w) X.A (newList []) (λ acc s₃=>wpAny (model X.prog X.w) X.A (newFunctionEnv scope X.env.globals cl [] X.env.qual none .none (some X.env)) (λ cenv s₄=>
   codeAny (model X.prog X.w) X.A (.compStart (.ListComp elt [⟨.Name x px,iter,[cnd],0⟩] scope pos) 0 (.ref it) acc { cenv with scope:=relabel scope X.env }) (RR acc cenv.locals) s₄) E s₃) E s:=lT hc O (λ s H fp C=>GL (hcd s H fp C)) he I T st f2 h hRR
def Dk {elt iter:Expr} {x y:Str} {px py pos spos:Pos} {i:Nat} {scope:Scope} {cl:List (Str×Addr)} {cs:List (Str×Nat)} {wi:TI} {te:TE} {tt:TT} {cnd:Expr} (hN:X.N.Nodup) (hy:X.N[i]?=some y) (hx:Loc X.env.scope y)
  (hc:X.calm=true) (O:dA X scope cl x cs) (hi:PI X (.Name x px) iter wi)
  (hcd:∀ s H fp C,PT (bI X scope cl (x::cs.map (·.1)) s H fp C) cnd tt) (he:∀ s H fp C,PE (bI X scope cl (x::cs.map (·.1)) s H fp C) elt te) (hs:∀ x,foldedSetIterable iter X.env x=pure x:=by intro _; rfl)
  (hsw:swapsWith (.ListComp elt [⟨.Name x px,iter,[cnd],0⟩] scope pos) (some (.Name y py)) spos.line X.env=pure true:=by rfl)
  (hf:X.fn y=true\/X.env.scope.names.lookup y=some .local:=by first | exact .inl rfl | exact .inr rfl | assumption):PS X (.Assign [.Name y py] (.ListComp elt [⟨.Name x px,iter,[cnd],0⟩] scope pos) spos) (JH (EA wi tt te cs) (nJ i)):=by
 intro ac s σ H Dd I h;rw [exec_Assign_Name_used _ _ _ _ hsw];refine Zr (Wg (Zr ?_))
 refine Zr (Yv (Xo rfl hs O.Jc O.kind O.names (thn (hi ac s σ H _ I h) λ v s1 h1=>thn h1 λ itv s2 h2=>?_))
  (λ _ s' hq=>Z4 (Z4 hq)) λ _ _ e=>e)
 obtain ⟨it,fp,tn,J,H2,rfl,I2,T,st2,f2,hw⟩:=h2;refine wM (Q:=λ v H1=>nJ i v σ H1 Dd.nx) hc O hcd he I2 T st2 f2 hw λ D C s' H' ys hD hC hDC ⟨m,hm⟩ I' hn q=>?_
 have hn':upd H' D (.lst ys) C=none:=by rw [aF (Ne.symm hDC)]; exact hn
 have FC:=I2.wq hC hn';refine wpAny_assign_Name (ir I' hN hy hx (v:=.ref D) rfl (λ s'' I'' ⟨a,hsb,ha⟩=>?_) hf)
 have na:C≠a:=by
  rcases ha with ha | ha
  · rw [ha]; exact FC.2.1
  · exact Ne.symm (FC.2.2.2.2.1 y a ha)
 refine ⟨m,hm.sameBut hsb na,λ h' hs'=>?_⟩;exact ⟨σ.set i (some (.ref D)),upd H' D (.lst ys),I''.turned (λ b o hb e=>(hs'.2 b hb).trans e) hn' FC.2.1 FC.2.2.2.1 FC.2.2.2.2.1 FC.2.2.2.2.2,q⟩
end
def wu (c:D->Option Bool) (g:D->Option D):List D->Option (List D)
 | []=>some []
 | d::ds=>(c d).bind λ b=>if b=true then (g d).bind λ x=>(wu c g ds).bind λ xs=>some (x::xs) else wu c g ds
def uY (it:DI) (c:DT) (g:DE) (cs:List (Str×Nat)):DE:=λ τ=>(it τ).bind λ ds=>if ds.length<=100000 then (wu (λ d=>c (.shr d::fe τ cs)) (λ d=>g (.shr d::fe τ cs)) ds).map .lst else none
section
variable {X:Cx} {e:Expr} {es:List Expr} {pos:Pos}
theorem Ef {K:W.Frag} {it:DI} {c:DT} {g:DE} {cs:List (Str×Nat)} {σ:St} {H:Hp} {Q:VK} (h:rdO K (uY it c g cs) σ H Q):EA (rdI K it) (rdT K c) (rdE K g) cs σ H Q:=by
 obtain ⟨H0,Hs,τ,fp,d,st,sm,e,k⟩:=h;obtain ⟨ds,e1,e2⟩:=U0 e;split at e2
 ·rename_i hl
  obtain ⟨full,e3,rfl⟩:=Zm e2;refine ⟨H0,Hs,τ,fp,ds,st,sm,e1,λ J Hs1 H1 g1 hJ=>?_⟩;refine ⟨λ i m ys H'=>m=ds.length - i/\i<=ds.length/\∃ Hs2 es rest,Ext Hs1 H1 Hs2 H'/\Rps K Hs2 ys es/\es.length<=i/\wu (λ d=>c (.shr d::fe τ cs)) (λ d=>g (.shr d::fe τ cs)) (ds.drop i)=some rest/\es++rest=full,⟨ds.length,by simp,Ye _,Hs1,[],full,.refl g1.sh,.nil,Zo _,by simpa using e3,rfl⟩,?_⟩
  rintro i m ys H2 ⟨rfl,hi,Hs2,es,rest,g2,ry,ley,e4,e5⟩
  obtain ⟨hgo,hstop⟩:=hJ Hs2 H2 g2.ss g2.sh;have ly:ys.length<=i:=by rw [ry.length]; exact ley
  by_cases hlt:i < ds.length
  ·have ed:=Yg hlt
   rw [ed] at e4;obtain ⟨b,q0,q0'⟩:=U0 e4;obtain ⟨go,yl⟩:=hgo i ds[i] (List.getElem?_eq_getElem hlt);refine .inr ⟨go,le5 (by omega),λ v H3 y=>?_⟩;obtain ⟨Hs3,g3,rv⟩:=yl v H3 y;have g13:=(g1.trans g2).trans g3;refine ⟨H0,Hs3,.shr ds[i]::fe τ cs,[],b,.shr rv (lF (st.ext g13) cs),g3.sh,q0,λ Hs4 H4 g4=>?_⟩;have g14:=g13.trans g4
   cases b with
   | true=>
    refine nS ?_
    obtain ⟨x,q1,q2⟩:=U0 (q0');obtain ⟨xs,q3,q4⟩:=U0 q2;have eq:=Zj q4;subst eq;refine ⟨H0,Hs4,.shr ds[i]::fe τ cs,[],x,.shr (rv.same g4.ss) (lF (st.ext g14) cs),g4.sh,q1,λ v5 Hs5 H5 g5 r5=>?_⟩;exact ⟨ds.length - (i+1),by omega,rfl,hlt,Hs5,es++[x],xs,((g2.trans g3).trans g4).trans g5,(((ry.same g3.ss).same g4.ss).same g5.ss).append (.cons r5 .nil),by simp; omega,q3,by rw [<- e5]; simp⟩
   | false=>
    refine DZ ?_
    have q1:=q0';exact ⟨ds.length - (i+1),by omega,rfl,hlt,Hs4,es,rest,(g2.trans g3).trans g4,(ry.same g3.ss).same g4.ss,by omega,q1,e5⟩
  ·have e0:i=ds.length:=by omega
   subst e0;rw [Xs] at e4;have er:=Zj e4;subst er;rw [Yd] at e5;subst e5;refine .inl ⟨hstop _ (Zo _),CI (by omega),λ p hp=>?_⟩;have g12:=g1.trans g2;exact k p Hs2 _ ⟨g12.ss,g12.sh.trans (bo hp _),g12.hh.trans (bo hp _),g12.fr⟩ (.lst aC (g12.sh.free hp) ry) (g12.hh.free hp)
 · cases e2
end
def sU:D->Option Key
 | .int i=>some (.inl i)
 | .str x=>some (.inr x)
 | _=>none
def gX (am:List (Key×D)) (k:Key):Option D:=(am.find? λ kv=>decide (kv.1=k)).map (·.2)
def putD (am:List (Key×D)) (k:Key) (v:D):List (Key×D):=if am.any (λ kv=>decide (kv.1=k)) then am.map (λ kv=>if kv.1=k then (kv.1,v) else kv) else am++[(k,v)]
def oY {K:W.Frag} {H:Hp} {v:V} {d:D} {k:Key} (r:Rp K H v d) (e:sU d=some k):v=kV k:=by
 cases r <;> simp [sU] at e <;> subst e <;> rfl
theorem RpK.val {K:W.Frag} {H:Hp} {k:Key}:∀ {am:List (Key×V)} {ds:List (Key×D)},RpK K H am ds->(∀ d,gX ds k=some d->∃ v,qu am k=some v/\Rp K H v d)/\(gX ds k=none->qu am k=none)
 | _,_,.nil=>⟨λ d e=>by simp [gX] at e,λ _=>rfl⟩
 | _,_,@RpK.cons _ _ j x d xs ds h r=>by
  obtain ⟨i1,i2⟩:=RpK.val (k:=k) r
  by_cases q:j=k
  ·subst q
   refine ⟨λ d' e=>?_,λ e=>?_⟩
   ·have:d=d':=by simpa [gX] using e
    subst this;exact ⟨x,by simp [qu],h⟩
   · simp [gX] at e
  ·have e1:gX ((j,d)::ds) k=gX ds k:=by simp [gX,q]
   have e2:qu ((j,x)::xs) k=qu xs k:=by simp [qu,q]
   rw [e1,e2];exact ⟨i1,i2⟩
theorem RpK.any {K:W.Frag} {H:Hp} {k:Key}:∀ {am:List (Key×V)} {ds:List (Key×D)},RpK K H am ds->am.any (λ kv=>decide (kv.1=k))=ds.any (λ kv=>decide (kv.1=k))
 | _,_,.nil=>rfl
 | _,_,.cons h r=>by simp only [Y2,RpK.any r]
theorem RpK.GH {K:W.Frag} {H:Hp} {k:Key} {v:V} {d:D} (hv:Rp K H v d):∀ {am:List (Key×V)} {ds:List (Key×D)},RpK K H am ds->RpK K H (am.map λ kv=>if kv.1=k then (kv.1,v) else kv) (ds.map λ kv=>if kv.1=k then (kv.1,d) else kv)
 | _,_,.nil=>.nil
 | _,_,@RpK.cons _ _ j x d' xs ds h r=>by
  simp only [Zz]
  by_cases q:j=k
  · rw [if_pos q,if_pos q]; exact .cons hv (RpK.GH hv r)
  · rw [if_neg q,if_neg q]; exact .cons h (RpK.GH hv r)
theorem RpK.snoc {K:W.Frag} {H:Hp} {k:Key} {v:V} {d:D} (hv:Rp K H v d):∀ {am:List (Key×V)} {ds:List (Key×D)},RpK K H am ds->RpK K H (am++[(k,v)]) (ds++[(k,d)])
 | _,_,.nil=>.cons hv .nil
 | _,_,.cons h r=>.cons h (RpK.snoc hv r)
def RpK.put {K:W.Frag} {H:Hp} {k:Key} {v:V} {d:D} {am:List (Key×V)} {ds:List (Key×D)} (h:RpK K H am ds) (hv:Rp K H v d):RpK K H (putK am k v) (putD ds k d):=by
 unfold putK putD;rw [h.any];split
 · exact h.GH hv
 · exact h.snoc hv
theorem RpK.length {K:W.Frag} {H:Hp}:∀ {am:List (Key×V)} {ds:List (Key×D)},RpK K H am ds->am.length=ds.length
 | _,_,.nil=>rfl
 | _,_,.cons _ r=>Z8 (·+1) r.length
def yH:D->D->Option D
 | .dct am,y=>(sU y).bind λ k=>gX am k
 | .dfz am,y=>(sU y).bind λ k=>gX am k
 | _,_=>none
def KH:D->D->Option D
 | y,.dct am=>(sU y).map λ k=>.bl (gX am k).isSome
 | y,.dfz am=>(sU y).map λ k=>.bl (gX am k).isSome
 | _,_=>none
def v8:D->D->Option D
 | y,.dct am=>(sU y).map λ k=>.bl (!(gX am k).isSome)
 | y,.dfz am=>(sU y).map λ k=>.bl (!(gX am k).isSome)
 | _,_=>none
section
variable {X:Cx} {o i e value:Expr} {pos pos' ap bv:Pos} {f g h:DE}
def Iv {neg:Bool} {σ:St} {H:Hp} {Q:VK} (K:W.Frag) (h:rdE K (dOp (if neg then v8 else KH) f g) σ H Q):rdE K f σ H λ y H1=>rdE K g σ H1 λ x H2=>∃ a o,x=.ref a/\zu H2 a y o/\Q (.bl (if neg then !o.isSome else o.isSome)) H2:=by
 have h':=qL K h;obtain ⟨H0,Hs,τ,fp,x,st,sm,e1,kk⟩:=h';refine ⟨H0,Hs,τ,fp,x,st,sm,e1,λ v Hs1 H1 g1 r1=>?_⟩;obtain ⟨H0',Hs',τ',fp',y,st',sm',e2,kk2⟩:=kk v Hs1 H1 g1 r1;refine ⟨H0',Hs',τ',fp',y,st',sm',e2,λ u Hs2 H2 g2 r2=>?_⟩;obtain ⟨Hs3,dx,dy,d,sm3,rx,ry,eo,k⟩:=kk2 u Hs2 H2 g2 r2
 obtain ⟨ds,key,ey,ek,ev⟩:∃ ds key,(dy=.dct ds\/dy=.dfz ds)/\sU dx=some key/\D.bl (if neg then !(gX ds key).isSome else (gX ds key).isSome)=d:=by
  cases neg with
  | true=>
   have eo:v8 dx dy=some d:=eo;unfold v8 at eo;split at eo
   ·obtain ⟨key,a1,a2⟩:=Zm eo
    exact ⟨_,key,.inl rfl,a1,a2⟩
   ·obtain ⟨key,a1,a2⟩:=Zm eo
    exact ⟨_,key,.inr rfl,a1,a2⟩
   · cases eo
  | false=>
   have eo:KH dx dy=some d:=eo;unfold KH at eo;split at eo
   ·obtain ⟨key,a1,a2⟩:=Zm eo
    exact ⟨_,key,.inl rfl,a1,a2⟩
   ·obtain ⟨key,a1,a2⟩:=Zm eo
    exact ⟨_,key,.inr rfl,a1,a2⟩
   · cases eo
 obtain ⟨a,am,rfl,hH,rk⟩:∃ a am,u=.ref a/\Rd H2 a (.dK am)/\RpK K Hs3 am ds:=by
  rcases ey with rfl | rfl
  ·cases ry with
   | dct hH rk=>exact ⟨_,_,rfl,.inl (sm3 _ _ hH),rk⟩
  ·cases ry with
   | dfz hH rk=>exact ⟨_,_,rfl,hH.elim (λ z=>.inl (sm3 _ _ z)) λ ⟨o,z⟩=>.inr ⟨o,sm3 _ _ z⟩,rk⟩
 have:=oY rx ek;subst this;subst ev
 have is:(qu am key).isSome=(gX ds key).isSome:=by
  cases q:gX ds key with
  | none=>rw [(rk.val).2 q]; rfl
  | some d'=>obtain ⟨w,hw,_⟩:=(rk.val (k:=key)).1 d' q; rw [hw]; rfl
 refine ⟨a,qu am key,rfl,.inl ⟨am,key,hH,rfl,rfl⟩,?_⟩;rw [is];exact k _ Hs3 H2 (.refl sm3) (.bl _)
def Jz (K:W.Frag) (h:rdT K (dT f) σ H Q):rdE K f σ H λ x H1=>∃ c,x=.bl c/\Q c H1:=by
 obtain ⟨H0,Hs,τ,fp,d,st,sm,e,k⟩:=h;obtain ⟨x,e1,e⟩:=U0 e;have hx:x=.bl d:=by cases x <;> simp at e <;> subst e <;> rfl
 subst hx;refine ⟨H0,Hs,τ,fp,_,st,sm,e1,λ v Hs' H' g r=>?_⟩;cases r;exact ⟨d,rfl,k Hs' H' g⟩
def Iz (f g h:DE):DE:=λ τ=>(f τ).bind λ x=>(g τ).bind λ y=>(h τ).bind λ z=>match x with
 | .dct am=>(sU y).map λ k=>(gX am k).getD z
 | _=>none
def zX (j:Nat) (f g:DE):DS:=λ τ=>(f τ).bind λ v=>(g τ).bind λ y=>match τ[j]? with
 | some (.own (.dct am))=>(sU y).bind λ k=>if am.length < 100000 then some (.next (τ.set j (.own (.dct (putD am k v))))) else none
 | _=>none
end
def scD:D->Option V
 | .int i=>some (.int i)
 | .str x=>some (.str x)
 | .non=>some .non
 | _=>none
def IQ:List D->Option (List V)
 | []=>some []
 | d::ds=>(scD d).bind λ v=>(IQ ds).map (v::·)
def inS (x:D) (ys:List D):Option Bool:=(scD x).bind λ v=>(IQ ys).map λ vs=>inV v vs
def HM:D->Option (List D)
 | .lst ys=>some ys
 | .tup ys=>some ys
 | _=>none
def nG (x y:D):Option D:=(HM y).bind λ ys=>(inS x ys).map .bl
def j4 (x y:D):Option D:=(HM y).bind λ ys=>(inS x ys).map λ b=>.bl !b
def JS {K:W.Frag} {H:Hp} {v w:V} {d:D} (r:Rp K H v d) (e:scD d=some w):v=w/\qD v=true:=by
 cases r <;> simp [scD] at e <;> subst e <;> exact ⟨rfl,rfl⟩
theorem EJ {K:W.Frag} {H:Hp}:∀ {vs ws:List V} {ds:List D},Rps K H vs ds->IQ ds=some ws->vs=ws/\vs.all qD=true
 | _,_,_,.nil,e=>by simp [IQ] at e; subst e; exact ⟨rfl,rfl⟩
 | _,_,_,.cons h r,e=>by
  obtain ⟨v,e1,e2⟩:=U0 (show (scD _).bind _=_ from e);obtain ⟨ws,e3,e4⟩:=Zm e2;obtain ⟨q1,q2⟩:=JS h e1;obtain ⟨q3,q4⟩:=EJ r e3;subst q1 q3;exact ⟨e4,by rw [Y1,q2,q4]; rfl⟩
section
variable {X:Cx}
def FP {K:W.Frag} {neg:Bool} {x y:V} {H:Hp} {Q:VK} (h:rdR K (if neg then j4 else nG) x y H Q):rIn K neg x y H Q:=by
 obtain ⟨Hs,dx,dy,d,sm,rx,ry,e,k⟩:=h
 obtain ⟨ys,b,e1,e2,e3⟩:∃ ys b,HM dy=some ys/\inS dx ys=some b/\d=.bl (if neg then !b else b):=by
  cases neg with
  | true=>
   obtain ⟨ys,a1,a2⟩:=U0 (e);obtain ⟨b,a3,a4⟩:=Zm a2;exact ⟨ys,b,a1,a3,a4.symm⟩
  | false=>
   obtain ⟨ys,a1,a2⟩:=U0 (show (HM dy).bind _=some d from e);obtain ⟨b,a3,a4⟩:=Zm a2;exact ⟨ys,b,a1,a3,a4.symm⟩
 obtain ⟨v,e4,e5⟩:=U0 e2;obtain ⟨vs,e6,e7⟩:=Zm e5;obtain ⟨q1,q2⟩:=JS rx e4;subst q1 e3;have ry':=ry.same sm
 obtain ⟨p,xs,ep,hq,rs⟩:∃ p xs,y=.ref p/\(SqL K H p xs\/SqT K H p xs)/\Rps K H xs ys:=by
  cases ry' with
  | tup h r=>simp [HM] at e1; subst e1; exact ⟨_,_,rfl,.inr h,r⟩
  | lst h r=>simp [HM] at e1; subst e1; exact ⟨_,_,rfl,.inl (.of h),r⟩
  | _=>simp [HM] at e1
 obtain ⟨q3,q4⟩:=EJ rs e6;subst q3;refine ⟨p,xs,ep,hq,q2,q4,?_⟩;rw [e7];exact k _ Hs H (.refl sm) (.bl _)
def Ky:OpR X (compareOp .In) (rdR X.K nG):=AD.imp λ x y H Q h=>FP h
def xC:OpR X (compareOp .NotIn) (rdR X.K j4):=ua.imp λ x y H Q h=>FP h
end
section
variable {X:Cx} {a b c:Expr} {pos:Pos} {f g h:DE}
def Eh (K:W.Frag) (hh:rdE K (k6 (dOp o f g) (dOp o' g h)) σ H Q):zM (rdR K o) (rdR K o') (rdE K f) (rdE K g) (rdE K h) σ H Q:=by
 obtain ⟨H0,Hs,τ,fp,d,st,sm,e,k⟩:=hh;obtain ⟨r,e0,e⟩:=U0 e;obtain ⟨x,e1,e0⟩:=U0 e0;obtain ⟨y,e2,e0⟩:=U0 e0;refine ⟨H0,Hs,τ,fp,x,st,sm,e1,λ v Hs1 H1 g1 r1=>?_⟩;refine ⟨H0,Hs1,τ,fp,y,st.ext g1,g1.sh,e2,λ u Hs2 H2 g2 r2=>?_⟩;refine ⟨Hs2,x,y,r,g2.sh,r1.same g2.ss,r2,e0,λ w Hs3 H3 g3 r3=>?_⟩
 cases r3 with
 | bl kb=>
  refine ⟨kb,rfl,?_⟩
  cases kb with
  | false=>
   rw [if_neg Zf];have e':D.bl false=d:=by simpa using e
   subst e';exact k _ Hs3 H3 ((g1.trans g2).trans g3) (.bl false)
  | true=>
   rw [if_pos rfl];obtain ⟨y',q1,q2⟩:=U0 (e);have ey:y'=y:=by rw [e2] at q1; exact (Zj q1).symm
   subst ey;obtain ⟨z,q3,q4⟩:=U0 q2;refine ⟨H0,Hs3,τ,fp,z,st.ext ((g1.trans g2).trans g3),g3.sh,q3,λ u' Hs4 H4 g4 r4=>?_⟩;exact ⟨Hs4,y',z,d,g4.sh,(r2.same g3.ss).same g4.ss,r4,q4,λ w' Hs5 H5 g5 r5=>k w' Hs5 H5 ((((g1.trans g2).trans g3).trans g4).trans g5) r5⟩
 | _=>exact nn e
end
def BZ:List (DE×DE)->List Sl->Option (List (Key×D))
 | [],_=>some []
 | p::ps,τ=>(p.1 τ).bind λ k=>(sU k).bind λ k'=>(p.2 τ).bind λ v=>(BZ ps τ).map ((k',v)::·)
def AY (am more:List (Key×D)):List (Key×D):=more.foldl (λ acc kv=>putD acc kv.1 kv.2) am
def Rc (ps:List (DE×DE)):DE:=λ τ=>(BZ ps τ).bind λ am=>if am.length<=15 then some (.dct (AY [] am)) else none
theorem RpK.merge {K:W.Frag} {H:Hp}:∀ {more:List (Key×V)} {ms:List (Key×D)} {am:List (Key×V)} {ds:List (Key×D)},RpK K H more ms->RpK K H am ds->RpK K H (oV am more) (AY ds ms)
 | _,_,_,_,.nil,h=>h
 | _,_,am,ds,@RpK.cons _ _ j x d xs es hv r,h=>show RpK K H (oV (putK am j x) xs) (AY (putD ds j d) es) from RpK.merge r (h.put hv)
section
variable {X:Cx} {pos:Pos}
def PPd (X:Cx) (pos:Pos) (keys:List (Option Expr)) (values:List Expr) (ps:List (DE×DE)):Prop:=PPs X pos keys values (ps.map λ p=>(rdE X.K p.1,rdE X.K p.2))
theorem xw {K:W.Frag} {σ:St} {τ:List Sl} {H0:Hp}:∀ {ps:List (DE×DE)} {Hs H:Hp} {fp:List Addr} {am:List (Key×D)} {Q:List (V×V)->Hp->Prop},StR K H0 Hs H σ τ fp->c9 Hs H->BZ ps τ=some am->(∀ ws Hs' H',Ext Hs H Hs' H'->RpK K Hs' ws am->Q (ws.map λ kv=>(kV kv.1,kv.2)) H')->w6 (ps.map λ p=>(rdE K p.1,rdE K p.2)) σ H Q
 | [],Hs,H,fp,am,Q,st,sm,e,k=>by
  have e':[]=am:=Zj e;subst e';exact k [] Hs H (.refl sm) .nil
 | p::ps,Hs,H,fp,am,Q,st,sm,e,k=>by
  obtain ⟨dk,e1,e⟩:=U0 (show (p.1 τ).bind _=some am from e);obtain ⟨k',e2,e⟩:=U0 e;obtain ⟨dv,e3,e⟩:=U0 e;obtain ⟨rest,e4,rfl⟩:=Zm e;refine ⟨H0,Hs,τ,fp,dk,st,sm,e1,λ v Hs1 H1 g1 r1=>?_⟩;refine ⟨H0,Hs1,τ,fp,dv,st.ext g1,g1.sh,e3,λ u Hs2 H2 g2 r2=>?_⟩;refine xw ((st.ext g1).ext g2) g2.sh e4 λ ws Hs3 H3 g3 r3=>?_
  have:=oY r1 e2;subst this;exact k ((k',u)::ws) Hs3 H3 ((g1.trans g2).trans g3) (.cons (r2.same g3.ss) r3)
end
section
variable {X:Cx} {a e i o:Expr} {pos:Pos} {f g:DE}
def KDv (P:Program) (w:World) (K:W.Frag) (a:Addr) (am:List (Key×V)):Prop:=
 ∃ (o:Obj) (es:Array DictEntry) (ep:Nat) (vs:List (Key×Value)),K.lookup a=some o/\o.ExactDict/\o.data=.dict es ep/\KeysOf (bN P w) es/\Pairs (bN P w) es.toList vs/\(vs.map (·.1)).Nodup/\KV am vs
structure KD (w:World) (K:W.Frag) (a:Addr) (ds:List (Key×D)):Prop where
 is:∀ (P:Program) (H:Hp),∃ am,KDv P w K a am/\RpK K H am ds
end
inductive KEs (w:World) (K:W.Frag):List DictEntry->List (Str×D)->Prop
 | nil:KEs w K [] []
 | cons {h:Int} {x:Str} {t:Tok} {u:Value} {v:V} {d:D} {es ds} (hh:h=PyData.keyHash w.params x) (rv:RelV v u) (r:∀ H,Rp K H v d) (k:KEs w K es ds):KEs w K (⟨h,.str x t,u⟩::es) ((x,d)::ds)
def KEs.out {w:World} {K:W.Frag} {es:List DictEntry} {ds:List (Str×D)} (k:KEs w K es ds) (P:Program) (H:Hp):∃ (vs:List (Key×Value)) (am:List (Key×V)),
  (∀ e ∈ es,∃ k,(bN P w).is k e.key=true/\e.hash=(bN P w).hash k)/\Pairs (bN P w) es vs/\vs.map (·.1)=ds.map (λ p=>(Sum.inr p.1:Key))/\KV am vs/\RpK K H am (ds.map λ p=>((Sum.inr p.1:Key),p.2)):=by
 induction k with
 | nil=>exact ⟨[],[],(λ e h=>nomatch h),.nil,rfl,Paired.nil,.nil⟩
 | @cons h x t u v d es ds hh rv r k ih=>
  obtain ⟨vs,am,i1,i2,i3,i4,i5⟩:=ih;refine ⟨(.inr x,u)::vs,(.inr x,v)::am,λ e he=>?_,.cons (j7 P w x t) rfl i2,?_,Paired.cons ⟨rfl,rv⟩ i4,.cons (r H) i5⟩
  ·rcases Zd.mp he with rfl | he
   · exact ⟨.inr x,j7 P w x t,hh⟩
   · exact i1 e he
  · rw [Zz,Zz,i3]
def QS {w:World} {K:W.Frag} {a:Addr} {es:List DictEntry} {ep:Nat} {ds:List (Str×D)} (hl:K.lookup a=some ⟨.type "dict",none,.dict es.toArray ep,#[]⟩) (hn:(ds.map λ p=>(Sum.inr p.1:Key)).Nodup) (k:KEs w K es ds):KD w K a (ds.map λ p=>((Sum.inr p.1:Key),p.2)):=⟨λ P H=>by
 obtain ⟨vs,am,i1,i2,i3,i4,i5⟩:=k.out P H
 exact ⟨am,⟨_,_,ep,vs,hl,⟨rfl,rfl,rfl⟩,rfl,λ e he=>i1 e (by simpa using he),by simpa using i2,by rw [i3]; exact hn,i4⟩,i5⟩⟩
def Itz (K:W.Frag) (l1 l2:Addr):It where
 go:=λ i H=>∃ xs ys x y,SqL K H l1 xs/\SqL K H l2 ys/\xs[i]?=some x/\ys[i]?=some y
 yld:=λ i H v H'=>∃ T x y,v=.ref T/\H T=none/\H'=upd H T (.tup [x,y])/\(∀ xs,SqL K H l1 xs->xs[i]?=some x)/\∀ ys,SqL K H l2 ys->ys[i]?=some y
 stop:=λ i H=>∃ xs ys,SqL K H l1 xs/\SqL K H l2 ys/\(xs.length<=i\/ys.length<=i)
def ZSt (z TI TO i1 i2 l1 l2:Addr) (i:Nat) (h:Heap):Prop:=IsZip h z TI TO .none/\IsPair h TI (.ref i1) (.ref i2)/\(∃ a b,IsPair h TO a b)/\h.IsListIter i1 l1 i/\h.IsListIter i2 l2 i
section
variable {X:Cx} {ac:List (Addr×Obj)} {σ:St} {H:Hp} {s:Shared} {h':Heap}
def Inv.rL {t':Nat} {wr:List Addr} {T:Addr} {xs:List V} (I:Inv X ac σ H s) (hw:∀ b ∈ wr,rE X ac H b) (k:∀ b o,b ∉ wr->s.heap.get? b=some o->h'.get? b=some o)
  (hT:s.heap.objs.size<=T) (new:c8 X.prog X.w (upd H T (.tup xs)) h' T (.tup xs)):Inv X ac σ (upd H T (.tup xs)) { s with heap:=h',toks:=t' }:=by
 have hn:=I.hok.fresh hT;have neT:∀ b u,H b=some u->b≠T:=λ b u e z=>by rw [z,hn] at e; cases e
 have neS:∀ b o,s.heap.get? b=some o->b≠T:=λ b o e z=>by
  have:=Zt e;rw [z] at this;exact absurd (Zl this hT) (Yo _)
 have nw:∀ b u,H b=some u->b ∉ wr:=λ b u e z=>by rw [(hw b z).1] at e; cases e
 refine I.step (λ b hb=>?_) (λ b o _ _ hc e _=>k b o hc e) (λ b o _ _ hc e _=>⟨o.slots,k b o hc e⟩) (λ b o _ e n=>by rw [aF (neS b o e)]; exact n)
  (λ b o hc e=>⟨o,k b o hc e⟩) (λ b ys e=>by rw [aF (neT b _ e)]; exact e) (λ b o u e=>by rw [aF (neT b _ e)]; exact e) (λ b ps e=>⟨#[],by rw [aF (neT b _ e),e]; simp⟩) (λ m hm=>?_) (λ b u e=>?_) I.bare
 ·obtain ⟨f0,f1,f2,f3,f4,f5⟩:=hw b hb
  exact ⟨f3,f1,f4,f5⟩
 ·obtain ⟨o,es,ep,ho,r⟩:=hm
  exact ⟨o,es,ep,k _ o (λ z=>(hw _ z).2.1 rfl) ho,r⟩
 ·by_cases hb:b=T
  ·subst hb
   rw [aC] at e;cases e;exact new
  ·rw [aF hb] at e
   refine (I.hok b u e).yx (λ c v hc q=>k c v ?_ q) (λ c q=>by rw [aF (neT c _ q)]; exact q) λ c ys q=>by rw [aF (neT c _ q)]; exact q
   rcases hc with z | z
   · rw [z]; exact nw b u e
   · exact nw c _ z
end
theorem CW {P:Program} {w:World} {K:W.Frag} {elts:List Expr} {k:Nat} {pos:Pos} {z TI TO i1 i2 l1 l2:Addr} (D:ZipApart z TI TO i1 i2 l1 l2):Turn P w K (.Tuple elts k pos) (Itz K l1 l2) [z,TI,TO,i1,i2] z (ZSt z TI TO i1 i2 l1 l2) where
 mem:=by simp
 obj:=λ i h st b hb=>by
  obtain ⟨s1,s2,⟨a,c,s3⟩,⟨o4,e4,c4,d4⟩,⟨o5,e5,c5,d5⟩⟩:=st;simp only [Zd,Zq,Z9] at hb;rcases hb with rfl | rfl | rfl | rfl | rfl
  · exact ⟨_,s1,λ v z=>by cases z⟩
  · exact ⟨_,s2,λ v z=>by cases z⟩
  · exact ⟨_,s3,λ v z=>by cases z⟩
  · exact ⟨o4,e4,λ v z=>by rw [d4] at z; cases z⟩
  · exact ⟨o5,e5,λ v z=>by rw [d5] at z; cases z⟩
 keep:=λ i h h' st k=>by
  obtain ⟨s1,s2,⟨a,c,s3⟩,s4,s5⟩:=st;exact ⟨k _ (by simp) _ s1,k _ (by simp) _ s2,⟨a,c,k _ (by simp) _ s3⟩,s4.at λ o e=>k _ (by simp) o e,s5.at λ o e=>k _ (by simp) o e⟩
 item:=by
  intro X hP hw hK hc i ac s σ H E I hf st hg;subst hP hw hK;obtain ⟨xs,ys,x,y,hq1,hq2,hx,hy⟩:=hg;obtain ⟨its1,rv1,p1,hz1⟩:=I.list hq1;obtain ⟨its2,rv2,p2,hz2⟩:=I.list hq2;obtain ⟨u1,hu1,ru1⟩:=rv1.get hx;obtain ⟨u2,hu2,ru2⟩:=rv2.get hy;obtain ⟨s1,s2,⟨a,c,s3⟩,s4,s5⟩:=st;refine wpAny_pyNext_zip_item D s1 s2 s3 s4 s5 p1.isList p2.isList (by simpa using hu1) (by simpa using hu2) λ h' a1 a2 a3 a4 a5 a6 hk=>?_
  have fw:∀ b ∈ [z,TO,i1,i2],rE X ac H b:=λ b hb=>hf b (by
   simp only [Zd,Zq,Z9] at hb ⊢
   rcases hb with rfl | rfl | rfl | rfl <;> simp)
  have hk':∀ b o,b ∉ [z,TO,i1,i2]->s.heap.get? b=some o->h'.get? b=some o:=λ b o hb e=>hk b o (λ q=>hb (by simp [q])) (λ q=>hb (by simp [q])) (λ q=>hb (by simp [q])) (λ q=>hb (by simp [q])) e
  have I1:=I.rL (t':=s.toks) fw hk' (Zo _) ⟨by show 2<=sizeLine; decide,[u1,u2],.cons ru1 (.cons ru2 .nil),_,a5,rfl,_,rfl⟩;have hn:=I.hok.fresh (Zo _);have TIk:=hk _ _ D.TIz D.TITO D.TIi1 D.TIi2 s2;refine ⟨.ref s.heap.objs.size,rfl,wpAny_letOwnedTupleGo_zip a1 λ h2 hz2 sb=>?_⟩
  have neT:∀ b ∈ [z,TI,TO,i1,i2],b≠s.heap.objs.size:=λ b hb q=>by
   have lt:∃ o,s.heap.get? b=some o:=by
    obtain ⟨o4,e4,_⟩:=s4;obtain ⟨o5,e5,_⟩:=s5;simp only [Zd,Zq,Z9] at hb;rcases hb with rfl | rfl | rfl | rfl | rfl
    · exact ⟨_,s1⟩
    · exact ⟨_,s2⟩
    · exact ⟨_,s3⟩
    · exact ⟨_,e4⟩
    · exact ⟨_,e5⟩
   obtain ⟨o,e⟩:=lt;rw [q] at e;exact absurd (Zt e) (Yo _)
  obtain ⟨f0,f1,f2,f3,f4,f5⟩:=hf z (by simp);have I2:=I1.turned (t':=s.toks) (λ b o hb e=>(sb.2 b hb).trans e) (by rw [aF (neT z (by simp))]; exact f0) f1 f3 f4 f5;refine ⟨.ref s.heap.objs.size,_,I2,rfl,⟨s.heap.objs.size,x,y,rfl,hn,rfl,λ zs hz=>by rw [I.nR hz hq1]; exact hx,λ zs hz=>by rw [I.nR hz hq2]; exact hy⟩,?_,λ b hb=>by rw [aF (neT b hb)]; exact (hf b hb).1⟩;exact ⟨hz2,sb.extBut _ _ D.TIz TIk,⟨_,_,sb.extBut _ _ D.TOz a2⟩,a3.extBut sb.extBut D.i1z,a4.extBut sb.extBut D.i2z⟩
 done := by
  intro X hP hw hK hc i ac s σ H E I hf st hg;subst hP hw hK;obtain ⟨xs,ys,hq1,hq2,hx⟩:=hg;obtain ⟨its1,rv1,p1,hz1⟩:=I.list hq1;obtain ⟨its2,rv2,p2,hz2⟩:=I.list hq2;obtain ⟨s1,s2,⟨a,c,s3⟩,s4,s5⟩:=st;have l1:=rv1.length;have l2:=rv2.length;refine wpAny_pyNext_zip_end (I.ok.hd hc) D s1 s2 s3 s4 s5 p1.isList p2.isList ?_ λ h' hk=>⟨rfl,?_⟩
  ·rcases hx with q | q
   · exact .inl (by simp; omega)
   · exact .inr (by simp; omega)
  ·have fw:∀ b ∈ [z,TO,i1,i2],rE X ac H b:=λ b hb=>hf b (by
    simp only [Zd,Zq,Z9] at hb ⊢
    rcases hb with rfl | rfl | rfl | rfl <;> simp)
   refine I.step (t':=s.toks) (ch:=[z,TO,i1,i2]) (λ b hb=>?_) (λ b o _ _ hb e _=>?_) (λ b o _ _ hb e _=>⟨o.slots,?_⟩) (λ _ _ _ _ n=>n) (λ b o hb e=>⟨o,?_⟩) (λ _ _ e=>e) (λ _ _ _ e=>e) (λ b ps e=>⟨#[],by rw [e]; simp⟩) (λ m hm=>?_) (λ b u e=>?_) I.bare
   ·obtain ⟨f0,f1,f2,f3,f4,f5⟩:=fw b hb
    exact ⟨f3,f1,f4,f5⟩
   · exact hk b o (λ q=>hb (by simp [q])) (λ q=>hb (by simp [q])) (λ q=>hb (by simp [q])) (λ q=>hb (by simp [q])) e
   · exact hk b o (λ q=>hb (by simp [q])) (λ q=>hb (by simp [q])) (λ q=>hb (by simp [q])) (λ q=>hb (by simp [q])) e
   · exact hk b o (λ q=>hb (by simp [q])) (λ q=>hb (by simp [q])) (λ q=>hb (by simp [q])) (λ q=>hb (by simp [q])) e
   ·obtain ⟨o,es,ep,ho,r⟩:=hm
    have nb:X.env.locals ∉ [z,TO,i1,i2]:=λ q=>(fw _ q).2.1 rfl
    exact ⟨o,es,ep,hk _ o (λ q=>nb (by simp [q])) (λ q=>nb (by simp [q])) (λ q=>nb (by simp [q])) (λ q=>nb (by simp [q])) ho,r⟩
   ·have nw:∀ b u,H b=some u->b ∉ [z,TO,i1,i2]:=λ b u e q=>by rw [(fw b q).1] at e; cases e
    refine (I.hok b u e).yx (λ c v hc q=>?_) (λ _ q=>q) λ _ _ q=>q
    have nc:c ∉ [z,TO,i1,i2]:=by
     rcases hc with q | q
     · rw [q]; exact nw b u e
     · exact nw c _ q
    exact hk c v (λ q=>nc (by simp [q])) (λ q=>nc (by simp [q])) (λ q=>nc (by simp [q])) (λ q=>nc (by simp [q])) q
 self:=λ _ _ _ _ _ st h=>wpAny_pyIter_zip st.1 h
def boot_zip:bootBuiltins "zip"=some (.type "zip"):=by rfl
def UE (K:W.Frag) (ta:TA):TI:=λ σ H R=>ta σ H λ vs H1=>∃ l1 l2 xs ys,vs=[.ref l1,.ref l2]/\SqL K H1 l1 xs/\SqL K H1 l2 ys/\R (Itz K l1 l2) H1
def Kd {X:Cx} {a b:Expr} {ta:TA} {elts:List Expr} {k:Nat} {pt p pos:Pos} (hg:Gl X "zip") (hm:X.mg "zip"=none) (ha:PA X [a,b] ta) (hs:starEach [a,b] X.env=[(false,eval a X.env),(false,eval b X.env)]:=by rfl) (hs2:starEach [b] X.env=[(false,eval b X.env)]:=by rfl):PI X (.Tuple elts k pt) (.Call (.Name "zip" p) [a,b] [] pos) (UE X.K ta):=by
 intro ac s σ H R I h;refine Call_ (mE I hg hm boot_zip (Yr (thn (ha pos ac s σ H _ I h) λ us s1 ⟨vs,H1,I1,r1,q1⟩=>?_) (by rw [hs,hs2]) (by rw [hs2]; rfl)));obtain ⟨l1,l2,xs,ys,e,q1,q2,q⟩:=q1;subst e
 cases r1 with
 | cons r rr=>
  cases rr with
  | cons r' rr=>
   cases rr;cases r;cases r';obtain ⟨its1,rv1,p1,hz1⟩:=I1.list q1;obtain ⟨its2,rv2,p2,hz2⟩:=I1.list q2;have a1:l1 < s1.heap.objs.size:=by obtain ⟨_,_,e,_⟩:=p1; exact Zt e
   have a2:l2 < s1.heap.objs.size:=by obtain ⟨_,_,e,_⟩:=p2; exact Zt e
   refine call_zip_2 p1.isList p2.isList λ h' hz hTI hTO hi1 hi2 hsz hk=>?_
   refine wpAny_pyIter_zip hz ?_
   refine ⟨_,[s1.heap.objs.size+4,s1.heap.objs.size+2,s1.heap.objs.size+3,s1.heap.objs.size,s1.heap.objs.size+1],_,_,H1,rfl,I1.kept hk,CW (zipApart_new a1 a2),⟨hz,hTI,⟨_,_,hTO⟩,hi1,hi2⟩,λ b hb=>?_,q⟩
   have hb':s1.heap.objs.size<=b:=by
    simp only [Zd,Zq,Z9] at hb;rcases hb with rfl | rfl | rfl | rfl | rfl
    · exact Xd _ 4
    · exact Xd _ 2
    · exact Xd _ 3
    · exact Zo _
    · exact Xd _ 1
   exact I1.wq hb' (I1.hok.fresh hb')
def zp (as bs:List D):List D:=(as.zip bs).map λ p=>D.tup [p.1,p.2]
theorem HN {K:W.Frag} {a b:Addr} {xs ys:List V} {Hs:Hp} {as bs:List D} (h1:SqL K Hs a xs) (r1:Rps K Hs xs as) (h2:SqL K Hs b ys) (r2:Rps K Hs ys bs):ItR K (Itz K a b) Hs (zp as bs):=λ Hs1 H g1 g2=>by
 have hq1:=g2.seq (g1.seq h1);have hq2:=g2.seq (g1.seq h2);have l1:=r1.length;have l2:=r2.length;refine ⟨λ i d e=>?_,λ i hi=>⟨xs,ys,hq1,hq2,?_⟩⟩
 ·unfold zp at e
  rw [List.getElem?_map] at e;obtain ⟨p,ep,ed⟩:=Zm e;obtain ⟨ea,eb⟩:=List.getElem?_zip_eq_some.mp ep;obtain ⟨x,hx,rx⟩:=r1.get ea;obtain ⟨y,hy,ry⟩:=r2.get eb;subst ed;refine ⟨⟨xs,ys,x,y,hq1,hq2,hx,hy⟩,λ v H' ⟨T,vx,vy,e1,hn,e2,f1,f2⟩=>?_⟩;subst e1 e2;have ex:=f1 xs hq1;have ey:=f2 ys hq2;rw [hx] at ex;rw [hy] at ey;cases ex;cases ey;have g:=Ext.new g2 hn (.tup [x,y]);exact ⟨_,g,.tup (SqT.of aC) (.cons ((rx.same g1).same g.ss) (.cons ((ry.same g1).same g.ss) .nil))⟩
 ·have hl:(zp as bs).length=min as.length bs.length:=by simp [zp]
  rw [hl] at hi;rcases Nat.le_total as.length bs.length with q | q
  · exact .inl (by omega)
  · exact .inr (by omega)
def HU (f:DA):DI:=λ τ=>(f τ).bind λ ds=>match ds with | [.lst as,.lst bs]=>some (zp as bs) | _=>none
structure me (X:Cx) (scope:Scope) (cl:List (Str×Addr)) (x x2:Str) (cs:List (Str×Nat)):Prop where
 one:dA X scope cl x cs
 RK:scope.names.lookup x2=some .local
 nd2:(x::x2::cs.map (·.1)).Nodup
section
variable {X:Cx} {ac:List (Addr×Obj)} {σ:St} {H:Hp} {s:Shared} {scope:Scope} {cl:List (Str×Addr)} {x x2:Str} {cs:List (Str×Nat)} {fp:List Addr} {C:Addr} {h':Heap} {t':Nat}
def wL (O:me X scope cl x x2 cs) (I:Inv X ac σ H s) (f2:∀ b ∈ fp,rE X ac H b) (there:∀ b ∈ fp,b < s.heap.objs.size) (hC:s.heap.objs.size<=C)
  (old:∀ b o,s.heap.get? b=some o->h'.get? b=some o) (hn:h'.Ns C λ _=>none):Inv (bI X scope cl (x::x2::cs.map (·.1)) s H fp C) [] (none::none::aK σ cs) H { s with heap:=h',toks:=t' }:=by
 refine ⟨⟨I.ok.mod,O.one.kind,I.ok.glob,I.ok.blt,hC,λ y z c h1 h2=>I.ok.inj y z c (O.one.sub y c h1) (O.one.sub z c h2),λ y hy=>O.one.has y hy,λ _ _ h=>absurd (h) Zf,I.ok.hd,I.ok.frames,.inl rfl,
    λ b hb=>⟨Z1 (Zl (there b hb) hC),λ y c e=>(f2 b hb).2.2.2.2.1 y c (O.one.sub y c e)⟩,I.bs,Zs I.ok.bsz I.sz,λ b o e hb=>?_,λ b hb z=>?_,I.stack,I.jT⟩,
  rfl,I.bare,Un.kept old,⟨_,hn,λ i y v e1 e2 e3=>?_⟩,λ y c e=>?_,I.hok.fresh hC,λ y c e=>I.iH y c (O.one.sub y c e),λ p hp=>absurd (show p ∈ ([]:List (Addr×Obj)) from hp) (by simp),I.hok.kept old,?_⟩
 ·rcases (f2 b hb).2.2.2.1 with z | z
  · exact I.ok.E6 b o e z
  · exact absurd (Zl (Zt e) (Zs I.ok.bsz z)) (Yo _)
 · exact (Zd.mp (I.eW b z)).elim (f2 b hb).2.1 (f2 b hb).2.2.1
 ·cases i with
  | zero=>simp at e2
  | succ j=>cases j with
   | zero=>simp at e2
   | succ j=>
    have e1':(cs.map (·.1))[j]?=some y:=by simpa [bI] using e1
    have e2':(aK σ cs)[j]?=some (some v):=by simpa using e2
    unfold aK at e2';rw [List.getElem?_map] at e1' e2'
    cases q:cs[j]? with
    | none=>rw [q] at e1'; cases e1'
    | some p=>
     rw [q] at e1' e2';have ey:p.1=y:=by simpa using e1'
     have ev:(σ[p.2]?).join=some v:=by simpa using e2'
     have ev':σ[p.2]?=some (some v):=by
      cases z:σ[p.2]? with
      | none=>rw [z] at ev; cases ev
      | some o=>rw [z] at ev; exact Z8 some ev
     obtain ⟨c1,c2,c3⟩:=O.one.NU p (List.mem_of_getElem? q);subst ey;obtain ⟨m,hm,hl⟩:=I.loc
     obtain ⟨u,ru,lk⟩:=hl p.2 p.1 v c1 ev' (by
      rcases c2 with c2 | c2
      · exact .inr (.inl c2)
      · exact .inr (.inr c2))
     obtain ⟨c',ec'⟩:=O.one.has p.1 c3;refine ⟨u,ru,.inr ⟨c3,c',ec',?_⟩⟩;rcases lk with ⟨k,_⟩ | ⟨_,c,ec,o,ho,hd⟩
     ·rcases c2 with c2 | c2
      · rw [c2] at k; cases k
      · rw [c2] at k; cases k
     ·have:=O.one.sub p.1 c' ec'
      rw [ec] at this;cases this;exact ⟨o,old _ o ho,hd⟩
 ·obtain ⟨v,o,ho,hd⟩:=I.cell y c (O.one.sub y c e)
  exact ⟨v,o,old c o ho,hd⟩
 · simp [bI,aK]
end
def pairD (g:DE) (τ:List Sl) (cs:List (Str×Nat)):D->Option D
 | .tup [a,b]=>g (.shr a::.shr b::fe τ cs)
 | _=>none
def zW (j:Nat) (f g:DE):DS:=λ τ=>(f τ).bind λ v=>(g τ).bind λ y=>match y,τ[j]? with
 | .int k,some (.own (.lst ds))=>(ixN ds.length k).map λ n=>.next (τ.set j (.own (.lst (ds.set n v))))
 | _,_=>none
structure Bx (p:Prop):Prop where
 out:p
def Ite (K:W.Frag) (l:Addr):It where
 go:=λ i H=>∃ xs x,SqL K H l xs/\xs[i]?=some x
 yld:=λ i H v H'=>∃ T x,v=.ref T/\H T=none/\H'=upd H T (.tup [.int (i:Int),x])/\∀ xs,SqL K H l xs->xs[i]?=some x
 stop:=λ i H=>∃ xs,SqL K H l xs/\xs.length<=i
def ESt (e it l:Addr) (i:Nat) (h:Heap):Prop:=(∃ old,IsEnum h e it ((i:Nat):Int) old)/\h.IsListIter it l i
def zI {P:Program} {w:World} {K:W.Frag} {elts:List Expr} {k:Nat} {pos:Pos} {e it l:Addr} (ne:e≠it):Turn P w K (.Tuple elts k pos) (Ite K l) [e,it] e (ESt e it l) where
 mem:=by simp
 obj:=λ i h st b hb=>by
  obtain ⟨⟨old,s1⟩,⟨o4,e4,c4,d4⟩⟩:=st;simp only [Zd,Zq,Z9] at hb;rcases hb with rfl | rfl
  · exact ⟨_,s1,λ v z=>by cases z⟩
  · exact ⟨o4,e4,λ v z=>by rw [d4] at z; cases z⟩
 keep:=λ i h h' st k=>by
  obtain ⟨⟨old,s1⟩,s4⟩:=st;exact ⟨⟨old,k _ (by simp) _ s1⟩,s4.at λ o e=>k _ (by simp) o e⟩
 item:=by
  intro X hP hw hK hc i ac s σ H E I hf st hg;subst hP hw hK;obtain ⟨xs,x,hq,hx⟩:=hg;obtain ⟨its,rv,p,hz⟩:=I.list hq;obtain ⟨u,hu,ru⟩:=rv.get hx;obtain ⟨⟨old,s1⟩,s4⟩:=st;refine wpAny_pyNext_enum_item s1 s4 p.isList (by simpa using hu) ne λ h' a1 a2 a3 a4 hk=>?_
  have hk':∀ b o,b ∉ [e,it]->s.heap.get? b=some o->h'.get? b=some o:=λ b o hb e'=>hk b o (λ q=>hb (by simp [q])) (λ q=>hb (by simp [q])) e'
  have I1:Inv X ac σ (upd H s.heap.objs.size (.tup [.int (i:Int),x])) { s with heap:=h',toks:=s.toks+1 }:=I.rL hf hk' (Zo _) ⟨by show 2<=sizeLine; decide,[.int i s.toks,u],.cons ⟨_,rfl⟩ (.cons ru .nil),_,a3,rfl,_,rfl⟩;have hn:=I.hok.fresh (Zo _);refine ⟨.ref s.heap.objs.size,rfl,X8 a1 λ h2 hz2 sb=>?_⟩
  have neT:∀ b ∈ [e,it],b≠s.heap.objs.size:=λ b hb q=>by
   have lt:∃ o,s.heap.get? b=some o:=by
    obtain ⟨o4,e4,_⟩:=s4;simp only [Zd,Zq,Z9] at hb;rcases hb with rfl | rfl
    · exact ⟨_,s1⟩
    · exact ⟨_,e4⟩
   obtain ⟨o,e'⟩:=lt;rw [q] at e';exact absurd (Zt e') (Yo _)
  obtain ⟨f0,f1,f2,f3,f4,f5⟩:=hf e (by simp);have I2:=I1.turned (t':=s.toks+1) (λ b o hb e'=>(sb.2 b hb).trans e') (by rw [aF (neT e (by simp))]; exact f0) f1 f3 f4 f5;refine ⟨.ref s.heap.objs.size,_,I2,rfl,⟨s.heap.objs.size,x,rfl,hn,rfl,λ zs hz=>by rw [I.nR hz hq]; exact hx⟩,?_,λ b hb=>by rw [aF (neT b hb)]; exact (hf b hb).1⟩;exact ⟨⟨_,hz2⟩,a2.extBut sb.extBut (Ne.symm ne)⟩
 done:=by
  intro X hP hw hK hc i ac s σ H E I hf st hg;subst hP hw hK;obtain ⟨xs,hq,hx⟩:=hg;obtain ⟨its,rv,p,hz⟩:=I.list hq;obtain ⟨⟨old,s1⟩,s4⟩:=st;have l1:=rv.length;refine wpAny_pyNext_enum_end (I.ok.hd hc) s1 s4 p.isList (by simp; omega) λ h' eb=>⟨rfl,?_⟩
  obtain ⟨f0,f1,f2,f3,f4,f5⟩:=hf it (by simp);exact I.turned (λ b o hb e=>eb b o hb e) f0 f1 f3 f4 f5
 self:=λ _ _ _ _ _ st h=>by
  obtain ⟨⟨old,s1⟩,s4⟩:=st;exact Xk s1 h
def p6:bootBuiltins "enumerate"=some (.type "enumerate"):=by rfl
def Q0 (K:W.Frag) (ta:TA):TI:=λ σ H R=>ta σ H λ vs H1=>∃ l xs,vs=[.ref l]/\SqL K H1 l xs/\R (Ite K l) H1
def GW {X:Cx} {a:Expr} {ta:TA} {elts:List Expr} {k:Nat} {pt p pos:Pos} (hg:Gl X "enumerate") (hm:X.mg "enumerate"=none) (ha:PA X [a] ta) (hs:starEach [a] X.env=[(false,eval a X.env)]:=by rfl):PI X (.Tuple elts k pt) (.Call (.Name "enumerate" p) [a] [] pos) (Q0 X.K ta):=by
 intro ac s σ H R I h;refine Call_ (mE I hg hm p6 (Yr (thn (ha pos ac s σ H _ I h) λ us s1 ⟨vs,H1,I1,r1,q1⟩=>?_) (by rw [hs]; rfl) (by rfl)));obtain ⟨l,xs,e,q1,q⟩:=q1;subst e
 cases r1 with
 | cons r rr=>
  cases rr;cases r;obtain ⟨its1,rv1,p1,hz1⟩:=I1.list q1;refine call_enumerate_list p1.isList λ h' hE hI hsz hk=>?_
  refine Xk hE ?_
  refine ⟨_,[s1.heap.objs.size+1,s1.heap.objs.size],_,_,H1,rfl,I1.kept hk,zI (Nat.succ_ne_self _),⟨⟨_,hE⟩,hI⟩,λ b hb=>?_,q⟩
  have hb':s1.heap.objs.size<=b:=by
   simp only [Zd,Zq,Z9] at hb;rcases hb with rfl | rfl
   · exact Xd _ 1
   · exact Zo _
  exact I1.wq hb' (I1.hok.fresh hb')
def c7 (ds:List D):List D:=ds.mapIdx λ i d=>D.tup [.int (i:Int),d]
theorem xM {K:W.Frag} {a:Addr} {xs:List V} {Hs:Hp} {as:List D} (h1:SqL K Hs a xs) (r1:Rps K Hs xs as):ItR K (Ite K a) Hs (c7 as):=λ Hs1 H g1 g2=>by
 have hq1:=g2.seq (g1.seq h1);have l1:=r1.length;refine ⟨λ i d e=>?_,λ i hi=>⟨xs,hq1,?_⟩⟩
 ·unfold c7 at e
  rw [List.getElem?_mapIdx] at e;obtain ⟨p,ea,ed⟩:=Zm e;obtain ⟨x,hx,rx⟩:=r1.get ea;subst ed;refine ⟨⟨xs,x,hq1,hx⟩,λ v H' ⟨T,vx,e1,hn,e2,f1⟩=>?_⟩;subst e1 e2;have ex:=f1 xs hq1;rw [hx] at ex;cases ex;have g:=Ext.new g2 hn (.tup [.int (i:Int),x]);exact ⟨_,g,.tup (SqT.of aC) (.cons (.int _) (.cons ((rx.same g1).same g.ss) .nil))⟩
 ·have hl:(c7 as).length=as.length:=by simp [c7]
  omega
def FQ (f:DA):DI:=λ τ=>(f τ).bind λ ds=>match ds with | [.lst as]=>some (c7 as) | [.fz as]=>some (c7 as) | _=>none
section
variable {X:Cx} {a b e o:Expr} {es:List Expr} {pos ap bv:Pos} {f g:DE}
def JL:SlR X (λ x lo hi H Q=>∃ z,x=.str z/\z.length<=sizeLine/\Q (.str (Txt.slice z lo hi)) H):=by
 intro ac s σ H x v vl vu lo hi sl Q I rx hs pl pu h;obtain ⟨z,rfl,hz,q⟩:=h;obtain ⟨t,rfl⟩:=rx;have fin:∀ t' k,EP X ac σ Q (.str (Txt.slice z lo hi) t') { s with toks:=k }:=λ t' k=>⟨.str _,H,I.tok k,⟨_,rfl⟩,q⟩
 refine ⟨"str",_,PySem.F.slot_str_getitem.lookup,typeIs_str s z t,?_⟩
 cases pl with
 | none=>cases pu with
  | none=>exact Xu (l:=none) (u:=none) (st:=none) hs rfl (post_val_or_str ⟨Zs (Ym z _ _) hz,fin⟩)
  | int j t2=>exact Xu (l:=none) (u:=some (j,t2)) (st:=none) hs rfl (post_val_or_str ⟨Zs (Ym z _ _) hz,fin⟩)
 | int i t1=>cases pu with
  | none=>exact Xu (l:=some (i,t1)) (u:=none) (st:=none) hs rfl (post_val_or_str ⟨Zs (Ym z _ _) hz,fin⟩)
  | int j t2=>exact Xu (l:=some (i,t1)) (u:=some (j,t2)) (st:=none) hs rfl (post_val_or_str ⟨Zs (Ym z _ _) hz,fin⟩)
def RO:D->Option Int->Option Int->Option D
 | .str z,l,u=>if z.length<=100000 then some (.str (Txt.slice z l u)) else none
 | _,_,_=>none
def qJ (f:DE) (l u:DO):DE:=λ τ=>(f τ).bind λ x=>(l τ).bind λ l'=>(u τ).bind λ u'=>RO x l' u'
def yw:List D->Option (List Str)
 | []=>some []
 | .str x::ds=>(yw ds).map (x::·)
 | _::_=>none
theorem tK:∀ {ds:List D} {ts:List Str},yw ds=some ts->ds=ts.map .str
 | [],ts,h=>by cases h; rfl
 | .str x::ds,ts,h=>by
  obtain ⟨us,e,rfl⟩:=Zm h;rw [tK e]; rfl
theorem Rps.oh {K:W.Frag} {H:Hp}:∀ {ts:List Str} {xs:List V},Rps K H xs (ts.map D.str)->xs=ts.map V.str
 | [],_,.nil=>rfl
 | x::ts,_,.cons h r=>by
  cases h;rw [Rps.oh r]; rfl
def Ec (f g:DE):DE:=λ τ=>(f τ).bind λ x=>(g τ).bind λ y=>match x,y with
 | .str z,.lst ds=>(yw ds).bind λ ts=>if (ts.map (·.length)).sum+ts.length * z.length<=100000 then some (.str (Txt.join z ts)) else none
 | _,_=>none
end
def chD (z:Str):List D:=z.cps.toList.map λ c=>D.str ⟨#[c]⟩
def D1 (f:DE):DI:=λ τ=>(f τ).bind λ d=>match d with | .str z=>some (chD z) | _=>none
def HQ {K:W.Frag} {z:Str} {Hs:Hp}:ItR K (Its z) Hs (chD z):=λ Hs1 H g1 g2=>by
 refine ⟨λ i d e=>?_,λ i hi=>?_⟩
 ·unfold chD at e
  rw [List.getElem?_map] at e
  cases q:z.cps.toList[i]? with
  | none=>rw [q] at e; cases e
  | some c=>
   rw [q] at e;have ed:=Zj e;subst ed
   have hi:i < z.cps.size:=by
    have:=(List.getElem?_eq_some_iff.mp q).1
    simpa using this
   have q':z.cps[i]?=some c:=by rw [<- Array.getElem?_toList]; exact q
   refine ⟨hi,?_⟩
   rintro x H' ⟨rfl,c',hc,rfl⟩
   rw [q'] at hc;cases hc;exact ⟨Hs1,.refl g2,.str _⟩
 ·show z.cps.size<=i
  unfold chD at hi;rw [Zk] at hi
  simpa using hi
section
variable {X:Cx} {tg l:Expr} {f g:DE}
def O8:D->D->Option D
 | .str i,.str j=>some (.bl (!decide (j.cps.toList < i.cps.toList)))
 | _,_=>none
def DD:OpR X (compareOp .LtE) (rdR X.K O8):=AA.imp λ x y H Q ⟨Hs,dx,dy,d,sm,rx,ry,e,k⟩=>by
 unfold O8 at e;split at e
 ·cases rx
  cases ry;have e':=Zj e;subst e';exact ⟨_,_,rfl,rfl,k _ Hs H (.refl sm) (.bl _)⟩
 · cases e
def Es:List D->Option (List Bool)
 | []=>some []
 | .bl b::ds=>(Es ds).map (b::·)
 | _::_=>none
theorem gJ:∀ {ds:List D} {bs:List Bool},Es ds=some bs->ds=bs.map .bl
 | [],_,e=>by cases e; rfl
 | .bl b::ds,_,e=>by
  obtain ⟨bs,e1,rfl⟩:=Zm (show (Es ds).map _=_ from e);rw [gJ e1]; rfl
theorem Rps.F4 {K:W.Frag} {H:Hp}:∀ {bs:List Bool} {xs:List V},Rps K H xs (bs.map D.bl)->xs=bs.map V.bl
 | [],_,.nil=>rfl
 | b::bs,_,.cons h r=>by
  cases h;rw [Rps.F4 r]; rfl
def TK:List D->Option D
 | [.lst ds]=>(Es ds).map λ bs=>.bl (bs.all id)
 | _=>none
def Mh (hc:X.calm=true):eI X (.builtin "all") (rdL X.K TK):=(Ek hc).imp λ xs H Q ⟨Hs,ds,d,sm,r,e,k⟩=>by
 match ds,r,e with
 | [x],.cons hx .nil,e=>
  cases hx with
  | @lst a ys ds h r=>
   obtain ⟨bs,e1,e2⟩:=Zm (e);have ed:=gJ e1;subst ed;have ey:=r.F4;subst ey;subst e2;exact ⟨a,bs,rfl,SqL.of (sm _ _ h),k _ Hs H (.refl sm) (.bl _)⟩
  | _=>exact nn e
 | [],_,e=>exact nn e
 | x::y::_,_,e=>cases x <;> exact nn e
def occ (x y:Str):Bool:=!(Builtin.Str.occurrences x y 0 x.length 1).isEmpty
def He:D->D->Option D
 | .str i,.str j=>some (.bl (occ j i))
 | _,_=>none
def DF:OpR X (compareOp .In) (rdR X.K He):=AB.imp λ x y H Q ⟨Hs,dx,dy,d,sm,rx,ry,e,k⟩=>by
 cases rx with
 | str i=>cases ry with
  | str j=>
   have e':=Zj e;subst e';exact ⟨i,j,rfl,rfl,k _ Hs H (.refl sm) (.bl _)⟩
  | _=>exact nn e
 | _=>cases dy <;> exact nn e
end
section
variable {prog:Program} {w:World} {A:Around} {E:Value->Shared->Prop} {s:Shared}
def Ei {t b:Addr} {vs ws:List Value} {Q:Value->Shared->Prop} (ht:IsTup s.heap t vs.toArray) (hb:IsTup s.heap b ws.toArray) (hv:vs=[]) (h1:Q (.ref b) s):wpAny (model prog w) A (binaryOp .Add (.ref t) (.ref b)) Q E s:=by
 obtain ⟨⟨cls,dd,data,sl⟩,ho,hc,n,hd⟩:=id ht;obtain ⟨⟨cls2,dd2,data2,sl2⟩,ho2,hc2,n2,hd2⟩:=id hb;subst hc hd hc2 hd2
 exact concat_meets ⟨_,ho,rfl⟩ ⟨_,ho2,rfl⟩ noFill_tuple_add seq_tuple_add PySem.F.slot_tuple_add PySem.F.entry_tuple_add (PySem.F.args_tuple_add_2 _ _)
  (tuple_addW0 t b vs.toArray ws.toArray n n2 dd dd2 sl sl2 (by simp [hv])) ⟨ho,ho2,h1⟩
end
section
variable {X:Cx} {tg l a e i o:Expr} {pos:Pos} {f g h:DE}
def Dz:OpR X (binaryOp .Add) (λ x y H Q=>∃ a b ys,x=.ref a/\y=.ref b/\SqT X.K H a []/\SqT X.K H b ys/\Q (.ref b) H):=by
 intro ac s σ H x y v u Q I rx ry h;obtain ⟨a,b,ys,rfl,rfl,ha,hb,q⟩:=h;cases rx;cases ry;obtain ⟨its,r1,p1,_⟩:=I.tuple ha;obtain ⟨its2,r2,p2,_⟩:=I.tuple hb;cases r1;exact Ei p1 p2 rfl ⟨.ref b,H,I,rfl,q⟩
def Hg:D->D->Option D
 | .tup xs,.tup ys=>if xs.length+ys.length<=100000 then some (.tup (xs++ys)) else none
 | _,_=>none
def AI:OpR X (binaryOp .Add) (rdR X.K Hg):=(G9.or Dz).imp λ x y H Q ⟨Hs,dx,dy,d,sm,rx,ry,e,k⟩=>by
 cases rx with
 | @tup a xs ds h r=>cases ry with
  | @tup b ys es h' r'=>
   unfold Hg at e;simp only at e;split at e
   ·rename_i hl
    have e':=Zj e;subst e'
    cases r with
    | nil=>exact .inr ⟨a,b,ys,rfl,rfl,sm.tup h,sm.tup h',k _ Hs H (.refl sm) (.tup h' r')⟩
    | @cons x0 d0 xs0 ds0 hx rx=>
     refine .inl ⟨a,b,_,ys,rfl,rfl,sm.tup h,sm.tup h',by simp,?_,λ hy=>?_,λ hy p hp=>?_⟩
     ·rw [r'.length,Zi,rx.length]
      exact Zs hl (by decide)
     ·subst hy
      cases r';rw [Yd] at k;exact k _ Hs H (.refl sm) (.tup h (.cons hx rx))
     ·have g:=Ext.new sm hp (.tup (x0::xs0++ys))
      exact k _ _ _ g (.tup (SqT.of aC) (((Rps.cons hx rx).same g.ss).append (r'.same g.ss)))
   · cases e
  | _=>exact nn e
 | _=>cases dy <;> exact nn e
end
theorem ip.Jr (r:ip k A):A.units+100 < cLine:=by have:=r.un; omega
section
variable {X:Cx} {tg l a b c e i o:Expr} {pos:Pos} {f g h:DE}
open Classical in
theorem Kt (hu:X.A.units+100 < cLine):OpR X (compareOp .In) (λ x y H Q=>∃ p xs ds d,y=.ref p/\SqT X.K H p xs/\zm X.K H xs ds/\RdD X.K H x d/\(∀ z ∈ ds,PySem.W.kqdOk 9 z=true)/\PySem.W.kqdOk 9 d=true/\Q (.bl (ds.any λ z=>eqD z d)) H):=by
 intro ac s σ H x y v u Q I rx ry h;obtain ⟨p,xs,ds,d,rfl,hq,rs,rd,ks,kd,q⟩:=h;cases ry;obtain ⟨its,r,pl,hz⟩:=I.tuple hq;obtain ⟨as,ra⟩:=rd.reads I rx;have hu1:X.A.in1.units+64 < cLine:=by show X.A.units+1+64 < cLine; omega
 let e:Value->Bool:=λ w=>decide (∃ z cs,PySem.W.kqdOk 9 z=true/\Reads s.heap w (PySem.W.kqdP z) cs/\eqD z d=true)
 have one:∀ {w:Value} {z:PySem.W.Dat} {cs:List Addr},PySem.W.kqdOk 9 z=true->Reads s.heap w (PySem.W.kqdP z) cs->e w=eqD z d:=λ {w z cs} kz rz=>by
  by_cases hb:eqD z d=true
  ·rw [hb]
   exact Ze ⟨z,cs,kz,rz,hb⟩
  ·rw [Bool.not_eq_true] at hb
   rw [hb];refine Zc λ ⟨z',cs',kz',rz',hb'⟩=>?_
   have un:=SeqAt.Reads.unique _ _ w cs cs' (SeqAt.canLay_of_shaped (cV kz)) rz rz';have e1:=pN kz kd;have e2:=pN kz' kd;rw [un] at e1;rw [e1] at e2;have:eqD z d=eqD z' d:=e2;rw [hb,hb'] at this;cases this
 have all:∀ {vs:List V} {zs:List PySem.W.Dat} {us:List Value},zm X.K H vs zs->cu vs us->(∀ z ∈ zs,PySem.W.kqdOk 9 z=true)->(∀ w ∈ us,SeqAt.EqAt X.A.in1 s w v (e w))/\us.any e=zs.any λ z=>eqD z d:=λ {vs zs us} h1=>by
  induction vs generalizing zs us with
  | nil=>
   intro h2 _;cases h1;cases h2;exact ⟨(λ w hw=>nomatch hw),rfl⟩
  | cons v0 vs ih=>
   intro h2 h3
   cases h1 with
   | @cons _ z0 _ zs0 hz0 rz0=>
    cases h2 with
    | @cons _ u0 _ us0 hu0 ru0=>
     obtain ⟨cs,rc⟩:=hz0.reads I hu0;have k0:=h3 z0 (Zp ..);have ee:=one k0 rc;obtain ⟨i1,i2⟩:=ih rz0 ru0 (λ z hz=>h3 z (Za _ hz));refine ⟨λ w hw=>?_,?_⟩
     ·rcases Zd.mp hw with rfl | hw
      ·rw [ee]
       have q1:=SeqAt.eqAt_reads _ _ X.A.in1 s w v cs as rc ra (SeqAt.canLay_of_shaped (cV k0)) (SeqAt.canLay_of_shaped (cV kd)) (SeqAt.room_of_shaped (cV k0) hu1);rw [pN k0 kd] at q1;exact q1
      · exact i1 w hw
     · rw [Y2,Y2,ee,i2]
 obtain ⟨a1,a2⟩:=all rs r ks;refine SeqAt.in_tupleAt e pl (λ w hw=>a1 w (by simpa using hw)) ⟨.bl _,H,I,rfl,?_⟩;rw [show its.toArray.any e=its.any e by simp,a2];exact q
def IV:D->D->Option D
 | x,.tup ys=>if okD 9 x=true/\mv 9 ys=true then some (.bl (ys.any λ y=>eqB y x)) else none
 | _,_=>none
theorem uW:∀ {ys:List D} {x:D},mv 9 ys=true->okD 9 x=true->((gG ys).any λ z=>eqD z (lA x))=ys.any λ y=>eqB y x
 | [],_,_,_=>rfl
 | y::ys,x,h,hx=>by
  simp only [mv,Zg] at h;rw [gG,Y2,Y2,uW h.2 hx,sN h.1 hx]
theorem AG:∀ {ys:List D},mv 9 ys=true->∀ z ∈ gG ys,PySem.W.kqdOk 9 z=true
 | [],_,z,hz=>by cases hz
 | y::ys,h,z,hz=>by
  simp only [mv,Zg] at h;rw [gG] at hz;rcases Zd.mp hz with rfl | hz
  · exact jX 9 y h.1
  · exact AG h.2 z hz
def O3 (hu:X.A.units+100 < cLine):OpR X (compareOp .In) (rdR X.K IV):=(Kt hu).imp λ x y H Q ⟨Hs,dx,dy,d,sm,rx,ry,e,k⟩=>by
 cases ry with
 | @tup p xs ds h r=>
  unfold IV at e;simp only at e;split at e
  ·rename_i hk
   have e':=Zj e;subst e';refine ⟨p,xs,gG ds,lA dx,rfl,sm.tup h,(Rps.rdD 9 (r.same sm) hk.2),(Rp.rdD 9 (rx.same sm) hk.1),AG hk.2,jX 9 dx hk.1,?_⟩;rw [uW hk.2 hk.1];exact k _ Hs H (.refl sm) (.bl _)
  · cases e
 | _=>exact nn e
def Gk (r r' r'':R2) (ta tb tc td:TE):TE:=λ σ H Q=>ta σ H λ x H1=>tb σ H1 λ y H2=>r x y H2 λ z H3=>∃ k,z=.bl k/\(if k=true then tc σ H3 λ w' H4=>r' y w' H4 λ z' H5=>∃ k',z'=.bl k'/\(if k'=true then td σ H5 λ w2 H6=>r'' w' w2 H6 Q else Q (.bl false) H5) else Q (.bl false) H3)
variable {dd:Expr} {kk:DE}
def Al (ho:OpR X (compareOp op) r) (ho':OpR X (compareOp op') r') (ho'':OpR X (compareOp op'') r'') (ha:PE X a ta) (hb:PE X b tb) (hc:PE X c tc) (hd:PE X dd td)
  (hm:lastMarks [op,op',op''] [b,c,dd]=false:=by with_unfolding_all rfl):PE X (.Compare a [op,op',op''] [b,c,dd] pos) (Gk r r' r'' ta tb tc td):=by
 intro ac s σ H Q I h
 refine Compare_chain (thn (ha ac s σ H _ I h) λ v s1 ⟨x,H1,I1,r1,q1⟩=>chain_link (thn (hb ac s1 σ H1 _ I1 q1) λ u s2 ⟨y,H2,I2,r2,q2⟩=>
  thn (ho ac s2 σ H2 x y v u _ I2 r1 r2 q2) λ d s3 ⟨z,H3,I3,r3,k,e,q3⟩=>?_)) hm
 subst e;cases r3;refine Yk ?_
 cases k with
 | false=>exact ite_ff ⟨.bl false,H3,I3,rfl,q3⟩
 | true=>
  refine ite_tt (chain_link (thn (hc ac s3 σ H3 _ I3 q3) λ w' s4 ⟨z',H4,I4,r4,q4⟩=>thn (ho' ac s4 σ H4 y z' u w' _ I4 r2 r4 q4) λ d5 s5 ⟨z5,H5,I5,r5,k5,e5,q5⟩=>?_));subst e5;cases r5;refine Yk ?_
  cases k5 with
  | false=>exact ite_ff ⟨.bl false,H5,I5,rfl,q5⟩
  | true=>exact ite_tt (chain_last (thn (hd ac s5 σ H5 _ I5 q5) λ w2 s6 ⟨z6,H6,I6,r6,q6⟩=>ho'' ac s6 σ H6 z' z6 w' w2 Q I6 r4 r6 q6))
def JD (P:Program) (w:World) (K:W.Frag) (td ty tx:TE):TE:=λ σ H Q=>td σ H λ x H1=>∃ a am,x=.ref a/\KDv P w K a am/\(a == sysModules)=false/\(∃ ob,K.lookup a=some ob/\ob.dict=none)/\ty σ H1 λ y H2=>∃ k,y=kV k/\tx σ H2 λ z H3=>Q ((qu am k).getD z) H3
def Dr (ho:PE X o td) (he:PE X ee ty) (hf:PE X ff tx) (m:M2 X o "get" ap ee ff bv):PE X (.Call (.Attribute o "get" ap) [ee,ff] [] bv) (JD X.prog X.w X.K td ty tx):=by
 intro ac s σ H Q I h;refine wpAny_Call_method m.base m.few m.line PySem.F.plainAttrs_dict Xf PySem.F.type_dict_get (thn (ho ac s σ H _ I h) λ u s1 ⟨x,H1,I1,rx,a,am,ex,hK,hd,⟨ob0,hl0,hn0⟩,q1⟩=>?_);subst ex;obtain rfl:u=Value.ref a:=rx;obtain ⟨ob,es,ep,vs,hl,hx,hdd,hk,hp,hn,rel⟩:=hK;have d1:s1.heap.DictOf (bN X.prog X.w) a vs:=⟨ob,es,ep,I1.kIn _ _ hl,hx,hdd,hk,hp,hn⟩
 refine ⟨d1.typeIs,λ a' e=>?_,?_⟩
 ·cases e
  exact ⟨ob0,I1.kIn _ _ hl0,hn0⟩
 rw [m.trees]
 refine X1 rfl (X7 (Xz (thn (he ac s1 σ H1 _ I1 q1) λ iv s2 ⟨y,H2,I2,ry,key,ey,q2⟩=>
  Xz (thn (hf ac s2 σ H2 _ I2 q2) λ fv s3 ⟨z,H3,I3,rz,q3⟩=>Calls.spliced_nil ?_))))
 subst ey;have d3:s3.heap.DictOf (bN X.prog X.w) a vs:=⟨ob,es,ep,I3.kIn _ _ hl,hx,hdd,hk,hp,hn⟩
 refine call_meetsIn Xf d3.typeIs PySem.F.entry_dict_get (PySem.F.args_dict_get_3 _ _ _) (meets_dict_get_default (bN X.prog X.w) a (wg ry) hd fv) ⟨_,d3.mapOf,?_⟩;exact ⟨_,H3,I3.tok _,(rel.val key).getD rz,q3⟩
def B0 (ds:List (Key×D)) (f g:DE):DE:=λ τ=>(f τ).bind λ y=>(g τ).bind λ z=>(sU y).map λ k=>(gX ds k).getD z
structure KD2 (w:World) (K:W.Frag) (a:Addr) (ds:List (Key×D)):Prop where
 kd:KD w K a ds
 ns:(a == sysModules)=false
 no:∃ ob,K.lookup a=some ob/\ob.dict=none
end
section
variable {X:Cx} {o e a b c:Expr} {f g h:DE} {ap bv pos:Pos}
def KC:D->Option D
 | .int n=>if n.natAbs.log2 < 1920 then some (.str (Str.ofString (toString n))) else none
 | _=>none
def OJ (he:PE X e te):PE X (.FormattedValue e (-1) none pos) (λ σ H Q=>te σ H λ x H1=>∃ i:Int,x=.int i/\i.natAbs.log2 < 1920/\Q (.str (Str.ofString (toString i))) H1):=by
 intro ac s σ H Q I h;refine FormattedValue_plain (thn (he ac s σ H _ I h) λ v s1 ⟨x,H1,I1,r1,i,e1,hl,q⟩=>?_);subst e1;obtain ⟨t,rfl⟩:=r1;exact formatField_int_small hl ⟨.str _,H1,I1.tok _,⟨_,rfl⟩,q⟩
def OH (he:PE X e te):PE X (.JoinedStr [e] pos) te:=λ ac s σ H Q I h=>JoinedStr_one (he ac s σ H Q I h)
def BJ (x:Str):Str.empty++x=x:=by
 cases x with
 | mk cs=>show Str.mk (#[]++cs)=_; rw [Array.empty_append]
def U1 (x y:Str):(x++y).length=x.length+y.length:=by
 show (x.cps++y.cps).size=_;rw [Array.size_append];rfl
theorem A6 (hi:i.length<=30000) (hj:j.length<=30000) (hk:k.length<=30000):(Str.empty++i).length<=sizeLine/\(Str.empty++i++j).length<=sizeLine/\(Str.empty++i++j++k).length<=sizeLine:=by
 rw [BJ,U1,U1,U1];have h:90000<=sizeLine:=by decide
 omega
def len0:Str.length Str.empty=0:=rfl
theorem OG (ha:PE X a ta) (hb:PE X b tb) (hc:PE X c tc):PE X (.JoinedStr [a,b,c] pos) (λ σ H Q=>ta σ H λ x H1=>∃ i,x=.str i/\i.length<=30000/\tb σ H1 λ y H2=>∃ j,y=.str j/\j.length<=30000/\tc σ H2 λ z H3=>∃ k,z=.str k/\k.length<=30000/\Q (.str (i++j++k)) H3):=by
 intro ac s σ H Q I h;refine wpAny_JoinedStr (Joins_cons (thn (ha ac s σ H _ I h) λ v s1 ⟨x,H1,I1,r1,i,e1,z1,q1⟩=>?_));subst e1;obtain ⟨t1,rfl⟩:=r1;refine ⟨i,t1,rfl,(A6 z1 (by rw [len0]; omega) (by rw [len0]; omega)).1,Joins_cons (thn (hb ac s1 σ H1 _ I1 q1) λ v s2 ⟨y,H2,I2,r2,j,e2,z2,q2⟩=>?_)⟩;subst e2;obtain ⟨t2,rfl⟩:=r2;refine ⟨j,t2,rfl,(A6 z1 z2 (k:=Str.empty) (by rw [len0]; omega)).2.1,Joins_cons (thn (hc ac s2 σ H2 _ I2 q2) λ v s3 ⟨w,H3,I3,r3,k,e3,z3,q3⟩=>?_)⟩;subst e3;obtain ⟨t3,rfl⟩:=r3;have l3:=(A6 z1 z2 z3).2.2;have e0:Str.empty++i++j++k=i++j++k:=by rw [BJ]
 rw [<- e0] at q3;exact ⟨k,t3,rfl,l3,Joins_nil ⟨l3,.str (Str.empty++i++j++k),H3,I3.tok _,⟨_,rfl⟩,q3⟩⟩
def dJ3 (f g h:DE):DE:=λ τ=>(f τ).bind λ x=>(g τ).bind λ y=>(h τ).bind λ z=>match x,y,z with
 | .str i,.str j,.str k=>if i.length<=30000/\j.length<=30000/\k.length<=30000 then some (.str (i++j++k)) else none
 | _,_,_=>none
def HA:MtR X "str.endswith" (λ x xs H Q=>∃ i j:Str,x=.str i/\xs=[.str j]/\Q (.bl (Txt.endswith i j)) H):=by
 intro ac s σ H x xs v us Q I rx rv h;obtain ⟨i,j,rfl,rfl,q⟩:=h;obtain ⟨t,rfl⟩:=rx;obtain ⟨u,rfl,tu,rfl⟩:=vals1 rv;exact SC.endswith ⟨.bl _,H,I,rfl,q⟩
def AQ:D->D->Option D
 | .str i,.str j=>some (.bl (Txt.endswith i j))
 | _,_=>none
theorem kL:∀ (n:Nat) (ts:List Str),cu (ts.map V.str) (strsFrom n ts)
 | _,[]=>.nil
 | n,t::ts=>.cons ⟨n,rfl⟩ (kL (n+1) ts)
theorem split_len (x y:Str) (hx:x.length<=100000):(Txt.split x y).length<=sizeLine:=by
 have z:100003<=sizeLine:=by decide
 unfold Txt.split;split
 · show 1<=sizeLine; omega
 ·split
  · show 1<=sizeLine; omega
  ·rw [PySem.length_partsBetween]
   have:=StrLaws.occ_length_le x y 0 x.length (x.length+1);omega
def DN:MtM X "str.split" (λ x xs H Q=>∃ i j:Str,x=.str i/\xs=[.str j]/\(j.length == 0)=false/\i.length<=100000/\∀ p,H p=none->Q (.ref p) (upd H p (.lst ((Txt.split i j).map V.str)))):=by
 intro ac s σ H x xs v us Q I rx rv h;obtain ⟨i,j,rfl,rfl,hj,hi,q⟩:=h;obtain ⟨t,rfl⟩:=rx;obtain ⟨u,rfl,tu,rfl⟩:=vals1 rv;have hl:=split_len i j hi;have hf:=I.hok.fresh (Zo _)
 have one:Txt.split i j=[i]->listOfItself i t X.A (wants (EP X ac σ Q) X.xe) s:=λ e=>by
  refine ⟨.ref s.heap.objs.size,upd H s.heap.objs.size (.lst [.str i]),I.laid (λ b u e=>Heap.get?_push_of_some _ e) (Zo _) ?_,rfl,?_⟩
  · exact ⟨by show 1<=sizeLine; decide,[.str i t],0,.cons ⟨_,rfl⟩ .nil,Heap.get?_push_size _ rfl⟩
  ·have:=q _ hf
   rw [e] at this;exact this
 by_cases h1:(decide (i.length < j.length)||decide (Builtin.Str.strKind i < Builtin.Str.strKind j))=true
 ·refine Wi F.slot_str_split ?_ F.entry_str_split (F.args_str_split_2 _ _) (meets_str_split_cannot_occur i j t tu h1) (one ?_)
  · rfl
  ·unfold Txt.split
   rw [if_pos h1]
 ·have h1':=Xc.mpr h1
  by_cases h2:(Builtin.Str.occurrences i j 0 i.length (i.length+1)).isEmpty=true
  ·refine Wi F.slot_str_split ?_ F.entry_str_split (F.args_str_split_2 _ _) (meets_str_split_not_found i j t tu h1' hj h2) (one ?_)
   · rfl
   ·unfold Txt.split
    rw [if_neg h1,if_pos h2]
  ·have h2':=Xc.mpr h2
   have e:Txt.split i j=Builtin.Str.partsBetween i (Builtin.Str.occurrences i j 0 i.length (i.length+1)) j.length:=by
    unfold Txt.split;rw [if_neg h1,if_neg h2]
   rw [e] at hl q;refine Wi F.slot_str_split ?_ F.entry_str_split (F.args_str_split_2 _ _) (meets_str_split_sep i j t tu h1' hj h2' (Zs hi (by decide)) hl) ?_
   · rfl
   · exact ⟨.ref s.heap.objs.size,_,I.laid (o:=.lst ((Builtin.Str.partsBetween i (Builtin.Str.occurrences i j 0 i.length (i.length+1)) j.length).map V.str)) (λ b u e=>Heap.get?_push_of_some _ e) (Zo _) ⟨by rw [Zk]; exact hl,_,0,kL s.toks _,Heap.get?_push_size _ rfl⟩,rfl,q _ hf⟩
theorem Rps.rQ {K:W.Frag} {H:Hp}:∀ ts:List Str,Rps K H (ts.map V.str) (ts.map D.str)
 | []=>.nil
 | t::ts=>.cons (.str t) (Rps.rQ ts)
def cW:D->D->Option D
 | .str i,.str j=>if j.length≠0/\i.length<=100000 then some (.lst ((Txt.split i j).map .str)) else none
 | _,_=>none
def Ci:eI X (.type "int") (λ xs H Q=>∃ (x:Str) (n:Int),xs=[.str x]/\intText? x=some n/\x.length<=640/\Q (.int n) H):=by
 intro ac s σ H xs us Q I r h;obtain ⟨x,n,rfl,e,hl,q⟩:=h;obtain ⟨u,rfl,t,rfl⟩:=vals1 r;exact PySem.W.KIN.call_text e hl ⟨.int n,H,I.tok _,⟨_,rfl⟩,q⟩
def DL:List D->Option D
 | [.str x]=>if x.length<=640 then (intText? x).map .int else none
 | _=>none
def yf:eI X (.type "int") (rdL X.K DL):=Ci.imp λ xs H Q ⟨Hs,ds,d,sm,r,e,k⟩=>by
 have sh:∃ x n,ds=[.str x]/\x.length<=640/\intText? x=some n/\d=.int n:=by
  unfold DL at e;split at e
  ·split at e
   ·rename_i hz
    obtain ⟨n,e1,e2⟩:=Zm e;exact ⟨_,n,rfl,hz,e1,e2.symm⟩
   · cases e
  · cases e
 obtain ⟨x,n,rfl,hz,e1,rfl⟩:=sh
 cases r with
 | cons hx rr=>cases rr; cases hx; exact ⟨x,n,rfl,e1,hz,k _ Hs H (.refl sm) (.int _)⟩
def JV (i j:Nat) (g:DA):DS:=λ τ=>(g τ).bind λ ds=>match ds with
 | [d,e]=>some (.next ((τ.set i (.shr d)).set j (.shr e)))
 | _=>none
end
def Rps.dropLast {K:W.Frag} {H:Hp} {xs:List V} {ds:List D} (r:Rps K H xs ds):Rps K H xs.dropLast ds.dropLast:=by
 rw [List.dropLast_eq_take,List.dropLast_eq_take,r.length];exact r.take _
end L2
end
section
namespace L2
open PySem PyProof.Rows
section
variable {X:Cx} {o e:Expr} {f g:DE} {ap bv:Pos}
def gi (i j:Str):List Str:=[(Txt.partition i j).1,(Txt.partition i j).2.1,(Txt.partition i j).2.2]
def Hx:MtM X "str.partition" (λ x xs H Q=>∃ i j:Str,x=.str i/\xs=[.str j]/\(j.length == 0)=false/\i.length<=100000/\∀ p,H p=none->Q (.ref p) (upd H p (.tup ((gi i j).map V.str)))):=by
 intro ac s σ H x xs v us Q I rx rv h;obtain ⟨i,j,rfl,rfl,hj,hi,q⟩:=h;obtain ⟨t,rfl⟩:=rx;obtain ⟨u,rfl,tu,rfl⟩:=vals1 rv;have hf:H s.heap.objs.size=none:=I.hok.fresh (Zo _);have q1:=q _ hf;refine Wi F.slot_str_partition ?_ F.entry_str_partition (F.args_str_partition_2 _ _) (meets_str_partition i j t tu hj (Zs hi (by decide))) ?_
 · rfl
 ·unfold gi Txt.partition at q1
  show wants _ _ _ _
  cases ho:Builtin.Str.occurrences i j 0 i.length 1 with
  | nil=>
   rw [ho] at q1;exact ⟨.ref s.heap.objs.size,_,I.laid (o:=.tup ([i,Str.empty,Str.empty].map V.str)) (λ b u e=>Heap.get?_push_of_some _ e) (Zo _) ⟨Zb rfl,_,.cons ⟨_,rfl⟩ (.cons ⟨_,rfl⟩ (.cons ⟨_,rfl⟩ .nil)),IsTup.new s.heap _⟩,rfl,q1⟩
  | cons k ks=>
   rw [ho] at q1;exact ⟨.ref s.heap.objs.size,_,I.laid (o:=.tup ([Builtin.Str.strSub i 0 k,j,Builtin.Str.strSub i (k+j.length) i.length].map V.str)) (λ b u e=>Heap.get?_push_of_some _ e) (Zo _) ⟨Zb rfl,_,.cons ⟨_,rfl⟩ (.cons ⟨_,rfl⟩ (.cons ⟨_,rfl⟩ .nil)),IsTup.new s.heap _⟩,rfl,q1⟩
def AN:D->D->Option D
 | .str i,.str j=>if j.length≠0/\i.length<=100000 then some (.tup ((gi i j).map .str)) else none
 | _,_=>none
end
end L2
end
section
namespace L2
open PySem PySem.Spec PyProof.Rows
def Rv (z:Str):It where
 go:=λ i _=>i < z.cps.size
 yld:=λ i H v H'=>∃ T c,v=.ref T/\H T=none/\H'=upd H T (.tup [.int (i:Int),.str ⟨#[c]⟩])/\z.cps[i]?=some c
 stop:=λ i _=>z.cps.size<=i
def UW (e it:Addr) (z:Str) (t:Tok) (i:Nat) (h:Heap):Prop:=(∃ old,IsEnum h e it ((i:Nat):Int) old)/\h.IsStrIter it (strIterType z) z t i/\i<=z.cps.size
def uU (hd:A.handled=none) (it:Addr) (z:Str) (t:Tok):Draws prog w A it [it] z.cps.size (λ i v=>∃ c u,z.cps[i]?=some c/\v=.str ⟨#[c]⟩ u) (λ i h=>h.IsStrIter it (strIterType z) z t i):=by
 unfold strIterType;split
 · exact Draws.strAscii hd it z t
 · exact Draws.strWide hd it z t
def yt {P:Program} {w:World} {K:W.Frag} {elts:List Expr} {k:Nat} {pos:Pos} {e it:Addr} {z:Str} {t:Tok} (ne:e≠it):Turn P w K (.Tuple elts k pos) (Rv z) [e,it] e (UW e it z t) where
 mem:=by simp
 obj:=λ i h st b hb=>by
  obtain ⟨⟨old,s1⟩,⟨o4,e4,c4,d4⟩,_⟩:=st;simp only [Zd,Zq,Z9] at hb;rcases hb with rfl | rfl
  · exact ⟨_,s1,λ v z=>by cases z⟩
  · exact ⟨o4,e4,λ v z=>by rw [d4] at z; cases z⟩
 keep:=λ i h h' st k=>by
  obtain ⟨⟨old,s1⟩,⟨o4,e4,r4⟩,l⟩:=st;exact ⟨⟨old,k _ (by simp) _ s1⟩,⟨o4,k _ (by simp) _ e4,r4⟩,l⟩
 item:=by
  intro X hP hw hK hc i ac s σ H E I hf st hg;subst hP hw hK;have hg':i < z.cps.size:=hg;obtain ⟨⟨old,s1⟩,s4,_⟩:=st;have dr:=uU (prog:=X.prog) (w:=X.w) (A:=X.A.in1) (I.ok.hd hc) it z t;refine wpAny_pyNext_enum_itemD dr s1 s4 hg' ne (by simpa using ne) λ u h' tk ⟨c,tu,hx,hu⟩ a1 a2 a3 a4 hk=>?_
  subst hu;have hk':∀ b o,b ∉ [e,it]->s.heap.get? b=some o->h'.get? b=some o:=λ b o hb e'=>hk b o (λ q=>hb (by simp [q])) (λ q=>hb (by simp [q])) e'
  have I1:Inv X ac σ (upd H s.heap.objs.size (.tup [.int (i:Int),.str ⟨#[c]⟩])) { s with heap:=h',toks:=tk+1 }:=I.rL (t':=tk+1) hf hk' (Zo _) ⟨by show 2<=sizeLine; decide,[.int i tk,.str ⟨#[c]⟩ tu],.cons ⟨_,rfl⟩ (.cons ⟨_,rfl⟩ .nil),_,a3,rfl,_,rfl⟩;have hn:H s.heap.objs.size=none:=I.hok.fresh (Zo _);refine ⟨.ref s.heap.objs.size,rfl,X8 (s:={ s with heap:=h',toks:=tk+1 }) a1 λ h2 hz2 sb=>?_⟩
  have neT:∀ b ∈ [e,it],b≠s.heap.objs.size:=λ b hb q=>by
   have lt:∃ o,s.heap.get? b=some o:=by
    obtain ⟨o4,e4,_⟩:=s4;simp only [Zd,Zq,Z9] at hb;rcases hb with rfl | rfl
    · exact ⟨_,s1⟩
    · exact ⟨_,e4⟩
   obtain ⟨o,e'⟩:=lt;rw [q] at e';exact absurd (Zt e') (Yo _)
  obtain ⟨f0,f1,f2,f3,f4,f5⟩:=hf e (by simp);have I2:Inv X ac σ (upd H s.heap.objs.size (.tup [.int (i:Int),.str ⟨#[c]⟩])) { s with heap:=h2,toks:=tk+1 }:=I1.turned (t':=tk+1) (λ b o hb e'=>(sb.2 b hb).trans e') (by rw [aF (neT e (by simp))]; exact f0) f1 f3 f4 f5;refine ⟨.ref s.heap.objs.size,_,I2,rfl,⟨s.heap.objs.size,c,rfl,hn,rfl,hx⟩,?_,λ b hb=>by rw [aF (neT b hb)]; exact (hf b hb).1⟩;obtain ⟨o4,e4,r4⟩:=a2;exact ⟨⟨_,hz2⟩,⟨o4,(sb.2 it (Ne.symm ne)).trans e4,r4⟩,hg'⟩
 done:=by
  intro X hP hw hK hc i ac s σ H E I hf st hg;subst hP hw hK;have hg':z.cps.size<=i:=hg;obtain ⟨⟨old,s1⟩,s4,l⟩:=st;have ei:i=z.cps.size:=Nat.le_antisymm l hg';subst ei;have dr:=uU (prog:=X.prog) (w:=X.w) (A:=X.A.in1) (I.ok.hd hc) it z t;refine wpAny_pyNext_enum_endD dr s1 s4 λ h' eb=>⟨rfl,?_⟩
  obtain ⟨f0,f1,f2,f3,f4,f5⟩:=hf it (by simp);exact I.turned (t':=s.toks) (λ b o hb e=>eb b o hb e) f0 f1 f3 f4 f5
 self:=λ _ _ _ _ _ st h=>by
  obtain ⟨⟨old,s1⟩,s4⟩:=st;exact Xk s1 h
def LO (ta:TA):TI:=λ σ H R=>ta σ H λ vs H1=>∃ z,vs=[.str z]/\R (Rv z) H1
def Dq {X:Cx} {a:Expr} {ta:TA} {elts:List Expr} {k:Nat} {pt p pos:Pos} (hg:Gl X "enumerate") (hm:X.mg "enumerate"=none) (ha:PA X [a] ta) (hs:starEach [a] X.env=[(false,eval a X.env)]:=by rfl):PI X (.Tuple elts k pt) (.Call (.Name "enumerate" p) [a] [] pos) (LO ta):=by
 intro ac s σ H R I h;refine Call_ (mE I hg hm p6 (Yr (thn (ha pos ac s σ H _ I h) λ us s1 ⟨vs,H1,I1,r1,q1⟩=>?_) (by rw [hs]; rfl) (by rfl)));obtain ⟨z,e,q⟩:=q1;subst e;obtain ⟨u,rfl,t,rfl⟩:=vals1 r1;refine call_enumerate_str λ h' hE hI hsz hk=>?_
 refine Xk (s:={ s1 with heap:=h' }) hE ?_
 refine ⟨_,[s1.heap.objs.size+1,s1.heap.objs.size],_,_,H1,rfl,I1.kept (t':=s1.toks) hk,yt (Nat.succ_ne_self _),⟨⟨_,hE⟩,hI,Ye _⟩,λ b hb=>?_,q⟩
 have hb':s1.heap.objs.size<=b:=by
  simp only [Zd,Zq,Z9] at hb;rcases hb with rfl | rfl
  · exact Xd _ 1
  · exact Zo _
 exact I1.wq hb' (I1.hok.fresh hb')
theorem Bj {K:W.Frag} {z:Str} {Hs:Hp}:ItR K (Rv z) Hs (c7 (chD z)):=λ Hs1 H g1 g2=>by
 refine ⟨λ i d e=>?_,λ i hi=>?_⟩
 ·unfold c7 chD at e
  rw [List.getElem?_mapIdx,List.getElem?_map] at e;obtain ⟨p,ea,ed⟩:=Zm e;obtain ⟨c,ec,ep⟩:=Zm ea;subst ep ed
  have hi:i < z.cps.size:=by
   have:=(List.getElem?_eq_some_iff.mp ec).1
   simpa using this
  have q':z.cps[i]?=some c:=by rw [<- Array.getElem?_toList]; exact ec
  refine ⟨hi,?_⟩
  rintro v H' ⟨T,c',rfl,hn,rfl,hc⟩
  rw [q'] at hc;cases hc;have g:=Ext.new g2 hn (.tup [.int (i:Int),.str ⟨#[c]⟩]);exact ⟨_,g,.tup (SqT.of aC) (.cons (.int _) (.cons (.str _) .nil))⟩
 ·show z.cps.size<=i
  have hl:(c7 (chD z)).length=z.cps.size:=by simp [c7,chD]
  omega
def pz (f:DA):DI:=λ τ=>(f τ).bind λ ds=>match ds with | [.str z]=>some (c7 (chD z)) | _=>none
def CZ (K:W.Frag) (J:It) (tt:TT) (te:TE) (cs:List (Str×Nat)) (σ:St) (Q:VK) (H1:Hp):Prop:=∃ W:Nat->Nat->List V->Hp->Prop,(∃ m,W 0 m [] H1)/\∀ i m ys H',W i m ys H'->(J.stop i H'/\ys.length<=sizeLine/\∀ p,H' p=none->Q (.ref p) (upd H' p (.lst ys)))\/(J.go i H'/\ys.length < sizeLine/\∀ v H2,J.yld i H' v H2->∃ T a b,v=.ref T/\SqT K H2 T [a,b]/\tt (some a::some b::aK σ cs) H2 λ bb H3=>if bb=true then te (some a::some b::aK σ cs) H3 λ y H4=>∃ m',m' < m/\W (i+1) m' (ys++[y]) H4 else ∃ m',m' < m/\W (i+1) m' ys H3)
def zL (K:W.Frag) (wi:TI) (tt:TT) (te:TE) (cs:List (Str×Nat)):TE:=λ σ H Q=>wi σ H λ J H1=>CZ K J tt te cs σ Q H1
section
variable {X:Cx}
theorem uZ {elt iter:Expr} {x x2:Str} {px px2 pt pos:Pos} {kk:Nat} {scope:Scope} {cl:List (Str×Addr)} {cs:List (Str×Nat)} {te:TE} {tt:TT} {cnd:Expr} {ac:List (Addr×Obj)} {σ:St} {H:Hp} {s:Shared} {Q:VK} {it:Addr} {fp:List Addr} {tn:Nat->Heap->Prop} {J:It}
  {RR:Value->Addr->Result->Shared->Prop} {E:Value->Shared->Prop} (hc:X.calm=true) (O:me X scope cl x x2 cs) (hcd:∀ s H fp C,PT (bI X scope cl (x::x2::cs.map (·.1)) s H fp C) cnd tt) (he:∀ s H fp C,PE (bI X scope cl (x::x2::cs.map (·.1)) s H fp C) elt te)
  (I:Inv X ac σ H s) (T:Turn X.prog X.w X.K (.Tuple [.Name x px,.Name x2 px2] kk pt) J fp it tn) (st:tn 0 s.heap) (f2:∀ b ∈ fp,rE X ac H b)
  (h : ∃ W:Nat->Nat->List V->Hp->Prop,(∃ m,W 0 m [] H)/\∀ i m ys H',W i m ys H'->(J.stop i H'/\ys.length<=sizeLine/\∀ p,H' p=none->Q (.ref p) (upd H' p (.lst ys)))\/(J.go i H'/\ys.length < sizeLine/\∀ v H2,J.yld i H' v H2->∃ T a b,v=.ref T/\SqT X.K H2 T [a,b]/\tt (some a::some b::aK σ cs) H2 λ bb H3=>if bb=true then te (some a::some b::aK σ cs) H3 λ y H4=>∃ m',m' < m/\W (i+1) m' (ys++[y]) H4 else ∃ m',m' < m/\W (i+1) m' ys H3))
  (hRR:∀ D C s' H' ys,s.heap.objs.size<=D->s.heap.objs.size<=C->D≠C->(∃ m,s'.heap.Ns C m)->Inv X ac σ (upd H' D (.lst ys)) s'->H' C=none->Q (.ref D) (upd H' D (.lst ys))->RR (.ref D) C (.ok .next) s'):wpAny (model X.prog X.w) X.A (newList []) (λ acc s₃=>wpAny (model X.prog X.w) X.A (newFunctionEnv scope X.env.globals cl [] X.env.qual none .none (some X.env)) (λ cenv s₄=>
    codeAny (model X.prog X.w) X.A (.compStart (.ListComp elt [⟨.Tuple [.Name x px,.Name x2 px2] kk pt,iter,[cnd],0⟩] scope pos) 0 (.ref it) acc { cenv with scope:=relabel scope X.env }) (RR acc cenv.locals) s₄) E s₃) E s:=by
 obtain ⟨W,⟨m0,w0⟩,turn⟩:=h;refine X5 (wpAny_newFunctionEnv O.one.xD (by intro y hy; simp at hy) (λ h₁ hns₁ hsb₁=>?_) O.one.kind);dsimp only at hns₁ hsb₁ ⊢
 generalize hH2:s.heap.push { cls:=.type "list",dict:=none,data:=.seq ([]:List Value).toArray }=H2 at hns₁ hsb₁ ⊢
 have hC:H2.objs.size=s.heap.objs.size+1:=by rw [<- hH2,Heap.size_push]
 have hDC:s.heap.objs.size≠H2.objs.size:=by rw [hC]; exact Z1 (Nat.lt_succ_self _)
 have hCle:s.heap.objs.size<=H2.objs.size:=by rw [hC]; exact Nat.le_succ _
 have neC:∀ b,b < s.heap.objs.size->b≠H2.objs.size:=λ b hb=>by rw [hC]; exact Z1 (Nat.lt_succ_of_lt hb)
 have old:∀ b o,s.heap.get? b=some o->h₁.get? b=some o:=λ b o e=>hsb₁.extBut b o (neC b (Zt e)) (Heap.get?_push_of_some _ (hH2 ▸ Heap.get?_push_of_some _ e))
 have hacc:h₁.get? s.heap.objs.size=some { cls:=.type "list",data:=.seq ([]:List Value).toArray }:=hsb₁.extBut _ _ hDC (Heap.get?_push_of_some _ (hH2 ▸ Heap.get?_push_size _ rfl))
 have there:∀ b ∈ fp,b < s.heap.objs.size:=λ b hb=>by
  obtain ⟨o,e,_⟩:=T.obj _ _ st b hb;exact Zt e
 have hns:h₁.Ns H2.objs.size λ _=>none:=by
  have e:(λ x=>List.lookup x ([]:List (Str×Value)).reverse)=λ _=>none:=by funext y; rfl
  rw [e] at hns₁
  exact hns₁
 generalize hD:s.heap.objs.size=D at hDC hCle hacc;generalize hCC:H2.objs.size=C at hDC hCle hns ⊢;have FD:=I.wq (b:=D) (H':=H) (by rw [<- hD]; exact Zo _) (I.hok.fresh (by rw [<- hD]; exact Zo _));have FC:=I.wq (b:=C) (H':=H) (by rw [hD]; exact hCle) (I.hok.fresh (by rw [hD]; exact hCle));have nfpD:∀ b ∈ fp,b≠D:=λ b hb=>by rw [<- hD]; exact Z1 (there b hb)
 have nfpC:∀ b ∈ fp,b≠C:=λ b hb=>Z1 (Zl (there b hb) (by rw [hD]; exact hCle))
 have st1:tn 0 h₁:=T.keep _ _ _ st λ b _ o e=>old b o e
 have I1:Inv (bI X scope cl (x::x2::cs.map (·.1)) s H fp C) [] (none::none::aK σ cs) H { s with heap:=h₁,toks:=s.toks+([]:List (Str×Value)).length }:=
  wL O I f2 there (by rw [hD]; exact hCle) old hns
 generalize hY:bI X scope cl (x::x2::cs.map (·.1)) s H fp C=Y at I1
 have pgx:PG Y (.Tuple [.Name x px,.Name x2 px2] kk pt) (SJ X.K 2 (Ih (nJ 0) (Ih (nJ 1) SK))):=by
  subst hY;exact EV hc (r9 (sd (i:=0) O.nd2 rfl (.inl (Xa O.one.own)) (.inr (Xa O.one.own))) (r9 (sd (i:=1) O.nd2 rfl (.inl (Xa O.RK)) (.inr (Xa O.RK))) Ah))
 have peY:PE Y elt te:=by subst hY; exact he _ _ _ _
 have ptY:PT Y cnd tt:=by subst hY; exact hcd _ _ _ _
 have Yx:Y.prog=X.prog/\Y.w=X.w/\Y.K=X.K/\Y.A=X.A/\Y.env=compEnvC scope cl C X.env/\Y.calm=X.calm/\Y.xe=(λ _ _=>False)/\Y.pn=[]/\Y.ex=fp/\Y.fs=frs X.stack/\Y.s₀=s/\Y.H₀=H:=by subst hY; exact ⟨rfl,rfl,rfl,rfl,rfl,rfl,rfl,rfl,rfl,rfl,rfl,rfl⟩
 obtain ⟨y1,y2,y3,y4,y5,y6,y7,y8,y9,y10,y11,y12⟩:=Yx;have nstk:∀ b,b≠X.env.locals->b ∉ X.fs->b ∉ Y.fs:=λ b h1 h2 z=>by rw [y10] at z; exact (Zd.mp (I.eW b z)).elim h1 h2
 have yl:Y.env.locals=C:=by rw [y5]; rfl
 have yc:∀ z c,Y.env.cells.lookup z=some c->X.env.cells.lookup z=some c:=λ z c e=>by rw [y5] at e; exact O.one.sub z c e
 have stat:∀ {ps:List (Addr×Obj)} {H':Hp},(∀ b ∈ fp,H' b=none)->(∀ p ∈ ps,p.1=D)->∀ b ∈ fp,rE Y ps H' b:=λ {ps H'} hn hp b hb=>
  ⟨hn b hb,by rw [yl]; exact nfpC b hb,nstk b (f2 b hb).2.1 (f2 b hb).2.2.1,.inl (by rw [y9]; exact hb),λ z c e=>(f2 b hb).2.2.2.2.1 z c (yc z c e),λ p hq=>by
    rw [y8,Yc] at hq;rw [hp p hq]
    exact Ne.symm (nfpD b hb)⟩
 have pinD:∀ {σ':St} {H':Hp} {s':Shared} {ob:Obj},Inv Y [] σ' H' s'->H' D=none->s'.heap.get? D=some ob->(∀ v,ob.data≠.cell v)->Inv Y [(D,ob)] σ' H' s':=λ {σ' H' s' ob} I' hn e hd=>
  I'.iA λ p hp=>by
    have e1:p=(D,ob):=by simpa using hp
    subst e1;exact ⟨e,hn,by rw [yl]; exact hDC,nstk D FD.2.1 FD.2.2.1,hd⟩
 have loop:∀ s₃:Shared,s₃={ s with heap:=h₁,toks:=s.toks+([]:List (Str×Value)).length }->codeAny (model X.prog X.w) X.A (.compLoop (.ListComp elt [⟨.Tuple [.Name x px,.Name x2 px2] kk pt,iter,[cnd],0⟩] scope pos) 0 (.ref it) (.ref D) (compEnvC scope cl C X.env)) (RR (.ref D) C) s₃:=by
  rintro s₃ rfl
  refine k7 (EE:=λ _ _=>False) (λ n s'=>∃ i o o2 H' ys its k,Inv Y [] (o::o2::aK σ cs) H' s'/\tn i s'.heap/\(∀ b ∈ fp,H' b=none)/\H' D=none/\s'.heap.get? D=some { cls:=.type "list",data:=.seq (its:List Value).toArray k }/\cu ys its/\W i n ys H') ?_ m0
    ⟨0,none,none,H,[],[],0,I1,st1,λ b hb=>(f2 b hb).1,FD.1,hacc,.nil,w0⟩ (λ _ _ h=>h.elim)
  rintro n s3 ⟨i,o,o2,H3,ys,its,k,I3,st3,fr3,frD,e3,vs3,w3⟩
  have I3p:=pinD I3 frD e3 (by intro v z; cases z)
  have onlyD:∀ p ∈ [(D,({ cls:=.type "list",data:=.seq its.toArray k }:Obj))],p.1=D:=λ p hp=>by
    have e1:p=_:=Zx.mp hp;rw [e1]
  rcases turn i n ys H3 w3 with ⟨stop,hz,q⟩ | ⟨go,hz,step⟩
  · have dn:=T.done Y y1 y2 y3 (by rw [y6]; exact hc) i _ s3 (o::o2::aK σ cs) H3 (λ _ _=>False) I3p (stat fr3 onlyD) st3 stop
    rw [y4] at dn;refine thn dn λ r s4 ⟨hr,I4⟩=>?_
    subst hr;obtain ⟨e4,_⟩:=I4.pin (D,_) (Zy _ (Zx.mpr rfl));have b4:=I4.base;rw [y9,y10,y11,y12] at b4;have hk4:=I4.hok;rw [y1,y2] at hk4;have hCn:H3 C=none:=by have:=I4.free; rw [yl] at this; exact this
    refine hRR D C s4 H3 ys (by rw [<- hD]; exact Zo _) (by rw [hD]; exact hCle) hDC (by obtain ⟨m,hm,_⟩:=I4.loc; rw [yl] at hm; exact ⟨m,hm⟩) ?_ hCn (q D frD);have neD:∀ b o,s.heap.get? b=some o->b≠D:=λ b o e=>by rw [<- hD]; exact Z1 (Zt e)
    have neDH:∀ b u,H b=some u->b≠D:=λ b u e=>by rw [<- hD]; exact Z1 (I.hok.lt e)
    refine I.IG (ch:=fp) (by have:=I4.os; rw [y11] at this; exact this) ⟨b4.keep,b4.slot,λ b o e n hx=>?_,b4.there,λ b xs e=>?_,λ b o u e=>?_,λ b ps e=>?_⟩ (λ b u e=>?_) I4.bare λ b hb=>?_
    · rw [aF (neD b o e)]; exact b4.free b o e n hx
    · rw [aF (neDH b _ e)]; exact b4.rN b xs e
    · rw [aF (neDH b _ e)]; exact b4.qY b o u e
    · rw [aF (neDH b _ e)]; exact b4.rO b ps e
    ·have t1:∀ c u,H3 c=some u->upd H3 D (.lst ys) c=some u:=λ c u z=>by
      rw [aF (λ zz=>by rw [zz,frD] at z; cases z)];exact z
     by_cases hb:b=D
     ·subst hb
      rw [aC] at e;cases e;exact ⟨hz,its,k,vs3,e4⟩
     ·rw [aF hb] at e
      exact (hk4 b u e).yx (λ _ _ _ z=>z) (λ c z=>t1 c _ z) λ c xs z=>t1 c _ z
    · exact ⟨(f2 b hb).2.2.2.1,(f2 b hb).2.1,(f2 b hb).2.2.2.2.1,(f2 b hb).2.2.2.2.2⟩
  · have im:=T.item Y y1 y2 y3 (by rw [y6]; exact hc) i _ s3 (o::o2::aK σ cs) H3 (λ _ _=>False) I3p (stat fr3 onlyD) st3 go
    rw [y4] at im;refine thn im λ r s4 ⟨u,hr,h4⟩=>?_
    subst hr;refine thn h4 λ _ s5 ⟨v,H5,I5,r5,y5',st5,fr5⟩=>?_
    have I5':=I5.pinned (stat fr5 onlyD) (T.obj _ _ st5);obtain ⟨T5,va,vb,ev5,sq5,step5⟩:=step v H5 y5';have as:=pgx _ s5 (o::o2::aK σ cs) H5 v u (λ σ' H'=>σ'=some va::some vb::aK σ cs/\H'=H5) I5' r5 ⟨T5,[va,vb],ev5,sq5,rfl,va,[vb],rfl,vb,[],rfl,rfl,rfl,rfl⟩;rw [y1,y2,y4,y5,y7] at as;refine thn as λ _ s6 ⟨σ6,H6,I6,e6,e6'⟩=>?_
    subst e6 e6';have ts:=ptY _ s6 _ H6 _ I6 step5;rw [y1,y2,y4,y5,y7] at ts;refine thn (wpAny_tests_one ts) λ bb s7 ⟨H7,I7,q7⟩=>?_
    have fpk:∀ b ∈ fp,∀ o,s5.heap.get? b=some o->s7.heap.get? b=some o/\H7 b=none:=λ b hb o e=>by
     obtain ⟨z1,z2,_⟩:=I7.pin (b,o) (Zy _ (Zy _ (eT hb e)));exact ⟨z1,z2⟩
    cases bb with
    | false=>
     obtain ⟨m',hm',w7⟩:=(show ∃ m',m' < n/\W (i+1) m' ys H7 by rw [if_neg Zf] at q7; exact q7)
     rw [if_neg Zf];obtain ⟨e7,n7,_⟩:=I7.pin (D,_) (Zy _ (Yt _ (Zx.mpr rfl)));have I7n:Inv Y [] (some va::some vb::aK σ cs) H7 s7:=I7.iA λ p hp=>absurd hp (by simp)
     refine ⟨m',hm',i+1,some va,some vb,H7,ys,its,k,I7n,T.keep _ _ _ st5 λ b hb o e=>(fpk b hb o e).1,λ b hb=>?_,n7,e7,vs3,w7⟩;obtain ⟨o',e',_⟩:=T.obj _ _ st5 b hb;exact (fpk b hb o' e').2
    | true=>
    rw [if_pos rfl];have q7':=q7;rw [if_pos rfl] at q7';have el:=peY _ s7 _ H7 _ I7 q7';rw [y1,y2,y4,y5,y7] at el;refine thn el λ u8 s8 ⟨y8',H8,I8,r8,m',hm',w8⟩=>?_
    obtain ⟨e8,n8,_⟩:=I8.pin (D,_) (Zy _ (Yt _ (Zx.mpr rfl)));have hl3:=vs3.length;refine Wi F.slot_list_append ⟨_,e8,rfl⟩ F.entry_list_append (F.args_list_append_2 _ _) (PySem.list_append D its.toArray k u8 (by rw [Zw]; omega)) ⟨e8,?_⟩;obtain ⟨k',up⟩:∃ k',(s8.heap.update D (Obj.mapSeq (·.push u8))).get? D=some { cls:=.type "list",data:=.seq (its.toArray.push u8) k' }:=⟨_,PySem.IsL.update e8 (·.push u8)⟩
    have fpk8:∀ b ∈ fp,∀ o,s5.heap.get? b=some o->s8.heap.get? b=some o/\H8 b=none:=λ b hb o e=>by
     obtain ⟨z1,z2,_⟩:=I8.pin (b,o) (Zy _ (Zy _ (eT hb e)));exact ⟨z1,z2⟩
    have I8n:Inv Y [] (some va::some vb::aK σ cs) H8 s8:=I8.iA λ p hp=>absurd hp (by simp)
    refine ⟨m',hm',i+1,some va,some vb,H8,ys++[y8'],its++[u8],k',?_,?_,?_,n8,?_,vs3.append (.cons r8 .nil),w8⟩
    ·refine I8n.turned (it:=D) (λ b o hb e=>(Heap.get?_update_other s8.heap (Obj.mapSeq (·.push u8)) (Ne.symm hb)).trans e) n8 (by rw [yl]; exact hDC) (.inr (by rw [y11,<- hD]; exact Zo _)) (λ z c e=>FD.2.2.2.2.1 z c (yc z c e)) λ p hp=>?_
     rw [y8] at hp;exact absurd hp (by simp)
    ·refine T.keep _ _ _ st5 λ b hb o e=>?_
     exact (Heap.get?_update_other s8.heap (Obj.mapSeq (·.push u8)) (Ne.symm (nfpD b hb))).trans (fpk8 b hb o e).1
    ·intro b hb
     obtain ⟨o',e',_⟩:=T.obj _ _ st5 b hb;exact (fpk8 b hb o' e').2
    ·rw [List.push_toArray] at up
     exact up
 exact codeAny_compStart_list (loop _ rfl) (T.self _ 0 _ _ _ st1 (loop _ rfl))
def Ae {elt iter:Expr} {x x2 y:Str} {px px2 pt py pos spos:Pos} {kk:Nat} {i:Nat} {scope:Scope} {cl:List (Str×Addr)} {cs:List (Str×Nat)} {wi:TI} {te:TE} {tt:TT} {cnd:Expr} (hN:X.N.Nodup) (hy:X.N[i]?=some y) (hx:Loc X.env.scope y)
  (hc:X.calm=true) (O:me X scope cl x x2 cs) (hi:PI X (.Tuple [.Name x px,.Name x2 px2] kk pt) iter wi)
  (hcd:∀ s H fp C,PT (bI X scope cl (x::x2::cs.map (·.1)) s H fp C) cnd tt) (he:∀ s H fp C,PE (bI X scope cl (x::x2::cs.map (·.1)) s H fp C) elt te) (hs:∀ x,foldedSetIterable iter X.env x=pure x:=by intro _; rfl)
  (hsw:swapsWith (.ListComp elt [⟨.Tuple [.Name x px,.Name x2 px2] kk pt,iter,[cnd],0⟩] scope pos) (some (.Name y py)) spos.line X.env=pure true:=by rfl)
  (hf:X.fn y=true\/X.env.scope.names.lookup y=some .local:=by first | exact .inl rfl | exact .inr rfl | assumption):PS X (.Assign [.Name y py] (.ListComp elt [⟨.Tuple [.Name x px,.Name x2 px2] kk pt,iter,[cnd],0⟩] scope pos) spos) (JH (zL X.K wi tt te cs) (nJ i)):=by
 intro ac s σ H Dd I h;rw [exec_Assign_Name_used _ _ _ _ hsw];refine Zr (Wg (Zr ?_));show wpAny _ X.A (do let _ <- comprehension (.ListComp elt [⟨.Tuple [.Name x px,.Name x2 px2] kk pt,iter,[cnd],0⟩] scope pos) scope X.env _ (newList []) false (eval iter X.env) (some (assign (.Name y py) X.env))) _ _ s
 refine Zr (Yv (Xo (use:=some (assign (.Name y py) X.env)) (Q:=λ _ s'=>SP X ac Dd .next s') rfl hs O.one.Jc O.one.kind O.one.names (thn (hi ac s σ H _ I h) λ v s1 h1=>thn h1 λ itv s2 h2=>?_))
  (λ _ s' hq=>Z4 (Z4 hq)) λ _ _ e=>e)
 obtain ⟨it,fp,tn,J,H2,rfl,I2,T,st2,f2,hw⟩:=h2;refine uZ (Q:=λ v H1=>nJ i v σ H1 Dd.nx) (RR:=λ acc C=>compPost (model X.prog X.w) X.A X.xe (some (assign (.Name y py) X.env)) (λ _ s'=>SP X ac Dd .next s') acc C) hc O hcd he I2 T st2 f2 hw λ D C s' H' ys hD hC hDC ⟨m,hm⟩ I' hn q=>?_
 have hn':upd H' D (.lst ys) C=none:=by rw [aF (Ne.symm hDC)]; exact hn
 have FC:=I2.wq (b:=C) hC hn';show wpAny _ X.A (assign (.Name y py) X.env (.ref D)) _ _ _;refine wpAny_assign_Name (ir I' hN hy hx (v:=.ref D) rfl (λ s'' I'' ⟨a,hsb,ha⟩=>?_) hf)
 have na:C≠a:=by
  rcases ha with ha | ha
  · rw [ha]; exact FC.2.1
  · exact Ne.symm (FC.2.2.2.2.1 y a ha)
 refine ⟨m,hm.sameBut hsb na,λ h' hs'=>?_⟩;exact ⟨σ.set i (some (.ref D)),upd H' D (.lst ys),I''.turned (it:=C) (t':=s''.toks) (λ b o hb e=>(hs'.2 b hb).trans e) hn' FC.2.1 FC.2.2.2.1 FC.2.2.2.2.1 FC.2.2.2.2.2,q⟩
end
def oK (c:DT) (τ:List Sl) (cs:List (Str×Nat)):D->Option Bool
 | .tup [a,b]=>c (.shr a::.shr b::fe τ cs)
 | _=>none
def kf (it:DI) (c:DT) (g:DE) (cs:List (Str×Nat)):DE:=λ τ=>(it τ).bind λ ds=>if ds.length<=100000 then (wu (oK c τ cs) (pairD g τ cs) ds).map .lst else none
section
variable {X:Cx} {e:Expr} {es:List Expr} {pos:Pos}
def Ca {K:W.Frag} {it:DI} {c:DT} {g:DE} {cs:List (Str×Nat)} {σ:St} {H:Hp} {Q:VK} (h:rdO K (kf it c g cs) σ H Q):zL K (rdI K it) (rdT K c) (rdE K g) cs σ H Q:=by
 obtain ⟨H0,Hs,τ,fp,d,st,sm,e,k⟩:=h;obtain ⟨ds,e1,e2⟩:=U0 e;split at e2
 ·rename_i hl
  obtain ⟨full,e3,rfl⟩:=Zm e2;refine ⟨H0,Hs,τ,fp,ds,st,sm,e1,λ J Hs1 H1 g1 hJ=>?_⟩;refine ⟨λ i m ys H'=>m=ds.length - i/\i<=ds.length/\∃ Hs2 es rest,Ext Hs1 H1 Hs2 H'/\Rps K Hs2 ys es/\es.length<=i/\wu (oK c τ cs) (pairD g τ cs) (ds.drop i)=some rest/\es++rest=full,⟨ds.length,by simp,Ye _,Hs1,[],full,.refl g1.sh,.nil,Zo _,by simpa using e3,rfl⟩,?_⟩
  rintro i m ys H2 ⟨rfl,hi,Hs2,es,rest,g2,ry,ley,e4,e5⟩
  obtain ⟨hgo,hstop⟩:=hJ Hs2 H2 g2.ss g2.sh;have ly:ys.length<=i:=by rw [ry.length]; exact ley
  by_cases hlt:i < ds.length
  ·have ed:ds.drop i=ds[i]::ds.drop (i+1):=Yg hlt
   rw [ed] at e4;obtain ⟨b,q0,q0'⟩:=U0 e4;obtain ⟨go,yl⟩:=hgo i ds[i] (List.getElem?_eq_getElem hlt);refine .inr ⟨go,le5 (by omega),λ v H3 y=>?_⟩;obtain ⟨Hs3,g3,rv⟩:=yl v H3 y;have g13:=(g1.trans g2).trans g3
   have key:∃ d1 d2,ds[i]=.tup [d1,d2]/\c (.shr d1::.shr d2::fe τ cs)=some b:=by
    generalize ds[i]=dd at q0
    cases dd with
    | tup es=>match es,q0 with
     | [d1,d2],q0=>exact ⟨d1,d2,rfl,q0⟩
     | [],q0=>simp [oK] at q0
     | [_],q0=>simp [oK] at q0
     | _::_::_::_,q0=>simp [oK] at q0
    | _=>simp [oK] at q0
   obtain ⟨d1,d2,ed12,q01⟩:=key;rw [ed12] at rv q0'
   cases rv with
   | @tup T xs3 _ hsq rr=>cases rr with
    | @cons v1 _ xs4 _ rv1 rr=>cases rr with
     | @cons v2 _ xs5 _ rv2 rr=>cases rr with
      | nil=>
   refine ⟨T,v1,v2,rfl,g3.sh.tup hsq,?_⟩;refine ⟨H0,Hs3,.shr d1::.shr d2::fe τ cs,[],b,.shr rv1 (.shr rv2 (lF (st.ext g13) cs)),g3.sh,q01,λ Hs4 H4 g4=>?_⟩;have g14:=g13.trans g4
   cases b with
   | true=>
    refine nS ?_
    obtain ⟨x,q1,q2⟩:=U0 (show (g (.shr d1::.shr d2::fe τ cs)).bind _=some rest from q0');obtain ⟨xs,q3,q4⟩:=U0 q2;have eq:x::xs=rest:=Zj q4;subst eq;refine ⟨H0,Hs4,.shr d1::.shr d2::fe τ cs,[],x,.shr (rv1.same g4.ss) (.shr (rv2.same g4.ss) (lF (st.ext g14) cs)),g4.sh,q1,λ v5 Hs5 H5 g5 r5=>?_⟩;exact ⟨ds.length - (i+1),by omega,rfl,hlt,Hs5,es++[x],xs,((g2.trans g3).trans g4).trans g5,(((ry.same g3.ss).same g4.ss).same g5.ss).append (.cons r5 .nil),by simp; omega,q3,by rw [<- e5]; simp⟩
   | false=>
    refine DZ ?_
    have q1:wu (oK c τ cs) (pairD g τ cs) (ds.drop (i+1))=some rest:=q0';exact ⟨ds.length - (i+1),by omega,rfl,hlt,Hs4,es,rest,(g2.trans g3).trans g4,(ry.same g3.ss).same g4.ss,by omega,q1,e5⟩
  ·have e0:i=ds.length:=by omega
   subst e0;rw [Xs] at e4;have er:[]=rest:=Zj e4;subst er;rw [Yd] at e5;subst e5;refine .inl ⟨hstop _ (Zo _),CI (by omega),λ p hp=>?_⟩;have g12:=g1.trans g2;exact k p Hs2 _ ⟨g12.ss,g12.sh.trans (bo hp _),g12.hh.trans (bo hp _),g12.fr⟩ (.lst aC (g12.sh.free hp) ry) (g12.hh.free hp)
 · cases e2
def vN (hN:X.N.Nodup) (hy:X.N[i]?=some y) (hx:Loc X.env.scope y)
  (hc:X.calm=true) (O:me X scope cl x x2 cs) (hi:PId X (.Tuple [.Name x px,.Name x2 px2] kk pt) iter it)
  (hcd:∀ s H fp C,PTd (bI X scope cl (x::x2::cs.map (·.1)) s H fp C) cnd c) (he:∀ s H fp C,PEd (bI X scope cl (x::x2::cs.map (·.1)) s H fp C) elt g) (hs:∀ x,foldedSetIterable iter X.env x=pure x:=by intro _; rfl)
  (hsw:swapsWith (.ListComp elt [⟨.Tuple [.Name x px,.Name x2 px2] kk pt,iter,[cnd],0⟩] scope pos) (some (.Name y py)) spos.line X.env=pure true:=by rfl)
  (hf:X.fn y=true\/X.env.scope.names.lookup y=some .local:=by first | exact .inl rfl | exact .inr rfl | assumption):PSd X (.Assign [.Name y py] (.ListComp elt [⟨.Tuple [.Name x px,.Name x2 px2] kk pt,iter,[cnd],0⟩] scope pos) spos) (mo i (kf it c g cs)):=(Ae (te:=rdE X.K g) (tt:=rdT X.K c) hN hy hx hc O hi hcd he hs hsw hf).imp λ E σ H ⟨Hs0,H0,Hs,τ,o,r,e,k⟩=>by
 obtain ⟨d,e1,rfl⟩:=Zm e;obtain ⟨fp,h⟩:=r.st;refine Ca ⟨H0,Hs,τ,fp,d,h,r.same,e1,λ a Hs' H' g1 rv z=>?_⟩;obtain ⟨Hs2,g2,r2⟩:=SlV.shr (K:=X.K) (s:=.own d) (d:=d) g1 ⟨a,rfl,rv,z⟩ rfl;obtain ⟨fp',_,h'⟩:=(h.ext g2).EH (i:=i) r2;exact k _ Hs2 H' ⟨r.ext.trans g2,fp',h'⟩
end
open AutoSeq1 (wpAny_loadPart')
section
variable {prog:Program} {w:World} {A:Around} {E:Value->Shared->Prop} {s:Shared} {it T:Addr} {i:Nat} {items:Array Value} {x:Value} {Q:Value->Shared->Prop}
def yI (hit:s.heap.IsTupleIter it T i) (ht:s.heap.IsTuple T items) (hx:items[i]?=some x) (k:∀ h',h'.IsTupleIter it T (i+1)->Heap.SameBut it s.heap h'->Q x { s with heap:=h' }):wpAny (model prog w) A (Builtin.SmallTypes.nextOf (.ref it)) Q E s:=by
 have ⟨o,ho,hc,hd⟩:=hit; have ⟨ol,hol,_,nl,hdl⟩:=ht
 delta Builtin.SmallTypes.nextOf; refine Zr (wpAny_callSpecial?_slot (name:=Str.ofString "__next__") hit.typeIs Xe (wpAny_call_entry Xe hit.typeIs F.entry_tuple_iterator_next ?_ (F.args_tuple_iterator_next_1 _)))
 show wpAny _ _ (field (.ref it) 0 >>= _) _ _ s; refine Zr (wpAny_field ho hd (x:=.ref T) rfl ?_); show wpAny _ _ (if (Value.ref T == Value.none)=true then _ else _) _ _ s; rw [if_neg (by exact Zf)]
 show wpAny _ _ (field (.ref it) 1 >>= _) _ _ s; refine Zr (wpAny_field ho hd (x:=.int i 0) rfl ?_); show wpAny _ _ (seqItems? (.ref T) >>= _) _ _ s; refine Zr (wpAny_seqItems hol hdl ?_); simp only [Int.toNat_natCast,hx]
 refine Zr (wpAny_setField ho hd (by simp) (Z4 ⟨x,rfl,Z4 (k _ ⟨_,Heap.get?_update_self _ ho (Obj.isFreed_of_fields (Obj.data_mapFields hd _)),(Obj.cls_mapFields ..).trans hc,?_⟩ (Heap.SameBut.update ..))⟩)); rw [Obj.data_mapFields hd]; simp [rawInt]
def uk (hh:A.handled=none) (hit:s.heap.IsTupleIter it T i) (ht:s.heap.IsTuple T items) (hx:items[i]?=none)
  (k:∀ h' e,Heap.ExtBut it s.heap h'->(∃ o,h'.get? e=some o/\o.cls=.type "StopIteration")->E (.ref e) { s with heap:=h' }):wpAny (model prog w) A (Builtin.SmallTypes.nextOf (.ref it)) Q E s:=by
 have ⟨o,ho,hc,hd⟩:=hit; have ⟨ol,hol,_,nl,hdl⟩:=ht
 delta Builtin.SmallTypes.nextOf; refine Zr (wpAny_callSpecial?_slot (name:=Str.ofString "__next__") hit.typeIs Xe (wpAny_call_entry Xe hit.typeIs F.entry_tuple_iterator_next ?_ (F.args_tuple_iterator_next_1 _)))
 show wpAny _ _ (field (.ref it) 0 >>= _) _ _ s; refine Zr (wpAny_field ho hd (x:=.ref T) rfl ?_); show wpAny _ _ (if (Value.ref T == Value.none)=true then _ else _) _ _ s; rw [if_neg (by exact Zf)]
 show wpAny _ _ (field (.ref it) 1 >>= _) _ _ s; refine Zr (wpAny_field ho hd (x:=.int i 0) rfl ?_); show wpAny _ _ (seqItems? (.ref T) >>= _) _ _ s; refine Zr (wpAny_seqItems hol hdl ?_); simp only [Int.toNat_natCast,hx]
 refine Zr (wpAny_rule (Zr (wpAny_setField ho hd (by simp) ?_))); show wpAny _ _ (newExc (.type "StopIteration") [] >>= _) _ _ _; refine Zr ?_; simp only [newExc,newTuple]
 refine Zr (X5 (Zr (m:=firstArgMember _ _) (wpAny_of_eq (a:=Value.none) (by simp only [firstArgMember]; rfl) (X5 ?_ (by size_fits)))) (by size_fits));simp only [raiseNew]; refine Zr (wpAny_handled ?_); rw [show A.in1.handled=none from hh]
 exact Zr (Z4 (wpAny_throw (k _ _ (((Heap.SameBut.update ..).extBut.push _).push _) ⟨_,Heap.get?_push_size _ rfl,rfl⟩)))
def BO (hh:A.handled=none) (it T:Addr) (ne:T≠it) (items:Array Value):Draws prog w A it [it,T] items.size (λ i v=>items[i]?=some v) (λ i h=>h.IsTupleIter it T i/\h.IsTuple T items) where
 live:=λ _ _ ⟨⟨o,ho,_⟩,_⟩=>⟨o,ho⟩
 frame:=λ _ _ _ ⟨⟨o,ho,r⟩,⟨o2,ho2,r2⟩⟩ hk=>⟨⟨o,hk it (by simp) o ho,r⟩,⟨o2,hk T (by simp) o2 ho2,r2⟩⟩
 item:=λ i s Q E hi ⟨st,ht⟩ hQ=>yI st ht (x:=items[i]) (by simp [hi]) λ h' st' hs'=>hQ _ h' s.toks (by simp [hi]) ⟨st',by
  obtain ⟨o2,ho2,r2⟩:=ht
  exact ⟨o2,hs'.extBut _ _ ne ho2,r2⟩⟩ hs'
 done:=λ s Q E ⟨st,ht⟩ hE=>uk hh st ht (by simp) hE
def yY (hh:A.handled=none) (it T:Addr) (items:Array Value) (i:Nat) (hi:items.size<=i):Draws prog w A it [it,T] 0 (λ _ _=>False) (λ n h=>n=0/\h.IsTupleIter it T i/\h.IsTuple T items) where
 live:=λ _ _ ⟨_,⟨o,ho,_⟩,_⟩=>⟨o,ho⟩
 frame:=λ _ _ _ ⟨z,⟨o,ho,r⟩,⟨o2,ho2,r2⟩⟩ hk=>⟨z,⟨o,hk it (by simp) o ho,r⟩,⟨o2,hk T (by simp) o2 ho2,r2⟩⟩
 item:=λ i s Q E hi _ _=>absurd hi (Nat.not_lt_zero _)
 done:=λ s Q E ⟨_,st,ht⟩ hE=>uk hh st ht (by simp [hi]) hE
set_option maxHeartbeats 1000000 in
def we (l:Addr) (items:Array Value) (n:Nat) (dct:Option Addr) (sl:Array (Option Value)):Meets (Builtin.«enumerate.__new__» ⟨[.type "enumerate",.ref l],[]⟩) (λ _ R s=>s.heap.get? l=some { cls:=.type "tuple",dict:=dct,data:=.seq items n,slots:=sl }/\R (.ok (.ret (.ref (s.heap.push { cls:=.type "tuple_iterator",data:=.fields #[.ref l,.int 0 0] }).objs.size)))
        { s with heap:=(s.heap.push { cls:=.type "tuple_iterator",data:=.fields #[.ref l,.int 0 0] }).push { cls:=.type "enumerate",data:=.fields #[.none,.bool false,.ref s.heap.objs.size,rawInt 0,.none,.none] } }):=
  .of_wp λ prog w A R s h=>by
    obtain ⟨hp,g,d,tk,os⟩:=s; obtain ⟨hl,h⟩:=h; have hsub:=sub_enumerate
    have hL:Heap.IsTuple (Shared.heap ⟨hp,g,d,tk,os⟩) l items:=⟨_,hl,rfl,n,rfl⟩
    wp_walk using wpAny_loadPart' hl
    refine wpAny_stack_any λ st=>Z4 (by
      split
      · rename_i c _ _ _ _ _
        cases (c == Value.type "enumerate") <;> (wp_walk using wpAny_loadPart' hl,wpAny_pyIter_tuple hL; exact ⟨_,rfl,h⟩)
      · wp_walk using wpAny_loadPart' hl,wpAny_pyIter_tuple hL; exact ⟨_,rfl,h⟩)
def zd (hL:s.heap.IsTuple l items) (k:∀ h',IsEnum h' (s.heap.objs.size+1) s.heap.objs.size 0 .none->h'.IsTupleIter s.heap.objs.size l 0->(∀ b o,s.heap.get? b=some o->h'.get? b=some o)->Q (.ref (s.heap.objs.size+1)) { s with heap:=h' }):wpAny (model prog w) A (call (.type "enumerate") [.ref l]) Q E s:=by
 obtain ⟨⟨c,dct,dt,sl⟩,hl,hc,n,hd⟩:=hL;cases (show c=.type "tuple" from hc); cases (show dt=.seq items n from hd)
 refine callType_new F.called_enumerate (by decide) (F.typeCall_enumerate_1 _) (F.newCall_enumerate_1 _) (λ obj=>F.args_object_init_2 obj _) F.entry_enumerate_new (we l items n dct sl) ⟨hl,?_⟩;generalize hp:s.heap.push { cls:=.type "tuple_iterator",data:=.fields #[.ref l,.int 0 0] }=h1;have hz:h1.objs.size=s.heap.objs.size+1:=by rw [<- hp,Heap.size_push]
 have g1:h1.get? s.heap.objs.size=some { cls:=.type "tuple_iterator",data:=.fields #[.ref l,.int 0 0] }:=by rw [<- hp]; exact Heap.get?_push_size _ rfl
 have g2:=Heap.get?_push_size h1 (o:={ cls:=.type "enumerate",data:=.fields #[.none,.bool false,.ref s.heap.objs.size,rawInt 0,.none,.none] }) rfl;rw [hz] at g2;show _/\_;rw [hz];exact ⟨⟨_,g2,rfl⟩,k _ g2 ⟨_,Heap.get?_push_of_some _ g1,rfl,rfl⟩ λ b o y=>Heap.get?_push_of_some _ (by rw [<- hp]; exact Heap.get?_push_of_some _ y)⟩
end
def Ru (K:W.Frag) (l:Addr):It where
 go:=λ i H=>∃ xs x,SqT K H l xs/\xs[i]?=some x
 yld:=λ i H v H'=>∃ T x,v=.ref T/\H T=none/\H'=upd H T (.tup [.int (i:Int),x])/\∀ xs,SqT K H l xs->xs[i]?=some x
 stop:=λ i H=>∃ xs,SqT K H l xs/\xs.length<=i
def UU (K:W.Frag) (e it l:Addr) (i:Nat) (h:Heap):Prop:=(∃ old,IsEnum h e it ((i:Nat):Int) old)/\h.IsTupleIter it l i
def yr {P:Program} {w:World} {K:W.Frag} {elts:List Expr} {k:Nat} {pos:Pos} {e it l:Addr} (ne:e≠it):Turn P w K (.Tuple elts k pos) (Ru K l) [e,it] e (UU K e it l) where
 mem:=by simp
 obj:=λ i h st b hb=>by
  obtain ⟨⟨old,s1⟩,⟨o4,e4,c4,d4⟩⟩:=st;simp only [Zd,Zq,Z9] at hb;rcases hb with rfl | rfl
  · exact ⟨_,s1,λ v z=>by cases z⟩
  · exact ⟨o4,e4,λ v z=>by rw [d4] at z; cases z⟩
 keep:=λ i h h' st k=>by
  obtain ⟨⟨old,s1⟩,⟨o4,e4,r4⟩⟩:=st;exact ⟨⟨old,k _ (by simp) _ s1⟩,⟨o4,k _ (by simp) _ e4,r4⟩⟩
 item:=by
  intro X hP hw hK hc i ac s σ H E I hf st hg;subst hP hw hK;obtain ⟨xs,x,hq,hx⟩:=hg;obtain ⟨its,rv,p,hz⟩:=I.tuple hq;obtain ⟨u,hu,ru⟩:=rv.get hx;obtain ⟨⟨old,s1⟩,s4⟩:=st;have ht:s.heap.IsTuple l its.toArray:=p
  have nT:l≠it/\l≠e:=by
   obtain ⟨o2,e2,c2,_⟩:=ht;obtain ⟨o4,e4,c4,_⟩:=s4;refine ⟨λ z=>?_,λ z=>?_⟩
   · subst z; rw [e4] at e2; cases e2; rw [c4] at c2; exact absurd c2 (by simp)
   · subst z; rw [show s.heap.get? l=_ from s1] at e2; cases e2; exact absurd c2 (by simp)
  have dr:=BO (prog:=X.prog) (w:=X.w) (A:=X.A.in1) (I.ok.hd hc) it l nT.1 its.toArray
  have li:i < its.toArray.size:=by
   have:=(List.getElem?_eq_some_iff.mp hu).1
   simpa using this
  refine wpAny_pyNext_enum_itemD dr s1 ⟨s4,ht⟩ li ne (by simp; exact ⟨ne,Ne.symm nT.2⟩) λ u' h' tk hu' a1 a2 a3 a4 hk=>?_
  have eu:u'=u:=by
   have h1:its.toArray[i]?=some u':=hu';have h2:its.toArray[i]?=some u:=by simpa using hu
   rw [h1] at h2;exact Zj h2
  subst eu;have hk':∀ b o,b ∉ [e,it]->s.heap.get? b=some o->h'.get? b=some o:=λ b o hb e'=>hk b o (λ q=>hb (by simp [q])) (λ q=>hb (by simp [q])) e'
  have I1:Inv X ac σ (upd H s.heap.objs.size (.tup [.int (i:Int),x])) { s with heap:=h',toks:=tk+1 }:=I.rL (t':=tk+1) hf hk' (Zo _) ⟨by show 2<=sizeLine; decide,[.int i tk,u'],.cons ⟨_,rfl⟩ (.cons ru .nil),_,a3,rfl,_,rfl⟩;have hn:H s.heap.objs.size=none:=I.hok.fresh (Zo _);refine ⟨.ref s.heap.objs.size,rfl,X8 (s:={ s with heap:=h',toks:=tk+1 }) a1 λ h2 hz2 sb=>?_⟩
  have neT:∀ b ∈ [e,it],b≠s.heap.objs.size:=λ b hb q=>by
   have lt:∃ o,s.heap.get? b=some o:=by
    obtain ⟨o4,e4,_⟩:=s4;simp only [Zd,Zq,Z9] at hb;rcases hb with rfl | rfl
    · exact ⟨_,s1⟩
    · exact ⟨_,e4⟩
   obtain ⟨o,e'⟩:=lt;rw [q] at e';exact absurd (Zt e') (Yo _)
  obtain ⟨f0,f1,f2,f3,f4,f5⟩:=hf e (by simp);have I2:Inv X ac σ (upd H s.heap.objs.size (.tup [.int (i:Int),x])) { s with heap:=h2,toks:=tk+1 }:=I1.turned (t':=tk+1) (λ b o hb e'=>(sb.2 b hb).trans e') (by rw [aF (neT e (by simp))]; exact f0) f1 f3 f4 f5;refine ⟨.ref s.heap.objs.size,_,I2,rfl,⟨s.heap.objs.size,x,rfl,hn,rfl,λ zs hz=>by rw [I.tF hz hq]; exact hx⟩,?_,λ b hb=>by rw [aF (neT b hb)]; exact (hf b hb).1⟩;obtain ⟨⟨o4,e4,r4⟩,_⟩:=a2;exact ⟨⟨_,hz2⟩,⟨o4,(sb.2 it (Ne.symm ne)).trans e4,r4⟩⟩
 done:=by
  intro X hP hw hK hc i ac s σ H E I hf st hg;subst hP hw hK;obtain ⟨xs,hq,hx⟩:=hg;obtain ⟨its,rv,p,hz⟩:=I.tuple hq;obtain ⟨⟨old,s1⟩,s4⟩:=st;have l1:=rv.length;have ht:s.heap.IsTuple l its.toArray:=p
  have nT:l≠it:=by
   obtain ⟨o2,e2,c2,_⟩:=ht;obtain ⟨o4,e4,c4,_⟩:=s4;intro z; subst z; rw [e4] at e2; cases e2; rw [c4] at c2; exact absurd c2 (by simp)
  have dr:=yY (prog:=X.prog) (w:=X.w) (A:=X.A.in1) (I.ok.hd hc) it l its.toArray i (by simp; omega);refine wpAny_pyNext_enum_endD dr s1 ⟨rfl,s4,ht⟩ λ h' eb=>⟨rfl,?_⟩
  obtain ⟨f0,f1,f2,f3,f4,f5⟩:=hf it (by simp);exact I.turned (t':=s.toks) (λ b o hb e=>eb b o hb e) f0 f1 f3 f4 f5
 self:=λ _ _ _ _ _ st h=>by
  obtain ⟨⟨old,s1⟩,s4⟩:=st;exact Xk s1 h
def LN (K:W.Frag) (ta:TA):TI:=λ σ H R=>ta σ H λ vs H1=>∃ l xs,vs=[.ref l]/\SqT K H1 l xs/\R (Ru K l) H1
def Dp {X:Cx} {a:Expr} {ta:TA} {elts:List Expr} {k:Nat} {pt p pos:Pos} (hg:Gl X "enumerate") (hm:X.mg "enumerate"=none) (ha:PA X [a] ta) (hs:starEach [a] X.env=[(false,eval a X.env)]:=by rfl):PI X (.Tuple elts k pt) (.Call (.Name "enumerate" p) [a] [] pos) (LN X.K ta):=by
 intro ac s σ H R I h;refine Call_ (mE I hg hm p6 (Yr (thn (ha pos ac s σ H _ I h) λ us s1 ⟨vs,H1,I1,r1,q1⟩=>?_) (by rw [hs]; rfl) (by rfl)));obtain ⟨l,xs,e,q1,q⟩:=q1;subst e
 cases r1 with
 | cons r rr=>
  cases rr;cases r;obtain ⟨its1,rv1,p1,hz1⟩:=I1.tuple q1;refine zd (show s1.heap.IsTuple l its1.toArray from p1) λ h' hE hI hk=>?_
  refine Xk (s:={ s1 with heap:=h' }) hE ?_
  refine ⟨_,[s1.heap.objs.size+1,s1.heap.objs.size],_,_,H1,rfl,I1.kept (t':=s1.toks) hk,yr (Nat.succ_ne_self _),⟨⟨_,hE⟩,hI⟩,λ b hb=>?_,q⟩
  have hb':s1.heap.objs.size<=b:=by
   simp only [Zd,Zq,Z9] at hb;rcases hb with rfl | rfl
   · exact Xd _ 1
   · exact Zo _
  exact I1.wq hb' (I1.hok.fresh hb')
def Bi {K:W.Frag} {a:Addr} {xs:List V} {Hs:Hp} {as:List D} (h1:SqT K Hs a xs) (r1:Rps K Hs xs as):ItR K (Ru K a) Hs (c7 as):=λ Hs1 H g1 g2=>by
 have hq1:=g2.tup (g1.tup h1);have l1:=r1.length;refine ⟨λ i d e=>?_,λ i hi=>⟨xs,hq1,?_⟩⟩
 ·unfold c7 at e
  rw [List.getElem?_mapIdx] at e;obtain ⟨p,ea,ed⟩:=Zm e;obtain ⟨x,hx,rx⟩:=r1.get ea;subst ed;refine ⟨⟨xs,x,hq1,hx⟩,λ v H' ⟨T,vx,e1,hn,e2,f1⟩=>?_⟩;subst e1 e2;have ex:=f1 xs hq1;rw [hx] at ex;cases ex;have g:=Ext.new g2 hn (.tup [.int (i:Int),x]);exact ⟨_,g,.tup (SqT.of aC) (.cons (.int _) (.cons ((rx.same g1).same g.ss) .nil))⟩
 ·have hl:(c7 as).length=as.length:=by simp [c7]
  omega
def wo (f:DA):DI:=λ τ=>(f τ).bind λ ds=>match ds with | [.tup as]=>some (c7 as) | _=>none
end L2
end
section
namespace L2
open PySem PyProof.Rows
section
variable {X:Cx} {e:Expr} {pos:Pos}
def ipS:TIp:=λ x y H Q=>∃ i j,x=.str i/\y=.str j/\i.length+j.length<=sizeLine/\Q (.str (i++j)) H
def LL:PIp X .Add ipS:=λ ac s σ H x y v u Q I r1 r2 h=>wk ac s σ H x y v u Q I r1 r2 h
def xO:D->D->Option D
 | .str i,.str j=>if i.length+j.length<=100000 then some (.str (i++j)) else none
 | _,_=>none
def Bn (h:xO x y=some z):∃ i j,x=.str i/\y=.str j/\i.length+j.length<=100000/\z=.str (i++j):=by
 unfold xO at h;split at h
 ·split at h
  ·rename_i q
   exact ⟨_,_,rfl,rfl,q,(Zj h).symm⟩
  · cases h
 · cases h
end
end L2
end
section
namespace L2
open PySem PySem.Spec PyProof.Rows
section
variable {X:Cx} {e a b c o:Expr} {es:List Expr} {pos ap bv:Pos} {f g:DE}
def AX:MtR X "str.startswith" (λ x xs H Q=>∃ i j:Str,x=.str i/\xs=[.str j]/\Q (.bl (Txt.startswith i j)) H):=by
 intro ac s σ H x xs v us Q I rx rv h;obtain ⟨i,j,rfl,rfl,q⟩:=h;obtain ⟨t,rfl⟩:=rx;obtain ⟨u,rfl,tu,rfl⟩:=vals1 rv;exact SC.startswith ⟨.bl _,H,I,rfl,q⟩
def AM:D->D->Option D
 | .str i,.str j=>some (.bl (Txt.startswith i j))
 | _,_=>none
def Hd:List D->Option D
 | [.int i]=>if i.natAbs.log2 < 1920 then some (.str (toString i)) else none
 | _=>none
def Mf:eI X (.type "str") (rdL X.K Hd):=u7.imp λ xs H Q ⟨Hs,ds,d,sm,r,e,k⟩=>by
 have sh:∃ i,ds=[.int i]/\i.natAbs.log2 < 1920/\d=.str (toString i):=by
  unfold Hd at e;split at e
  ·split at e
   ·rename_i hz
    exact ⟨_,rfl,hz,(Zj e).symm⟩
   · cases e
  · cases e
 obtain ⟨i,rfl,hz,rfl⟩:=sh
 cases r with
 | cons hx rr=>cases rr; cases hx; exact ⟨i,rfl,hz,k _ Hs H (.refl sm) (.str _)⟩
end

abbrev Fn0 (K:W.Frag) (x:Str) (st:Stmt) (f:Addr):Prop:=∃ (od an:Option Addr) (sl:Array (Option Value)) (oc kV dc pm cd ct:Value),PySem.W.nsIn K mainGlobals x=some (some (.ref f))/\K.lookup f=some ⟨oc,od,.func (PySem.W.fnOf x x (fW st) (cQ st) (bt st) .none kV dc pm an cd ct),sl⟩/\PySem.W.codeIn K cd x=true/\W.keepIn K (.ref f)=true
def Fn0.mk {K:W.Frag} {x:Str} {st:Stmt} {f:Addr} {h:Heap} {mg:Str->Option Value} {ps:List Str} (e:Fn0 K x st f) (X:K.In h) (G:h.Ns mainGlobals mg) (hb:∀ (kV doc pm:Value) (an:Option Addr) (cdv ct:Value) (us:List Value),us.length=ps.length->bindArgs (PySem.W.fnOf x x (fW st) (cQ st) (bt st) .none kV doc pm an cdv ct) ⟨us,[]⟩=pure (ps.zip us)):∃ fd,Fun K x x st f fd/\mg x=some (.ref f)/\Binds K fd ps []:=by
 obtain ⟨od,an,sl,oc,kV,dc,pm,cd,ct,a,l,c,k⟩:=e;exact ⟨_,BA (st:=st) l c k,PySem.W.mg_of X G a,(BA (st:=st) l c k).binds hb⟩
def Kz {as:List Addr} {h:Heap}:∀ {K:W.Frag},as=K.map (·.1)->as.map h.get?=K.map (λ p=>some p.2)->∀ p ∈ K,h.get? p.1=some p.2:=by
 intro K e q;subst e;rw [List.map_map] at q;intro p hp;exact List.map_inj_left.mp q p hp
theorem FH:∀ {K:W.Frag},List.lookup a K=some o->(a,o) ∈ K
 | [],h=>by cases h
 | (b,u)::K,h=>by
  rw [List.lookup_cons] at h
  cases q:a == b with
  | true=>
   rw [q] at h;have e1:a=b:=eq_of_beq q;have e2:u=o:=Zj h;subst e1 e2;exact Zp ..
  | false=>
   rw [q] at h;exact Za _ (FH h)
def CS {q:Program} {loose:List Str} {XP:(Str->Option Value)->Heap->Prop} {as:List Addr} {K:Params->W.Frag} {n t:Nat} {r:PySem.W.RowW} {d:PySem.DefRec} {kwd:List (Str×Expr)} {run:Value->List Value->Sem Value}
  (e:∀ P,as=(K P).map (·.1)) (h:PySem.W.WalkO q loose XP (PySem.W.InK K) r d kwd run):PySem.W.WalkX q loose XP (PySem.W.X.obsZ as) (PySem.W.X.valZ K n t) r d kwd run:=by
 intro w s₀ s₁ mg mb G y a o pm cd doc dV kV ho hd hcd hD hmg hg args vals bs L hpre hlay hrd hwl hlo;have y1:as.map s₀.heap.get?=(K w.params).map (λ p=>some p.2):=Z8 Prod.fst y;have KX:(K w.params).In s₁.heap:=λ b o' e'=>L.keeps b o' (Kz (e w.params) y1 (b,o') (FH e'))
 exact h w s₀ s₁ mg mb G KX a o pm cd doc dV kV ho hd hcd hD hmg hg args vals bs hpre hlay hrd hwl hlo
end L2
end
section
namespace L2
open PySem PySem.Spec PyProof.Rows
abbrev Dc (x:Str):Prop:=(x == ("__classdict__":Str))=false
abbrev Fs (X:Cx) (i:Expr):Prop:=∀ x,foldedSetIterable i X.env x=pure x
abbrev Xl (X:Cx) (x:Str):Prop:=X.fn x=true\/X.env.scope.names.lookup x=some .local
abbrev Sw (X:Cx) (e:Expr) (x:Str) (p pos:Pos):Prop:=swapsWith e (some (.Name x p)) pos.line X.env=pure false
def Df (K:W.Frag) (mg:Str->Option Value) (x:Str) (st:Stmt) (ps:List Str):Prop:=∃ a d,Fun K x x st a d/\mg x=some (.ref a)/\Binds K d ps []
structure Go (P:Program) (w:World) (K:W.Frag) (mg:Str->Option Value) (base:Heap) (k:Nat) (x:Str) (sp:Sp):Prop where
 go:∃ f fd ps,mg x=some (.ref f)/\W.keepIn K (.ref f)=true/\Binds K fd ps []/\qt P w K mg base CX0 k f fd ps sp
def aa (i:Nat) (hN:X.N[i]?=some x:=by exact rfl) (hv:Vis X.env.scope x:=by walk_at "w") (hd:Dg x:=by decide) (hcd:Dc x:=by decide):Bx (PEd X (.Name x pos) (aM i)):=⟨(oJ hN hv hd hcd).imp λ σ H Q ⟨H0,Hs,τ,fp,d,st,sm,e,k⟩=>by
 have e':τ[i]?=some (.shr d):=by
  unfold aM at e;split at e
  · rename_i d' q; rw [q]; simpa using e
  · cases e
 obtain ⟨v,h1,h2⟩:=st.get e'
 exact ⟨v,h1,k v Hs H (.refl sm) h2⟩⟩
def ai  : Bx (PEd X (.Constant (.int i) j pos) (dC (.int i))):=⟨js tY λ _=>.int i⟩
def bG  : Bx (PEd X (.Constant (.bool i) j pos) (dC (.bl i))):=⟨js Kj λ _=>.bl i⟩
def Eo  : Bx (PEd X (.Constant .none j pos) (dC .non)):=⟨js EY λ _=>.non⟩
def af  : Bx (PEd X (.Constant (.str x) j pos) (dC (.str x))):=⟨js Aj λ _=>.str x⟩
def wN (hm:X.mg x=none) (hg:Gl X x:=by rfl) (hv:bootBuiltins x=some (.type n):=by decide +kernel) (hn:x≠"__name__":=by decide) (hd:Dg x:=by decide):Bx (PEd X (.Name x pos) (dC (.ty n))):=⟨js (v:=.ty n) (Am hg hm hv (rfl) hn hd) λ _=>.ty n⟩
def fY (ho:OpR X (binaryOp op) (rdR X.K o)) (ha:Bx (PEd X a f)) (hb:Bx (PEd X b g)):Bx (PEd X (.BinOp a op b pos) (dOp o f g)):=⟨have ha:=ha.out; have hb:=hb.out; (OF ho ha hb).imp λ σ H Q h=>qL X.K h⟩
def IH (ho:UnR X (unaryOp op) (rdU X.K o)) (ha:Bx (PEd X a f)):Bx (PEd X (.UnaryOp op a pos) (dUn o f)):=⟨have ha:=ha.out; (OD ho ha).imp λ σ H Q ⟨H0,Hs,τ,fp,d,st,sm,e,k⟩=>by
 obtain ⟨x,e1,e⟩:=U0 e
 exact ⟨H0,Hs,τ,fp,x,st,sm,e1,λ v Hs1 H1 g1 r1=>⟨Hs1,x,d,g1.sh,r1,e,λ w Hs3 H3 g3 r3=>k w Hs3 H3 (g1.trans g3) r3⟩⟩⟩
def lg (ho:OpR X (compareOp op) (rdR X.K o)) (ha:Bx (PEd X a f)) (hb:Bx (PEd X b g)) (hm:behindInMarks op b=false:=by first | exact E5 _ | rfl):Bx (PEd X (.Compare a [op] [b] pos) (dOp o f g)):=⟨have ha:=ha.out; have hb:=hb.out; (G0 ho ha hb hm).imp λ σ H Q h=>qL X.K h⟩
def cm (ho:OpR X (compareOp op) (rdR X.K o)) (ha:Bx (PEd X a f)) (hb:Bx (PEd X b g)) (hm:behindInMarks op b=false:=by first | exact E5 _ | rfl):Bx (PTd X (.Compare a [op] [b] pos) (dT (dOp o f g))):=⟨have ha:=ha.out; have hb:=hb.out; (GN ho ha hb hm).imp λ σ H Q ⟨H0,Hs,τ,fp,d,st,sm,e,k⟩=>by
 obtain ⟨x,e1,e⟩:=U0 e;have hx:x=.bl d:=by cases x <;> simp at e <;> subst e <;> rfl
 subst hx;refine qL X.K ⟨H0,Hs,τ,fp,_,st,sm,e1,λ v Hs' H' g r=>?_⟩;cases r
 exact ⟨d,rfl,k Hs' H' g⟩⟩
def jy (ho:OpR X (compareOp op) (rdR X.K o)) (ho':OpR X (compareOp op') (rdR X.K o')) (ha:Bx (PEd X a f)) (hb:Bx (PEd X b g)) (hc:Bx (PEd X c h)) (hm:lastMarks [op,op'] [b,c]=false:=by with_unfolding_all rfl):Bx (PEd X (.Compare a [op,op'] [b,c] pos) (k6 (dOp o f g) (dOp o' g h))):=⟨have ha:=ha.out; have hb:=hb.out; have hc:=hc.out; (Du ho ho' ha hb hc hm).imp λ σ H Q ⟨H0,Hs,τ,fp,d,st,sm,e,k⟩=>by
 obtain ⟨r,e0,e⟩:=U0 e;obtain ⟨x,e1,e0⟩:=U0 e0;obtain ⟨y,e2,e0⟩:=U0 e0;refine ⟨H0,Hs,τ,fp,x,st,sm,e1,λ v Hs1 H1 g1 r1=>?_⟩;refine ⟨H0,Hs1,τ,fp,y,st.ext g1,g1.sh,e2,λ u Hs2 H2 g2 r2=>?_⟩;refine ⟨Hs2,x,y,r,g2.sh,r1.same g2.ss,r2,e0,λ w Hs3 H3 g3 r3=>?_⟩
 cases r3 with
 | bl kb=>
  refine ⟨kb,rfl,?_⟩
  cases kb with
  | false=>
   rw [if_neg Zf];have e':D.bl false=d:=by simpa using e
   subst e';exact k _ Hs3 H3 ((g1.trans g2).trans g3) (.bl false)
  | true=>
   rw [if_pos rfl];obtain ⟨y',q1,q2⟩:=U0 (e);have ey:y'=y:=by rw [e2] at q1; exact (Zj q1).symm
   subst ey;obtain ⟨z,q3,q4⟩:=U0 q2;refine ⟨H0,Hs3,τ,fp,z,st.ext ((g1.trans g2).trans g3),g3.sh,q3,λ u' Hs4 H4 g4 r4=>?_⟩;exact ⟨Hs4,y',z,d,g4.sh,(r2.same g3.ss).same g4.ss,r4,q4,λ w' Hs5 H5 g5 r5=>k w' Hs5 H5 ((((g1.trans g2).trans g3).trans g4).trans g5) r5⟩
 | _=>exact nn e⟩
def eD  : Bx (PAd X [] bR):=⟨d8.imp λ σ H Q ⟨H0,Hs,τ,fp,d,st,sm,e,k⟩=>by
 have e':=Zj e;subst e'
 exact k [] Hs H (.refl sm) .nil⟩
def aJ (ha:Bx (PEd X e f)) (hr:Bx (PAd X es g)) (hs:Se X e es:=by rfl):Bx (PAd X (e::es) (aG f g)):=⟨have ha:=ha.out; have hr:=hr.out; (bH ha hr hs).imp λ σ H Q ⟨H0,Hs,τ,fp,d,st,sm,e,k⟩=>by
 obtain ⟨x,e1,e⟩:=U0 e;obtain ⟨xs,e2,e⟩:=U0 e;have e':=Zj e;subst e';refine ⟨H0,Hs,τ,fp,x,st,sm,e1,λ v Hs1 H1 g1 r1=>?_⟩
 exact ⟨H0,Hs1,τ,fp,xs,st.ext g1,g1.sh,e2,λ u Hs2 H2 g2 r2=>k _ Hs2 H2 (g1.trans g2) (.cons (r1.same g2.ss) r2)⟩⟩
def aA (h:Bx (PAd X es g)):Bx (PEd X (.Tuple es x1 pos) (mM g)):=⟨have h:=h.out; (Ai h).imp λ σ H Q ⟨H0,Hs,τ,fp,d,st,sm,e,k⟩=>by
 obtain ⟨xs,e1,e⟩:=U0 e
 by_cases hl:xs.length<=100000
 ·rw [if_pos hl] at e
  have e':=Zj e;subst e';refine ⟨H0,Hs,τ,fp,xs,st,sm,e1,λ v Hs1 H1 g1 r1=>?_⟩;refine ⟨by rw [r1.length]; exact CI hl,λ p hp=>?_⟩;have g2:=Ext.new g1.sh hp (.tup v);exact k _ _ _ (g1.trans g2) (.tup (SqT.of aC) (r1.same g2.ss))
 · rw [if_neg hl] at e; cases e⟩
def a9 (h:Bx (PAd X es g)):Bx (PEo X (.List es pos) (Md g)):=⟨have h:=h.out; (EZ h).imp λ σ H Q ⟨H0,Hs,τ,fp,d,st,sm,e,k⟩=>by
 obtain ⟨xs,e1,e⟩:=U0 e
 by_cases hl:xs.length<=100000
 ·rw [if_pos hl] at e
  have e':=Zj e;subst e';refine ⟨H0,Hs,τ,fp,xs,st,sm,e1,λ v Hs1 H1 g1 r1=>?_⟩;refine ⟨by rw [r1.length]; exact CI hl,λ p hp=>?_⟩;refine k p Hs1 _ ⟨g1.ss,g1.sh.trans (bo hp _),g1.hh.trans (bo hp _),g1.fr⟩ (.lst aC (g1.sh.free hp) r1) (g1.hh.free hp)
 · rw [if_neg hl] at e; cases e⟩
def ay (h:Bx (PEo X e f)):Bx (PEd X e f):=⟨PEo.shr h.out⟩
def aH (h:Bx (PEd X e f)) (he:∀ whole,isTrue e X.env whole=(do let v <- whole; standAt e.pos; holding [v] (truthy v)):=by intro _; rfl):Bx (PTd X e (dT f)):=⟨have h:=h.out; (EO h he).imp λ σ H Q ⟨H0,Hs,τ,fp,d,st,sm,e,k⟩=>by
 obtain ⟨x,e1,e⟩:=U0 e;have hx:x=.bl d:=by cases x <;> simp at e <;> subst e <;> rfl
 subst hx;refine ⟨H0,Hs,τ,fp,_,st,sm,e1,λ v Hs' H' g r=>?_⟩;cases r
 exact ⟨d,rfl,k Hs' H' g⟩⟩
def aT (h:Bx (PTd X e f)):Bx (PTd X (.UnaryOp .Not e pos) (pQ f)):=⟨have h:=h.out; (J4 h).imp λ σ H Q ⟨H0,Hs,τ,fp,d,st,sm,e,k⟩=>by
 obtain ⟨x,e1,e⟩:=Zm e;subst e
 exact ⟨H0,Hs,τ,fp,x,st,sm,e1,λ Hs' H' g=>k Hs' H' g⟩⟩
def bZ (h:Bx (PTd X a f)):Bx (PWd X (.BoolOp .And [a] pos) f):=⟨have h:=h.out; pw_and1 h⟩
def bQ (h:Bx (PTd X a f)):Bx (PWd X (.BoolOp .Or [a] pos) f):=⟨have h:=h.out; pw_or1 h⟩
def b6 (ha:Bx (PTd X a f)) (hb:Bx (PWd X (.BoolOp .And (b::es) pos) g)):Bx (PWd X (.BoolOp .And (a::b::es) pos) (B4 f g)):=⟨have ha:=ha.out; have hb:=hb.out; PW.imp (pw_and ha hb) λ σ H Q ⟨H0,Hs,τ,fp,d,st,sm,e,k⟩=>by
 obtain ⟨x,e1,e⟩:=U0 e;refine ⟨H0,Hs,τ,fp,x,st,sm,e1,λ Hs' H' g1=>?_⟩
 cases x with
 | true=>exact ⟨H0,Hs',τ,fp,d,st.ext g1,g1.sh,e,λ Hs2 H2 g2=>k Hs2 H2 (g1.trans g2)⟩
 | false=>
  have e':false=d:=by simpa using e
  subst e'
  exact k Hs' H' g1⟩
def bM (ha:Bx (PTd X a f)) (hb:Bx (PWd X (.BoolOp .Or (b::es) pos) g)):Bx (PWd X (.BoolOp .Or (a::b::es) pos) (dOr f g)):=⟨have ha:=ha.out; have hb:=hb.out; PW.imp (pw_or ha hb) λ σ H Q ⟨H0,Hs,τ,fp,d,st,sm,e,k⟩=>by
 obtain ⟨x,e1,e⟩:=U0 e;refine ⟨H0,Hs,τ,fp,x,st,sm,e1,λ Hs' H' g1=>?_⟩
 cases x with
 | false=>exact ⟨H0,Hs',τ,fp,d,st.ext g1,g1.sh,e,λ Hs2 H2 g2=>k Hs2 H2 (g1.trans g2)⟩
 | true=>
  have e':true=d:=by simpa using e
  subst e'
  exact k Hs' H' g1⟩
def aX (h:Bx (PWd X e f)):Bx (PTd X e f):=⟨PWd.ptd h.out⟩
def cw (h:Bx (PEd X a f)):Bx (PEd X (.BoolOp op [a] pos) f):=⟨have h:=h.out; Ak h⟩
def dj (ha:Bx (PEd X a f)) (hb:Bx (PEd X (.BoolOp .And (b::es) pos) g)):Bx (PEd X (.BoolOp .And (a::b::es) pos) (k6 f g)):=⟨have ha:=ha.out; have hb:=hb.out; (An ha hb).imp λ σ H Q ⟨H0,Hs,τ,fp,d,st,sm,e,k⟩=>by
 obtain ⟨x,e1,e⟩:=U0 e;refine ⟨H0,Hs,τ,fp,x,st,sm,e1,λ v Hs' H' g1 r=>?_⟩
 cases r with
 | bl kb=>
  refine ⟨kb,rfl,?_⟩
  cases kb with
  | true=>exact ⟨H0,Hs',τ,fp,d,st.ext g1,g1.sh,e,λ v Hs2 H2 g2 r=>k v Hs2 H2 (g1.trans g2) r⟩
  | false=>
   have e':D.bl false=d:=by simpa using e
   subst e';exact k _ Hs' H' g1 (.bl false)
 | _=>exact nn e⟩
def pZ (ha:Bx (PEd X a f)) (hb:Bx (PEd X (.BoolOp .Or (b::es) pos) g)):Bx (PEd X (.BoolOp .Or (a::b::es) pos) (Iy f g)):=⟨have ha:=ha.out; have hb:=hb.out; (OE ha hb).imp λ σ H Q ⟨H0,Hs,τ,fp,d,st,sm,e,k⟩=>by
 obtain ⟨x,e1,e⟩:=U0 e;refine ⟨H0,Hs,τ,fp,x,st,sm,e1,λ v Hs' H' g1 r=>?_⟩
 cases r with
 | bl kb=>
  refine ⟨kb,rfl,?_⟩
  cases kb with
  | false=>exact ⟨H0,Hs',τ,fp,d,st.ext g1,g1.sh,e,λ v Hs2 H2 g2 r=>k v Hs2 H2 (g1.trans g2) r⟩
  | true=>
   have e':D.bl true=d:=by simpa using e
   subst e';exact k _ Hs' H' g1 (.bl true)
 | _=>exact nn e⟩
def Em (ha:Bx (PEd X a f)):Bx (PEd X (.UnaryOp .Not a pos) (Eb f)):=⟨have ha:=ha.out; (EW ha).imp λ σ H Q ⟨H0,Hs,τ,fp,d,st,sm,e,k⟩=>by
 obtain ⟨x,e1,e⟩:=U0 e;refine ⟨H0,Hs,τ,fp,x,st,sm,e1,λ v Hs' H' g1 r=>?_⟩
 cases r with
 | bl kb=>
  have e':D.bl (!kb)=d:=by simpa using e
  subst e';exact ⟨kb,rfl,k _ Hs' H' g1 (.bl _)⟩
 | _=>exact nn e⟩
def gH (hc:Bx (PTd X c t)) (ha:Bx (PEd X a f)) (hb:Bx (PEd X b g)):Bx (PEd X (.IfExp c a b pos) (dIf t f g)):=⟨have hc:=hc.out; have ha:=ha.out; have hb:=hb.out; (Ds hc ha hb).imp λ σ H Q ⟨H0,Hs,τ,fp,d,st,sm,e,k⟩=>by
 obtain ⟨x,e1,e⟩:=U0 e;refine ⟨H0,Hs,τ,fp,x,st,sm,e1,λ Hs' H' g1=>?_⟩
 cases x with
 | true=>exact ⟨H0,Hs',τ,fp,d,st.ext g1,g1.sh,by simpa using e,λ v Hs2 H2 g2 r=>k v Hs2 H2 (g1.trans g2) r⟩
 | false=>exact ⟨H0,Hs',τ,fp,d,st.ext g1,g1.sh,by simpa using e,λ v Hs2 H2 g2 r=>k v Hs2 H2 (g1.trans g2) r⟩⟩
def bA (ha:Bx (PEd X a f)) (hb:Bx (PEd X b g)) (hs:CB b:=by exact λ _ _=>rfl):Bx (PEd X (.Subscript a b pos) (dOp oIx f g)):=⟨have ha:=ha.out; have hb:=hb.out; (OI ixd ha hb hs).imp λ σ H Q h=>qL X.K h⟩
def aE  : Bx (POd X none uX):=⟨GU.imp λ σ H Q ⟨H0,Hs,τ,fp,d,st,sm,e,k⟩=>by
 have e':=Zj e;subst e'
 exact k Hs H (.refl sm)⟩
def ax (h:Bx (PEd X e f)):Bx (POd X (some e) (dP f)):=⟨have h:=h.out; (GS h).imp λ σ H Q ⟨H0,Hs,τ,fp,d,st,sm,e,k⟩=>by
 obtain ⟨x,e1,e⟩:=U0 e;refine ⟨H0,Hs,τ,fp,x,st,sm,e1,λ v Hs' H' g r=>?_⟩
 cases r with
 | int i=>
  have e':=Zj e;subst e';exact ⟨i,rfl,k Hs' H' g⟩
 | _=>exact nn e⟩
section
variable {X:Cx} {a b c e:Expr} {es:List Expr} {pos:Pos} {f g h:DE}
def fX {lo hi:Option Expr} {p2:Pos} {l u:DO} (ha:Bx (PEd X a f)) (hl:Bx (POd X lo l)) (hh:Bx (POd X hi u)):Bx (PEo X (.Subscript a (.Slice lo hi none p2) pos) (dSl f l u)):=⟨have ha:=ha.out; have hl:=hl.out; have hh:=hh.out; (xr Gu ha hl hh).imp λ σ H Q ⟨H0,Hs,τ,fp,d,st,sm,e,k⟩=>by
 obtain ⟨x,e1,e⟩:=U0 e;obtain ⟨l',e2,e⟩:=U0 e;obtain ⟨u',e3,e⟩:=U0 e;refine ⟨H0,Hs,τ,fp,x,st,sm,e1,λ v Hs1 H1 g1 r1=>?_⟩;refine ⟨H0,Hs1,τ,fp,l',st.ext g1,g1.sh,e2,λ Hs2 H2 g2=>?_⟩;refine ⟨H0,Hs2,τ,fp,u',(st.ext g1).ext g2,g2.sh,e3,λ Hs3 H3 g3=>?_⟩;have g13:=(g1.trans g2).trans g3;have r3:=(r1.same g2.ss).same g3.ss
 have fin:∀ (p:Addr) (ys:List V) (ds:List D),H3 p=none->Rps X.K Hs3 ys ds->d=.lst ds->Q (.ref p) (upd H3 p (.lst ys)):=λ p ys ds hp r ed=>by
  subst ed;exact k p Hs3 _ ⟨g13.ss,g13.sh.trans (bo hp _),g13.hh.trans (bo hp _),g13.fr⟩ (.lst aC (g13.sh.free hp) r) (g13.hh.free hp)
 cases r3 with
 | @lst a xs ds h r=>
  have e':=Zj e;exact ⟨a,xs,rfl,SqL.of (g3.sh _ _ h),λ p hp=>fin p _ _ hp (B5 l' u' r) e'.symm⟩
 | @fz a xs ds h r=>
  have e':D.lst (cutD ds l' u')=d:=Zj e;exact ⟨a,xs,rfl,g3.sh.seq h,λ p hp=>fin p _ _ hp (B5 l' u' r) e'.symm⟩
 | _=>exact nn e⟩
def aB {x:Str} {id:String} {p:Pos} {o:List D->Option D} {g:DA} (hc:eI X (.builtin id) (rdL X.K o)) (hm:X.mg x=none) (ha:Bx (PAd X (e::es) g)) (hg:Gl X x:=by rfl) (hv:bootBuiltins x=some (.builtin id):=by decide +kernel) (hn:x≠"__name__":=by decide) (hdb:Dg x:=by decide) (he:Se X e es:=by rfl) (hpl:Sb X pos es:=by rfl):Bx (PEd X (.Call (.Name x p) (e::es) [] pos) (ej o g)):=⟨have ha:=ha.out; (nQ hc hg hm hv ha hn hdb he hpl).imp λ σ H Q h=>call_of X.K h⟩
end
def bB (hc:eI X (.type T) (rdL X.K o)) (hm:X.mg x=none) (ha:Bx (PAd X (e::es) g)) (hg:Gl X x:=by rfl) (hv:bootBuiltins x=some (.type T):=by decide +kernel) (hn:x≠"__name__":=by decide) (hdb:Dg x:=by decide) (he:Se X e es:=by rfl) (hpl:Sb X pos es:=by rfl):Bx (PEd X (.Call (.Name x p) (e::es) [] pos) (ej o g)):=⟨have ha:=ha.out; (t5 hc hg hm hv ha hn hdb he hpl).imp λ σ H Q h=>call_of X.K h⟩
def Ep (i:Nat) (h:Bx (PEd X e f)):Bx (PEd X e (Ja i f)):=⟨have h:=h.out; PE.imp h λ σ H Q ⟨H0,Hs,τ,fp,d,st,sm,e,k⟩=>by
 unfold Ja at e;split at e
 ·rename_i d0 q
  obtain ⟨d1,e1,e2⟩:=U0 e
  by_cases hf:lO d1=true
  ·rw [if_pos hf] at e2
   have e':=Zj e2;subst e';obtain ⟨a,o,fp',h1,h2,h3,h4,h5,h6,h7,h8⟩:=st.frz q;refine ⟨H0,upd Hs a o,_,fp',d1,h4,sm.frz h1,e1,λ v Hs' H' g r=>?_⟩;exact k v (pA a Hs') H' (g.Js h2 h1) (r.hide (g.ss _ _ aC) (h8.obj h1) hf)
  · rw [if_neg hf] at e2; cases e2
 · exact ⟨H0,Hs,τ,fp,d,st,sm,e,k⟩⟩
def fg (i:Nat) (h:Bx (PTd X e f)):Bx (PTd X e (JG i f)):=⟨have h:=h.out; PT.imp h λ σ H Q ⟨H0,Hs,τ,fp,d,st,sm,e,k⟩=>by
 unfold JG at e;split at e
 ·rename_i d0 q
  obtain ⟨a,o,fp',h1,h2,h3,h4,h5,h6,h7,h8⟩:=st.frz q;exact ⟨H0,upd Hs a o,_,fp',d,h4,sm.frz h1,e,λ Hs' H' g=>k (pA a Hs') H' (g.Js h2 h1)⟩
 · exact ⟨H0,Hs,τ,fp,d,st,sm,e,k⟩⟩
def ak  : Bx (zr X [] d6):=⟨vM.imp λ E σ H ⟨Hs0,H0,Hs,τ,o,r,e,k⟩=>by
 have e':=Zj e;subst e'
 exact k σ Hs H r⟩
section
variable {X:Cx} {a b c e:Expr} {es:List Expr} {pos:Pos} {st:Stmt} {rest:List Stmt} {f g:DS}
def ag (h:Bx (PSd X st f)):Bx (zr X [st] f):=⟨have h:=h.out; dF h⟩
def ae (h1:Bx (PSd X st f)) (h2:Bx (zr X rest g)):Bx (zr X (st::rest) (fu f g)):=⟨have h1:=h1.out; have h2:=h2.out; (fC h1 h2).imp λ E σ H ⟨Hs0,H0,Hs,τ,o,r,e,k⟩=>by
 unfold fu at e
 cases q:f τ with
 | none=>rw [q] at e; cases e
 | some o1=>
  rw [q] at e;refine ⟨Hs0,H0,Hs,τ,o1,r,q,?_⟩
  cases o1 with
  | next τ'=>exact λ σ' Hs' H' r'=>⟨Hs0,H0,Hs',τ',o,r',e,k⟩
  | ret s=>cases e; exact k
  | brk τ'=>cases e; exact k
  | cnt τ'=>cases e; exact k⟩
def ba  : Bx (PSd X st EK):=⟨λ _ _ _ _ _ _ ⟨_,_,_,_,_,_,e,_⟩=>by cases e⟩
end
def au (hc:Bx (PTd X c t)) (ha:Bx (zr X x f)) (hb:Bx (zr X y g)):Bx (PSd X (.If c x y pos) (sIf t f g)):=⟨have hc:=hc.out; have ha:=ha.out; have hb:=hb.out; (vO hc ha hb).imp λ E σ H ⟨Hs0,H0,Hs,τ,o,r,e,k⟩=>by
 obtain ⟨bb,e1,e2⟩:=U0 e;obtain ⟨fp,h⟩:=r.st;refine ⟨H0,Hs,τ,fp,bb,h,r.same,e1,λ Hs' H' g1=>?_⟩
 cases bb with
 | true=>exact ⟨Hs0,H0,Hs',τ,o,r.ext' g1,by simpa using e2,k⟩
 | false=>exact ⟨Hs0,H0,Hs',τ,o,r.ext' g1,by simpa using e2,k⟩⟩
def aj (h:Bx (PEd X e f)):Bx (PSd X (.Return (some e) pos) (nD f)):=⟨have h:=h.out; (xm h).imp λ E σ H ⟨Hs0,H0,Hs,τ,o,r,e,k⟩=>by
 obtain ⟨d,e1,rfl⟩:=Zm e;obtain ⟨fp,h⟩:=r.st
 exact ⟨H0,Hs,τ,fp,d,h,r.same,e1,λ v Hs' H' g1 rv=>k v Hs' H' (r.ext.trans g1) rv⟩⟩
def Cm (i:Nat) (hN:X.N.Nodup) (hi:X.N[i]?=some x:=by exact rfl) (he:Bx (PEd X e f)) (hx:Loc X.env.scope x:=by walk_at "v") (hs:Sw X e x pos' pos:=by rfl) (hf:Xl X x:=by walk_at "v"):Bx (PSd X (.Assign [.Name x pos'] e pos) (mo i f)):=⟨have he:=he.out; (g9 hN hi hx he hs hf).imp λ E σ H ⟨Hs0,H0,Hs,τ,o,r,e,k⟩=>by
 obtain ⟨d,e1,rfl⟩:=Zm e;obtain ⟨fp,h⟩:=r.st;refine ⟨H0,Hs,τ,fp,d,h,r.same,e1,λ v Hs' H' g1 rv=>?_⟩;obtain ⟨fp',_,h'⟩:=(h.ext g1).EH rv
 exact k _ Hs' H' ⟨r.ext.trans g1,fp',h'⟩⟩
def cc (i:Nat) (hN:X.N.Nodup) (hi:X.N[i]?=some x:=by exact rfl) (he:Bx (PEo X e f)) (hx:Loc X.env.scope x:=by walk_at "v") (hs:Sw X e x pos' pos:=by rfl) (hf:Xl X x:=by walk_at "v"):Bx (PSd X (.Assign [.Name x pos'] e pos) (C2 i f)):=⟨have he:=he.out; (g9 hN hi hx he hs hf).imp λ E σ H ⟨Hs0,H0,Hs,τ,o,r,e,k⟩=>by
 unfold C2 at e;split at e
 ·rename_i hl
  obtain ⟨d,e1,rfl⟩:=Zm e;obtain ⟨fp,h⟩:=r.st;refine ⟨H0,Hs,τ,fp,d,h,r.same,e1,λ v Hs' H' g1 rv z=>?_⟩;obtain ⟨fp',_,h'⟩:=(h.ext g1).Tq rv (r.old z) (Ay h z) hl;exact k _ Hs' H' ⟨r.ext.trans g1,fp',h'⟩
 · cases e⟩
section
variable {X:Cx} {a b c e:Expr} {es:List Expr} {pos:Pos} {st:Stmt} {rest:List Stmt} {f g:DS}
def cI (i:Nat) (h:Bx (PSd X st f)):Bx (PSd X st (IS i f)):=⟨have h:=h.out; PS.imp h λ E σ H ⟨Hs0,H0,Hs,τ,o,r,e,k⟩=>by
 unfold IS at e;split at e
 ·rename_i d q
  obtain ⟨Hs',r'⟩:=r.frz q;exact ⟨Hs0,H0,Hs',_,o,r',e,k⟩
 · exact ⟨Hs0,H0,Hs,τ,o,r,e,k⟩⟩
end
def cJ (i:Nat) (hN:X.N[i]?=some x:=by exact rfl) (he:Bx (PEd X e f)) (hv:Vis X.env.scope x:=by walk_at "w") (hd:Dg x:=by decide) (hcd:Dc x:=by decide) (db:Sc X (.Name x p) "append":=by rfl) (ce:SB X e bv:=by rfl) (ci:SM ap bv:=by rfl) (hst:Se X e []:=by rfl) (cr:Sb X bv []:=by rfl) (hs:swapsWith (.Call (.Attribute (.Name x p) "append" ap) [e] [] bv) none pos.line X.env=pure false:=by rfl):Bx (PSd X (.Expr (.Call (.Attribute (.Name x p) "append" ap) [e] [] bv) pos) (GA i f)):=⟨have he:=he.out; (vP (t6 PySem.F.plainAttrs_list PySem.F.slot_list_append PySem.F.type_list_append um (oJ hN hv hd hcd) (bH he d8 hst) db ce ci hst cr) hs).imp λ E σ H ⟨Hs0,H0,Hs,τ,o,r,e,k⟩=>by
 obtain ⟨d,e1,e2⟩:=U0 e;obtain ⟨fp,h⟩:=r.st;split at e2
 ·rename_i ds q
  split at e2
  ·rename_i hl
   cases e2;obtain ⟨a,h1,h2,h3,h4⟩:=h.Ie q
   cases h2 with
   | @lst xs _ hH hn hr=>
    refine ⟨_,h1,.inl ⟨rfl,_,SqL.of hH⟩,?_⟩;refine ⟨H0,Hs,τ,fp,d,h,r.same,e1,λ v Hs' H' g1 rv=>?_⟩;have hH':=g1.hh _ _ hH;have h':=h.ext g1;have n':=g1.fr a hn (oi hH);refine ⟨a,xs,v,rfl,rfl,hH',by rw [hr.length]; exact le5 (Nat.le_of_lt hl),?_⟩;refine k σ Hs' _ ⟨⟨r.ext.ss.trans g1.ss,λ b u z=>?_,λ b u z=>?_,λ b k1 k2=>?_⟩,fp,h'.mut q h1 (.lst aC n' ((hr.same g1.ss).append (.cons rv .nil)))⟩
    ·have ne:b≠a:=λ y=>by subst y; rw [n'] at z; cases z
     rw [aF ne]; exact g1.sh b u z
    ·have ne:b≠a:=λ y=>by subst y; rw [h3] at z; cases z
     rw [aF ne]; exact g1.hh b u (r.ext.hh b u z)
    · exact g1.fr b (r.ext.fr b k1 k2) (r.ext.hh.live k2)
  · cases e2
 · cases e2⟩
def cf (h:Bx (PEd X l f)):Bx (PId X tg l (D2 f)):=⟨have h:=h.out; (GV h).imp λ σ H R ⟨H0,Hs,τ,fp,ds,st,sm,e,k⟩=>by
 obtain ⟨x,e1,e2⟩:=U0 e;refine ⟨H0,Hs,τ,fp,x,st,sm,e1,λ v Hs' H' g r=>?_⟩
 cases r with
 | @lst a xs ds' h r=>
  have e':=Zj e2;subst e';exact ⟨a,rfl,⟨xs,SqL.of (g.sh _ _ h)⟩,k _ Hs' H' g (xK (SqL.of h) r)⟩
 | @fz a xs ds' h r=>
  have e':ds'=ds:=Zj e2;subst e';exact ⟨a,rfl,⟨xs,g.sh.seq h⟩,k _ Hs' H' g (xK h r)⟩
 | _=>exact nn e2⟩
def iJ (h:Bx (PEd X l f)):Bx (PId X tg l (HV f)):=⟨have h:=h.out; (Ke h).imp λ σ H R ⟨H0,Hs,τ,fp,ds,st,sm,e,k⟩=>by
 obtain ⟨x,e1,e2⟩:=U0 e;refine ⟨H0,Hs,τ,fp,x,st,sm,e1,λ v Hs' H' g r=>?_⟩
 cases r with
 | @tup a xs ds' h r=>
  have e':=Zj e2;subst e';exact ⟨a,rfl,⟨xs,g.sh.tup h⟩,k _ Hs' H' g (HP h r)⟩
 | _=>exact nn e2⟩
def cY (hm:X.mg "range"=none) (ha:Bx (PAd X [a] f)) (hg:Gl X "range":=by rfl) (hs:starEach [a] X.env=[(false,eval a X.env)]:=by rfl):Bx (PId X tg (.Call (.Name "range" p) [a] [] pos) (Bu f)):=⟨have ha:=ha.out; (Ag hg hm ha hs).imp λ σ H R ⟨H0,Hs,τ,fp,ds,st,sm,e,k⟩=>by
 obtain ⟨x,e1,e2⟩:=U0 e;refine ⟨H0,Hs,τ,fp,x,st,sm,e1,λ v Hs' H' g r=>?_⟩
 match x,r,e2 with
 | [y],.cons hy .nil,e2=>
  cases hy with
  | int j=>
   simp only at e2;split at e2
   ·rename_i hj
    have e':=Zj e2;subst e';exact ⟨j,rfl,hj.1,hj.2,k _ Hs' H' g (Bh _ _)⟩
   · cases e2
  | _=>exact nn e2
 | [],_,e2=>simp at e2
 | _::_::_,_,e2=>simp at e2⟩
def aW (i:Nat) (hN:X.N.Nodup) (hi:X.N[i]?=some x:=by exact rfl) (hx:Loc X.env.scope x:=by walk_at "v") (hf:Xl X x:=by walk_at "v"):Bx (PGd X (.Name x pos) (gN i)):=⟨(sd hN hi hx hf).imp λ v σ H Q ⟨Hs0,H0,Hs,τ,τ',d,r,rv,e,k⟩=>by
 have e':=Zj e;subst e';obtain ⟨fp,h⟩:=r.st;obtain ⟨fp',_,h'⟩:=h.EH rv
 exact k _ ⟨r.ext,fp',h'⟩⟩
def eU  : Bx (NX X [] Bw):=⟨Ah.imp λ v σ H Q ⟨Hs0,H0,Hs,τ,τ',d,r,rv,e,k⟩=>by
 cases rv with
 | nil=>
  have e':=Zj e;subst e';exact ⟨rfl,k σ r⟩
 | cons _ _=>simp [Bw] at e⟩
def bO (h1:Bx (PGd X e g)) (h2:Bx (NX X es h)) (hs:(assignEach (e::es) X.env).map (·.2)=assign e X.env::(assignEach es X.env).map (·.2):=by rfl):Bx (NX X (e::es) (mF g h)):=⟨have h1:=h1.out; have h2:=h2.out; (r9 h1 h2 hs).imp λ v σ H Q ⟨Hs0,H0,Hs,τ,τ',d,r,rv,e,k⟩=>by
 cases rv with
 | nil=>simp [mF] at e
 | cons rx rr=>
  obtain ⟨τ1,e1,e2⟩:=U0 e
  exact ⟨_,_,rfl,Hs0,H0,Hs,τ,τ1,_,r,rx,e1,λ σ' r'=>⟨Hs0,H0,Hs,τ1,τ',_,r',rr,e2,k⟩⟩⟩
def gr (h:Bx (NX X es g)) (hc:X.calm=true:=by rfl) (hn:(assignEach es X.env).length=n:=by rfl) (hst:(assignEach es X.env).findIdx? (·.1)=none:=by rfl):Bx (PGd X (.Tuple es k' pos) (gT n g)):=⟨have h:=h.out; (EV hc h hn hst).imp λ v σ H Q ⟨Hs0,H0,Hs,τ,τ',d,r,rv,e,k⟩=>by
 cases rv with
 | @tup a xs ds h rr=>
  simp only [gT] at e;split at e
  ·rename_i hl
   exact ⟨a,xs,rfl,r.same.tup h,by rw [rr.length]; exact hl,Hs0,H0,Hs,τ,τ',ds,r,rr,e,k⟩
  · cases e
 | _=>simp [gT] at e⟩
theorem bJ (hi:Bx (PId X tg iter it)) (hg:Bx (PGd X tg g)) (hb:Bx (zr X body b)) (hp:PassesOwn (model X.prog X.w) X.A X.env X.xe:=by exact .never) (hc:X.calm=true:=by rfl) (hs:Fs X iter:=by intro _; rfl):Bx (PSd X (.For tg iter body [] pos) (IT it g b)):=⟨have hi:=hi.out; have hg:=hg.out; have hb:=hb.out; (ET hp hc hi hg hb hs).imp λ E σ H ⟨Hs0,H0,Hs,τ,o,r,e,k⟩=>by
 obtain ⟨ds,e1,e2⟩:=U0 e;obtain ⟨fp,hst⟩:=r.st;refine ⟨H0,Hs,τ,fp,ds,hst,r.same,e1,λ J Hs1 H1 g1 hJ=>?_⟩;have r1:=r.ext' g1;have kk:=k.rebase r1.ext;refine ⟨λ i m σ H=>m=ds.length - i/\i<=ds.length/\∃ Hs2 τ2,Rep X.K Hs1 H0 Hs2 H σ τ2/\ia (λ d τ=>(g d τ).bind b) (ds.drop i) τ2=some o,⟨ds.length,by simp,Ye _,Hs1,τ,r1.rebase,by simpa using e2⟩,?_⟩
 rintro i m σ2 H2 ⟨rfl,hi,Hs2,τ2,r2,e3⟩
 obtain ⟨hgo,hstop⟩:=hJ Hs2 H2 r2.ext.ss r2.same
 by_cases hlt:i < ds.length
 ·have ed:=Yg hlt
  rw [ed] at e3;obtain ⟨go,yl⟩:=hgo i ds[i] (List.getElem?_eq_getElem hlt);refine .inr ⟨go,λ σ' H'=>∃ Hs' τ',Rep X.K Hs1 H0 Hs' H' σ' τ'/\ia (λ d τ=>(g d τ).bind b) (ds.drop (i+1)) τ'=some o,?_,?_⟩
  ·rintro σ' H' ⟨Hs',τ',r',e'⟩
   exact ⟨ds.length - (i+1),by omega,rfl,hlt,Hs',τ',r',e'⟩
  ·intro x H' y
   obtain ⟨Hs3,g3,rx⟩:=yl x H' y;have r3:=r2.ext' g3;unfold ia at e3
   cases q:(g ds[i] τ2).bind b with
   | none=>simp only [q] at e3; cases e3
   | some o1=>
    simp only [q] at e3;obtain ⟨τ3,q1,q2⟩:=U0 q;refine ⟨Hs1,H0,Hs3,τ2,τ3,ds[i],r3,rx,q1,λ σ' r'=>?_⟩;refine ⟨Hs1,H0,Hs3,τ3,o1,r',q2,?_⟩
    cases o1 with
    | next τ'=>exact λ σ4 Hs4 H4 r4=>⟨Hs4,τ',r4,e3⟩
    | cnt τ'=>exact λ σ4 Hs4 H4 r4=>⟨Hs4,τ',r4,e3⟩
    | brk τ'=>cases e3; exact kk
    | ret s=>cases e3; exact kk
 ·have e0:i=ds.length:=by omega
  subst e0;rw [Xs] at e3;have e':Out.next τ2=o:=by simpa [ia] using e3
  subst e'
  exact .inl ⟨hstop _ (Zo _),kk σ2 Hs2 H2 r2⟩⟩
theorem pV (hc:Bx (PTd X c t)) (hb:Bx (zr X body b)) (hp:PassesOwn (model X.prog X.w) X.A X.env X.xe:=by exact .never):Bx (PSd X (.While c body [] pos) (ot t b)):=⟨have hc:=hc.out; have hb:=hb.out; (Dj hp hc hb).imp λ E σ H ⟨Hs0,H0,Hs,τ,o,r,e,k⟩=>by
 obtain ⟨n,e⟩:=zV e;refine ⟨λ m σ H=>∃ Hs2 τ2,Rep X.K Hs0 H0 Hs2 H σ τ2/\cU t b m τ2=some o,⟨n,Hs,τ,r,e⟩,?_⟩
 rintro m σ2 H2 ⟨Hs2,τ2,r2,e2⟩
 obtain ⟨fp,hst⟩:=r2.st
 cases m with
 | zero=>simp [cU] at e2
 | succ m=>
  unfold cU at e2
  cases q:t τ2 with
  | none=>rw [q] at e2; cases e2
  | some bb=>
   rw [q] at e2;refine ⟨H0,Hs2,τ2,fp,bb,hst,r2.same,q,λ Hs3 H3 g3=>?_⟩;have r3:=r2.ext' g3
   cases bb with
   | false=>
    have e':Out.next τ2=o:=by simpa using e2
    subst e';exact DZ (k σ2 Hs3 H3 r3)
   | true=>
    refine nS ?_
    refine ⟨λ σ' H'=>∃ Hs' τ',Rep X.K Hs0 H0 Hs' H' σ' τ'/\cU t b m τ'=some o,?_,?_⟩
    ·rintro σ' H' ⟨Hs',τ',r',e'⟩
     exact ⟨m,by omega,Hs',τ',r',e'⟩
    ·cases q2:b τ2 with
     | none=>rw [q2] at e2; cases e2
     | some o1=>
      rw [q2] at e2;refine ⟨Hs0,H0,Hs3,τ2,o1,r3,q2,?_⟩
      cases o1 with
      | next τ'=>exact λ σ4 Hs4 H4 r4=>⟨Hs4,τ',r4,e2⟩
      | cnt τ'=>exact λ σ4 Hs4 H4 r4=>⟨Hs4,τ',r4,e2⟩
      | brk τ'=>cases e2; exact k
      | ret s=>cases e2; exact k⟩
def aq (Fo:Go X.prog X.w X.K X.mg X.base k x (spF F X.K)) (hr:ip jj X.A) (ha:Bx (PAd X (e::es) g)) (hj:k<=jj:=by decide) (hg:Gl X x:=by rfl) (hdb:Dg x:=by decide) (he:Se X e es:=by rfl) (hpl:Sb X pos es:=by rfl):Bx (PEd X (.Call (.Name x p) (e::es) [] pos) (dFn F g)):=by
 have ⟨f',fd',ps',hm,hk,hb,Fo⟩:=Fo.go;have hr:=hr.mono hj;exact ⟨G1 Fo hr hg hm hk hb ha.out hdb he hpl⟩
def gu (Fo:Go X.prog X.w X.K X.mg X.base k x (spF F X.K)) (hr:ip jj X.A) (hj:k<=jj:=by decide) (hg:Gl X x:=by rfl) (hdb:Dg x:=by decide):Bx (PEd X (.Call (.Name x p) [] [] pos) (dFn F bR)):=by
 have ⟨f',fd',ps',hm,hk,hb,Fo⟩:=Fo.go;have hr:=hr.mono hj;exact ⟨Dw Fo hr hg hm hk hb hdb⟩
def di (O:dA X scope cl x cs) (hi:Bx (PId X (.Name x px) iter it)) (he:∀ s H fp C,Bx (PEd (bI X scope cl (x::cs.map (·.1)) s H fp C) elt g):=by intros; walk_at "g") (hc:X.calm=true:=by rfl) (hs:Fs X iter:=by intro _; rfl):Bx (PEo X (.ListComp elt [⟨.Name x px,iter,[],0⟩] scope pos) (B3 it g cs)):=⟨have hi:=hi.out; have he:=(λ s H fp C=>(he s H fp C).out); (GZ (te:=rdE X.K g) hc O hi he hs).imp λ σ H Q h=>Cb h⟩
def kg (i:Nat) (hN:X.N.Nodup) (O:dA X scope cl x cs) (hy:X.N[i]?=some y:=by exact rfl) (hi:Bx (PId X (.Name x px) iter it)) (he:∀ s H fp C,Bx (PEd (bI X scope cl (x::cs.map (·.1)) s H fp C) elt g):=by intros; walk_at "g") (hx:Loc X.env.scope y:=by walk_at "v") (hc:X.calm=true:=by rfl) (hs:Fs X iter:=by intro _; rfl) (hsw:swapsWith (.ListComp elt [⟨.Name x px,iter,[],0⟩] scope pos) (some (.Name y py)) spos.line X.env=pure true:=by rfl) (hf:Xl X y:=by walk_at "v"):Bx (PSd X (.Assign [.Name y py] (.ListComp elt [⟨.Name x px,iter,[],0⟩] scope pos) spos) (mo i (B3 it g cs))):=⟨have hi:=hi.out; have he:=(λ s H fp C=>(he s H fp C).out); (GO (te:=rdE X.K g) hN hy hx hc O hi he hs hsw hf).imp λ E σ H ⟨Hs0,H0,Hs,τ,o,r,e,k⟩=>by
 obtain ⟨d,e1,rfl⟩:=Zm e;obtain ⟨fp,h⟩:=r.st;refine Cb ⟨H0,Hs,τ,fp,d,h,r.same,e1,λ a Hs' H' g1 rv z=>?_⟩;obtain ⟨Hs2,g2,r2⟩:=SlV.shr (s:=.own d) g1 ⟨a,rfl,rv,z⟩ rfl;obtain ⟨fp',_,h'⟩:=(h.ext g2).EH r2
 exact k _ Hs2 H' ⟨r.ext.trans g2,fp',h'⟩⟩
def mO (i:Nat) (hN:X.N.Nodup) (O:dA X scope cl x cs) (hy:X.N[i]?=some y:=by exact rfl) (hi:Bx (PId X (.Name x px) iter it)) (hcd:∀ s H fp C,Bx (PTd (bI X scope cl (x::cs.map (·.1)) s H fp C) cnd c):=by intros; walk_at "h") (he:∀ s H fp C,Bx (PEd (bI X scope cl (x::cs.map (·.1)) s H fp C) elt g):=by intros; walk_at "g") (hx:Loc X.env.scope y:=by walk_at "v") (hc:X.calm=true:=by rfl) (hs:Fs X iter:=by intro _; rfl) (hsw:swapsWith (.ListComp elt [⟨.Name x px,iter,[cnd],0⟩] scope pos) (some (.Name y py)) spos.line X.env=pure true:=by rfl) (hf:Xl X y:=by walk_at "v"):Bx (PSd X (.Assign [.Name y py] (.ListComp elt [⟨.Name x px,iter,[cnd],0⟩] scope pos) spos) (mo i (uY it c g cs))):=⟨have hi:=hi.out; have hcd:=(λ s H fp C=>(hcd s H fp C).out); have he:=(λ s H fp C=>(he s H fp C).out); (Dk (te:=rdE X.K g) (tt:=rdT X.K c) hN hy hx hc O hi hcd he hs hsw hf).imp λ E σ H ⟨Hs0,H0,Hs,τ,o,r,e,k⟩=>by
 obtain ⟨d,e1,rfl⟩:=Zm e;obtain ⟨fp,h⟩:=r.st;refine Ef ⟨H0,Hs,τ,fp,d,h,r.same,e1,λ a Hs' H' g1 rv z=>?_⟩;obtain ⟨Hs2,g2,r2⟩:=SlV.shr (s:=.own d) g1 ⟨a,rfl,rv,z⟩ rfl;obtain ⟨fp',_,h'⟩:=(h.ext g2).EH r2
 exact k _ Hs2 H' ⟨r.ext.trans g2,fp',h'⟩⟩
theorem p4 (hu:X.A.units+64 < cLine) (hs:Rr i) (ho:Bx (PEd X o f)) (hi:Bx (PEd X i g)):Bx (PEd X (.Subscript o i pos) (dOp yH f g)):=⟨have ho:=ho.out; have hi:=hi.out; (GY (by omega) ho hi hs).imp λ σ H Q h=>by
 have h':=qL X.K h;obtain ⟨H0,Hs,τ,fp,x,st,sm,e1,kk⟩:=h';refine ⟨H0,Hs,τ,fp,x,st,sm,e1,λ v Hs1 H1 g1 r1=>?_⟩;obtain ⟨H0',Hs',τ',fp',y,st',sm',e2,kk2⟩:=kk v Hs1 H1 g1 r1;refine ⟨H0',Hs',τ',fp',y,st',sm',e2,λ u Hs2 H2 g2 r2=>?_⟩;obtain ⟨Hs3,dx,dy,d,sm3,rx,ry,eo,k⟩:=kk2 u Hs2 H2 g2 r2
 cases rx with
 | @dct a am ds hH rk=>
  obtain ⟨key,ek,ev⟩:=U0 (eo);obtain ⟨w,hw,rw'⟩:=(rk.val).1 d ev;have:=oY ry ek;subst this;exact ⟨a,w,rfl,by rw [<- hw]; exact zu.k (sm3 _ _ hH),k w Hs3 H2 (.refl sm3) rw'⟩
 | @dfz a am ds hH rk=>
  obtain ⟨key,ek,ev⟩:=U0 (show (sU dy).bind _=some d from eo);obtain ⟨w,hw,rw'⟩:=(rk.val (k:=key)).1 d ev;have:=oY ry ek;subst this;refine ⟨a,w,rfl,.inl ⟨_,key,hH.elim (λ z=>.inl (sm3 _ _ z)) (λ ⟨o,z⟩=>.inr ⟨o,sm3 _ _ z⟩),rfl,hw.symm⟩,k w Hs3 H2 (.refl sm3) rw'⟩
 | _=>simp [yH] at eo⟩
def Ck (hu:X.A.units+64 < cLine) (hm:behindInMarks .In o=false) (hi:Bx (PEd X i f)) (ho:Bx (PEd X o g)):Bx (PTd X (.Compare i [.In] [o] pos) (dT (dOp KH f g))):=⟨have hi:=hi.out; have ho:=ho.out; (tX (Kl (by omega) hi ho) hm).imp λ σ H Q h=>Iv (neg:=false) X.K (Jz X.K h)⟩
def Co (hu:X.A.units+64 < cLine) (ho:Bx (PEd X o f)) (he:Bx (PEd X e g)) (hv:Bx (PEd X value h)) (m:M2 X o "get" ap e value bv:=by exact ⟨rfl,rfl,rfl,rfl⟩):Bx (PEd X (.Call (.Attribute o "get" ap) [e,value] [] bv) (Iz f g h)):=⟨have ho:=ho.out; have he:=he.out; have hv:=hv.out; (Dt (by omega) ho he hv m).imp λ σ H Q ⟨H0,Hs,τ,fp,d,st,sm,e,k⟩=>by
 obtain ⟨x,e1,e⟩:=U0 e;obtain ⟨y,e2,e⟩:=U0 e;obtain ⟨z,e3,e⟩:=U0 e;refine ⟨H0,Hs,τ,fp,x,st,sm,e1,λ v Hs1 H1 g1 r1=>?_⟩
 cases r1 with
 | @dct a am ds hH rk=>
  obtain ⟨key,ek,ev⟩:=Zm (e);refine ⟨a,rfl,.inl ⟨am,.inl (g1.sh _ _ hH)⟩,?_⟩;refine ⟨H0,Hs1,τ,fp,y,st.ext g1,g1.sh,e2,λ u Hs2 H2 g2 r2=>?_⟩;refine ⟨H0,Hs2,τ,fp,z,(st.ext g1).ext g2,g2.sh,e3,λ w Hs3 H3 g3 r3=>?_⟩;have:=oY r2 ek;subst this;have hH3:=g3.sh _ _ (g3.ss _ _ (g2.ss _ _ hH));refine ⟨qu am key,zu.k hH3,?_⟩;have g13:=(g1.trans g2).trans g3;subst ev;have rk3:=(rk.same g2.ss).same g3.ss
  cases q:gX ds key with
  | none=>
   rw [q] at k;rw [(rk3.val).2 q];exact k w Hs3 H3 g13 r3
  | some d'=>
   obtain ⟨w',hw,rw'⟩:=(rk3.val (k:=key)).1 d' q;rw [q] at k;rw [hw];exact k w' Hs3 H3 g13 rw'
 | _=>exact nn e⟩
def jx (j:Nat) (hu:X.A.units+64 < cLine) (hN:X.N[j]?=some x:=by exact rfl) (hval:Bx (PEd X value f)) (hi:Bx (PEd X i g)) (hv:Vis X.env.scope x:=by walk_at "w") (hs:swapsWith value (some (.Subscript (.Name x p) i pos')) pos.line X.env=pure false:=by rfl) (hd:Dg x:=by decide) (hcd:Dc x:=by decide):Bx (PSd X (.Assign [.Subscript (.Name x p) i pos'] value pos) (zX j f g)):=⟨have hval:=hval.out; have hi:=hi.out; (GP (by omega) (oJ hN hv hd hcd) hi hval hs).imp λ E σ H ⟨Hs0,H0,Hs,τ,o,r,e,k⟩=>by
 obtain ⟨dv,e1,e⟩:=U0 e;obtain ⟨dy,e2,e⟩:=U0 e;obtain ⟨fp,h⟩:=r.st;split at e
 ·rename_i ds q
  obtain ⟨key,ek,e⟩:=U0 e;split at e
  ·rename_i hl
   cases e;obtain ⟨a,h1,h2,h3,h4⟩:=h.Ie q
   cases h2 with
   | @dct am _ hH hn hr=>
    refine ⟨H0,Hs,τ,fp,dv,h,r.same,e1,λ v Hs1 H1 g1 rv=>?_⟩;refine ⟨_,h1,?_⟩;refine ⟨H0,Hs1,τ,fp,dy,h.ext g1,g1.sh,e2,λ y Hs2 H2 g2 ry=>?_⟩;have g12:=g1.trans g2;have hH':=g12.hh _ _ hH;have h':=h.ext g12;have n':=g12.fr a hn (oi hH);have:=oY ry ek;subst this;refine ⟨a,_,rfl,Mn.k hH' (by rw [hr.length]; exact le5 (Nat.le_of_lt hl)),?_⟩;refine k σ Hs2 _ ⟨⟨r.ext.ss.trans g12.ss,λ b u z=>?_,λ b u z=>?_,λ b k1 k2=>?_⟩,fp,h'.mut q h1 (.dct aC n' ((hr.same g12.ss).put (rv.same g2.ss)))⟩
    ·have ne:b≠a:=λ y=>by subst y; rw [n'] at z; cases z
     rw [aF ne]; exact g12.sh b u z
    ·have ne:b≠a:=λ y=>by subst y; rw [h3] at z; cases z
     rw [aF ne]; exact g12.hh b u (r.ext.hh b u z)
    · exact g12.fr b (r.ext.fr b k1 k2) (r.ext.hh.live k2)
  · cases e
 · cases e⟩
def pU (ho:OpR X (compareOp op) (rdR X.K o)) (ho':OpR X (compareOp op') (rdR X.K o')) (ha:Bx (PEd X a f)) (hb:Bx (PEd X b g)) (hc:Bx (PEd X c h)) (hm:lastMarks [op,op'] [b,c]=false:=by with_unfolding_all rfl):Bx (PTd X (.Compare a [op,op'] [b,c] pos) (dT (k6 (dOp o f g) (dOp o' g h)))):=⟨have ha:=ha.out; have hb:=hb.out; have hc:=hc.out; (Di ho ho' ha hb hc hm).imp λ σ H Q hh=>Eh X.K (Jz X.K hh)⟩
def pW  : Bx (PPd X pos [] [] []):=⟨GQ⟩
def cX (hk:Bx (PEd X k f)) (hv:Bx (PEd X v g)) (hr:Bx (PPd X pos ks vs ps)):Bx (PPd X pos (some k::ks) (v::vs) ((f,g)::ps)):=⟨have hk:=hk.out; have hv:=hv.out; have hr:=hr.out; Dn hk hv hr⟩
def pX (h:Bx (PPd X pos keys values ps)) (hall:keys.all (·.isSome)=true:=by rfl) (hl:keys.length=values.length:=by rfl) (h0:keys≠[]:=by exact Wd _ _) (h15:keys.length<=15:=by exact Zb rfl):Bx (PEo X (.Dict keys values pos) (Rc ps)):=⟨have h:=h.out; (GX h hall hl h0 h15).imp λ σ H Q ⟨H0,Hs,τ,fp,d,st,sm,e,k⟩ p hp=>by
 obtain ⟨am,e1,e⟩:=U0 e;split at e
 ·rename_i hk
  cases e;have hsp:=sm.free hp;have g0:Ext Hs H Hs (upd H p (.dK [])):=⟨.refl _,sm.trans (bo hp _),bo hp _,λ _ h _=>h⟩
  refine xw (st.ext g0) g0.sh e1 λ ws Hs' H' g r=>?_
  have hp':=g.hh _ _ aC;have hs':=g.fr p hsp (by rw [aC]; simp);refine ⟨hp',ws,rfl,by rw [r.length]; exact hk,?_⟩;refine k p Hs' _ ⟨g.ss,λ b u z=>?_,λ b u z=>?_,λ b k1 k2=>?_⟩ (.dct aC hs' (r.merge .nil)) hp
  ·have ne:b≠p:=λ y=>by subst y; rw [hs'] at z; cases z
   rw [aF ne]; exact g.sh b u z
  ·have ne:b≠p:=λ y=>by subst y; rw [hp] at z; cases z
   rw [aF ne]; exact g.hh b u (by rw [aF ne]; exact z)
  ·by_cases z:b=p
   · subst z; exact hs'
   · exact g.fr b k1 (by rw [aF z]; exact k2)
 · cases e⟩
def u9 (hm:X.mg "zip"=none) (ha:Bx (PAd X [a,b] f)) (hg:Gl X "zip":=by rfl) (hs:starEach [a,b] X.env=[(false,eval a X.env),(false,eval b X.env)]:=by rfl) (hs2:starEach [b] X.env=[(false,eval b X.env)]:=by rfl):Bx (PId X (.Tuple elts k pt) (.Call (.Name "zip" p) [a,b] [] pos) (HU f)):=⟨have ha:=ha.out; (Kd hg hm ha hs hs2).imp λ σ H R ⟨H0,Hs,τ,fp,ds,st,sm,e,k⟩=>by
 obtain ⟨x,e1,e2⟩:=U0 e;refine ⟨H0,Hs,τ,fp,x,st,sm,e1,λ v Hs' H' g r=>?_⟩
 match x,r,e2 with
 | [y,z],.cons hy (.cons hz .nil),e2=>
  cases hy with
  | @lst a1 xs1 ds1 h1 r1=>cases hz with
   | @lst a2 xs2 ds2 h2 r2=>
    have e':=Zj e2;subst e';exact ⟨a1,a2,xs1,xs2,rfl,SqL.of (g.sh _ _ h1),SqL.of (g.sh _ _ h2),k _ Hs' H' g (HN (SqL.of h1) r1 (SqL.of h2) r2)⟩
   | _=>exact nn e2
  | _=>cases hz <;> exact nn e2
 | [],_,e2=>simp at e2
 | [_],_,e2=>simp at e2
 | _::_::_::_,_,e2=>simp at e2⟩
def zf (j:Nat) (hN:X.N[j]?=some x:=by exact rfl) (hval:Bx (PEd X value f)) (hi:Bx (PEd X i g)) (hv:Vis X.env.scope x:=by walk_at "w") (hd:Dg x:=by decide) (hcd:Dc x:=by decide) (ha:∀ v,assign (.Subscript (.Name x p) i pos') X.env v=(do
   let ov <- holding [v] (eval (.Name x p) X.env)
   let iv <- holding [v,ov] (eval i X.env)
   standAt pos'
   holding [v,ov,iv] (setItem ov iv v)
   release [v,ov,iv] []):=by intro _; rfl) (hs:swapsWithSole [.Subscript (.Name x p) i pos'] value pos.line X.env=pure false:=by rfl) (hw:swappedStores [.Subscript (.Name x p) i pos'] value X.env=pure none:=by rfl) (h1:(assignEach [.Subscript (.Name x p) i pos'] X.env).map (·.2)=[assign (.Subscript (.Name x p) i pos') X.env]:=by rfl):Bx (PSd X (.Assign [.Subscript (.Name x p) i pos'] value pos) (zW j f g)):=⟨have hval:=hval.out; have hi:=hi.out; (J9 hval (Kh (oJ hN hv hd hcd) hi set_list ha) hs hw h1).imp λ E σ H ⟨Hs0,H0,Hs,τ,o,r,e,k⟩=>by
 obtain ⟨dv,e1,e⟩:=U0 e;obtain ⟨dy,e2,e⟩:=U0 e;obtain ⟨fp,h⟩:=r.st;split at e
 ·rename_i kk ds q
  obtain ⟨n,en,ee⟩:=Zm e;subst ee;obtain ⟨a,h1,h2,h3,h4⟩:=h.Ie q
  cases h2 with
  | @lst xs _ hH hn hr=>
   refine ⟨H0,Hs,τ,fp,dv,h,r.same,e1,λ v Hs1 H1 g1 rv=>?_⟩;refine ⟨_,h1,?_⟩;refine ⟨H0,Hs1,τ,fp,_,h.ext g1,g1.sh,e2,λ y Hs2 H2 g2 ry=>?_⟩
   cases ry with
   | int _=>
    have g12:=g1.trans g2;have hH':=g12.hh _ _ hH;have h':=h.ext g12;have n':=g12.fr a hn (oi hH);refine ⟨a,xs,kk,n,rfl,rfl,hH',by rw [hr.length]; exact en,?_⟩;refine k σ Hs2 _ ⟨⟨r.ext.ss.trans g12.ss,λ b u z=>?_,λ b u z=>?_,λ b k1 k2=>?_⟩,fp,h'.mut q h1 (.lst aC n' (Rps.set n (hr.same g12.ss) (rv.same g2.ss)))⟩
    ·have ne:b≠a:=λ y=>by subst y; rw [n'] at z; cases z
     rw [aF ne]; exact g12.sh b u z
    ·have ne:b≠a:=λ y=>by subst y; rw [h3] at z; cases z
     rw [aF ne]; exact g12.hh b u (r.ext.hh b u z)
    · exact g12.fr b (r.ext.fr b k1 k2) (r.ext.hh.live k2)
 · cases e⟩
def zg (hm:X.mg "enumerate"=none) (ha:Bx (PAd X [a] f)) (hg:Gl X "enumerate":=by rfl) (hs:starEach [a] X.env=[(false,eval a X.env)]:=by rfl):Bx (PId X (.Tuple elts k pt) (.Call (.Name "enumerate" p) [a] [] pos) (FQ f)):=⟨have ha:=ha.out; (GW hg hm ha hs).imp λ σ H R ⟨H0,Hs,τ,fp,ds,st,sm,e,k⟩=>by
 obtain ⟨x,e1,e2⟩:=U0 e;refine ⟨H0,Hs,τ,fp,x,st,sm,e1,λ v Hs' H' g r=>?_⟩
 match x,r,e2 with
 | [y],.cons hy .nil,e2=>
  cases hy with
  | @lst a1 xs1 ds1 h1 r1=>
   have e':=Zj e2;subst e';exact ⟨a1,xs1,rfl,SqL.of (g.sh _ _ h1),k _ Hs' H' g (xM (SqL.of h1) r1)⟩
  | @fz a1 xs1 ds1 h1 r1=>
   have e':c7 ds1=ds:=Zj e2;subst e';exact ⟨a1,xs1,rfl,g.sh.seq h1,k _ Hs' H' g (xM h1 r1)⟩
  | _=>exact nn e2
 | [],_,e2=>simp at e2
 | _::_::_,_,e2=>simp at e2⟩
section
variable {X:Cx} {a b e o:Expr} {es:List Expr} {pos ap bv:Pos} {f g:DE}
def aL {lo hi:Option Expr} {p2:Pos} {l u:DO} (ha:Bx (PEd X a f)) (hl:Bx (POd X lo l)) (hh:Bx (POd X hi u)):Bx (PEd X (.Subscript a (.Slice lo hi none p2) pos) (qJ f l u)):=⟨have ha:=ha.out; have hl:=hl.out; have hh:=hh.out; (xr JL ha hl hh).imp λ σ H Q ⟨H0,Hs,τ,fp,d,st,sm,e,k⟩=>by
 obtain ⟨x,e1,e⟩:=U0 e;obtain ⟨l',e2,e⟩:=U0 e;obtain ⟨u',e3,e⟩:=U0 e;refine ⟨H0,Hs,τ,fp,x,st,sm,e1,λ v Hs1 H1 g1 r1=>?_⟩;refine ⟨H0,Hs1,τ,fp,l',st.ext g1,g1.sh,e2,λ Hs2 H2 g2=>?_⟩;refine ⟨H0,Hs2,τ,fp,u',(st.ext g1).ext g2,g2.sh,e3,λ Hs3 H3 g3=>?_⟩
 cases r1 with
 | str z=>
  unfold RO at e;simp only at e;split at e
  ·rename_i hz
   have e':=Zj e;subst e';exact ⟨z,rfl,CI hz,k _ Hs3 H3 ((g1.trans g2).trans g3) (.str _)⟩
  · cases e
 | _=>exact nn e⟩
end
def iL (ho:Bx (PEd X o f)) (he:Bx (PEd X e g)) (db:Sc X o "join":=by rfl) (ce:SB X e bv:=by rfl) (ci:SM ap bv:=by rfl) (hst:Se X e []:=by rfl) (cr:Sb X bv []:=by rfl):Bx (PEd X (.Call (.Attribute o "join" ap) [e] [] bv) (Ec f g)):=⟨have ho:=ho.out; have he:=he.out; (t6 Y3 PySem.F.slot_str_join PySem.F.type_str_join Hy ho (bH he d8 hst) db ce ci hst cr).imp λ σ H Q ⟨H0,Hs,τ,fp,d,st,sm,e,k⟩=>by
 obtain ⟨x,e1,e⟩:=U0 e;obtain ⟨y,e2,e⟩:=U0 e
 obtain ⟨z,ds,rfl,rfl⟩:∃ z ds,x=.str z/\y=.lst ds:=by
  split at e
  · exact ⟨_,_,rfl,rfl⟩
  · cases e
 refine ⟨H0,Hs,τ,fp,_,st,sm,e1,λ v Hs1 H1 g1 r1=>?_⟩
 cases r1 with
 | str _=>
  refine ⟨rfl,H0,Hs1,τ,fp,_,st.ext g1,g1.sh,e2,λ u Hs2 H2 g2 r2=>?_⟩
  cases r2 with
  | @lst p xs _ h r=>
   obtain ⟨ts,e3,e4⟩:=U0 (e);have ed:=tK e3;subst ed;have ex:=r.oh;subst ex;split at e4
   ·rename_i hs
    have e':=Zj e4;subst e';exact ⟨z,p,ts,rfl,rfl,SqL.of (g2.sh _ _ h),Zs hs (by decide),k _ Hs2 H2 (g1.trans g2) (.str _)⟩
   · cases e4⟩
def iK (h:Bx (PEd X l f)):Bx (PId X tg l (D1 f)):=⟨have h:=h.out; (Kf h).imp λ σ H R ⟨H0,Hs,τ,fp,ds,st,sm,e,k⟩=>by
 obtain ⟨x,e1,e2⟩:=U0 e;refine ⟨H0,Hs,τ,fp,x,st,sm,e1,λ v Hs' H' g r=>?_⟩
 cases r with
 | str z=>
  have e':=Zj e2;subst e';exact ⟨z,rfl,k _ Hs' H' g HQ⟩
 | _=>exact nn e2⟩
def p5 (ho:OpR X (compareOp op) (rdR X.K o)) (ho':OpR X (compareOp op') (rdR X.K o')) (ho'':OpR X (compareOp op'') (rdR X.K o'')) (ha:Bx (PEd X a f)) (hb:Bx (PEd X b g)) (hc:Bx (PEd X c h)) (hd:Bx (PEd X dd kk)) (hm:lastMarks [op,op',op''] [b,c,dd]=false:=by with_unfolding_all rfl):Bx (PEd X (.Compare a [op,op',op''] [b,c,dd] pos) (k6 (dOp o f g) (k6 (dOp o' g h) (dOp o'' h kk)))):=⟨have ha:=ha.out; have hb:=hb.out; have hc:=hc.out; have hd:=hd.out; (Al ho ho' ho'' ha hb hc hd hm).imp λ σ H Q ⟨H0,Hs,τ,fp,d,st,sm,e,k⟩=>by
 obtain ⟨r,e0,e⟩:=U0 e;obtain ⟨x,e1,e0⟩:=U0 e0;obtain ⟨y,e2,e0⟩:=U0 e0;refine ⟨H0,Hs,τ,fp,x,st,sm,e1,λ v Hs1 H1 g1 r1=>?_⟩;refine ⟨H0,Hs1,τ,fp,y,st.ext g1,g1.sh,e2,λ u Hs2 H2 g2 r2=>?_⟩;refine ⟨Hs2,x,y,r,g2.sh,r1.same g2.ss,r2,e0,λ w Hs3 H3 g3 r3=>?_⟩;have G3:=(g1.trans g2).trans g3
 cases r3 with
 | bl kb=>
  refine ⟨kb,rfl,?_⟩
  cases kb with
  | false=>
   rw [if_neg Zf];have e':D.bl false=d:=by simpa using e
   subst e';exact k _ Hs3 H3 G3 (.bl false)
  | true=>
   rw [if_pos rfl];obtain ⟨r',f0,e⟩:=U0 (e);obtain ⟨y',q1,q2⟩:=U0 f0;have ey:y'=y:=by rw [e2] at q1; exact (Zj q1).symm
   subst ey;obtain ⟨z,q3,q4⟩:=U0 q2;refine ⟨H0,Hs3,τ,fp,z,st.ext G3,g3.sh,q3,λ u' Hs4 H4 g4 r4=>?_⟩;refine ⟨Hs4,y',z,r',g4.sh,(r2.same g3.ss).same g4.ss,r4,q4,λ w' Hs5 H5 g5 r5=>?_⟩;have G5:=(G3.trans g4).trans g5
   cases r5 with
   | bl kc=>
    refine ⟨kc,rfl,?_⟩
    cases kc with
    | false=>
     rw [if_neg Zf];have e':D.bl false=d:=by simpa using e
     subst e';exact k _ Hs5 H5 G5 (.bl false)
    | true=>
     rw [if_pos rfl];obtain ⟨z',q5,q6⟩:=U0 (e);have ez:z'=z:=by rw [q3] at q5; exact (Zj q5).symm
     subst ez;obtain ⟨w2,q7,q8⟩:=U0 q6;refine ⟨H0,Hs5,τ,fp,w2,st.ext G5,g5.sh,q7,λ u6 Hs6 H6 g6 r6=>?_⟩;exact ⟨Hs6,z',w2,d,g6.sh,(r4.same g5.ss).same g6.ss,r6,q8,λ w7 Hs7 H7 g7 r7=>k w7 Hs7 H7 ((G5.trans g6).trans g7) r7⟩
   | _=>exact nn e
 | _=>exact nn e⟩
def zh (hm:X.mg x=some (.ref bb)) (hk:KD2 X.w X.K bb ds) (he:Bx (PEd X ee f)) (hf:Bx (PEd X ff g)) (hg:Gl X x:=by rfl) (hd:Dg x:=by decide) (m:M2 X (.Name x p1) "get" ap ee ff bv:=by exact ⟨rfl,rfl,rfl,rfl⟩):Bx (PEd X (.Call (.Attribute (.Name x p1) "get" ap) [ee,ff] [] bv) (B0 ds f g)):=⟨have he:=he.out; have hf:=hf.out; (Dr (jW (v:=.ref bb) hg hm rfl hd) he hf m).imp λ σ H Q ⟨H0,Hs,τ,fp,d,st,sm,e,k⟩=>by
 obtain ⟨y,e1,e⟩:=U0 e;obtain ⟨z,e2,e⟩:=U0 e;obtain ⟨key,ek,ev⟩:=Zm e;obtain ⟨am,hv,rk⟩:=hk.kd.is X.prog Hs;refine ⟨bb,am,rfl,hv,hk.ns,hk.no,H0,Hs,τ,fp,y,st,sm,e1,λ u Hs1 H1 g1 r1=>?_⟩;have:=oY r1 ek;subst this;refine ⟨key,rfl,H0,Hs1,τ,fp,z,st.ext g1,g1.sh,e2,λ w Hs2 H2 g2 r2=>?_⟩;subst ev;have rk2:=(rk.same g1.ss).same g2.ss
 cases q:gX ds key with
 | none=>
  rw [q] at k;rw [(rk2.val).2 q];exact k w Hs2 H2 (g1.trans g2) r2
 | some d'=>
  obtain ⟨w',hw,rw'⟩:=(rk2.val (k:=key)).1 d' q;rw [q] at k;rw [hw]
  exact k w' Hs2 H2 (g1.trans g2) rw'⟩
def eL (he:Bx (PEd X e f)):Bx (PEd X (.FormattedValue e (-1) none pos) (dUn KC f)):=⟨have he:=he.out; (OJ he).imp λ σ H Q ⟨H0,Hs,τ,fp,d,st,sm,e,k⟩=>by
 obtain ⟨x,e1,e⟩:=U0 e;refine ⟨H0,Hs,τ,fp,x,st,sm,e1,λ v Hs1 H1 g1 r1=>?_⟩
 cases r1 with
 | int n=>
  unfold KC at e;simp only at e;split at e
  ·rename_i hz
   have e':=Zj e;subst e';exact ⟨n,rfl,hz,k _ Hs1 H1 g1 (.str _)⟩
  · cases e
 | _=>exact nn e⟩
def lW (he:Bx (PEd X e f)):Bx (PEd X (.JoinedStr [e] pos) f):=⟨have he:=he.out; OH he⟩
def wO (ha:Bx (PEd X a f)) (hb:Bx (PEd X b g)) (hc:Bx (PEd X c h)):Bx (PEd X (.JoinedStr [a,b,c] pos) (dJ3 f g h)):=⟨have ha:=ha.out; have hb:=hb.out; have hc:=hc.out; (OG ha hb hc).imp λ σ H Q ⟨H0,Hs,τ,fp,d,st,sm,e,k⟩=>by
 obtain ⟨x,e1,e⟩:=U0 e;obtain ⟨y,e2,e⟩:=U0 e;obtain ⟨z,e3,e⟩:=U0 e
 have sh:∃ i j k,x=.str i/\y=.str j/\z=.str k/\i.length<=30000/\j.length<=30000/\k.length<=30000/\d=.str (i++j++k):=by
  split at e
  ·split at e
   ·rename_i hz
    exact ⟨_,_,_,rfl,rfl,rfl,hz.1,hz.2.1,hz.2.2,(Zj e).symm⟩
   · cases e
  · cases e
 obtain ⟨i,j,l,rfl,rfl,rfl,z1,z2,z3,rfl⟩:=sh;refine ⟨H0,Hs,τ,fp,_,st,sm,e1,λ v Hs1 H1 g1 r1=>?_⟩;cases r1;refine ⟨i,rfl,z1,H0,Hs1,τ,fp,_,st.ext g1,g1.sh,e2,λ v Hs2 H2 g2 r2=>?_⟩;cases r2;refine ⟨j,rfl,z2,H0,Hs2,τ,fp,_,(st.ext g1).ext g2,g2.sh,e3,λ v Hs3 H3 g3 r3=>?_⟩;cases r3
 exact ⟨l,rfl,z3,k _ Hs3 H3 ((g1.trans g2).trans g3) (.str _)⟩⟩
def cK (ho:Bx (PEd X o f)) (he:Bx (PEd X e g)) (db:Sc X o "endswith":=by rfl) (ce:SB X e bv:=by rfl) (ci:SM ap bv:=by rfl) (hst:Se X e []:=by rfl) (cr:Sb X bv []:=by rfl):Bx (PEd X (.Call (.Attribute o "endswith" ap) [e] [] bv) (dOp AQ f g)):=⟨have ho:=ho.out; have he:=he.out; (t6 Y3 PySem.F.slot_str_endswith PySem.F.type_str_endswith HA ho (bH he d8 hst) db ce ci hst cr).imp λ σ H Q ⟨H0,Hs,τ,fp,d,st,sm,e,k⟩=>by
 obtain ⟨x,e1,e⟩:=U0 e;obtain ⟨y,e2,e⟩:=U0 e;refine ⟨H0,Hs,τ,fp,x,st,sm,e1,λ v Hs1 H1 g1 r1=>?_⟩
 cases r1 with
 | str i=>
  refine ⟨rfl,H0,Hs1,τ,fp,y,st.ext g1,g1.sh,e2,λ u Hs2 H2 g2 r2=>?_⟩
  cases r2 with
  | str j=>
   have e':=Zj e;subst e';exact ⟨i,j,rfl,rfl,k _ Hs2 H2 (g1.trans g2) (.bl _)⟩
  | _=>exact nn e
 | _=>cases y <;> exact nn e⟩
def bh (ho:Bx (PEd X o f)) (he:Bx (PEd X e g)) (db:Sc X o "split":=by rfl) (ce:SB X e bv:=by rfl) (ci:SM ap bv:=by rfl) (hst:Se X e []:=by rfl) (cr:Sb X bv []:=by rfl):Bx (PEo X (.Call (.Attribute o "split" ap) [e] [] bv) (dOp cW f g)):=⟨have ho:=ho.out; have he:=he.out; (t6 Y3 PySem.F.slot_str_split PySem.F.type_str_split DN ho (bH he d8 hst) db ce ci hst cr).imp λ σ H Q ⟨H0,Hs,τ,fp,d,st,sm,e,k⟩=>by
 obtain ⟨x,e1,e⟩:=U0 e;obtain ⟨y,e2,e⟩:=U0 e;refine ⟨H0,Hs,τ,fp,x,st,sm,e1,λ v Hs1 H1 g1 r1=>?_⟩
 cases r1 with
 | str i=>
  refine ⟨rfl,H0,Hs1,τ,fp,y,st.ext g1,g1.sh,e2,λ u Hs2 H2 g2 r2=>?_⟩
  cases r2 with
  | str j=>
   unfold cW at e;simp only at e;split at e
   ·rename_i hz
    have e':=Zj e;subst e';have g12:=g1.trans g2;exact ⟨i,j,rfl,rfl,Xq.mpr hz.1,hz.2,λ p hp=>k p Hs2 _ ⟨g12.ss,g12.sh.trans (bo hp _),g12.hh.trans (bo hp _),g12.fr⟩ (.lst aC (g12.sh.free hp) (Rps.rQ _)) (g12.hh.free hp)⟩
   · cases e
  | _=>exact nn e
 | _=>cases y <;> exact nn e⟩
def Cn (hN:X.N.Nodup) (hij:i≠j) (hx:X.env.scope.names.lookup x=some .local) (hy:X.env.scope.names.lookup y=some .local) (hi:X.N[i]?=some x:=by exact rfl) (hj:X.N[j]?=some y:=by exact rfl) (ha:Bx (PAd X [a,b] g)) (hc:X.calm=true:=by rfl) (hw:swappedStores [.Tuple [.Name x px,.Name y py] kt pt] (.Tuple [a,b] k2 pt2) X.env=pure (some [x,y]):=by rfl) (hs:swapsWithSole [.Tuple [.Name x px,.Name y py] kt pt] (.Tuple [a,b] k2 pt2) pos.line X.env=pure false:=by rfl):Bx (PSd X (.Assign [.Tuple [.Name x px,.Name y py] kt pt] (.Tuple [a,b] k2 pt2) pos) (JV i j g)):=⟨have ha:=ha.out; (J7 hc hN hi hj hij hx hy ha hw hs).imp λ E σ H ⟨Hs0,H0,Hs,τ,o,r,e,k⟩=>by
 obtain ⟨ds,e1,e2⟩:=U0 e;obtain ⟨fp,h⟩:=r.st;refine ⟨H0,Hs,τ,fp,ds,h,r.same,e1,λ vs Hs1 H1 g1 rv=>?_⟩
 have sh:∃ d1 d2,ds=[d1,d2]/\o=.next ((τ.set i (.shr d1)).set j (.shr d2)):=by
  split at e2
  · exact ⟨_,_,rfl,(Zj e2).symm⟩
  · cases e2
 obtain ⟨d1,d2,rfl,rfl⟩:=sh
 cases rv with
 | @cons v1 _ _ _ r1 rr=>cases rr with
  | @cons v2 _ _ _ r2 rr2=>
   cases rr2;obtain ⟨fp',_,h'⟩:=(h.ext g1).EH r1;obtain ⟨fp2,_,h2⟩:=h'.EH r2
   exact ⟨v1,v2,rfl,k _ Hs1 H1 ⟨r.ext.trans g1,fp2,h2⟩⟩⟩
def k9 (ho:Bx (PEd X o f)) (he:Bx (PEd X e g)) (db:Sc X o "partition":=by rfl) (ce:SB X e bv:=by rfl) (ci:SM ap bv:=by rfl) (hst:Se X e []:=by rfl) (cr:Sb X bv []:=by rfl):Bx (PEd X (.Call (.Attribute o "partition" ap) [e] [] bv) (dOp AN f g)):=⟨have ho:=ho.out; have he:=he.out; (t6 Y3 PySem.F.slot_str_partition PySem.F.type_str_partition Hx ho (bH he d8 hst) db ce ci hst cr).imp λ σ H Q ⟨H0,Hs,τ,fp,d,st,sm,e,k⟩=>by
 obtain ⟨x,e1,e⟩:=U0 e;obtain ⟨y,e2,e⟩:=U0 e;refine ⟨H0,Hs,τ,fp,x,st,sm,e1,λ v Hs1 H1 g1 r1=>?_⟩
 cases r1 with
 | str i=>
  refine ⟨rfl,H0,Hs1,τ,fp,y,st.ext g1,g1.sh,e2,λ u Hs2 H2 g2 r2=>?_⟩
  cases r2 with
  | str j=>
   unfold AN at e;simp only at e;split at e
   ·rename_i hz
    have e':=Zj e;subst e';have g12:=g1.trans g2;refine ⟨i,j,rfl,rfl,Xq.mpr hz.1,hz.2,λ p hp=>?_⟩;have g3:=Ext.new g12.sh hp (.tup ((gi i j).map V.str));exact k _ _ _ (g12.trans g3) (.tup (SqT.of aC) (Rps.rQ _))
   · cases e
  | _=>exact nn e
 | _=>cases y <;> exact nn e⟩
def pY (hm:X.mg "enumerate"=none) (ha:Bx (PAd X [a] f)) (hg:Gl X "enumerate":=by rfl) (hs:starEach [a] X.env=[(false,eval a X.env)]:=by rfl):Bx (PId X (.Tuple elts k pt) (.Call (.Name "enumerate" p) [a] [] pos) (pz f)):=⟨have ha:=ha.out; (Dq hg hm ha hs).imp λ σ H R ⟨H0,Hs,τ,fp,ds,st,sm,e,k⟩=>by
 obtain ⟨x,e1,e2⟩:=U0 e;refine ⟨H0,Hs,τ,fp,x,st,sm,e1,λ v Hs' H' g r=>?_⟩
 match x,r,e2 with
 | [y],.cons hy .nil,e2=>
  cases hy with
  | str z=>
   have e':c7 (chD z)=ds:=Zj e2;subst e';exact ⟨z,rfl,k _ Hs' H' g Bj⟩
  | _=>exact nn e2
 | [],_,e2=>simp at e2
 | _::_::_,_,e2=>simp at e2⟩
def k8 (i:Nat) (hN:X.N.Nodup) (O:me X scope cl x x2 cs) (hy:X.N[i]?=some y:=by exact rfl) (hi:Bx (PId X (.Tuple [.Name x px,.Name x2 px2] kk pt) iter it)) (hcd:∀ s H fp C,Bx (PTd (bI X scope cl (x::x2::cs.map (·.1)) s H fp C) cnd c):=by intros; walk_at "h") (he:∀ s H fp C,Bx (PEd (bI X scope cl (x::x2::cs.map (·.1)) s H fp C) elt g):=by intros; walk_at "g") (hx:Loc X.env.scope y:=by walk_at "v") (hc:X.calm=true:=by rfl) (hs:Fs X iter:=by intro _; rfl) (hsw:swapsWith (.ListComp elt [⟨.Tuple [.Name x px,.Name x2 px2] kk pt,iter,[cnd],0⟩] scope pos) (some (.Name y py)) spos.line X.env=pure true:=by rfl) (hf:Xl X y:=by walk_at "v"):Bx (PSd X (.Assign [.Name y py] (.ListComp elt [⟨.Tuple [.Name x px,.Name x2 px2] kk pt,iter,[cnd],0⟩] scope pos) spos) (mo i (kf it c g cs))):=⟨vN hN hy hx hc O hi.out (λ s H fp C=>(hcd s H fp C).out) (λ s H fp C=>(he s H fp C).out) hs hsw hf⟩
def kh (hm:X.mg "enumerate"=none) (ha:Bx (PAd X [a] f)) (hg:Gl X "enumerate":=by rfl) (hs:starEach [a] X.env=[(false,eval a X.env)]:=by rfl):Bx (PId X (.Tuple elts k pt) (.Call (.Name "enumerate" p) [a] [] pos) (wo f)):=⟨have ha:=ha.out; (Dp hg hm ha hs).imp λ σ H R ⟨H0,Hs,τ,fp,ds,st,sm,e,k⟩=>by
 obtain ⟨x,e1,e2⟩:=U0 e;refine ⟨H0,Hs,τ,fp,x,st,sm,e1,λ v Hs' H' g r=>?_⟩
 match x,r,e2 with
 | [y],.cons hy .nil,e2=>
  cases hy with
  | @tup a1 xs1 ds1 h1 r1=>
   have e':c7 ds1=ds:=Zj e2;subst e';exact ⟨a1,xs1,rfl,g.sh.tup h1,k _ Hs' H' g (Bi h1 r1)⟩
  | _=>exact nn e2
 | [],_,e2=>simp at e2
 | _::_::_,_,e2=>simp at e2⟩
def lV (i:Nat) (hN:X.N.Nodup) (hi:X.N[i]?=some x:=by exact rfl) (he:Bx (PEd X e f)) (hx:Loc X.env.scope x:=by walk_at "v") (hf:Xl X x:=by walk_at "v"):Bx (PSd X (.AugAssign (.Name x pos') .Add e pos) (Ov i xO f)):=⟨have he:=he.out; (J8 hN hi hx he LL hf).imp λ E σ H ⟨Hs0,H0,Hs,τ,oo,r,e,k⟩=>by
 obtain ⟨dx,e1,e2⟩:=U0 e;obtain ⟨dy,e3,e4⟩:=U0 e2;obtain ⟨dz,e5,rfl⟩:=Zm e4;obtain ⟨ii,jj,rfl,rfl,hl,rfl⟩:=Bn e5;obtain ⟨fp,h⟩:=r.st
 have e1':τ[i]?=some (.shr (.str ii)):=by
  unfold aM at e1;split at e1
  · rename_i d' q; rw [q]; simpa using e1
  · cases e1
 obtain ⟨v,h1,h2⟩:=h.get e1';refine ⟨v,h1,H0,Hs,τ,fp,_,h,r.same,e3,λ u Hs' H' g1 ru=>?_⟩;cases h2;cases ru;refine ⟨ii,jj,rfl,rfl,Zs hl (by decide),?_⟩;obtain ⟨fp',_,h'⟩:=(h.ext g1).EH (i:=i) (v:=.str (ii++jj)) (d:=.str (ii++jj)) (.str _)
 exact k _ Hs' H' ⟨r.ext.trans g1,fp',h'⟩⟩
def ki (ho:Bx (PEd X o f)) (he:Bx (PEd X e g)) (db:Sc X o "startswith":=by rfl) (ce:SB X e bv:=by rfl) (ci:SM ap bv:=by rfl) (hst:Se X e []:=by rfl) (cr:Sb X bv []:=by rfl):Bx (PEd X (.Call (.Attribute o "startswith" ap) [e] [] bv) (dOp AM f g)):=⟨have ho:=ho.out; have he:=he.out; (t6 Y3 PySem.F.slot_str_startswith PySem.F.type_str_startswith AX ho (bH he d8 hst) db ce ci hst cr).imp λ σ H Q ⟨H0,Hs,τ,fp,d,st,sm,e,k⟩=>by
 obtain ⟨x,e1,e⟩:=U0 e;obtain ⟨y,e2,e⟩:=U0 e;refine ⟨H0,Hs,τ,fp,x,st,sm,e1,λ v Hs1 H1 g1 r1=>?_⟩
 cases r1 with
 | str i=>
  refine ⟨rfl,H0,Hs1,τ,fp,y,st.ext g1,g1.sh,e2,λ u Hs2 H2 g2 r2=>?_⟩
  cases r2 with
  | str j=>
   have e':D.bl (Txt.startswith i j)=d:=Zj e;subst e';exact ⟨i,j,rfl,rfl,k _ Hs2 H2 (g1.trans g2) (.bl _)⟩
  | _=>exact nn e
 | _=>cases y <;> exact nn e⟩
def aP (ha:Bx (PEd X a f)) (hb:Bx (PEd X b g)):Bx (PEd X (.BinOp a .Add b pos) (dOp jE f g)):=fY O5 ha hb
def Er (ha:Bx (PEd X a f)) (hb:Bx (PEd X b g)):Bx (PEd X (.BinOp a .Sub b pos) (dOp E4 f g)):=fY OX ha hb
def lu (ha:Bx (PEd X a f)) (hb:Bx (PEd X b g)):Bx (PEd X (.BinOp a .Mult b pos) (dOp DK f g)):=fY O0 ha hb
def bc (ha:Bx (PEd X a f)) (hb:Bx (PEd X b g)):Bx (PEd X (.BinOp a .FloorDiv b pos) (dOp oDiv f g)):=fY O4 ha hb
def bD (ha:Bx (PEd X a f)) (hb:Bx (PEd X b g)):Bx (PEd X (.BinOp a .Mod b pos) (dOp oMod f g)):=fY O1 ha hb
def zi (ha:Bx (PEd X a f)) (hb:Bx (PEd X b g)):Bx (PEd X (.BinOp a .Pow b pos) (dOp KA f g)):=fY OY ha hb
def Cj (ha:Bx (PEd X a f)) (hb:Bx (PEd X b g)):Bx (PTd X (.Compare a [.Lt] [b] pos) (dT (dOp oLt f g))):=cm O2 ha hb
def UQ (ha:Bx (PEd X a f)) (hb:Bx (PEd X b g)):Bx (PEd X (.Compare a [.Gt] [b] pos) (dOp oGt f g)):=lg RN ha hb
def pT (ha:Bx (PEd X a f)) (hb:Bx (PEd X b g)):Bx (PTd X (.Compare a [.Gt] [b] pos) (dT (dOp oGt f g))):=cm RN ha hb
def CL (ha:Bx (PEd X a f)) (hb:Bx (PEd X b g)) (hm:behindInMarks .In b=false:=by rfl): Bx (PEd X (.Compare a [.In] [b] pos) (dOp nG f g)):=lg Ky ha hb hm
def fA (ha:Bx (PEd X a f)) (hb:Bx (PEd X b g)) (hm:behindInMarks .In b=false:=by rfl): Bx (PTd X (.Compare a [.In] [b] pos) (dT (dOp nG f g))):=cm Ky ha hb hm
def Cq (ha:Bx (PEd X a f)) (hb:Bx (PEd X b g)) (hm:behindInMarks .NotIn b=false:=by rfl): Bx (PEd X (.Compare a [.NotIn] [b] pos) (dOp j4 f g)):=lg xC ha hb hm
def yg (ha:Bx (PEd X a f)) (hb:Bx (PEd X b g)) (hm:behindInMarks .NotIn b=false:=by rfl): Bx (PTd X (.Compare a [.NotIn] [b] pos) (dT (dOp j4 f g))):=cm xC ha hb hm
def F3 (ha:Bx (PEd X a f)) (hb:Bx (PEd X b g)) (hr:ip jj X.A:=by assumption):Bx (PEd X (.Compare a [.Eq] [b] pos) (dOp oEq f g)):=lg (Mq hr.units) ha hb
def aZ (ha:Bx (PEd X a f)) (hb:Bx (PEd X b g)) (hr:ip jj X.A:=by assumption):Bx (PTd X (.Compare a [.Eq] [b] pos) (dT (dOp oEq f g))):=cm (Mq hr.units) ha hb
def Cr (ha:Bx (PEd X a f)) (hb:Bx (PEd X b g)) (hr:ip jj X.A:=by assumption):Bx (PEd X (.Compare a [.NotEq] [b] pos) (dOp oNe f g)):=lg (RM hr.units) ha hb
def bS (ha:Bx (PEd X a f)) (hb:Bx (PEd X b g)) (hr:ip jj X.A:=by assumption):Bx (PTd X (.Compare a [.NotEq] [b] pos) (dT (dOp oNe f g))):=cm (RM hr.units) ha hb
def fH (ha:Bx (PEd X a f)):Bx (PEd X (.UnaryOp .USub a pos) (dUn ui f)):=IH OZ ha
def aU (h:Bx (PEd X e f)) (he:Se X e []:=by rfl):Bx (PAd X [e] (aG f bR)):=aJ h eD he
def bT {e2:Expr} {f2:DE} (h:Bx (PEd X e f)) (h2:Bx (PEd X e2 f2)) (he:Se X e [e2]:=by rfl) (he2:Se X e2 []:=by rfl):Bx (PAd X [e,e2] (aG f (aG f2 bR))):=aJ h (aU h2 he2) he
def ik {e2 e3:Expr} {f2 f3:DE} (h:Bx (PEd X e f)) (h2:Bx (PEd X e2 f2)) (h3:Bx (PEd X e3 f3)) (he:Se X e [e2,e3]:=by rfl) (he2:Se X e2 [e3]:=by rfl) (he3:Se X e3 []:=by rfl):Bx (PAd X [e,e2,e3] (aG f (aG f2 (aG f3 bR)))):=aJ h (bT h2 h3 he2 he3) he
def bg (i:Nat) {j:Int} (hN:X.N[i]?=some x:=by exact rfl) (hv:Vis X.env.scope x:=by walk_at "w") (hd:Dg x:=by decide) (hcd:Dc x:=by decide):Bx (PEd X (.Subscript (.Name x p) (.Constant (.int j) k q) r) (dOp oIx (aM i) (dC (.int j)))):=bA (aa i hN hv hd hcd) ai (λ _ _=>rfl)
def bK (i:Nat) {x:Str} {f:DE} {pos':Pos} (hN:X.N.Nodup) (he:Bx (PEd X e f)) (hi:X.N[i]?=some x:=by exact rfl) (hx:Loc X.env.scope x:=by walk_at "v") (hs:Sw X e x pos' pos:=by rfl) (hf:Xl X x:=by walk_at "v"):Bx (PSd X (.Assign [.Name x pos'] e pos) (mo i f)):=Cm i hN hi he hx hs hf
def Ic (mg:Str->Option Value) (x:Str) (i:Int):Prop:=∃ t,mg x=some (.int i t)
def Ri (h:Ic X.mg x i) (hg:Gl X x:=by rfl) (hd:Dg x:=by decide):Bx (PEd X (.Name x pos) (dC (.int i))):=h.elim λ _ h=>⟨Ao (v:=.int i) hg h ⟨_,rfl⟩ (λ _=>.int _) hd⟩
def Kc (K:W.Frag) (mg:Str->Option Value) (x:Str) (d:D):Prop:=∃ a,mg x=some (.ref a)/\∀ H,Rp K H (.ref a) d
def yh (h:Kc X.K X.mg x d) (hg:Gl X x:=by rfl) (hd:Dg x:=by decide):Bx (PEd X (.Name x pos) (dC d)):=h.elim λ a h=>⟨Ao (v:=.ref a) hg h.1 rfl h.2 hd⟩
def ckN {X:Cx} {scope:Scope} {cl:List (Str×Addr)} {x:Str} (cs:List (Str×Nat)) (h0:closureFor scope X.env=pure cl:=by rfl) (h1:scope.kind=.function:=by rfl) (h2:(scope.names.all λ y=>!(y.2 == .cell))=true:=by rfl)
 (h3:(scope.names.all λ y=>!(y.2 == .local)||(scope.names.lookup y.1 == some .local))=true:=by rfl) (h4:scope.names.lookup x=some .local:=by rfl) (h5:Je X cl:=by repeat' first | exact trivial | rfl | constructor)
 (h6:((relabel scope X.env).names.all λ p=>!(p.2 == .cell||p.2 == .free)||(cl.lookup p.1).isSome)=true:=by rfl)
 (h7:AllP X scope cs:=by repeat' first | exact trivial | rfl | constructor) (h8:(x::cs.map (·.1)).Nodup:=by decide +kernel):dA X scope cl x cs:=IB cs h0 h1 h2 h3 h4 h5 h6 h7 h8
def ck0 {X:Cx} {scope:Scope} {x:Str} (h1:scope.kind=.function:=by rfl) (h2:∀ y ∈ scope.names,y.2≠.cell:=by decide +kernel) (h3:∀ y ∈ scope.names,y.2≠.free:=by decide +kernel) (h4:∀ y ∈ scope.names,y.2=.local->scope.names.lookup y.1=some .local:=by decide +kernel) (h5:scope.names.lookup x=some .local:=by rfl):dA X scope [] x []:=ID h1 h2 h3 h4 h5
def ck2 {X:Cx} {scope:Scope} {cl:List (Str×Addr)} {x x2:Str} {cs:List (Str×Nat)} (O:dA X scope cl x cs) (h:scope.names.lookup x2=some .local:=by rfl) (nd:(x::x2::cs.map (·.1)).Nodup:=by decide +kernel):me X scope cl x x2 cs:=⟨O,h,nd⟩
section
variable {P:Program} {w:World} {K:W.Frag} {mg:Str->Option Value} {base:Heap} {x q:Str} {st:Stmt} {ps:List Str} {k:Nat} {C:Addr}
abbrev Bdy (P:Program) (w:World) (K:W.Frag) (mg:Str->Option Value) (base:Heap) (k:Nat) (q:Str) (st:Stmt) (N:List Str) (J:Cx->List Stmt->Prop):Prop:=∀ {cdv:Value} {A:Around} {outer:List Env} {s:Shared} {H:Hp} {E:XK} {f:Addr},ip k (A.deeper (envOfC q (bt st) s.heap.objs.size f cdv))->N.Nodup->Bx (J (vo CX0 P w K mg base N q (bt st) f cdv A outer s H E).nox (cQ st))
def oD (N:List Str) {b:DS} (D:Df K mg x st ps) (h:Bdy P w K mg base k x st N λ X b'=>zr X b' b) (S:jc N ps (bt st):=by exact ⟨rfl,rfl,rfl,by decide +kernel,rfl,by decide +kernel,by decide +kernel⟩):Go P w K mg base (k+1) x (spF (cD N.length ps.length b) K):=
 have ⟨a,d,F,m,bi⟩:=D
 ⟨a,d,ps,m,F.kp,bi,F.okD S λ cdv A outer s H E hr=>(h hr S.nd).out⟩
def oLD (N:List Str) {b:DS} {a:Addr} {d:FuncData} (F:Fun K x x st a d) (h:Bdy P w K mg base k x st N λ X b'=>zr X b' b) (S:jc N ps (bt st):=by exact ⟨rfl,rfl,rfl,by decide +kernel,rfl,by decide +kernel,by decide +kernel⟩):qt P w K mg base CX0 (k+1) a d ps (spF (cD N.length ps.length b) K):=F.okD S λ cdv A outer s H E hr=>(h hr S.nd).out
def Fn0.df {f:Addr} {h:Heap} (e:Fn0 K x st f) (X:K.In h) (G:h.Ns mainGlobals mg) (hb:∀ (kV doc pm:Value) (an:Option Addr) (cdv ct:Value) (us:List Value),us.length=ps.length->bindArgs (PySem.W.fnOf x x (fW st) (cQ st) (bt st) .none kV doc pm an cdv ct) ⟨us,[]⟩=pure (ps.zip us)):Df K mg x st ps:=
 have ⟨d,F,m,b⟩:=e.mk X G hb
 ⟨f,d,F,m,b⟩
def Lf (K:W.Frag) (mg:Str->Option Value) (x:Str) (st:Stmt) (y:Str):Prop:=∃ a d,Fun K x x st a d/\mg x=some (.ref a)/\∀ (s:Shared) (u:Value),BindsTo s d ⟨[u],[]⟩ [(y,u)]
def QO {f:Addr} {y:Str} {h:Heap} (e:Fn0 K x st f) (X:K.In h) (G:h.Ns mainGlobals mg) (hb:∀ (kV doc pm:Value) (an:Option Addr) (cdv ct:Value) (s:Shared) (u:Value),BindsTo s (PySem.W.fnOf x x (fW st) (cQ st) (bt st) .none kV doc pm an cdv ct) ⟨[u],[]⟩ [(y,u)]):Lf K mg x st y:=by
 obtain ⟨od,an,sl,oc,kV,dc,pm,cd,ct,a,l,c,k⟩:=e;exact ⟨_,_,BA (st:=st) l c k,PySem.W.mg_of X G a,hb _ _ _ _ _ _⟩
end
abbrev Kd2 (w:World) (K:W.Frag) (mg:Str->Option Value) (x:Str) (a:Addr) (d:List (Key×D)):Prop:=mg x=some (.ref a)/\KD2 w K a d
section
variable {X:Cx} {o e a b:Expr} {f g:DE} {ap bv pos py:Pos} {y:Str}
def Hz:MtR X "str.find" (λ x xs H Q=>∃ i j:Str,x=.str i/\xs=[.str j]/\Q (.int (Txt.find i j)) H):=by
 intro ac s σ H x xs v us Q I rx rv h;obtain ⟨i,j,rfl,rfl,q⟩:=h;obtain ⟨t,rfl⟩:=rx;obtain ⟨u,rfl,tu,rfl⟩:=vals1 rv;exact SC.find ⟨.int _,H,I.tok _,⟨_,rfl⟩,q⟩
def KG:D->D->Option D
 | .str i,.str j=>some (.int (Txt.find i j))
 | _,_=>none
def Cp (ho:Bx (PEd X o f)) (he:Bx (PEd X e g)) (db:Sc X o "find":=by rfl)
   (ce:SB X e bv:=by rfl)
   (ci:SM ap bv:=by rfl) (hst:Se X e []:=by rfl) (cr:Sb X bv []:=by rfl):Bx (PEd X (.Call (.Attribute o "find" ap) [e] [] bv) (dOp KG f g)):=
 ⟨(t6 Y3 PySem.F.slot_str_find PySem.F.type_str_find Hz ho.out (bH he.out d8 hst) db ce ci hst cr).imp λ σ H Q ⟨H0,Hs,τ,fp,d,st,sm,e,k⟩=>by
   obtain ⟨x,e1,e⟩:=U0 e;obtain ⟨y,e2,e⟩:=U0 e;refine ⟨H0,Hs,τ,fp,x,st,sm,e1,λ v Hs1 H1 g1 r1=>?_⟩
   cases r1 with
   | str i=>
     refine ⟨rfl,H0,Hs1,τ,fp,y,st.ext g1,g1.sh,e2,λ u Hs2 H2 g2 r2=>?_⟩
     cases r2 with
     | str j=>
      have e':=Zj e;subst e';exact ⟨i,j,rfl,rfl,k _ Hs2 H2 (g1.trans g2) (.int _)⟩
     | _=>exact nn e
   | _=>cases y <;> exact nn e⟩
def v7:D->D->Option D
 | .str i,.str j=>some (.bl (!occ j i))
 | _,_=>none
def DC:OpR X (compareOp .NotIn) (rdR X.K v7):=t9.imp λ x y H Q ⟨Hs,dx,dy,d,sm,rx,ry,e,k⟩=>by
 cases rx with
 | str i=>cases ry with
  | str j=>
   have e':=Zj e;subst e';exact ⟨i,j,rfl,rfl,k _ Hs H (.refl sm) (.bl _)⟩
  | _=>exact nn e
 | _=>cases dy <;> exact nn e
def Gz (j:Nat):DS:=λ τ=>match τ[j]? with
 | some (.own (.lst ds))=>(ds[ds.length - 1]?).map λ _=>.next (τ.set j (.own (.lst ds.dropLast)))
 | _=>none
def ze (j:Nat) (hj:X.N[j]?=some y:=by exact rfl) (hv:Vis X.env.scope y:=by walk_at "w")
   (hd:Dg y:=by decide) (hcd:(y == ("__classdict__":Str))=false:=by decide)
   (db:Sc X (.Name y py) "pop":=by rfl) (ci:SM ap bv:=by rfl):Bx (PSd X (.Expr (.Call (.Attribute (.Name y py) "pop" ap) [] [] bv) pos) (Gz j)):=
 ⟨(vP (Ki PySem.F.plainAttrs_list PySem.F.slot_list_pop PySem.F.type_list_pop Ln (oJ hj hv hd hcd) db ci)).imp λ E σ H ⟨Hs0,H0,Hs,τ,o,r,e,k⟩=>by
   unfold Gz at e;split at e
   ·rename_i ds q
    obtain ⟨d,e1,rfl⟩:=Zm e;obtain ⟨fp,st⟩:=r.st;obtain ⟨a,h1,h2,h3,h4⟩:=st.Ie q
    cases h2 with
    | @lst xs _ hH hn hr=>
     obtain ⟨v,hv1,hv2⟩:=hr.get e1;rw [<- hr.length] at hv1;refine ⟨_,h1,.inl ⟨rfl,_,SqL.of hH⟩,a,xs,v,rfl,rfl,hH,hv1,?_⟩;have s1:=st.mut q h1 (o:=.lst xs.dropLast) (d':=.lst ds.dropLast) (.lst aC hn hr.dropLast);refine k _ Hs _ ⟨⟨r.ext.ss,λ b u z=>?_,λ b u z=>?_,r.ext.fr⟩,fp,s1⟩
     · rw [aF (show b≠a from λ w=>by rw [w,hn] at z; cases z)]; exact r.ext.sh b u z
     · rw [aF (show b≠a from λ w=>by rw [w,h3] at z; cases z)]; exact r.ext.hh b u z
   · cases e⟩
def GI (x:Str) (n:Nat):Str:=⟨(List.replicate n x.cps).foldl (·++·) #[]⟩
theorem xi (x:Array Nat):∀ (n:Nat) (a:Array Nat),((List.replicate n x).foldl (·++·) a).size=a.size+n * x.size
 | 0,a=>by simp
 | n+1,a=>by
  rw [List.replicate_succ,List.foldl_cons,xi x n,Array.size_append,Nat.succ_mul];omega
def De (x:Str) (n:Nat):(GI x n).length=n * x.length:=(xi x.cps n #[]).trans (by simp [Str.length])
def DJ:D->D->Option D
 | .str x,.int n=>if x.length=1/\1 < n/\n < 1000 then some (.str (GI x n.toNat)) else none
 | _,_=>none
theorem Kx:OpR X (binaryOp .Mult) (rdR X.K DJ):=by
 intro ac s σ H x y v u Q I rx ry h;obtain ⟨Hs,dx,dy,d,sm,r1,r2,e,k⟩:=h;unfold DJ at e;split at e
 ·rename_i xx n
  split at e
  ·rename_i hz
   cases e;cases r1;cases r2;obtain ⟨t,rfl⟩:=rx;obtain ⟨t2,rfl⟩:=ry;have n1:¬ n < 1:=by omega
   have n2:¬ (n == 1||xx.length == 0)=true:=by
    rw [hz.1,Xi]
    rintro (z | z)
    · have:=beq_iff_eq.mp z; omega
    · cases z
   refine P.mul_str ?_ (λ _ _=>?_) (λ _ _=>?_) ?_
   · rw [Zc (by omega),Zc (by omega)]; rfl
   ·rw [hz.1]
    have:(2 ^ 63 - 1) / n ≥ (2 ^ 63 - 1) / 1000:=by
     refine Int.le_ediv_of_mul_le (by omega) ?_
     omega
    omega
   ·rw [hz.1]
    unfold Builtin.Str.tooLong;exact Zc (by have h:=(by decide:sizeLine ≥ 100000); omega)
   ·rw [if_neg n1,if_neg n2]
    refine ⟨?_,.str (GI xx n.toNat),H,I.tok _,⟨_,rfl⟩,k (.str _) Hs H (.refl sm) (.str _)⟩;have:=De xx n.toNat;unfold GI at this;have l:sizeLine ≥ 100000:=by decide
    rw [hz.1] at this;omega
  · cases e
 · cases e
end
def Fly.but (fy:Fly P w fs H H' h0 B h) (hC:h0.get? C=none) (nC:H' C=none) (hs:Heap.SameBut C h h'):Fly P w fs H H' h0 (PySem.W.hideAll B [C]) h':=by
 have ne:∀ b o,h0.get? b=some o->b≠C:=λ b o e z=>by rw [z,hC] at e; cases e
 have inB:∀ b o,B.get? b=some o->b≠C->(PySem.W.hideAll B [C]).get? b=some o:=λ b o e z=>PySem.W.hideAll_get _ e (by simpa using z)
 refine ⟨⟨λ b o q n hb hx=>(hs.2 b (ne b o q)).trans (fy.un.keep b o q n hb hx),λ b o q n hb hx=>?_,fy.un.free,λ b o q hx=>?_,fy.un.rN,fy.un.qY,fy.un.rO⟩,λ b u q=>?_,λ b o q n hb=>inB b o (fy.cov b o q n hb) (ne b o q),λ b o q hb=>?_⟩
 ·obtain ⟨sl,e⟩:=fy.un.slot b o q n hb hx
  exact ⟨sl,(hs.2 b (ne b o q)).trans e⟩
 ·obtain ⟨o',e⟩:=fy.un.there b o q hx
  exact ⟨o',(hs.2 b (ne b o q)).trans e⟩
 ·refine (fy.hok b u q).yx (λ c v hc z=>inB c v z ?_) (λ _ z=>z) λ _ _ z=>z
  rintro rfl
  rcases hc with rfl | hc
  · rw [nC] at q; cases q
  · rw [nC] at hc; cases hc
 ·obtain ⟨o',e⟩:=fy.F2 b o q hb
  exact ⟨o',inB b o' e (ne b o q)⟩
theorem pB (hs:Heap.SameBut C h h'):∀ {l:List Env},h.FunFrames B l->C ∉ frs l->h'.FunFrames (PySem.W.hideAll B [C]) l
 | [],_,_=>trivial
 | env::l,⟨hk,⟨L,o,hf,hn,ho,hd⟩,hr⟩,hc=>by
  have e:frs (env::l)=L::frs l:=by unfold frs; rw [Wf,hf]
  rw [e] at hc;refine ⟨hk,⟨L,o,hf,?_,(hs.2 L λ z=>hc (z ▸ Zp ..)).trans ho,hd⟩,pB hs hr λ z=>hc (Za _ z)⟩
  cases q:(PySem.W.hideAll B [C]).get? L with
  | none=>rfl
  | some u=>rw [Xx _ q] at hn; cases hn
def uD (h:B.get? b=none):(PySem.W.hideAll B [C]).get? b=none:=by
 cases q:(PySem.W.hideAll B [C]).get? b with
 | none=>rfl
 | some u=>rw [Xx _ q] at h; cases h
def CC (X:Cx) (E:XK):Prop:=∀ (ac:List (Addr×Obj)) (σ:St) (H1 H':Hp) (s1 s':Shared) (ea:Addr) (cls a0:Value) (B:Heap),Inv X ac σ H1 s1->Heap.HeldW B X.stack ea cls a0 X.env.locals s'.heap->Fly X.prog X.w X.fs X.H₀ H' X.s₀.heap B s'.heap->s'.os=X.s₀.os->AllBare s'.gens->E cls none H'->X.xe (.ref ea) s'
def HW {P:Program} {w:World} {K:W.Frag} {mg:Str->Option Value} {base:Heap} {N:List Str} {qual:Str} {scope:Scope} {f:Addr} {cd:Value} {A:Around} {outer:List Env} {s:Shared} {H:Hp} {E:XK} :
  CC (vo (CX1 P w) P w K mg base N qual scope f cd A outer s H E) E:=by
 intro ac σ H1 H' s1 s' ea cls a0 B I hl fy os bare hE;show wpAny (model P w) (A.deeper (envOfC qual scope s.heap.objs.size f cd)) (leaving (envOfC qual scope s.heap.objs.size f cd) (.ref ea)) (λ _ s''=>CX1 P w outer H s E (.ref ea) s'') (λ e' s''=>CX1 P w outer H s E e' s'') s';refine Zr (wpAny_noteFrame_againW rfl hl.2.2.2 ?_);refine wpAny_landsW hl λ h'' fl sm=>?_
 exact ⟨ea,cls,a0,H',B,rfl,os,bare,⟨fl.1,fl.2.1,fl.2.2.1.2.2,fl.2.2.2⟩,fy.step fl.1 sm (wb hl.2.2.1.2.2),hE⟩
section
variable {X:Cx} {C:Addr} {E:XK} {scope:Scope} {x:Str} {ac:List (Addr×Obj)} {σ:St} {H:Hp} {s:Shared} {fp:List Addr}
abbrev Rg (X:Cx) (scope:Scope) (Q:Value->Shared->Prop) (C:Addr):Value->Shared->Prop:=notedBy (model X.prog X.w) X.A (compEnvC scope [] C X.env) λ x s''=>∃ m,s''.heap.Ns C m/\∀ h',Heap.SameBut C s''.heap h'->wpAny (model X.prog X.w) X.A (PySem.passOn "comprehension.variables-let-go" x (compEnvC scope [] C X.env)) Q X.xe { s'' with heap:=h' }
def B9 (I:Inv X ac σ H s) (f2:∀ b ∈ fp,rE X ac H b) (hC:s.heap.objs.size<=C) (hx:X.ex=[]) (hst:X.stack=X.env::X.outer) (hf:X.env.frame=some X.env.locals) (hh:CC X E) (σ':St):fJ (CX1 X.prog X.w) ((bI X scope [] N s H fp C).tj (Rg X scope Q C)) σ' E:=by
 intro pins' H1 s1 e s' I1 hc;obtain ⟨ea,cls,a0,H',B,rfl,os,bare,fl,fy,hE⟩:=hc
 replace fl:Heap.FlyingW B (X.env::X.outer) ea cls a0 s'.heap:=hst ▸ fl
 replace fy:Fly X.prog X.w (frs X.stack) H1 H' s1.heap B s'.heap:=fy
 show wpAny (model X.prog X.w) X.A (noteFrame (.ref ea) X.env) _ _ s';refine wpAny_looks_onW (by rw [I.ok.frames,hst]) hf fl λ h4 held sm4=>?_
 have b1:=I1.base;have b0:=hx ▸ I.base
 have lt0:∀ b o,X.s₀.heap.get? b=some o->b ∉ fp:=λ b o q hb=>by
  rcases (f2 b hb).2.2.2.1 with z | z
  · rw [hx] at z; cases z
  · exact absurd (Zt q) (Nat.not_lt.mpr z)
 have neL:∀ b o,X.s₀.heap.get? b=some o->b ∉ X.fs->b ∉ frs X.stack:=λ b o q hb z=>
  (Zd.mp (I.eW b z)).elim (Z1 (Zl (Zt q) I.ok.above)) hb
 have u1:Un X.fs [] X.H₀ H1 X.s₀.heap s1.heap:=by
  refine ⟨λ b o q n hb _=>b1.keep b o (b0.keep b o q n hb (by simp)) (b0.free b o q n (by simp)) (neL b o q hb) (lt0 b o q),λ b o q n hb _=>?_,λ b o q n _=>?_,λ b o q _=>?_,λ b xs q=>b1.rN b xs (b0.rN b xs q),λ b o u q=>b1.qY b o u (b0.qY b o u q),λ b ps q=>?_⟩
  ·obtain ⟨sl,e1⟩:=b0.slot b o q n hb (by simp)
   obtain ⟨sl',e2⟩:=b1.any e1 (b0.free b o q n (by simp)) (lt0 b o q);exact ⟨sl',e2⟩
  ·obtain ⟨o1,e1⟩:=b0.there b o q (by simp)
   exact b1.free b o1 e1 (b0.free b o q n (by simp)) (lt0 b o q)
  ·obtain ⟨o1,e1⟩:=b0.there b o q (by simp)
   exact b1.there b o1 e1 (lt0 b o q)
  ·obtain ⟨m1,e1⟩:=b0.rO b ps q
   obtain ⟨m2,e2⟩:=b1.rO b _ e1;exact ⟨m1++m2,by rw [e2,Array.append_assoc]⟩
 have fy2:=Fly.comp u1 neL (fy.step held.1 sm4 (wb (hst ▸ fl.2.2.1)));obtain ⟨m,⟨o,es,ep,ho,hd,r⟩,_⟩:=I1.loc
 replace ho:s1.heap.get? C=some o:=ho
 have nC1:=I1.free
 have cS:C ∉ frs X.stack:=λ z=>by
  obtain ⟨_,o',e',_⟩:=I.stack.mem z;exact absurd (Zt e') (Nat.not_lt.mpr hC)
 have bC:=fy.cov C o ho nC1 cS;have nC:=fy.un.free C o ho nC1 (by simp)
 have c0:X.s₀.heap.get? C=none:=by
  cases q:X.s₀.heap.get? C with
  | none=>rfl
  | some u=>exact absurd (Zl (Zt q) (Zs I.sz hC)) (Yo _)
 refine ⟨m,⟨o,es,ep,held.1 C o bC,hd,r⟩,λ h' hs'=>?_⟩;obtain ⟨g1,g2,g3,oe,vs,T,oT,ts,he,hcls,hde,h1,hnT,hTe,hT,hdT,h3⟩:=held;have eC:ea≠C:=λ z=>by rw [z,bC] at g2; cases g2
 have tC:T≠C:=λ z=>by rw [z,bC] at hnT; cases hnT
 have he':=(hs'.2 ea eC).trans he;have hT':=(hs'.2 T tC).trans hT;refine Zr (wpAny_field he' hde h1 ?_);rw [if_neg (by simp)];refine Zr ?_
 show wpAny _ _ (setFlight (.ref ea) X.env.frame) _ _ _;rw [hf];refine Zr (wpAny_field he' hde h1 ?_);rw [if_pos (by simp)];refine wpAny_setField hT' hdT (Array.getElem?_eq_some_iff.mp h3).1 ?_
 refine wpAny_throw ?_
 have same:=Heap.update_setField_same h' T oT ts 3 _ hT' hdT h3;show X.xe (.ref ea) { s' with heap:=(h'.update T (Obj.mapFields (·.setIfInBounds 3 (rawInt X.env.locals)))) };rw [same];refine hh ac σ H H' s _ ea cls a0 (PySem.W.hideAll B [C]) I ⟨λ b o q=>?_,uD g2,?_,oe,vs,T,oT,ts,he',hcls,hde,h1,uD hnT,hTe,hT',hdT,h3⟩ (fy2.but c0 nC hs') (os.trans (I1.os.trans I.os)) bare hE
 ·have ne:b≠C:=λ z=>by rw [z,PySem.W.hideAll_none _ (Zx.mpr rfl)] at q; cases q
  exact (hs'.2 b ne).trans (g1 b o (Xx _ q))
 ·rw [hst]
  exact pB hs' g3 (hst ▸ cS)
end
abbrev DX:=List Sl->Prop
def Io (E:XK) (C:Addr) (H:Hp):Prop:=∀ H',c9 H H'->E (.ref C) none H'
def Io.on (h:Io E C H) (g:c9 H H'):Io E C H':=λ _ k=>h _ (g.trans k)
def rxE (K:W.Frag) (C:Addr) (E:XK) (r:DX):TE:=λ σ H _=>∃ H0 Hs τ fp,StR K H0 Hs H σ τ fp/\c9 Hs H/\r τ/\Io E C H
def rxA (K:W.Frag) (C:Addr) (E:XK) (r:DX):TA:=λ σ H _=>∃ H0 Hs τ fp,StR K H0 Hs H σ τ fp/\c9 Hs H/\r τ/\Io E C H
def rxS (K:W.Frag) (C:Addr) (E:XK) (r:DX):TS:=λ _ σ H=>∃ Hs0 H0 Hs τ,Rep K Hs0 H0 Hs H σ τ/\r τ/\Io E C H0
def PEx (X:Cx) (C:Addr) (E:XK) (e:Expr) (r:DX):Prop:=PE X e (rxE X.K C E r)
def PAx (X:Cx) (C:Addr) (E:XK) (es:List Expr) (r:DX):Prop:=PA X es (rxA X.K C E r)
def PSx (X:Cx) (C:Addr) (E:XK) (s:Stmt) (r:DX):Prop:=PS X s (rxS X.K C E r)
def zo (X:Cx) (C:Addr) (E:XK) (s:List Stmt) (r:DX):Prop:=PSs X s (rxS X.K C E r)
def spR (R:List D->Prop) (C:Addr) (K:W.Frag):Sp:=λ vs H _ E=>∃ Hs ds,c9 Hs H/\Rps K Hs vs ds/\R ds/\Io E C H
structure Gx (P:Program) (w:World) (K:W.Frag) (mg:Str->Option Value) (base:Heap) (k:Nat) (x:Str) (sp:Sp):Prop where
 go:∃ f fd ps,mg x=some (.ref f)/\W.keepIn K (.ref f)=true/\Binds K fd ps []/\qt P w K mg base (CX1 P w) k f fd ps sp
structure Xp (X:Cx) (E:XK):Prop where
 pa:∀ σ,fJ (CX1 X.prog X.w) X σ E
 ra:CA X E
 po:PassesOwn (model X.prog X.w) X.A X.env X.xe
 he:CC X E
 ex:X.ex=[]
 st:X.stack=X.env::X.outer
 fr:X.env.frame=some X.env.locals
abbrev Pa (X:Cx) (E:XK):Prop:=∀ σ,fJ (CX1 X.prog X.w) X σ E
section
variable {X:Cx} {C:Addr} {E:XK} {a b c e:Expr} {es:List Expr} {s:Stmt} {ss:List Stmt} {f:DE} {g:DA} {r r1 r2:DX} {x:Str} {p pos pos' ap bv:Pos}
def uT:PA X es (λ _ _ _=>False):=λ _ _ _ _ _ _ _ h=>h.elim
def yV:PSs X ss (λ _ _ _=>False):=λ _ _ _ _ _ _ h=>h.elim
def x_call (Fo:Gx X.prog X.w X.K X.mg X.base k x (spR R C X.K)) (hr:ip jj X.A) (xp:Pa X E) (ha:Bx (PAd X (e::es) g)) (hj:k<=jj:=by decide) (hg:Gl X x:=by rfl) (hdb:Dg x:=by decide) (he:Se X e es:=by rfl) (hpl:Sb X pos es:=by rfl):Bx (PEx X C E (.Call (.Name x p) (e::es) [] pos) λ τ=>∃ ds,g τ=some ds/\R ds):=by
 obtain ⟨f,fd,ps,hm,hk,hb,Fo⟩:=Fo.go;refine ⟨(xt Fo (hr.mono hj) hg hm hk hb .nil xp ha.out hdb he hpl).imp λ σ H Q ⟨H0,Hs,τ,fp,st,sm,⟨ds,e1,hR⟩,ex⟩=>⟨H0,Hs,τ,fp,ds,st,sm,e1,λ vs Hs' H' g1 r1=>?_⟩⟩;show spR R C X.K (vs++[]) H' Q E;rw [Yd];exact ⟨Hs',ds,g1.sh,r1,hR,ex.on g1.hh⟩
def eJ (he:Bx (PEx X C E e r)) (hs:Se X e es:=by rfl):Bx (PAx X C E (e::es) r):=⟨(bH he.out uT hs).imp λ _ _ _ h=>h⟩
def iq (he:Bx (PEd X e f)) (ht:Bx (PAx X C E es r)) (hs:Se X e es:=by rfl):Bx (PAx X C E (e::es) λ τ=>(∃ d,f τ=some d)/\r τ):=
 ⟨(bH he.out ht.out hs).imp λ σ H Q ⟨H0,Hs,τ,fp,st,sm,⟨⟨d,e1⟩,hr⟩,ex⟩=>⟨H0,Hs,τ,fp,d,st,sm,e1,λ v Hs' H' g1 r1=>⟨H0,Hs',τ,fp,st.ext g1,g1.sh,hr,ex.on g1.hh⟩⟩⟩
def N3 (h1:Bx (PAx X C E es r1)) (h2:Bx (PAx X C E es r2)):Bx (PAx X C E es λ τ=>r1 τ\/r2 τ):=⟨λ pos ac s σ H Q I ⟨H0,Hs,τ,fp,st,sm,hr,ex⟩=>
 hr.elim (λ h=>h1.out pos ac s σ H Q I ⟨H0,Hs,τ,fp,st,sm,h,ex⟩) λ h=>h2.out pos ac s σ H Q I ⟨H0,Hs,τ,fp,st,sm,h,ex⟩⟩
def sX {x1} (h:Bx (PAx X C E es r)):Bx (PEx X C E (.Tuple es x1 pos) r):=⟨(Ai h.out).imp λ _ _ _ h=>h⟩
def N4 (h:Bx (PAx X C E es r)):Bx (PEx X C E (.List es pos) r):=⟨(EZ h.out).imp λ _ _ _ h=>h⟩
def wW (hc:eI X (.type T) (rdL X.K o)) (hm:X.mg x=none) (ha:Bx (PAx X C E (e::es) r)) (hg:Gl X x:=by rfl) (hv:bootBuiltins x=some (.type T):=by decide +kernel) (hn:x≠"__name__":=by decide) (hdb:Dg x:=by decide) (he:Se X e es:=by rfl) (hpl:Sb X pos es:=by rfl):Bx (PEx X C E (.Call (.Name x p) (e::es) [] pos) r):=⟨(t5 hc hg hm hv ha.out hn hdb he hpl).imp λ _ _ _ h=>h⟩
def JW (h:rxS X.K C E r Ed σ H):rxE X.K C E r σ H Q:=
 have ⟨Hs0,H0,Hs,τ,rp,hr,ex⟩:=h;have ⟨fp,st⟩:=rp.st
 ⟨H0,Hs,τ,fp,st,rp.ext.sh,hr,ex.on rp.ext.hh⟩
def sY (i:Nat) (hN:X.N.Nodup) (he:Bx (PEx X C E e r)) (hi:X.N[i]?=some x:=by exact rfl) (hx:Loc X.env.scope x:=by walk_at "v") (hs:Sw X e x pos' pos:=by rfl) (hf:Xl X x:=by walk_at "v"):Bx (PSx X C E (.Assign [.Name x pos'] e pos) r):=
 ⟨(g9 hN hi hx he.out hs hf).imp λ _ _ _ h=>JW h⟩
def sZ (he:Bx (PEx X C E e r)):Bx (PSx X C E (.Return (some e) pos) r):=⟨(xm he.out).imp λ _ _ _ h=>JW h⟩
def Jn (i:Nat) (he:Bx (PEx X C E e r)) (hN:X.N[i]?=some x:=by exact rfl) (hv:Vis X.env.scope x:=by walk_at "w") (hd:Dg x:=by decide) (hcd:Dc x:=by decide) (db:Sc X (.Name x p) "append":=by rfl) (ce:SB X e bv:=by rfl) (ci:SM ap bv:=by rfl) (hst:Se X e []:=by rfl) (cr:Sb X bv []:=by rfl):Bx (PSx X C E (.Expr (.Call (.Attribute (.Name x p) "append" ap) [e] [] bv) pos) λ τ=>(∃ ds,τ[i]?=some (.own (.lst ds)))/\r τ):=
 ⟨(vP (t6 PySem.F.plainAttrs_list PySem.F.slot_list_append PySem.F.type_list_append um (oJ hN hv hd hcd) (bH he.out uT hst) db ce ci hst cr)).imp λ E' σ H ⟨Hs0,H0,Hs,τ,rp,⟨⟨ds,q⟩,hr⟩,ex⟩=>by
   obtain ⟨fp,st⟩:=rp.st;obtain ⟨a,h1,h2,h3,h4⟩:=st.Ie q
   cases h2 with
   | @lst xs _ hH hn hr'=>exact ⟨_,h1,.inl ⟨rfl,_,SqL.of hH⟩,H0,Hs,τ,fp,st,rp.ext.sh,hr,ex.on rp.ext.hh⟩⟩
def x_raise {j} (xp:Xp X E) (hex:PySem.W.excIn X.K C Rj "ValueError.__new__"=true) (hm:X.mg x=some (.ref C)) (hc:X.calm=true:=by rfl) (hg:Gl X x:=by rfl)
  (he:Se X (.Constant (.str y) j p) []:=by rfl) (cr:Sb X bv []:=by rfl) (hd:Dg x:=by decide):Bx (PSx X C E (.Raise (some (.Call (.Name x np) [.Constant (.str y) j p] [] bv)) none pos) λ _=>True):=
 ⟨(Dl xp.ra hc hex hg hm (bH Aj d8 he) he cr hd).imp λ E' σ H ⟨Hs0,H0,Hs,τ,rp,_,ex⟩=>⟨Zb rfl,ex H rp.ext.hh⟩⟩
def wV:Bx (zo X C E ss λ _=>False):=⟨λ _ _ _ _ _ _ ⟨_,_,_,_,_,h,_⟩=>h.elim⟩
def vB (hc:Bx (PTd X c t)) (ha:Bx (zo X C E xs r1)) (hb:Bx (zo X C E ys r2)):Bx (PSx X C E (.If c xs ys pos) λ τ=>(t τ=some true/\r1 τ)\/(t τ=some false/\r2 τ)):=
 ⟨(vO hc.out ha.out hb.out).imp λ E' σ H ⟨Hs0,H0,Hs,τ,rp,hr,ex⟩=>by
   obtain ⟨fp,st⟩:=rp.st;rcases hr with ⟨e1,hr⟩ | ⟨e1,hr⟩
   · exact ⟨H0,Hs,τ,fp,true,st,rp.ext.sh,e1,λ Hs' H' g1=>nS ⟨Hs0,H0,Hs',τ,rp.ext' g1,hr,ex⟩⟩
   · exact ⟨H0,Hs,τ,fp,false,st,rp.ext.sh,e1,λ Hs' H' g1=>DZ ⟨Hs0,H0,Hs',τ,rp.ext' g1,hr,ex⟩⟩⟩
def bw (hs:Bx (PSx X C E s r)):Bx (zo X C E (s::ss) r):=⟨(fC hs.out yV).imp λ _ _ _ h=>h⟩
def cy (hs:Bx (PSd X s d)) (ht:Bx (zo X C E ss r)):Bx (zo X C E (s::ss) λ τ=>∃ τ',d τ=some (.next τ')/\r τ'):=
 ⟨(fC hs.out ht.out).imp λ E' σ H ⟨Hs0,H0,Hs,τ,rp,⟨τ',e1,hr⟩,ex⟩=>⟨Hs0,H0,Hs,τ,_,rp,e1,λ σ' Hs' H' rp'=>⟨Hs0,H0,Hs',τ',rp',hr,ex⟩⟩⟩
def N2 (h1:Bx (zo X C E ss r1)) (h2:Bx (zo X C E ss r2)):Bx (zo X C E ss λ τ=>r1 τ\/r2 τ):=⟨λ ac s σ H Q I ⟨Hs0,H0,Hs,τ,rp,hr,ex⟩=>
 hr.elim (λ h=>h1.out ac s σ H Q I ⟨Hs0,H0,Hs,τ,rp,h,ex⟩) λ h=>h2.out ac s σ H Q I ⟨Hs0,H0,Hs,τ,rp,h,ex⟩⟩
def cP (hs:Bx (PSd X s d)) (hx:Bx (PSx X C E s r1)) (ht:Bx (zo X C E ss r2)):Bx (zo X C E (s::ss) λ τ=>r1 τ\/∃ τ',d τ=some (.next τ')/\r2 τ'):=N2 (bw hx) (cy hs ht)
def tV (g:DG) (b:DS) (rb:DX):List D->DX
 | [],_=>False
 | d::ds,τ=>(∃ τ1,g d τ=some τ1/\rb τ1)\/∃ τ1 τ2,g d τ=some τ1/\b τ1=some (.next τ2)/\tV g b rb ds τ2
def Jm {tg iter:Expr} {it:DI} {g:DG} {b:DS} (xp:Xp X E) (hi:Bx (PId X tg iter it)) (hg:Bx (PGd X tg g)) (hb:Bx (zr X ss b)) (hx:Bx (zo X C E ss r)) (hc:X.calm=true:=by rfl) (hs:Fs X iter:=by intro _; rfl):Bx (PSx X C E (.For tg iter ss [] pos) λ τ=>∃ ds,it τ=some ds/\tV g b r ds τ):=
 ⟨(ET (tb:=λ E' σ H=>rdS X.K b E' σ H\/rxS X.K C E r E' σ H) xp.po hc hi.out hg.out (λ ac s σ H D I h=>h.elim (hb.out ac s σ H D I) (hx.out ac s σ H D I)) hs).imp λ E' σ H ⟨Hs0,H0,Hs,τ,rp,⟨ds,e1,e2⟩,ex⟩=>by
 obtain ⟨fp,hst⟩:=rp.st;refine ⟨H0,Hs,τ,fp,ds,hst,rp.same,e1,λ J Hs1 H1 g1 hJ=>?_⟩;have r1:=rp.ext' g1;refine ⟨λ i m σ H=>m=ds.length - i/\i<=ds.length/\∃ Hs2 τ2,Rep X.K Hs1 H0 Hs2 H σ τ2/\tV g b r (ds.drop i) τ2,⟨ds.length,by simp,Ye _,Hs1,τ,r1.rebase,by simpa using e2⟩,?_⟩
 rintro i m σ2 H2 ⟨rfl,hi,Hs2,τ2,r2,e3⟩
 obtain ⟨hgo,hstop⟩:=hJ Hs2 H2 r2.ext.ss r2.same
 by_cases hlt:i < ds.length
 ·have ed:=Yg hlt
  rw [ed] at e3;obtain ⟨go,yl⟩:=hgo i ds[i] (List.getElem?_eq_getElem hlt);refine .inr ⟨go,λ σ' H'=>∃ Hs' τ',Rep X.K Hs1 H0 Hs' H' σ' τ'/\tV g b r (ds.drop (i+1)) τ',?_,?_⟩
  ·rintro σ' H' ⟨Hs',τ',r',e'⟩
   exact ⟨ds.length - (i+1),by omega,rfl,hlt,Hs',τ',r',e'⟩
  ·intro x H' y
   obtain ⟨Hs3,g3,rx⟩:=yl x H' y;have r3:=r2.ext' g3;rcases e3 with ⟨τ3,q1,q2⟩ | ⟨τ3,τ4,q1,q2,q3⟩
   · exact ⟨Hs1,H0,Hs3,τ2,τ3,ds[i],r3,rx,q1,λ σ' r'=>.inr ⟨Hs1,H0,Hs3,τ3,r',q2,ex⟩⟩
   · exact ⟨Hs1,H0,Hs3,τ2,τ3,ds[i],r3,rx,q1,λ σ' r'=>.inl ⟨Hs1,H0,Hs3,τ3,_,r',q2,λ σ4 Hs4 H4 r4=>⟨Hs4,τ4,r4,q3⟩⟩⟩
 ·have e0:i=ds.length:=by omega
  subst e0;rw [Xs] at e3
  exact e3.elim⟩
def xk (g:DE) (r:DX):List D->Prop
 | []=>False
 | d::ds=>r [.shr d]\/(∃ y,g [.shr d]=some y)/\xk g r ds
def relabel_id (h:∀ y ∈ scope.names,y.2≠.free):relabel scope env=scope:=by
 have:(scope.names.map λ (n,k)=>if (k == NameKind.free&&env.scope.kind == .function&&env.kindOf n == some .cell) then (n,NameKind.cell) else (n,k))=scope.names:=by
  conv=>rhs; rw [<- List.map_id scope.names]
  refine List.map_congr_left λ y hy=>?_
  have q:=Xq.mpr (h y hy);show (if (y.2 == NameKind.free&&env.scope.kind == .function&&env.kindOf y.1 == some .cell)=true then _ else _)=_;rw [q,Xr,Xr,if_neg Zf];rfl
 unfold relabel;rw [this]
theorem Et {elt iter:Expr} {px:Pos} {scope:Scope} {it:DI} {g:DE} (O:dA X scope [] x []) (xp:Xp X E) (hi:Bx (PId X (.Name x px) iter it))
  (hn:∀ s H fp C Z,Bx (PEd ((bI X scope [] [x] s H fp C).tj Z) elt g)) (hx:∀ s H fp D Z,Pa ((bI X scope [] [x] s H fp D).tj Z) E->Bx (PEx ((bI X scope [] [x] s H fp D).tj Z) C E elt r))
  (hfr:∀ y ∈ scope.names,y.2≠.free:=by decide +kernel) (hc:X.calm=true:=by rfl) (hs:Fs X iter:=by intro _; rfl):Bx (PEx X C E (.ListComp elt [⟨.Name x px,iter,[],0⟩] scope pos) λ τ=>∃ ds,it τ=some ds/\ds.length<=100000/\xk g r ds):=by
 refine ⟨λ ac s σ H Q I ⟨H0,Hs,τ,fp0,st,sm,⟨ds,e1,hz,hr⟩,ex⟩=>?_⟩;refine wpAny_ListComp hfr O.kind O.names (thn (hi.out ac s σ H (λ J H1=>∃ Hs1,Ext Hs H Hs1 H1/\ItR X.K J Hs1 ds) I ⟨H0,Hs,τ,fp0,ds,st,sm,e1,λ J Hs1 H1 g1 hJ=>⟨Hs1,g1,hJ⟩⟩) λ v s1 h1=>thn h1 λ itv s2 h2=>?_) hs;obtain ⟨it,fp,tn,J,H2,rfl,I2,T,st2,f2,Hs1,g1,hJ⟩:=h2
 have tb:zK J (λ σ H Q=>rdE X.K g σ H Q\/rxE X.K C E r σ H Q) [] σ (λ _ _=>False) H2:=by
  have l5:100000 < sizeLine:=by decide
  refine ⟨λ i m ys H'=>m=ds.length - i/\ys.length=i/\i<=ds.length/\∃ Hs',c9 Hs1 Hs'/\c9 Hs' H'/\c9 H H'/\xk g r (ds.drop i),⟨ds.length,rfl,rfl,Ye _,Hs1,.refl _,g1.sh,g1.hh,hr⟩,?_⟩
  rintro i m ys H' ⟨rfl,hl,hi,Hs',a1,a2,a3,hr⟩
  by_cases hlt:i < ds.length
  ·rw [Yg hlt] at hr
   obtain ⟨go,yl⟩:=(hJ Hs' H' a1 a2).1 i ds[i] (List.getElem?_eq_getElem hlt);refine .inr ⟨go,by omega,λ v H3 y=>?_⟩;obtain ⟨Hs3,g3,rv⟩:=yl v H3 y;have st3:StR X.K H3 Hs3 H3 (some v::aK σ []) [.shr ds[i]] []:=.shr rv .nil;rcases hr with hr | ⟨⟨z,ez⟩,hr⟩
   · exact .inr ⟨H3,Hs3,_,[],st3,g3.sh,hr,ex.on (a3.trans g3.hh)⟩
   · exact .inl ⟨H3,Hs3,_,[],z,st3,g3.sh,ez,λ v' Hs4 H4 g4 r4=>⟨ds.length - (i+1),by omega,rfl,by rw [Zh,hl]; rfl,hlt,Hs4,(a1.trans g3.ss).trans g4.ss,g4.sh,(a3.trans g3.hh).trans g4.hh,hr⟩⟩
  ·have e0:i=ds.length:=by omega
   subst e0;rw [Xs] at hr;exact hr.elim
 have cb:=pR (te:=λ σ H Q=>rdE X.K g σ H Q\/rxE X.K C E r σ H Q) (iter:=iter) (pos:=pos) (Q:=λ _ _=>False) (E:=X.xe)
  (RR:=λ acc ev r s'=>∃ m,s'.heap.Ns ev.locals m/\∀ h',Heap.SameBut ev.locals s'.heap h'->match r with | .ok _=>EP X ac σ Q acc { s' with heap:=h' } | .error x=>wpAny (model X.prog X.w) X.A (PySem.passOn "comprehension.variables-let-go" x ev) (EP X ac σ Q) X.xe { s' with heap:=h' })
  hc O (λ C _=>vK) (λ D hD ac s σ H Q I h=>h.elim ((hn _ _ _ _ _).out ac s σ H Q I) ((hx _ _ _ _ _ (B9 I2 f2 hD xp.ex xp.st xp.fr xp.he)).out ac s σ H Q I)) (λ _ _ _ _ h=>h) I2 T st2 f2 (rM tb) (λ _ _ _ _ _ _ _ _ _ _ _ h=>h.elim)
 rw [relabel_id hfr] at cb;exact cb
end
section
variable {P:Program} {w:World} {K:W.Frag} {mg:Str->Option Value} {base:Heap} {x:Str} {st:Stmt} {ps:List Str} {k:Nat} {C:Addr}
def kR (n m:Nat) (r:DX) (ds:List D):Prop:=ds.length=m/\r (cF n ds)
def oX (N:List Str) (D:Df K mg x st ps) (h:∀ {cdv:Value} {A:Around} {outer:List Env} {s:Shared} {H:Hp} {E:XK} {f:Addr},ip k (A.deeper (envOfC x (bt st) s.heap.objs.size f cdv))->N.Nodup->Xp (vo (CX1 P w) P w K mg base N x (bt st) f cdv A outer s H E) E->Bx (zo (vo (CX1 P w) P w K mg base N x (bt st) f cdv A outer s H E) C E (cQ st) r))
   (S:jc N ps (bt st):=by exact ⟨rfl,rfl,rfl,by decide +kernel,rfl,by decide +kernel,by decide +kernel⟩):Gx P w K mg base (k+1) x (spR (kR N.length ps.length r) C K):=
 have ⟨a,d,F,m,bi⟩:=D
 ⟨a,d,ps,m,F.kp,bi,F.okX S (λ vs H Q E ⟨Hs,ds,sm,r,hR,ex⟩=>r.length.trans hR.1) λ cdv A outer s H vs Q E hr ⟨Hs,ds,sm,rp,hR,ex⟩=>
   ⟨_,(h hr S.nd ⟨λ σ=>Aq.at σ,Aa,.leaving,HW,rfl,rfl,rfl⟩).out,Hs,H,Hs,cF N.length ds,⟨.refl sm,[],by unfold start cF; rw [rp.length]; exact kM _ rp⟩,hR.2,ex⟩⟩
end
end L2
end
section
namespace N50
open PySem L2
def CF:D:=(.tup [.str "ink",.str "size",.str "wide",.str "least",.str "most",.str "grow",.str "shrink",.str "gap",.str "pad",.str "tall",.str "flow",.str "spread",.str "stand"])
def jR:D:=(.tup [.str "size",.str "wide",.str "least",.str "most",.str "grow",.str "shrink",.str "gap",.str "pad",.str "tall"])
def nr:D:=(.tup [.str "wide",.str "least",.str "most"])
def qp:D:=(.tup [.str ".",.str "!",.str "@",.str "^"])
def qq:D:=(.tup [.str ">",.str "+",.str "~"])
def U2 (i:Nat):Stmt:=PySem.Challenge.pw_stylehouse_k50_texts_refused.main.body.getD i (.Pass ⟨0,0,0,0⟩)
def jq:List (Key×D):=([("wide",.tup [.str "auto"]),("most",.tup [.str "none"]),("flow",.tup [.str "stack",.str "row",.str "wrap",.str "fair"]),("spread",.tup [.str "left",.str "middle",.str "right",.str "apart"]),("stand",.tup [.str "top",.str "middle",.str "bottom",.str "full"])]:List (Str×D)).map λ p=>((Sum.inr p.1:Key),p.2)
structure Adr where
 IK:Addr
 mP:Addr
 aN:Addr
 b7:Addr
 gI:Addr
 du:Addr
 dq:Addr
structure Txt (w:World) (K:W.Frag) (mg:Str->Option Value) (t:Adr):Prop where
 uQ:Df K mg "_law_props" (U2 57) []
 BE:Df K mg "is_name" (U2 9) ["thing"]
 yQ:Df K mg "is_whole" (U2 11) ["thing"]
 lQ:Df K mg "_law_trait_text" (U2 62) ["_law_trait"]
 qI:Df K mg "_law_is_name" (U2 67) ["_law_text"]
 pK:Df K mg "_law_is_whole" (U2 68) ["_law_text"]
 mG:Df K mg "read_whole" (U2 25) ["text"]
 pD:Df K mg "show_fraction" (U2 29) ["one"]
 uI:Df K mg "show_value" (U2 31) ["value"]
 uJ:Df K mg "show_trait" (U2 39) ["trait"]
 jN:Df K mg "checked_name" (U2 46) ["text"]
 lP:Df K mg "_law_value_text" (U2 59) ["_law_value"]
 j9:Df K mg "_law_pattern_text" (U2 63) ["_law_pattern"]
 pM:Df K mg "_law_is_share" (U2 69) ["_law_text"]
 qG:Df K mg "_law_is_step" (U2 73) ["_law_text"]
 yP:Df K mg "show_row" (U2 33) ["row"]
 qE:Df K mg "show_pattern" (U2 38) ["pattern"]
 pI:Df K mg "read_head" (U2 43) ["text"]
 pJ:Df K mg "_law_row_text" (U2 61) ["_law_row"]
 nL:Df K mg "_law_is_lowest" (U2 70) ["_law_text"]
 pL:Df K mg "_law_is_value" (U2 71) ["_law_text"]
 lS:Df K mg "_law_is_pattern" (U2 74) ["_law_text"]
 mJ:Df K mg "read_ratio" (U2 28) ["text"]
 mK:Df K mg "read_count" (U2 45) ["text"]
 wB:Df K mg "show_rows" (U2 47) ["rows"]
 nK:Df K mg "_law_rule_text" (U2 64) ["_law_rule"]
 sM:Df K mg "_law_is_row" (U2 72) ["_law_text"]
 iI:Df K mg "read_fraction" (U2 30) ["text"]
 mH:Df K mg "read_value" (U2 32) ["text"]
 wA:Df K mg "show_rule" (U2 49) ["rule"]
 qH:Df K mg "_law_is_rule" (U2 75) ["_law_text"]
 rf:Df K mg "read_row" (U2 34) ["text"]
 pE:Df K mg "read_step" (U2 42) ["text"]
 jM:Df K mg "read_pattern" (U2 41) ["text"]
 pG:Df K mg "read_rows" (U2 48) ["text"]
 pF:Df K mg "read_rule" (U2 50) ["text"]
 Q7:Lf K mg "law" (U2 80) "_law_script"
 uN:Df K mg "divisor_of" (U2 12) ["one","other"]
 uM:Df K mg "is_numeral" (U2 24) ["text","most"]
 uK:Df K mg "show_ratio" (U2 26) ["top","bottom"]
 uL:Df K mg "show_count" (U2 40) ["first","step"]
 wG:Df K mg "_law_cell" (U2 52) ["_law_script","_law_k"]
 yU:Df K mg "_law_mix" (U2 53) ["_law_cell_here","_law_way"]
 lR:Df K mg "_law_share_text" (U2 58) ["_law_top","_law_bottom"]
 yT:Df K mg "fraction" (U2 13) ["top","bottom"]
 BD:Df K mg "is_word" (U2 20) ["prop","word"]
 yS:Df K mg "is_ratio" (U2 21) ["top","bottom"]
 wF:Df K mg "_law_name" (U2 54) ["_law_cell_here","_law_way"]
 yR:Df K mg "is_value" (U2 19) ["prop","value"]
 pH:Df K mg "read_pair" (U2 27) ["text","other"]
 wD:Df K mg "_law_pool" (U2 55) ["_law_script","_law_at"]
 mI:Df K mg "read_trait" (U2 44) ["sign","text"]
 BF:Df K mg "_law_is" (U2 76) ["_law_kind","_law_text"]
 uS:Df K mg "_law_again" (U2 77) ["_law_kind","_law_text"]
 sL:Df K mg "_law_spoilt" (U2 79) ["_law_text","_law_cell_here","_law_way"]
 wC:Df K mg "_law_step" (U2 65) ["_law_cell_here","_law_way","_law_pool_here","_law_most"]
 uR:Df K mg "_law_noted" (U2 60) ["_law_prop","_law_cell_here","_law_other","_law_way"]
 uP:Df K mg "_law_right" (U2 78) ["_law_kind","_law_cell_here","_law_other","_law_pool_here"]
 uO:Df K mg "_law_steps" (U2 66) ["_law_cell_here","_law_way","_law_pool_here","_law_many","_law_most"]
 sW:mg "ValueError"=none
 Jl:mg "abs"=none
 Jk:mg "all"=none
 Jj:mg "bool"=none
 dB:mg "enumerate"=none
 zx:mg "int"=none
 cT:mg "isinstance"=none
 b8:mg "len"=none
 N1:mg "max"=none
 lC:mg "range"=none
 Ji:mg "str"=none
 eV:mg "tuple"=none
 Jh:mg "zip"=none
 qB:Ic mg "LONGEST_NAME" 8
 GK:Kc K mg "PROPS" CF
 cG:Kc K mg "NUMBER_PROPS" jR
 tW:Kc K mg "PART_PROPS" nr
 jK:Ic mg "MOST_FIGURES" 30
 Ab:Kc K mg "SIGNS" qp
 oB:Kc K mg "JOINS" qq
 mD:mg "HouseError"=some (.ref t.mP)
 cv:mg "NoText"=some (.ref t.aN)
 mC:mg "NoFraction"=some (.ref t.b7)
 A2:mg "NoRow"=some (.ref t.gI)
 uv:mg "NoValue"=some (.ref t.du)
 uu:mg "TooMuch"=some (.ref t.dq)
 cO:PySem.W.excIn K t.aN Rj "ValueError.__new__"=true
 cg:D7 K t.aN=true
 bX:PySem.W.exmOne K (.ref t.aN) (.ref t.mP)=some true
 cC:PySem.W.kitOne K (.ref t.aN) (.ref t.aN)=some true
 bW:PySem.W.kitOne K (.ref t.aN) (.type "ValueError")=some true
 kU:PySem.W.kitAny K (.ref t.aN) [.ref t.b7,.ref t.gI,.ref t.du,.ref t.dq]=some false
 Bc:Kd2 w K mg "WORDS" t.IK jq
abbrev gOD (f:∀ (P:Program) (w:World) (K:W.Frag) (mg:Str->Option Value) (base:Heap),DS->Prop) (t:Adr):Type:={G:DS // ∀ {P w K mg base},Txt w K mg t->f P w K mg base G}
abbrev gO0 (f:∀ (P:Program) (w:World) (K:W.Frag) (mg:Str->Option Value) (base:Heap),DS->Prop):Type:={G:DS // ∀ {t P w K mg base},Txt w K mg t->f P w K mg base G}
abbrev gFD (k:Nat) (x:Str) (n m:Nat) (P:Program) (w:World) (K:W.Frag) (mg:Str->Option Value) (base:Heap) (G:DS):Prop:=Go P w K mg base k x (spF (cD n m G) K)
abbrev U4 (k:Nat) (x:Str) (F:List D->Option Sl):Prop:=∀ {P w K mg base t},Txt w K mg t->Go P w K mg base k x (spF F K)
abbrev U5 (k:Nat) (x:Str) (F:Adr->List D->Option Sl):Prop:=∀ {P w K mg base t},Txt w K mg t->Go P w K mg base k x (spF (F t) K)
section
variable {P:Program} {w:World} {K:W.Frag} {mg:Str->Option Value} {base:Heap} {t:Adr}
set_option maxHeartbeats 0
def qi:gO0 (gFD 1 "is_name" 1 1):=⟨_,λ T=>oD ["thing"] T.BE λ hr nd=>
 (ae (au (aT (aH (aB IE T.cT (bT (aa 0) (wN (n:="str") T.Ji))))) (ag (aj bG)) ak) (ae (au (aT (pU CH CH ai (aB b9 T.b8 (aU (aa 0))) (Ri T.qB))) (ag (aj bG)) ak) (ag (aj (aB (Mh rfl) T.Jk (aU (ay (di ck0 (iK (aa 0)) (λ _ _ _ _=>(jy DD DD af (aa 0) af))))))))))⟩
def jg:=cD 1 1 (qi).1
def iC:U4 1 "is_name" jg:=qi.2
def lY:gO0 (gFD 1 "is_whole" 1 1):=⟨_,λ T=>oD ["thing"] T.yQ λ hr nd=>
 (ag (aj (dj (aB IE T.cT (bT (aa 0) (wN (n:="int") T.zx))) (cw (Em (aB IE T.cT (bT (aa 0) (wN (n:="bool") T.Jj))))))))⟩
def l7:=cD 1 1 (lY).1
def ju:U4 1 "is_whole" l7:=lY.2
def eF:gO0 (gFD 1 "divisor_of" 3 2):=⟨_,λ T=>oD ["one","other","rest"] T.uN λ hr nd=>
 (ae (bK 0 nd (aB Mi T.Jl (aU (aa 0)))) (ae (bK 1 nd (aB Mi T.Jl (aU (aa 1)))) (ae (pV (bS (aa 1) ai) (ae (bK 2 nd (bD (aa 0) (aa 1))) (ae (bK 0 nd (aa 1)) (ag (bK 1 nd (aa 2)))))) (ag (aj (aa 0))))))⟩
def fP:=cD 3 2 (eF).1
def ue:U4 1 "divisor_of" fP:=eF.2
def mY:gO0 (gFD 1 "is_numeral" 2 2):=⟨_,λ T=>oD ["text","most"] T.uM λ hr nd=>
 (ae (au (aX (bM (aT (pU CH CH ai (aB b9 T.b8 (aU (aa 0))) (aa 1))) (bQ (aT (aH (aB (Mh rfl) T.Jk (aU (ay (di ck0 (iK (aa 0)) (λ _ _ _ _=>(jy DD DD af (aa 0) af))))))))))) (ag (aj bG)) ak) (ag (aj (pZ (F3 (aa 0) af) (cw (Cr (bg 0) af))))))⟩
def jf:=cD 2 2 (mY).1
def mz:U4 1 "is_numeral" jf:=mY.2
def mV:gO0 (gFD 1 "show_ratio" 2 2):=⟨_,λ T=>oD ["top","bottom"] T.uK λ hr nd=>
 (ag (aj (gH (aZ (aa 1) ai) (lW (eL (aa 0))) (wO (eL (aa 0)) af (eL (aa 1))))))⟩
def ng:=cD 2 2 (mV).1
def fD:U4 1 "show_ratio" ng:=mV.2
def mW:gO0 (gFD 1 "show_count" 2 2):=⟨_,λ T=>oD ["first","step"] T.uL λ hr nd=>
 (ag (aj (gH (aZ (aa 1) ai) (lW (eL (aa 0))) (wO (eL (aa 0)) af (eL (aa 1))))))⟩
def ni:=cD 2 2 (mW).1
def uc:U4 1 "show_count" ni:=mW.2
def qj:gO0 (gFD 1 "_law_cell" 2 2):=⟨_,λ T=>oD ["_law_script","_law_k"] T.wG λ hr nd=>
 (ae (au (Cj (aa 1) (aB b9 T.b8 (aU (aa 0)))) (ag (aj (bA (aa 0) (aa 1)))) ak) (ag (aj ai)))⟩
def qo:=cD 2 2 (qj).1
def gC:U4 1 "_law_cell" qo:=qj.2
def rD:gO0 (gFD 1 "_law_mix" 3 2):=⟨_,λ T=>oD ["_law_cell_here","_law_way","_law_first"] T.yU λ hr nd=>
 (ae (bK 2 nd (bD (aP (lu (aa 0) ai) (lu (aa 1) ai)) ai)) (ag (aj (bD (lu (aa 2) (aP ai (lu ai (aa 1)))) ai))))⟩
def jC:=cD 3 2 (rD).1
def bU:U4 1 "_law_mix" jC:=rD.2
def m8:gO0 (gFD 1 "_law_props" 1 0):=⟨_,λ T=>oD ["_law_some"] T.uQ λ hr nd=>
 (ae (bK 0 nd (ay (a9 (aJ af (aJ af (aJ af (aJ af (aJ af (aJ af (aJ af (ik af af af))))))))))) (ag (aj (aP (aa 0) (ay (a9 (ik af af af)))))))⟩
def fQ:=cD 1 0 (m8).1
def d9:U4 1 "_law_props" fQ:=m8.2
def gw:gO0 (gFD 1 "_law_share_text" 2 2):=⟨_,λ T=>oD ["_law_top","_law_bottom"] T.lR λ hr nd=>
 (ae (au (aZ (aa 1) ai) (ag (aj (lW (eL (aa 0))))) ak) (ag (aj (wO (eL (aa 0)) af (eL (aa 1))))))⟩
def gy:=cD 2 2 (gw).1
def dG:U4 1 "_law_share_text" gy:=gw.2
def dI:gO0 (gFD 1 "_law_trait_text" 2 1):=⟨_,λ T=>oD ["_law_trait","_law_text"] T.lQ λ hr nd=>
 (ae (au (aZ (bg 0) af) (ag (aj af)) ak) (ae (au (aZ (bg 0) af) (ag (aj (bg 0))) ak) (ae (au (aZ (bg 0) af) (ag (aj (aP af (bg 0)))) ak) (ae (au (aZ (bg 0) af) (ag (aj (aP af (bA (bg 0) ai)))) ak) (ae (bK 1 nd (aP (p4 hr.units (λ _ _=>rfl) (ay (pX (cX af af (cX af af pW)))) (bg 0)) (lW (eL (bg 0))))) (ae (au (aZ (bg 0) ai) (ag (aj (aa 1))) ak) (ag (aj (aP (aP (aa 1) af) (lW (eL (bg 0))))))))))))⟩
def dN:=cD 2 1 (dI).1
def lK:U4 1 "_law_trait_text" dN:=dI.2
def gc:gO0 (gFD 1 "_law_is_name" 2 1):=⟨_,λ T=>oD ["_law_text","_law_good"] T.qI λ hr nd=>
 (ae (mO 1 nd ck0 (hi:=iK (aa 0)) (hcd:=(λ _ _ _ _=>(cm DF (aa 0) af))) (he:=(λ _ _ _ _=>(aa 0)))) (ag (aj (p5 CH (Mq hr.units) CH ai (aB b9 T.b8 (aU (aa 1))) (aB b9 T.b8 (aU (aa 0))) ai))))⟩
def cN:=cD 2 1 (gc).1
def dR:U4 1 "_law_is_name" cN:=gc.2
def fh:gO0 (gFD 1 "_law_is_whole" 2 1):=⟨_,λ T=>oD ["_law_text","_law_good"] T.pK λ hr nd=>
 (ae (mO 1 nd ck0 (hi:=iK (aa 0)) (hcd:=(λ _ _ _ _=>(cm DF (aa 0) af))) (he:=(λ _ _ _ _=>(aa 0)))) (ag (aj (dj (p5 CH (Mq hr.units) CH ai (aB b9 T.b8 (aU (aa 1))) (aB b9 T.b8 (aU (aa 0))) ai) (cw (pZ (F3 (aa 0) af) (cw (Cr (bg 0) af))))))))⟩
def bj:=cD 2 1 (fh).1
def da:U4 1 "_law_is_whole" bj:=fh.2
def l6:gO0 (gFD 2 "fraction" 3 2):=⟨_,λ T=>oD ["top","bottom","divisor"] T.yT λ hr nd=>
 (ae (au (aX (bM (aT (aH (aq (ju T) hr (aU (aa 0))))) (bQ (aT (aH (aq (ju T) hr (aU (aa 1)))))))) (ag ba) ak) (ae (au (aZ (aa 1) ai) (ag ba) ak) (ae (bK 2 nd (aq (ue T) hr (bT (aa 0) (aa 1)))) (ae (au (Cj (aa 1) ai) (ag (bK 2 nd (fH (aa 2)))) ak) (ag (aj (aA (bT (bc (aa 0) (aa 2)) (bc (aa 1) (aa 2))))))))))⟩
def ma:=cD 3 2 (l6).1
def qT:U4 2 "fraction" ma:=l6.2
def vh:gO0 (gFD 2 "is_word" 2 2):=⟨_,λ T=>oD ["prop","word"] T.BD λ hr nd=>
 (ae (au (aZ (aa 0) af) (ag (aj (dj (aq (iC T) hr (aU (aa 1))) (cw (Cq (aa 1) (aA (bT af af))))))) ak) (ag (aj (CL (aa 1) (zh T.Bc.1 T.Bc.2 (aa 0) (aA eD))))))⟩
def qk:=cD 2 2 (vh).1
def AJ:U4 2 "is_word" qk:=vh.2
def lZ:gO0 (gFD 2 "is_ratio" 2 2):=⟨_,λ T=>oD ["top","bottom"] T.yS λ hr nd=>
 (ae (au (aX (bM (aT (aH (aq (ju T) hr (aU (aa 0))))) (bQ (aT (aH (aq (ju T) hr (aU (aa 1)))))))) (ag (aj bG)) ak) (ag (aj (dj (jy CH O2 ai (aa 0) (zi ai ai)) (cw (jy CH O2 ai (aa 1) (zi ai ai)))))))⟩
def l9:=cD 2 2 (lZ).1
def lJ:U4 2 "is_ratio" l9:=lZ.2
def mX:gO0 (gFD 2 "read_whole" 1 1):=⟨_,λ T=>oD ["text"] T.mG λ hr nd=>
 (ae (au (aT (aH (aq (mz T) hr (bT (aa 0) (Ri T.jK))))) (ag ba) ak) (ag (aj (bB yf T.zx (aU (aa 0))))))⟩
def fM:=cD 1 1 (mX).1
def cA:U4 2 "read_whole" fM:=mX.2
def iV:gO0 (gFD 2 "show_fraction" 1 1):=⟨_,λ T=>oD ["one"] T.pD λ hr nd=>
 (ag (aj (aq (fD T) hr (bT (bg 0) (bg 0)))))⟩
def fk:=cD 1 1 (iV).1
def oP:U4 2 "show_fraction" fk:=iV.2
def iT:gO0 (gFD 2 "show_value" 2 1):=⟨_,λ T=>oD ["value","kind"] T.uI λ hr nd=>
 (ae (bK 1 nd (bg 0)) (ae (au (aZ (aa 1) af) (ag (aj (bg 0))) ak) (ae (au (aZ (aa 1) af) (ag (aj (aq (fD T) hr (bT (bg 0) (bg 0))))) ak) (ae (au (aZ (aa 1) af) (ag (aj (aP (aP (aq (fD T) hr (bT (bg 0) (bg 0))) af) (bg 0)))) ak) (ae (au (fA (aa 1) (aA (bT af af))) (ag (aj (aP (aP (aq (fD T) hr (bT (bg 0) (bg 0))) af) (aa 1)))) ak) (ag (aj (aa 1))))))))⟩
def fL:=cD 2 1 (iT).1
def mw:U4 2 "show_value" fL:=iT.2
def iU:gO0 (gFD 2 "show_trait" 3 1):=⟨_,λ T=>oD ["trait","kind","sign"] T.uJ λ hr nd=>
 (ae (bK 1 nd (bg 0)) (ae (au (aZ (aa 1) af) (ag (aj af)) ak) (ae (au (aZ (aa 1) af) (ag (aj (bg 0))) ak) (ae (au (aZ (aa 1) af) (ag (aj (aP af (bg 0)))) ak) (ae (au (aZ (aa 1) af) (ag (aj (aP af (bA (bg 0) ai)))) ak) (ae (bK 2 nd (gH (aZ (aa 1) af) af af)) (ag (aj (aP (aa 2) (aq (uc T) hr (bT (bg 0) (bg 0))))))))))))⟩
def eG:=cD 3 1 (iU).1
def ub:U4 2 "show_trait" eG:=iU.2
def f7:gO0 (gFD 2 "checked_name" 1 1):=⟨_,λ T=>oD ["text"] T.jN λ hr nd=>
 (ae (au (aT (aH (aq (iC T) hr (aU (aa 0))))) (ag ba) ak) (ag (aj (aa 0))))⟩
def gf:=cD 1 1 (f7).1
def cH:U4 2 "checked_name" gf:=f7.2
def kF:gO0 (gFD 2 "_law_name" 4 2):=⟨_,λ T=>oD ["_law_cell_here","_law_way","_law_letters","_law_size"] T.wF λ hr nd=>
 (ae (bK 2 nd af) (ae (bK 3 nd (aP ai (bD (aq (bU T) hr (bT (aa 0) (aP (aa 1) ai))) ai))) (ag (aj (iL af (ay (di (ckN [("_law_letters",2),("_law_cell_here",0),("_law_way",1)]) (cY T.lC (aU (aa 3))) (λ _ _ _ _=>(bA (aa 1) (bD (aq (bU T) hr (bT (aa 2) (aP (aa 3) (lu ai (aa 0))))) ai))))))))))⟩
def fo:=cD 4 2 (kF).1
def j3:U4 2 "_law_name" fo:=kF.2
def dH:gO0 (gFD 2 "_law_value_text" 2 1):=⟨_,λ T=>oD ["_law_value","_law_text"] T.lP λ hr nd=>
 (ae (au (fA (bg 0) (aA (bT af af))) (ag (aj (bg 0))) ak) (ae (au (aZ (bg 0) af) (ag (aj (bg 0))) ak) (ae (au (aZ (bg 0) af) (ag (aj (aP (aP (aq (dG T) hr (bT (bg 0) (bg 0))) af) (bg 0)))) ak) (ae (bK 1 nd (aq (dG T) hr (bT (bg 0) (bg 0)))) (ae (au (aZ (bg 0) af) (ag (aj (aa 1))) ak) (ag (aj (aP (aP (aa 1) af) (bg 0)))))))))⟩
def dM:=cD 2 1 (dH).1
def gj:U4 2 "_law_value_text" dM:=dH.2
def bY:gO0 (gFD 2 "_law_pattern_text" 5 1):=⟨_,λ T=>oD ["_law_pattern","_law_text","_law_k","_law_step_here","_law_trait"] T.j9 λ hr nd=>
 (ae (bK 1 nd af) (ae (bJ (kh T.dB (aU (aa 0))) (gr (n:=2) (bO (aW 2 nd) (bO (aW 3 nd) eU))) (ae (au (pT (aa 2) ai) (ag (bK 1 nd (aP (aa 1) af))) ak) (ae (au (fA (bg 3) (aA (ik af af af))) (ag (bK 1 nd (aP (aP (aa 1) (bg 3)) af))) ak) (ag (bJ (iJ (bg 3)) (aW 4 nd) (ag (bK 1 nd (aP (aa 1) (aq (lK T) hr (aU (aa 4))))))))))) (ag (aj (aa 1)))))⟩
def cR:=cD 5 1 (bY).1
def eX:U4 2 "_law_pattern_text" cR:=bY.2
def kD:gO0 (gFD 2 "_law_step" 11 4):=⟨_,λ T=>oD ["_law_cell_here","_law_way","_law_pool_here","_law_most","_law_draw","_law_made","_law_j","_law_other","_law_word","_law_first","_law_every"] T.wC λ hr nd=>
 (ae (bK 4 nd (aq (bU T) hr (bT (aa 0) (aa 1)))) (ae (cc 5 nd (he:=a9 (aU (aA (aU af))))) (ae (au (pT (bD (aa 4) ai) ai) (ag (cc 5 nd (he:=a9 (aU (aA (bT af (bA (aa 2) (bD (bc (aa 4) ai) ai)))))))) ak) (ae (bJ (cY T.lC (aU (bD (bc (aa 4) ai) (aa 3)))) (aW 6 nd) (ae (bK 7 nd (aq (bU T) hr (bT (aa 0) (aP (aP (aa 1) ai) (aa 6))))) (ae (bK 8 nd (bA (aa 2) (bD (bc (aa 7) ai) ai))) (ag (au (aZ (bD (aa 7) ai) ai) (ag (cJ 5 (he:=aA (bT af (aa 8))))) (ag (au (aZ (bD (aa 7) ai) ai) (ag (cJ 5 (he:=aA (bT af (aA (bT af (aa 8))))))) (ae (bK 9 nd (bD (bc (aa 7) ai) ai)) (ae (bK 10 nd (bD (bc (aa 7) ai) ai)) (ae (au (aZ (bD (bc (aa 7) ai) ai) ai) (ag (bK 9 nd (bD (aa 0) (zi ai ai)))) ak) (ae (au (aZ (bD (bc (aa 7) ai) ai) ai) (ag (bK 10 nd (bD (aa 0) (zi ai ai)))) ak) (ag (cJ 5 (he:=aA (ik (bA (ay (a9 (bT af af))) (bD (aa 7) ai)) (aa 9) (aa 10)))))))))))))))) (ag (cI 5 (aj (bB fc T.eV (aU (aa 5))))))))))⟩
def qm:=cD 11 4 (kD).1
def vY:U4 2 "_law_step" qm:=kD.2
def fj:gO0 (gFD 2 "_law_is_share" 2 1):=⟨_,λ T=>oD ["_law_text","_law_parts"] T.pM λ hr nd=>
 (ae (bK 1 nd (ay (bh (aa 0) af))) (ae (au (aX (bM (pT (aB b9 T.b8 (aU (aa 1))) ai) (bQ (aT (aH (aq (da T) hr (aU (bg 1)))))))) (ag (aj bG)) ak) (ag (aj (pZ (F3 (aB b9 T.b8 (aU (aa 1))) ai) (cw (dj (aq (da T) hr (aU (bg 1))) (cw (UQ (bB yf T.zx (aU (bg 1))) ai)))))))))⟩
def ft:=cD 2 1 (fj).1
def eZ:U4 2 "_law_is_share" ft:=fj.2
def f9:gO0 (gFD 2 "_law_is_step" 5 1):=⟨_,λ T=>oD ["_law_text","_law_parts","_law_sign","_law_part","_law_bits"] T.qG λ hr nd=>
 (ae (cc 1 nd (he:=a9 (aU af))) (ae (bJ (iK (aa 0)) (aW 2 nd) (ae (au (cm DF (aa 2) af) (ag (cJ 1 (he:=af))) ak) (ag (zf 1 (hval:=Ep 1 (aP (bA (aa 1) (fH ai)) (aa 2))) (hi:=fH ai))))) (ae (au (fg 1 (aX (b6 (bS (bg 1) af) (bZ (aT (aH (aq (dR T) hr (aU (bg 1))))))))) (ag (aj bG)) ak) (ae (cI 1 (bJ (cf (ay (fX (aa 1) (ax ai) aE))) (aW 3 nd) (ag (au (cm DF (bg 3) af) (ag (au (aT (aH (aq (dR T) hr (aU (aL (aa 3) (ax ai) aE))))) (ag (aj bG)) ak)) (ae (bK 4 nd (ay (bh (aL (aa 3) (ax ai) aE) af))) (ae (au (aX (bM (pT (aB b9 T.b8 (aU (aa 4))) ai) (bM (aT (aH (aq (da T) hr (aU (bg 4))))) (bQ (aT (aH (aq (da T) hr (aU (bA (aa 4) (fH ai)))))))))) (ag (aj bG)) ak) (ag (au (aX (b6 (aZ (aB b9 T.b8 (aU (aa 4))) ai) (bZ (aZ (bg 4) af)))) (ag (aj bG)) ak)))))))) (ag (aj bG))))))⟩
def cM:=cD 5 1 (f9).1
def qz:U4 2 "_law_is_step" cM:=f9.2
def gO:gO0 (gFD 2 "_law_spoilt" 6 3):=⟨_,λ T=>oD ["_law_text","_law_cell_here","_law_way","_law_signs","_law_draw","_law_at"] T.sL λ hr nd=>
 (ae (bK 3 nd af) (ae (bK 3 nd (aP (aa 3) af)) (ae (bK 4 nd (aq (bU T) hr (bT (aa 1) (aa 2)))) (ae (bK 5 nd (bD (bc (aa 4) ai) (aP (aB b9 T.b8 (aU (aa 0))) ai))) (ae (au (aX (bM (aZ (bD (aa 4) ai) ai) (bQ (aZ (bD (aa 4) ai) ai)))) (ag (aj (aP (aL (aa 0) aE (ax (aa 5))) (aL (aa 0) (ax (aP (aa 5) ai)) aE)))) ak) (ae (au (aZ (bD (aa 4) ai) ai) (ag (aj (aP (aP (aL (aa 0) aE (ax (aa 5))) (aL (aa 0) (ax (aa 5)) (ax (aP (aa 5) ai)))) (aL (aa 0) (ax (aa 5)) aE)))) ak) (ae (au (aZ (bD (aa 4) ai) ai) (ag (aj (aP (aP (aL (aa 0) aE (ax (aa 5))) (bA (ay (a9 (aJ (fY Kx af ai) (aJ af (aJ af (aJ af (aJ af (ik af af af)))))))) (bD (aq (bU T) hr (bT (aa 1) (aP (aa 2) ai))) ai))) (aL (aa 0) (ax (aa 5)) aE)))) ak) (ae (au (aZ (bD (aa 4) ai) ai) (ag (aj (aP (aP (aL (aa 0) aE (ax (aa 5))) (aL (aa 0) (ax (aB (Mg rfl) T.N1 (bT ai (Er (aa 5) ai)))) (ax (aa 5)))) (aL (aa 0) (ax (aa 5)) aE)))) ak) (ae (au (aZ (bD (aa 4) ai) ai) (ag (aj (bA (ay (a9 (aJ af (aJ (aL (aa 0) aE (ax (aa 5))) (aJ (aP (aa 0) af) (ik (aP af (aa 0)) (aP (aa 0) af) (aP af (aa 0)))))))) (bD (aq (bU T) hr (bT (aa 1) (aP (aa 2) ai))) ai)))) ak) (ag (aj (aP (aP (aL (aa 0) aE (ax (aa 5))) (bA (aa 3) (bD (aq (bU T) hr (bT (aa 1) (aP (aa 2) ai))) (aB b9 T.b8 (aU (aa 3)))))) (aL (aa 0) (ax (aP (aa 5) (bD (aa 4) ai))) aE)))))))))))))⟩
def eR:=cD 6 3 (gO).1
def sk:U4 2 "_law_spoilt" eR:=gO.2
def rC:gO0 (gFD 3 "is_value" 2 2):=⟨_,λ T=>oD ["prop","value"] T.yR λ hr nd=>
 (ae (au (yg (aa 0) (yh T.GK)) (ag (aj bG)) ak) (ae (au (cm (O3 hr.Jr) (aa 1) (aA (bT (aA (aU af)) (aA (aU af))))) (ag (aj bG)) ak) (ae (au (aX (b6 (aZ (aB b9 T.b8 (aU (aa 1))) ai) (bZ (aZ (bg 1) af)))) (ag (aj (aq (AJ T) hr (bT (aa 0) (bg 1))))) ak) (ae (au (aX (b6 (aZ (aB b9 T.b8 (aU (aa 1))) ai) (bZ (fA (bg 1) (aA (bT af af)))))) (ag (aj (dj (CL (aa 0) (yh T.cG)) (cw (aq (lJ T) hr (bT (bg 1) (bg 1))))))) ak) (ae (au (aX (b6 (aZ (aB b9 T.b8 (aU (aa 1))) ai) (bZ (aZ (bg 1) af)))) (ag (aj (dj (CL (aa 0) (yh T.tW)) (cw (aq (lJ T) hr (bT (bg 1) (bg 1))))))) ak) (ae (au (aX (b6 (aZ (aB b9 T.b8 (aU (aa 1))) ai) (bZ (aZ (bg 1) af)))) (ag (aj (dj (CL (aa 0) (yh T.cG)) (dj (CL (bg 1) (yh T.cG)) (cw (aq (lJ T) hr (bT (bg 1) (bg 1)))))))) ak) (ag (aj bG))))))))⟩
def l8:=cD 2 2 (rC).1
def qS:U4 3 "is_value" l8:=rC.2
def kB:gO0 (gFD 3 "read_pair" 3 2):=⟨_,λ T=>oD ["text","other","parts"] T.pH λ hr nd=>
 (ae (bK 2 nd (ay (bh (aa 0) af))) (ae (au (pT (aB b9 T.b8 (aU (aa 2))) ai) (ag ba) ak) (ae (au (aZ (aB b9 T.b8 (aU (aa 2))) ai) (ag (aj (aA (bT (aq (cA T) hr (aU (aa 0))) (aa 1))))) ak) (ag (aj (aA (bT (aq (cA T) hr (aU (bg 2))) (aq (cA T) hr (aU (bg 2))))))))))⟩
def gW:=cD 3 2 (kB).1
def jZ:U4 3 "read_pair" gW:=kB.2
def rB:gO0 (gFD 3 "show_row" 2 1):=⟨_,λ T=>oD ["row","text"] T.yP λ hr nd=>
 (ae (bK 1 nd (aP (aP (bg 0) af) (aq (mw T) hr (aU (bg 0))))) (ag (aj (gH (aH (bg 0)) (aP (aa 1) af) (aa 1)))))⟩
def jB:=cD 2 1 (rB).1
def qR:U4 3 "show_row" jB:=rB.2
def dS:gO0 (gFD 3 "show_pattern" 3 1):=⟨_,λ T=>oD ["pattern","text","step"] T.qE λ hr nd=>
 (ae (bK 1 nd af) (ae (bJ (iJ (aa 0)) (aW 2 nd) (ae (au (fA (bg 2) (yh T.oB)) (ag (lV 1 nd (he:=aP (aP af (bg 2)) af))) (ag (lV 1 nd (he:=bg 2)))) (ag (lV 1 nd (he:=iL af (ay (di ck0 (iJ (bg 2)) (λ _ _ _ _=>(aq (ub T) hr (aU (aa 0))))))))))) (ag (aj (aa 1)))))⟩
def cL:=cD 3 1 (dS).1
def jJ:U4 3 "show_pattern" cL:=dS.2
def kC:gO0 (gFD 3 "read_head" 1 1):=⟨_,λ T=>oD ["text"] T.pI λ hr nd=>
 (ae (au (aZ (aa 0) af) (ag (aj (aA (aU af)))) ak) (ag (aj (aA (bT af (aq (cH T) hr (aU (aa 0))))))))⟩
def kG:=cD 1 1 (kC).1
def oS:U4 3 "read_head" kG:=kC.2
def kE:gO0 (gFD 3 "_law_pool" 9 2):=⟨_,λ T=>oD ["_law_script","_law_at","_law_letters","_law_one","_law_draw","_law_place","_law_sign","_law_two","_law_three"] T.wD λ hr nd=>
 (ae (bK 2 nd af) (ae (bK 3 nd (aq (j3 T) hr (bT (aq (gC T) hr (bT (aa 0) (aa 1))) ai))) (ae (bK 4 nd (aq (bU T) hr (bT (aq (gC T) hr (bT (aa 0) (aP (aa 1) ai))) ai))) (ae (bK 5 nd (bD (aa 4) (aB b9 T.b8 (aU (aa 3))))) (ae (bK 6 nd (bA (aa 2) (bD (bc (aa 4) ai) ai))) (ae (bK 7 nd (aP (aP (aL (aa 3) aE (ax (aa 5))) (aa 6)) (aL (aa 3) (ax (aP (aa 5) ai)) aE))) (ae (bK 8 nd (aL (aP (aa 3) (aa 6)) (ax (fH ai)) aE)) (ag (aj (ay (a9 (aJ (aa 3) (ik (aa 7) (aa 8) (aq (j3 T) hr (bT (aq (gC T) hr (bT (aa 0) (aP (aa 1) ai))) ai)))))))))))))))⟩
def kH:=cD 9 2 (kE).1
def vZ:U4 3 "_law_pool" kH:=kE.2
def m9:gO0 (gFD 3 "_law_noted" 8 4):=⟨_,λ T=>oD ["_law_prop","_law_cell_here","_law_other","_law_way","_law_draw","_law_word","_law_words","_law_pair"] T.uR λ hr nd=>
 (ae (bK 4 nd (aq (bU T) hr (bT (aa 1) (aa 3)))) (ae (au (Cj (bD (aa 4) ai) ai) (ag (aj (aA (aU (bA (ay (a9 (bT af af))) (bD (aa 4) ai)))))) ak) (ae (au (aZ (aa 0) af) (ae (bK 5 nd (aq (j3 T) hr (bT (aa 2) (aP (aa 3) ai)))) (ag (aj (aA (bT af (gH (fA (aa 5) (aA (bT af af))) af (aa 5))))))) ak) (ae (cc 6 nd (he:=pX (cX af (ay (a9 (aU af))) (cX af (ay (a9 (aU af))) (cX af (ay (a9 (aJ af (ik af af af)))) pW))))) (ae (jx 6 hr.units (hval:=ay (a9 (aJ af (ik af af af)))) (hi:=af)) (ae (jx 6 hr.units (hval:=ay (a9 (aJ af (ik af af af)))) (hi:=af)) (ae (au (fg 6 (aX (bM (fA (aa 0) (aA (ik af af af))) (bQ (aX (b6 (Ck hr.units rfl (aa 0) (aa 6)) (bZ (aZ (bD (aa 4) ai) ai)))))))) (ag (cI 6 (aj (aA (bT af (bA (p4 hr.units (λ _ _=>rfl) (aa 6) (aa 0)) (bD (bc (aa 4) ai) (aB b9 T.b8 (aU (p4 hr.units (λ _ _=>rfl) (aa 6) (aa 0))))))))))) ak) (ae (bK 7 nd (aA (bT (bD (aa 1) (zi ai ai)) (aP ai (bD (aa 2) (Er (zi ai ai) ai)))))) (ae (au (aZ (bD (bc (aa 4) ai) ai) ai) (ag (bK 7 nd (aA (bT (bD (bc (aa 4) ai) ai) (aP ai (bD (bc (aa 4) ai) ai)))))) ak) (ae (au (aZ (bD (aa 4) ai) ai) (ag (aj (fY AI (aA (bT af (bA (gu (d9 T) hr) (aP ai (bD (bc (aa 4) ai) ai))))) (aa 7)))) ak) (ae (au (aX (b6 (aZ (bD (aa 4) ai) ai) (bZ (fA (aa 0) (aA (ik af af af)))))) (ag (aj (fY AI (aA (aU af)) (aa 7)))) ak) (ag (aj (fY AI (aA (aU (bA (ay (a9 (bT af af))) (bD (aa 4) ai)))) (aa 7)))))))))))))))⟩
def jm:=cD 8 4 (m9).1
def ug:U4 3 "_law_noted" jm:=m9.2
def jb:gO0 (gFD 3 "_law_row_text" 2 1):=⟨_,λ T=>oD ["_law_row","_law_text"] T.pJ λ hr nd=>
 (ae (bK 1 nd (aP (aP (bg 0) af) (aq (gj T) hr (aU (bg 0))))) (ae (au (aH (bg 0)) (ag (aj (aP (aa 1) af))) ak) (ag (aj (aa 1)))))⟩
def ji:=cD 2 1 (jb).1
def iD:U4 3 "_law_row_text" ji:=jb.2
def fK:gO0 (gFD 3 "_law_steps" 8 5):=⟨_,λ T=>oD ["_law_cell_here","_law_way","_law_pool_here","_law_many","_law_most","_law_steps_here","_law_k","_law_join"] T.uO λ hr nd=>
 (ae (cc 5 nd (he:=a9 eD)) (ae (bJ (cY T.lC (aU (aa 3))) (aW 6 nd) (ae (bK 7 nd af) (ae (au (pT (aa 6) ai) (ag (bK 7 nd (bA (ay (a9 (aJ af (ik af af af)))) (bD (aq (bU T) hr (bT (aa 0) (aP (aa 1) (lu ai (aa 6))))) ai)))) ak) (ag (cJ 5 (he:=aA (bT (aa 7) (aq (vY T) hr (aJ (aa 0) (ik (aP (aP (aa 1) ai) (lu ai (aa 6))) (aa 2) (aa 4))))))))))) (ag (cI 5 (aj (bB fc T.eV (aU (aa 5))))))))⟩
def jh:=cD 8 5 (fK).1
def mB:U4 3 "_law_steps" jh:=fK.2
def ic:gO0 (gFD 3 "_law_is_lowest" 4 1):=⟨_,λ T=>oD ["_law_text","_law_parts","_law_one","_law_other"] T.nL λ hr nd=>
 (ae (au (aT (aH (aq (eZ T) hr (aU (aa 0))))) (ag (aj bG)) ak) (ae (bK 1 nd (aP (ay (bh (aa 0) af)) (ay (a9 (aU af))))) (ae (bK 2 nd (bB yf T.zx (aU (bg 1)))) (ae (bK 3 nd (bB yf T.zx (aU (bg 1)))) (ae (pV (bS (aa 3) ai) (ag (Cn (i:=2) (j:=3) nd (by decide) rfl rfl (ha:=bT (aa 3) (bD (aa 2) (aa 3)))))) (ag (aj (F3 (aa 2) ai))))))))⟩
def ig:=cD 4 1 (ic).1
def nF:U4 3 "_law_is_lowest" ig:=ic.2
def fi:gO0 (gFD 3 "_law_is_value" 2 1):=⟨_,λ T=>oD ["_law_text","_law_words"] T.pL λ hr nd=>
 (ae (bK 1 nd (ay (bh (aa 0) af))) (ae (au (aZ (aB b9 T.b8 (aU (aa 1))) ai) (ag (aj (pZ (aq (dR T) hr (aU (aa 0))) (cw (aq (eZ T) hr (aU (aa 0))))))) ak) (ae (au (aT (aH (aq (eZ T) hr (aU (bg 1))))) (ag (aj bG)) ak) (ae (au (aZ (aB b9 T.b8 (aU (aa 1))) ai) (ag (aj (CL (bg 1) (aA (bT af af))))) ak) (ag (aj (dj (F3 (aB b9 T.b8 (aU (aa 1))) ai) (dj (F3 (bg 1) af) (cw (CL (bg 1) (ay (fX (gu (d9 T) hr) (ax ai) (ax ai)))))))))))))⟩
def dw:=cD 2 1 (fi).1
def iE:U4 3 "_law_is_value" dw:=fi.2
def dJ:gO0 (gFD 3 "_law_is_pattern" 3 1):=⟨_,λ T=>oD ["_law_text","_law_early","_law_word"] T.lS λ hr nd=>
 (ae (bK 1 nd af) (ae (bJ (cf (ay (bh (aa 0) af))) (aW 2 nd) (ae (au (fA (aa 2) (aA (ik af af af))) (ag (au (fA (aa 1) (aA (ik af af af))) (ag (aj bG)) ak)) (ag (au (aT (aH (aq (qz T) hr (aU (aa 2))))) (ag (aj bG)) ak))) (ag (bK 1 nd (aa 2))))) (ag (aj (Cq (aa 1) (aA (ik af af af)))))))⟩
def dO:=cD 3 1 (dJ).1
def gk:U4 3 "_law_is_pattern" dO:=dJ.2
def iY:gO0 (gFD 4 "read_ratio" 2 1):=⟨_,λ T=>oD ["text","found"] T.mJ λ hr nd=>
 (ae (bK 1 nd (aq (jZ T) hr (bT (aa 0) ai))) (ae (au (aX (bM (aZ (bg 1) ai) (bQ (aH (cK (aa 0) af))))) (ag ba) ak) (ag (aj (aa 1)))))⟩
def jd:=cD 2 1 (iY).1
def fE:U4 4 "read_ratio" jd:=iY.2
def ja:gO0 (gFD 4 "read_count" 1 1):=⟨_,λ T=>oD ["text"] T.mK λ hr nd=>
 (ae (au (aH (cK (aa 0) af)) (ag ba) ak) (ag (aj (aq (jZ T) hr (bT (aa 0) ai)))))⟩
def je:=cD 1 1 (ja).1
def ud:U4 4 "read_count" je:=ja.2
def gL:gO0 (gFD 4 "show_rows" 1 1):=⟨_,λ T=>oD ["rows"] T.wB λ hr nd=>
 (ae (au (aZ (aB b9 T.b8 (aU (aa 0))) ai) (ag (aj af)) ak) (ag (aj (aP (aP af (iL af (ay (di ck0 (iJ (aa 0)) (λ _ _ _ _=>(aq (qR T) hr (aU (aa 0)))))))) af))))⟩
def gR:=cD 1 1 (gL).1
def vV:U4 4 "show_rows" gR:=gL.2
def eM:gO0 (gFD 4 "_law_rule_text" 5 1):=⟨_,λ T=>oD ["_law_rule","_law_text","_law_k","_law_pattern","_law_row"] T.nK λ hr nd=>
 (ae (bK 1 nd (aP (lW (eL (bg 0))) af)) (ae (bJ (kh T.dB (aU (bg 0))) (gr (n:=2) (bO (aW 2 nd) (bO (aW 3 nd) eU))) (ae (au (pT (aa 2) ai) (ag (bK 1 nd (aP (aa 1) af))) ak) (ag (bK 1 nd (aP (aa 1) (aq (eX T) hr (aU (aa 3)))))))) (ae (bK 1 nd (aP (aa 1) af)) (ae (bJ (kh T.dB (aU (bg 0))) (gr (n:=2) (bO (aW 2 nd) (bO (aW 4 nd) eU))) (ae (au (pT (aa 2) ai) (ag (bK 1 nd (aP (aa 1) af))) ak) (ag (bK 1 nd (aP (aa 1) (aq (iD T) hr (aU (aa 4)))))))) (ae (au (pT (aB b9 T.b8 (aU (bg 0))) ai) (ag (bK 1 nd (aP (aa 1) af))) ak) (ag (aj (aP (aa 1) af))))))))⟩
def ie:=cD 5 1 (eM).1
def nE:U4 4 "_law_rule_text" ie:=eM.2
def gP (t:Adr):gOD (gFD 4 "_law_is_row" 3 1) t:=⟨_,λ T=>oD ["_law_text","_law_words","_law_good"] T.sM λ hr nd=>
 (ae (cc 1 nd (he:=bh (aa 0) af)) (ae (au (fg 1 (aZ (bA (aa 1) (fH ai)) af)) (ag (ze 1)) ak) (ae (au (fg 1 (aX (bM (Cj (aB b9 T.b8 (aU (aa 1))) ai) (bM (yg (bg 1) (gu (d9 T) hr)) (bQ (aT (aH (aq (iE T) hr (aU (iL af (ay (fX (aa 1) (ax ai) aE)))))))))))) (ag (aj bG)) ak) (ae (au (fg 1 (aX (bM (aZ (ay (fX (aa 1) (ax ai) aE)) (ay (a9 (aU af)))) (bQ (aZ (ay (fX (aa 1) (ax ai) aE)) (ay (a9 (aU af)))))))) (ag (aj bG)) ak) (ae (au (fg 1 (aH (aq (dR T) hr (aU (bg 1))))) (ae (cc 2 nd (he:=pX (cX af (ay (a9 (aU af))) (cX af (ay (a9 (aU af))) (cX af (ay (a9 (aJ af (ik af af af)))) pW))))) (ae (jx 2 hr.units (hval:=ay (a9 (aJ af (ik af af af)))) (hi:=af)) (ae (jx 2 hr.units (hval:=ay (a9 (aJ af (ik af af af)))) (hi:=af)) (ag (cI 2 (cI 1 (aj (pZ (F3 (bg 1) af) (cw (CL (bg 1) (Co hr.units (aa 2) (bg 1) (ay (a9 eD))))))))))))) ak) (ae (au (fg 1 (aZ (bA (aa 1) (fH ai)) af)) (ag (cI 1 (aj (CL (bg 1) (aA (ik af af af)))))) ak) (ag (cI 1 (aj (CL (bg 1) (ay (fX (gu (d9 T) hr) (ax ai) (ax ai)))))))))))))⟩
def eS (t:Adr):=cD 3 1 (gP t).1
def kT:U5 4 "_law_is_row" eS:=(gP _).2
def iZ:gO0 (gFD 5 "read_fraction" 2 1):=⟨_,λ T=>oD ["text","found"] T.iI λ hr nd=>
 (ae (bK 1 nd (aq (fE T) hr (aU (aa 0)))) (ae (au (bS (aa 1) (aq (qT T) hr (bT (bg 1) (bg 1)))) (ag ba) ak) (ag (aj (aa 1)))))⟩
def fm:=cD 2 1 (iZ).1
def oU:U4 5 "read_fraction" fm:=iZ.2
def iW:gO0 (gFD 5 "read_value" 3 1):=⟨_,λ T=>oD ["text","words","ratio"] T.mH λ hr nd=>
 (ae (au (fA (aa 0) (aA (bT af af))) (ag (aj (aA (aU (aa 0))))) ak) (ae (au (aH (aq (iC T) hr (aU (aa 0)))) (ag (aj (aA (bT af (aa 0))))) ak) (ae (bK 1 nd (ay (bh (aa 0) af))) (ae (bK 2 nd (aq (fE T) hr (aU (bg 1)))) (ae (au (aZ (aB b9 T.b8 (aU (aa 1))) ai) (ag (aj (aA (ik af (bg 2) (bg 2))))) ak) (ae (au (aX (b6 (aZ (aB b9 T.b8 (aU (aa 1))) ai) (bZ (fA (bg 1) (aA (bT af af)))))) (ag (aj (aA (ik (bg 1) (bg 2) (bg 2))))) ak) (ae (au (aX (b6 (aZ (aB b9 T.b8 (aU (aa 1))) ai) (b6 (aZ (bg 1) af) (bZ (fA (bg 1) (yh T.cG)))))) (ag (aj (aA (aJ af (ik (bg 1) (bg 2) (bg 2)))))) ak) (ag ba))))))))⟩
def fN:=cD 3 1 (iW).1
def iB:U4 5 "read_value" fN:=iW.2
def iX:gO0 (gFD 5 "read_trait" 3 2):=⟨_,λ T=>oD ["sign","text","count"] T.mI λ hr nd=>
 (ae (au (aZ (aa 0) af) (ag (aj (aA (bT af (aq (cH T) hr (aU (aa 1))))))) ak) (ae (au (aZ (aa 0) af) (ag (aj (aA (bT af (aA (bT af (aq (cH T) hr (aU (aa 1))))))))) ak) (ae (bK 2 nd (aq (ud T) hr (aU (aa 1)))) (ag (aj (aA (ik (gH (aZ (aa 0) af) af af) (bg 2) (bg 2))))))))⟩
def fO:=cD 3 2 (iX).1
def my:U4 5 "read_trait" fO:=iX.2
def ku:gO0 (gFD 5 "show_rule" 2 1):=⟨_,λ T=>oD ["rule","patterns"] T.wA λ hr nd=>
 (ae (bK 1 nd (iL af (ay (di ck0 (iJ (bg 0)) (λ _ _ _ _=>(aq (jJ T) hr (aU (aa 0)))))))) (ag (aj (aP (aP (aP (aP (bB Mf T.Ji (aU (bg 0))) af) (aa 1)) af) (aq (vV T) hr (aU (bg 0)))))))⟩
def gQ:=cD 2 1 (ku).1
def vU:U4 5 "show_rule" gQ:=ku.2
def gb (t:Adr):gOD (gFD 5 "_law_is_rule" 5 1) t:=⟨_,λ T=>oD ["_law_text","_law_at","_law_part","_law_rest","_law_row"] T.qH λ hr nd=>
 (ae (bK 1 nd (Cp (aa 0) af)) (ae (au (aX (bM (Cj (aa 1) ai) (bM (cm DC (bg 0) af) (bM (bS (bg 0) af) (bQ (bS (bA (aa 0) (Er (aa 1) ai)) af)))))) (ag (aj bG)) ak) (ae (bJ (cf (ay (bh (aL (aa 0) (ax ai) (ax (Er (aa 1) ai))) af))) (aW 2 nd) (ag (au (aT (aH (aq (gk T) hr (aU (aa 2))))) (ag (aj bG)) ak))) (ae (bK 3 nd (aL (aa 0) (ax (aa 1)) aE)) (ae (au (aZ (aa 3) af) (ag (aj bG)) ak) (ae (au (aX (bM (bS (aL (aa 3) aE (ax ai)) af) (bQ (bS (aL (aa 3) (ax (fH ai)) aE) af)))) (ag (aj bG)) ak) (ae (bJ (cf (ay (bh (aL (aa 3) (ax ai) (ax (fH ai))) af))) (aW 4 nd) (ag (au (aT (aH (aq (kT T) hr (aU (aa 4))))) (ag (aj bG)) ak))) (ag (aj bG)))))))))⟩
def gh (t:Adr):=cD 5 1 (gb t).1
def qA:U5 5 "_law_is_rule" gh:=(gb _).2
def mZ:gO0 (gFD 5 "_law_right" 8 4):=⟨_,λ T=>oD ["_law_kind","_law_cell_here","_law_other","_law_pool_here","_law_draw","_law_props_here","_law_rows","_law_patterns"] T.uP λ hr nd=>
 (ae (bK 4 nd (aq (bU T) hr (bT (aa 1) ai))) (ae (kg 5 nd (ckN [("_law_draw",4)]) (hi:=cY T.lC (aU ai)) (he:=(λ _ _ _ _=>(bA (gu (d9 T) hr) (bD (bc (aa 1) (aP ai (lu ai (aa 0)))) ai))))) (ae (kg 6 nd (ckN [("_law_cell_here",1),("_law_other",2),("_law_draw",4)]) (hi:=cf (aa 5)) (he:=(λ _ _ _ _=>(aA (ik (aa 0) (aq (ug T) hr (aJ (aa 0) (ik (aa 1) (aa 2) (aP ai (bD (aa 3) ai))))) (F3 (bD (bc (aa 3) ai) ai) ai)))))) (ae (au (aZ (aa 0) ai) (ag (aj (aq (dG T) hr (bT (bD (aa 4) ai) (aP ai (bD (bc (aa 4) ai) ai)))))) ak) (ae (au (aZ (aa 0) ai) (ag (aj (aq (gj T) hr (aU (bA (bg 6) ai))))) ak) (ae (au (aZ (aa 0) ai) (ag (aj (aq (iD T) hr (aU (bg 6))))) ak) (ae (au (aZ (aa 0) ai) (ag (aj (aq (eX T) hr (aU (aq (mB T) hr (aJ (aa 1) (aJ ai (ik (aa 3) (aP ai (bD (aa 4) ai)) ai)))))))) ak) (ae (kg 7 nd (ckN [("_law_cell_here",1),("_law_pool_here",3),("_law_draw",4)]) (hi:=cY T.lC (aU (aP ai (bD (bc (aa 4) ai) ai)))) (he:=(λ _ _ _ _=>(aq (mB T) hr (aJ (aa 1) (aJ (aP ai (aa 0)) (ik (aa 2) (aP ai (bD (bc (aa 3) ai) ai)) ai))))))) (ag (aj (aq (nE T) hr (aU (aA (ik (bD (aa 4) ai) (bB fc T.eV (aU (aa 7))) (bB fc T.eV (aU (ay (fX (aa 6) aE (ax (bD (bc (aa 4) ai) ai))))))))))))))))))))⟩
def jk:=cD 8 4 (mZ).1
def uf:U4 5 "_law_right" jk:=mZ.2
def lX (t:Adr):gOD (gFD 6 "read_row" 4 1) t:=⟨_,λ T=>oD ["text","parts","first","value"] T.rf λ hr nd=>
 (ae (bK 1 nd (k9 (aa 0) af)) (ae (bK 2 nd (cK (bg 1) af)) (ae (bK 3 nd (aq (iB T) hr (aU (gH (aH (aa 2)) (aL (bg 1) aE (ax (fH ai))) (bg 1))))) (ae (au (aT (aH (aq (qS T) hr (bT (bg 1) (aa 3))))) (ag ba) ak) (ag (aj (aA (ik (bg 1) (aa 3) (aa 2)))))))))⟩
def gx (t:Adr):=cD 4 1 (lX t).1
def lI:U5 6 "read_row" gx:=(lX _).2
def ky:gO0 (gFD 6 "read_step" 6 1):=⟨_,λ T=>oD ["text","starts","ends","traits","start","end"] T.pE λ hr nd=>
 (ae (k8 1 nd (ck2 ck0) (hi:=pY T.dB (aU (aa 0))) (hcd:=(λ _ _ _ _=>(fA (aa 1) (yh T.Ab)))) (he:=(λ _ _ _ _=>(aa 0)))) (ae (bK 2 nd (aP (aa 1) (ay (a9 (aU (aB b9 T.b8 (aU (aa 0)))))))) (ae (cc 3 nd (he:=a9 (aU (aq (oS T) hr (aU (aL (aa 0) aE (ax (bg 2)))))))) (ae (bJ (u9 T.Jh (bT (aa 1) (ay (fX (aa 2) (ax ai) aE)))) (gr (n:=2) (bO (aW 4 nd) (bO (aW 5 nd) eU))) (ag (cJ 3 (he:=aq (my T) hr (bT (bA (aa 0) (aa 4)) (aL (aa 0) (ax (aP (aa 4) ai)) (ax (aa 5)))))))) (ag (cI 3 (aj (bB fc T.eV (aU (aa 3))))))))))⟩
def gS:=cD 6 1 (ky).1
def jY:U4 6 "read_step" gS:=ky.2
def vi (t:Adr):gOD (gFD 6 "_law_is" 2 2) t:=⟨_,λ T=>oD ["_law_kind","_law_text"] T.BF λ hr nd=>
 (ae (au (aZ (aa 0) ai) (ag (aj (aq (nF T) hr (aU (aa 1))))) ak) (ae (au (aZ (aa 0) ai) (ag (aj (aq (iE T) hr (aU (aa 1))))) ak) (ae (au (aZ (aa 0) ai) (ag (aj (aq (kT T) hr (aU (aa 1))))) ak) (ae (au (aZ (aa 0) ai) (ag (aj (aq (gk T) hr (aU (aa 1))))) ak) (ag (aj (aq (qA T) hr (aU (aa 1)))))))))⟩
def vj (t:Adr):=cD 2 2 (vi t).1
def AK:U5 6 "_law_is" vj:=(vi _).2
def f6:gO0 (gFD 7 "read_pattern" 4 1):=⟨_,λ T=>oD ["text","steps","join","word"] T.jM λ hr nd=>
 (ae (cc 1 nd (he:=a9 eD)) (ae (bK 2 nd af) (ae (bJ (cf (ay (bh (aa 0) af))) (aW 3 nd) (ag (au (fA (aa 3) (yh T.oB)) (ae (au (bS (aa 2) af) (ag ba) ak) (ag (bK 2 nd (aa 3)))) (ae (cJ 1 (he:=aA (bT (aa 2) (aq (jY T) hr (aU (aa 3)))))) (ag (bK 2 nd af)))))) (ae (au (bS (aa 2) af) (ag ba) ak) (ag (cI 1 (aj (bB fc T.eV (aU (aa 1))))))))))⟩
def cn:=cD 4 1 (f6).1
def dQ:U4 7 "read_pattern" cn:=f6.2
def gM (t:Adr):gOD (gFD 7 "read_rows" 1 1) t:=⟨_,λ T=>oD ["text"] T.pG λ hr nd=>
 (ae (au (aZ (aa 0) af) (ag (aj (aA eD))) ak) (ae (au (aX (bM (aT (aH (ki (aa 0) af))) (bQ (aT (aH (cK (aa 0) af)))))) (ag ba) ak) (ag (aj (bB fc T.eV (aU (ay (di ck0 (cf (ay (bh (aL (aa 0) (ax ai) (ax (fH ai))) af))) (λ _ _ _ _=>(aq (lI T) hr (aU (aa 0))))))))))))⟩
def gV (t:Adr):=cD 1 1 (gM t).1
def vX:U5 7 "read_rows" gV:=(gM _).2
def kA (t:Adr):gOD (gFD 8 "read_rule" 4 1) t:=⟨_,λ T=>oD ["text","head","layer","patterns"] T.pF λ hr nd=>
 (ae (bK 1 nd (bA (k9 (aa 0) af) ai)) (ae (bK 2 nd (aq (cA T) hr (aU (aL (aa 1) aE (ax ai))))) (ae (au (bS (aL (aa 1) (ax ai) (ax ai)) af) (ag ba) ak) (ae (bK 3 nd (bB fc T.eV (aU (ay (di ck0 (cf (ay (bh (aL (aa 1) (ax ai) aE) af))) (λ _ _ _ _=>(aq (dQ T) hr (aU (aa 0))))))))) (ag (aj (aA (ik (aa 2) (aa 3) (aq (vX T) hr (aU (aL (aa 0) (ax (aP (aB b9 T.b8 (aU (aa 1))) ai)) aE)))))))))))⟩
def gU (t:Adr):=cD 4 1 (kA t).1
def vW:U5 8 "read_rule" gU:=(kA _).2
end
end N50
end
section
namespace N50
open PySem L2
section
variable {P:Program} {w:World} {K:W.Frag} {mg:Str->Option Value} {base:Heap} {t:Adr}
set_option maxHeartbeats 0
abbrev U6 (t:Adr) (k:Nat) (x:Str) (n m:Nat):Type:={r:DX//∀ {P w K mg base},Txt w K mg t->Gx P w K mg base k x (spR (kR n m r) t.aN K)}
abbrev U7 (k:Nat) (x:Str) (X:Adr->List D->Prop):Prop:=∀ {P w K mg base t},Txt w K mg t->Gx P w K mg base k x (spR (X t) t.aN K)
def mS (t:Adr):U6 t 2 "read_whole" 1 1:=⟨_,λ T=>oX ["text"] T.mG λ hr nd xp=>
 (bw (vB (aT (aH (aq (mz T) hr (bT (aa 0) (Ri T.jK))))) (bw (x_raise xp T.cO T.cv)) wV))⟩
def mQ (t:Adr):=kR 1 1 (mS t).1
def fB:U7 2 "read_whole" mQ:=(mS _).2
def jQ (t:Adr):U6 t 2 "checked_name" 1 1:=⟨_,λ T=>oX ["text"] T.jN λ hr nd xp=>
 (bw (vB (aT (aH (aq (iC T) hr (aU (aa 0))))) (bw (x_raise xp T.cO T.cv)) wV))⟩
def jO (t:Adr):=kR 1 1 (jQ t).1
def fS:U7 2 "checked_name" jO:=(jQ _).2
def ko (t:Adr):U6 t 3 "read_pair" 3 2:=⟨_,λ T=>oX ["text","other","parts"] T.pH λ hr nd xp=>
 (cy (bK 2 nd (ay (bh (aa 0) af)))
 (cP (au (pT (aB b9 T.b8 (aU (aa 2))) ai) (ag ba) ak) (vB (pT (aB b9 T.b8 (aU (aa 2))) ai) (bw (x_raise xp T.cO T.cv)) wV)
 (cP (au (aZ (aB b9 T.b8 (aU (aa 2))) ai) (ag (aj (aA (bT (aq (cA T) hr (aU (aa 0))) (aa 1))))) ak) (vB (aZ (aB b9 T.b8 (aU (aa 2))) ai) (bw (sZ (sX (eJ (x_call (fB T) hr xp.pa (aU (aa 0))))))) wV)
 (bw (sZ (sX (N3 (eJ (x_call (fB T) hr xp.pa (aU (bg 2)))) (iq (aq (cA T) hr (aU (bg 2))) (eJ (x_call (fB T) hr xp.pa (aU (bg 2))))))))))))⟩
def qb (t:Adr):=kR 3 2 (ko t).1
def nY:U7 3 "read_pair" qb:=(ko _).2
def qg (t:Adr):U6 t 3 "read_head" 1 1:=⟨_,λ T=>oX ["text"] T.pI λ hr nd xp=>
 (cy (au (aZ (aa 0) af) (ag (aj (aA (aU af)))) ak)
 (bw (sZ (sX (iq af (eJ (x_call (fS T) hr xp.pa (aU (aa 0)))))))))⟩
def qc (t:Adr):=kR 1 1 (qg t).1
def vA:U7 3 "read_head" qc:=(qg _).2
def mT (t:Adr):U6 t 4 "read_ratio" 2 1:=⟨_,λ T=>oX ["text","found"] T.mJ λ hr nd xp=>
 (cP (bK 1 nd (aq (jZ T) hr (bT (aa 0) ai))) (sY 1 nd (x_call (nY T) hr xp.pa (bT (aa 0) ai)))
 (bw (vB (aX (bM (aZ (bg 1) ai) (bQ (aH (cK (aa 0) af))))) (bw (x_raise xp T.cO T.cv)) wV)))⟩
def iO (t:Adr):=kR 2 1 (mT t).1
def mh:U7 4 "read_ratio" iO:=(mT _).2
def mU (t:Adr):U6 t 4 "read_count" 1 1:=⟨_,λ T=>oX ["text"] T.mK λ hr nd xp=>
 (cP (au (aH (cK (aa 0) af)) (ag ba) ak) (vB (aH (cK (aa 0) af)) (bw (x_raise xp T.cO T.cv)) wV)
 (bw (sZ (x_call (nY T) hr xp.pa (bT (aa 0) ai)))))⟩
def mR (t:Adr):=kR 1 1 (mU t).1
def tf:U7 4 "read_count" mR:=(mU _).2
def iS (t:Adr):U6 t 5 "read_fraction" 2 1:=⟨_,λ T=>oX ["text","found"] T.iI λ hr nd xp=>
 (cP (bK 1 nd (aq (fE T) hr (aU (aa 0)))) (sY 1 nd (x_call (mh T) hr xp.pa (aU (aa 0))))
 (bw (vB (bS (aa 1) (aq (qT T) hr (bT (bg 1) (bg 1)))) (bw (x_raise xp T.cO T.cv)) wV)))⟩
def iP (t:Adr):=kR 2 1 (iS t).1
def nZ:U7 5 "read_fraction" iP:=(iS _).2
def iQ (t:Adr):U6 t 5 "read_value" 3 1:=⟨_,λ T=>oX ["text","words","ratio"] T.mH λ hr nd xp=>
 (cy (au (fA (aa 0) (aA (bT af af))) (ag (aj (aA (aU (aa 0))))) ak)
 (cy (au (aH (aq (iC T) hr (aU (aa 0)))) (ag (aj (aA (bT af (aa 0))))) ak)
 (cy (bK 1 nd (ay (bh (aa 0) af)))
 (cP (bK 2 nd (aq (fE T) hr (aU (bg 1)))) (sY 2 nd (x_call (mh T) hr xp.pa (aU (bg 1))))
 (cy (au (aZ (aB b9 T.b8 (aU (aa 1))) ai) (ag (aj (aA (ik af (bg 2) (bg 2))))) ak)
 (cy (au (aX (b6 (aZ (aB b9 T.b8 (aU (aa 1))) ai) (bZ (fA (bg 1) (aA (bT af af)))))) (ag (aj (aA (ik (bg 1) (bg 2) (bg 2))))) ak)
 (cy (au (aX (b6 (aZ (aB b9 T.b8 (aU (aa 1))) ai) (b6 (aZ (bg 1) af) (bZ (fA (bg 1) (yh T.cG)))))) (ag (aj (aA (aJ af (ik (bg 1) (bg 2) (bg 2)))))) ak)
 (bw (x_raise xp T.cO T.cv)))))))))⟩
def iM (t:Adr):=kR 3 1 (iQ t).1
def mf:U7 5 "read_value" iM:=(iQ _).2
def iR (t:Adr):U6 t 5 "read_trait" 3 2:=⟨_,λ T=>oX ["sign","text","count"] T.mI λ hr nd xp=>
 (cP (au (aZ (aa 0) af) (ag (aj (aA (bT af (aq (cH T) hr (aU (aa 1))))))) ak) (vB (aZ (aa 0) af) (bw (sZ (sX (iq af (eJ (x_call (fS T) hr xp.pa (aU (aa 1)))))))) wV)
 (cP (au (aZ (aa 0) af) (ag (aj (aA (bT af (aA (bT af (aq (cH T) hr (aU (aa 1))))))))) ak) (vB (aZ (aa 0) af) (bw (sZ (sX (iq af (eJ (sX (iq af (eJ (x_call (fS T) hr xp.pa (aU (aa 1))))))))))) wV)
 (bw (sY 2 nd (x_call (tf T) hr xp.pa (aU (aa 1)))))))⟩
def iN (t:Adr):=kR 3 2 (iR t).1
def s9:U7 5 "read_trait" iN:=(iR _).2
def rA (t:Adr):U6 t 6 "read_row" 4 1:=⟨_,λ T=>oX ["text","parts","first","value"] T.rf λ hr nd xp=>
 (cy (bK 1 nd (k9 (aa 0) af))
 (cy (bK 2 nd (cK (bg 1) af))
 (cP (bK 3 nd (aq (iB T) hr (aU (gH (aH (aa 2)) (aL (bg 1) aE (ax (fH ai))) (bg 1))))) (sY 3 nd (x_call (mf T) hr xp.pa (aU (gH (aH (aa 2)) (aL (bg 1) aE (ax (fH ai))) (bg 1)))))
 (bw (vB (aT (aH (aq (qS T) hr (bT (bg 1) (aa 3))))) (bw (x_raise xp T.cO T.cv)) wV)))))⟩
def jA (t:Adr):=kR 4 1 (rA t).1
def qK:U7 6 "read_row" jA:=(rA _).2
def qd (t:Adr):U6 t 6 "read_step" 6 1:=⟨_,λ T=>oX ["text","starts","ends","traits","start","end"] T.pE λ hr nd xp=>
 (cy (k8 1 nd (ck2 ck0) (hi:=pY T.dB (aU (aa 0))) (hcd:=(λ _ _ _ _=>(fA (aa 1) (yh T.Ab)))) (he:=(λ _ _ _ _=>(aa 0))))
 (cy (bK 2 nd (aP (aa 1) (ay (a9 (aU (aB b9 T.b8 (aU (aa 0))))))))
 (cP (cc 3 nd (he:=a9 (aU (aq (oS T) hr (aU (aL (aa 0) aE (ax (bg 2)))))))) (sY 3 nd (N4 (eJ (x_call (vA T) hr xp.pa (aU (aL (aa 0) aE (ax (bg 2))))))))
 (bw (Jm xp (u9 T.Jh (bT (aa 1) (ay (fX (aa 2) (ax ai) aE)))) (gr (n:=2) (bO (aW 4 nd) (bO (aW 5 nd) eU))) (ag (cJ 3 (he:=aq (my T) hr (bT (bA (aa 0) (aa 4)) (aL (aa 0) (ax (aP (aa 4) ai)) (ax (aa 5))))))) (bw (Jn 3 (x_call (s9 T) hr xp.pa (bT (bA (aa 0) (aa 4)) (aL (aa 0) (ax (aP (aa 4) ai)) (ax (aa 5))))))))))))⟩
def km (t:Adr):=kR 6 1 (qd t).1
def vt:U7 6 "read_step" km:=(qd _).2
def jP (t:Adr):U6 t 7 "read_pattern" 4 1:=⟨_,λ T=>oX ["text","steps","join","word"] T.jM λ hr nd xp=>
 (cy (cc 1 nd (he:=a9 eD))
 (cy (bK 2 nd af)
 (cP (bJ (hp:=xp.po) (cf (ay (bh (aa 0) af))) (aW 3 nd) (ag (au (fA (aa 3) (yh T.oB)) (ae (au (bS (aa 2) af) (ag ba) ak) (ag (bK 2 nd (aa 3)))) (ae (cJ 1 (he:=aA (bT (aa 2) (aq (jY T) hr (aU (aa 3)))))) (ag (bK 2 nd af)))))) (Jm xp (cf (ay (bh (aa 0) af))) (aW 3 nd) (ag (au (fA (aa 3) (yh T.oB)) (ae (au (bS (aa 2) af) (ag ba) ak) (ag (bK 2 nd (aa 3)))) (ae (cJ 1 (he:=aA (bT (aa 2) (aq (jY T) hr (aU (aa 3)))))) (ag (bK 2 nd af))))) (bw (vB (fA (aa 3) (yh T.oB)) (bw (vB (bS (aa 2) af) (bw (x_raise xp T.cO T.cv)) wV)) (bw (Jn 1 (sX (iq (aa 2) (eJ (x_call (vt T) hr xp.pa (aU (aa 3)))))))))))
 (bw (vB (bS (aa 2) af) (bw (x_raise xp T.cO T.cv)) wV)))))⟩
def fZ (t:Adr):=kR 4 1 (jP t).1
def jG:U7 7 "read_pattern" fZ:=(jP _).2
def qf (t:Adr):U6 t 7 "read_rows" 1 1:=⟨_,λ T=>oX ["text"] T.pG λ hr nd xp=>
 (cy (au (aZ (aa 0) af) (ag (aj (aA eD))) ak)
 (cP (au (aX (bM (aT (aH (ki (aa 0) af))) (bQ (aT (aH (cK (aa 0) af)))))) (ag ba) ak) (vB (aX (bM (aT (aH (ki (aa 0) af))) (bQ (aT (aH (cK (aa 0) af)))))) (bw (x_raise xp T.cO T.cv)) wV)
 (bw (sZ (wW fc T.eV (eJ (Et ck0 xp (cf (ay (bh (aL (aa 0) (ax ai) (ax (fH ai))) af))) (λ _ _ _ _ _=>(aq (lI T) hr (aU (aa 0)))) (λ _ _ _ _ _ pa=>(x_call (qK T) hr pa (aU (aa 0)))))))))))⟩
def p8 (t:Adr):=kR 1 1 (qf t).1
def vz:U7 7 "read_rows" p8:=(qf _).2
def qe (t:Adr):U6 t 8 "read_rule" 4 1:=⟨_,λ T=>oX ["text","head","layer","patterns"] T.pF λ hr nd xp=>
 (cy (bK 1 nd (bA (k9 (aa 0) af) ai))
 (cP (bK 2 nd (aq (cA T) hr (aU (aL (aa 1) aE (ax ai))))) (sY 2 nd (x_call (fB T) hr xp.pa (aU (aL (aa 1) aE (ax ai)))))
 (cP (au (bS (aL (aa 1) (ax ai) (ax ai)) af) (ag ba) ak) (vB (bS (aL (aa 1) (ax ai) (ax ai)) af) (bw (x_raise xp T.cO T.cv)) wV)
 (cP (bK 3 nd (bB fc T.eV (aU (ay (di ck0 (cf (ay (bh (aL (aa 1) (ax ai) aE) af))) (λ _ _ _ _=>(aq (dQ T) hr (aU (aa 0))))))))) (sY 3 nd (wW fc T.eV (eJ (Et ck0 xp (cf (ay (bh (aL (aa 1) (ax ai) aE) af))) (λ _ _ _ _ _=>(aq (dQ T) hr (aU (aa 0)))) (λ _ _ _ _ _ pa=>(x_call (jG T) hr pa (aU (aa 0))))))))
 (bw (sZ (sX (iq (aa 2) (iq (aa 3) (eJ (x_call (vz T) hr xp.pa (aU (aL (aa 0) (ax (aP (aB b9 T.b8 (aU (aa 1))) ai)) aE)))))))))))))⟩
def gK (t:Adr):=kR 4 1 (qe t).1
def vv:U7 8 "read_rule" gK:=(qe _).2
end
end N50
end
section
namespace L2
open PySem
section
variable {τ τ':List Sl} {f g h:DE} {x y z d:D}
def ao {i:Nat} (q:τ[i]?=some (.shr d)):aM i τ=some d:=by unfold aM; rw [q]
def e_v {i:Nat} (q:τ[i]?=some (.shr d):=by rfl):aM i τ=some d:=ao q
def Uf:dC d τ=some d:=rfl
def ar {o:D->D->Option D} (h1:f τ=some x) (h2:g τ=some y) (h3:o x y=some z):dOp o f g τ=some z:=by unfold dOp; rw [h1,h2]; exact h3
def U3 {i:Nat} {d y z:D} {o:D->D->Option D} {τ:List Sl} (q:τ[i]?=some (.shr d)):o d y=some z->dOp o (aM i) (dC y) τ=some z:=ar (ao q) Uf
def sO {o:D->Option D} (h1:f τ=some x) (h3:o x=some z):dUn o f τ=some z:=by unfold dUn; rw [h1]; exact h3
def av:bR τ=some []:=rfl
def ah {ga:DA} {xs:List D} (h1:f τ=some x) (h2:ga τ=some xs):aG f ga τ=some (x::xs):=by unfold aG; rw [h1,h2]; rfl
def aS {o:List D->Option D} {ga:DA} {xs:List D} (h1:ga τ=some xs) (h2:o xs=some z):ej o ga τ=some z:=by unfold ej; rw [h1]; exact h2
def bf {ga:DA} {xs:List D} (h1:ga τ=some xs) (h2:xs.length<=100000):mM ga τ=some (.tup xs):=by unfold mM; rw [h1]; exact if_pos h2
def fb {ga:DA} {xs:List D} (h1:ga τ=some xs) (h2:xs.length<=100000):Md ga τ=some (.lst xs):=by unfold Md; rw [h1]; exact if_pos h2
def br {F:List D->Option Sl} {ga:DA} {xs:List D} {s:Sl} (h1:ga τ=some xs) (h2:F xs=some s) (h3:slD s=some z):dFn F ga τ=some z:=by unfold dFn; rw [h1]; show (F xs).bind slD=_; rw [h2]; exact h3
def CK {c:DT} {b:Bool} (h1:c τ=some b) (h2:b=true->f τ=some z) (h3:b=false->g τ=some z):dIf c f g τ=some z:=by
 unfold dIf; rw [h1]
 cases b with
 | true=>exact h2 rfl
 | false=>exact h3 rfl
def jF {b:Bool} (h1:f τ=some (.bl b)) (h2:b=true->g τ=some z) (h3:b=false->z=.bl false):k6 f g τ=some z:=by
 unfold k6; rw [h1]
 cases b with
 | true=>exact h2 rfl
 | false=>rw [h3 rfl]; rfl
def NQ {b:Bool} (h1:f τ=some (.bl b)) (h2:b=false->g τ=some z) (h3:b=true->z=.bl true):Iy f g τ=some z:=by
 unfold Iy; rw [h1]
 cases b with
 | false=>exact h2 rfl
 | true=>rw [h3 rfl]; rfl
def Q8 {b:Bool} (h1:f τ=some (.bl b)):Eb f τ=some (.bl (!b)):=by unfold Eb; rw [h1]; rfl
def aw {b:Bool} (h1:f τ=some (.bl b)):dT f τ=some b:=by unfold dT; rw [h1]; rfl
def og {f g:DT} {b c:Bool} (h1:f τ=some b) (h2:b=true->g τ=some c) (h3:b=false->c=false):B4 f g τ=some c:=by
 unfold B4; rw [h1]
 cases b with
 | true=>exact h2 rfl
 | false=>rw [h3 rfl]; rfl
def IP {f g:DT} {b c:Bool} (h1:f τ=some b) (h2:b=false->g τ=some c) (h3:b=true->c=true):dOr f g τ=some c:=by
 unfold dOr; rw [h1]
 cases b with
 | false=>exact h2 rfl
 | true=>rw [h3 rfl]; rfl
def cx {f:DT} {b:Bool} (h1:f τ=some b):pQ f τ=some (!b):=by unfold pQ; rw [h1]; rfl
def kI:uX τ=some none:=rfl
def be {i:Int} (h:f τ=some (.int i)):dP f τ=some (some i):=by unfold dP; rw [h]; rfl
def CJ {l u:DO} {lo hi:Option Int} (h1:f τ=some x) (h2:l τ=some lo) (h3:u τ=some hi) (h4:oSl x lo hi=some z):dSl f l u τ=some z:=by unfold dSl; rw [h1]; show (l τ).bind _=_; rw [h2]; show (u τ).bind _=_; rw [h3]; exact h4
def gq {it:DI} {g:DE} {cs:List (Str×Nat)} {ds es:List D} (h1:it τ=some ds) (hl:ds.length<=100000) (h2:vn (λ d=>g (.shr d::fe τ cs)) ds=some es):B3 it g cs τ=some (.lst es):=by
 unfold B3; rw [h1]; show (if ds.length<=100000 then _ else _)=_; rw [if_pos hl,h2]; rfl
def uC {ds:List D} (h:f τ=some (.lst ds)):D2 f τ=some ds:=by unfold D2; rw [h]; rfl
def Br {ds:List D} (h:f τ=some (.tup ds)):HV f τ=some ds:=by unfold HV; rw [h]; rfl
def yN {ga:DA} {j:Int} (h:ga τ=some [.int j]) (h1:-(2 ^ 62)<=j/\j < 2 ^ 62):Bu ga τ=some (yC 0 j.toNat):=by unfold Bu; rw [h]; exact if_pos h1
def Ra {i:Nat} {d0:D} (q:τ[i]?=some (.own d0)) (h:f (τ.set i (.shr d0))=some z) (hf:lO z=true):Ja i f τ=some z:=by unfold Ja; rw [q]; show (f _).bind _=_; rw [h]; exact if_pos hf
def rP {i:Nat} {d0:D} {f:DT} {b:Bool} (q:τ[i]?=some (.own d0)) (h:f (τ.set i (.shr d0))=some b):JG i f τ=some b:=by unfold JG; rw [q]; exact h
end
section
variable {τ τ':List Sl} {f g:DS} {e:DE} {d:D} {o:Out}
def aR (h:f τ=some (.next τ')) (h2:g τ'=some o):fu f g τ=some o:=by simp only [fu,h]; exact h2
def kQ {s:Sl} (h:f τ=some (.ret s)):fu f g τ=some (.ret s):=by simp only [fu,h]
def aI {i:Nat} (h:e τ=some d):mo i e τ=some (.next (τ.set i (.shr d))):=by unfold mo; rw [h]; rfl
def iu {i:Nat} (h:e τ=some d) (hi:i < τ.length):C2 i e τ=some (.next (τ.set i (.own d))):=by unfold C2; rw [if_pos hi,h]; rfl
def aD (h:e τ=some d):nD e τ=some (.ret (.shr d)):=by unfold nD; rw [h]; rfl
def eK {c:DT} {b:Bool} {r:Option Out} (h:c τ=some b) (h1:b=true->f τ=r) (h2:b=false->g τ=r):sIf c f g τ=r:=by
 unfold sIf; rw [h]
 cases b with
 | true=>exact h1 rfl
 | false=>exact h2 rfl
def yB {i:Nat} {ds:List D} (h:e τ=some d) (q:τ[i]?=some (.own (.lst ds))) (hl:ds.length < 100000):GA i e τ=some (.next (τ.set i (.own (.lst (ds++[d]))))):=by unfold GA; rw [h]; show (match τ[i]? with | some (.own (.lst ds))=>_ | _=>_)=_; rw [q]; exact if_pos hl
def oq {i:Nat} (q:τ[i]?=some (.own d)) (h:f (τ.set i (.shr d))=some o):IS i f τ=some o:=by unfold IS; rw [q]; exact h
def Gy {i:Nat} {oo:D->D->Option D} {x z:D} (h1:aM i τ=some x) (h2:e τ=some d) (h3:oo x d=some z):Ov i oo e τ=some (.next (τ.set i (.shr z))):=by unfold Ov; rw [h1]; show (e τ).bind _=_; rw [h2]; show (oo x d).map _=_; rw [h3]; rfl
def nB {it:DI} {gg:DG} {ds:List D} {r:Option Out} (h1:it τ=some ds) (h2:ia (λ d τ=>(gg d τ).bind f) ds τ=r):IT it gg f τ=r:=by unfold IT; rw [h1]; exact h2
def bF {n m:Nat} {b:DS} {ds:List D} {s:Sl} (h:b (cF n ds)=some (.ret s)) (hl:ds.length=m:=by rfl):cD n m b ds=some s:=by
 unfold cD;rw [if_pos hl,h]
def Ij {it:DI} {gg:DG} {ds:List D} (P:Nat->List Sl->Prop) (h1:it τ=some ds) (h0:P 0 τ) (hs:∀ j d τ,ds[j]?=some d->P j τ->∃ τ1 τ2,gg d τ=some τ1/\f τ1=some (.next τ2)/\P (j+1) τ2):∃ τ',IT it gg f τ=some (.next τ')/\P ds.length τ':=by
 obtain ⟨τ',e,p⟩:=xT (o:=.next []) (b:=λ d τ=>(gg d τ).bind f) P 0 h0 (λ j d τ hd p=>by
  rw [Xm] at *;obtain ⟨τ1,τ2,e1,e2,p2⟩:=hs j d τ hd p
  exact ⟨τ2,by rw [e1]; exact e2,p2⟩)
 rw [Xm] at p;exact ⟨τ',nB h1 e,p⟩
def rX {lo:Int} {n j:Nat} {d:D} (h:(yC lo n)[j]?=some d):d=.int (lo+j)/\j < n:=by
 unfold yC at h;rw [List.getElem?_map] at h
 by_cases hj:j < n
 ·rw [List.getElem?_range hj] at h
  exact ⟨by simpa using h.symm,hj⟩
 ·rw [List.getElem?_eq_none (by simpa using hj)] at h
  cases h
def iw {lo:Int} {n:Nat}:(yC lo n).length=n:=by simp [yC]
end
def a8 (i j:Int):jE (.int i) (.int j)=some (.int (i+j)):=rfl
def jv (i j:Int):E4 (.int i) (.int j)=some (.int (i - j)):=rfl
def e9 (i j:Int):oLt (.int i) (.int j)=some (.bl (decide (i < j))):=rfl
def aO {i j:Int} (h:0 < j):oMod (.int i) (.int j)=some (.int (i % j)):=by
 simp only [oMod,Ne.symm (Int.ne_of_lt h),ne_eq,not_false_eq_true,if_true,Int.fmod_eq_emod_of_nonneg _ (Int.le_of_lt h)]
def bL {i j:Int} (h:0 < j) (z:Sz j):oDiv (.int i) (.int j)=some (.int (i / j)):=by
 simp only [oDiv,Ne.symm (Int.ne_of_lt h),ne_eq,not_false_eq_true,z,and_self,if_true,Int.fdiv_eq_ediv_of_nonneg _ (Int.le_of_lt h)]
def AO {i j:Int} (h:-(2 ^ 64) < j) (z:j < 2 ^ 64):DK (.int i) (.int j)=some (.int (i * j)):=by
 have:F8 i j:=.inr ⟨h,z⟩;simp only [DK,this,true_or,if_true]
def qU {i j:Int} (h:-(2 ^ 64) < i) (z:i < 2 ^ 64):DK (.int i) (.int j)=some (.int (i * j)):=by
 have:F8 i j:=.inl ⟨h,z⟩;simp only [DK,this,true_or,if_true]
def bp (i j:Int):oEq (.int i) (.int j)=some (.bl (decide (i=j))):=rfl
def sq (i j:Int):oNe (.int i) (.int j)=some (.bl (!decide (i=j))):=rfl
def cj (i j:Str):oEq (.str i) (.str j)=some (.bl (decide (i=j))):=rfl
def cB (i j:Str):oNe (.str i) (.str j)=some (.bl (!decide (i=j))):=rfl
def cq {α:Type} (x:α) (xs:List α):atI (x::xs) 0=some x:=by simp [atI,ixN]
theorem eQ {α:Type} (x y:α) (xs:List α):atI (x::y::xs) 1=some y:=by
 have:(1:Int) < ((xs.length+1+1:Nat):Int):=by omega
 simp only [atI,ixN,Zi,this,if_true];rfl
theorem vg {α:Type} (x y z:α) (xs:List α):atI (x::y::z::xs) 2=some z:=by
 have:(2:Int) < ((xs.length+1+1+1:Nat):Int):=by omega
 simp only [atI,ixN,Zi,this,if_true];rfl
def zQ (d:D):slD (.shr d)=some d:=rfl
def bx (x:D) (xs:List D):oIx (.tup (x::xs)) (.int 0)=some x:=cq _ _
def b5 (x y:D) (xs:List D):oIx (.tup (x::y::xs)) (.int 1)=some y:=eQ _ _ _
def eh (x y z:D) (xs:List D):oIx (.tup (x::y::z::xs)) (.int 2)=some z:=vg _ _ _ _
def az {τ:List Sl} {c:DT} {f g:DS} {r:Option Out} (h:c τ=some false) (h2:g τ=r):fu (sIf c f d6) g τ=r:=by
 simp only [fu,sIf,h,Xv,Bool.false_eq_true,if_false,d6];exact h2
def aV {τ:List Sl} {c:DT} {f g:DS} {s:Sl} (h:c τ=some true) (h2:f τ=some (.ret s)):fu (sIf c f d6) g τ=some (.ret s):=by
 simp only [fu,sIf,h,Xv,if_true,h2]
def Ret (P:D->Prop) (o:Option Out):Prop:=∃ d,o=some (.ret (.shr d))/\P d
def Nx (P:List Sl->Prop) (o:Option Out):Prop:=∃ τ',o=some (.next τ')/\P τ'
section
variable {τ τ':List Sl} {f g:DS} {e e2 e3:DE} {c:DT} {b:Bool} {d x y z:D} {P:D->Prop} {R:List Sl->Prop}
def dD (h:f τ=some (.next τ')) (h2:Ret P (g τ')):Ret P (fu f g τ):=by
 obtain ⟨d,e,p⟩:=h2;exact ⟨d,aR h e,p⟩
def CG (h:Nx R (f τ)) (h2:∀ τ',R τ'->Ret P (g τ')):Ret P (fu f g τ):=by
 obtain ⟨τ',e,p⟩:=h;exact dD e (h2 _ p)
def rY (h:e τ=some d) (p:P d):Ret P (nD e τ):=⟨d,aD h,p⟩
def mr (h:e τ=some d) (p:P d):Ret P (fu (nD e) g τ):=⟨d,kQ (aD h),p⟩
def vk (h:c τ=some b) (h1:b=true->Ret P (fu f g τ)) (h2:b=false->Ret P (g τ)):Ret P (fu (sIf c f d6) g τ):=by
 cases b with
 | true=>
  obtain ⟨d,e,p⟩:=h1 rfl;refine ⟨d,?_,p⟩;rw [<- e];simp only [fu,sIf,h,Xv,if_true]
 | false=>
  obtain ⟨d,e,p⟩:=h2 rfl;exact ⟨d,az h e,p⟩
def j5 (h:f τ=some (.next τ')) (h2:Nx R (g τ')):Nx R (fu f g τ):=by
 obtain ⟨d,e,p⟩:=h2;exact ⟨d,aR h e,p⟩
def qV (p:R τ):Nx R (d6 τ):=⟨τ,rfl,p⟩
def xF (h:f τ=some (.next τ')) (p:R τ'):Nx R (f τ):=⟨τ',h,p⟩
def E7 (h:c τ=some b) (h1:b=true->Nx R (f τ)) (h2:b=false->Nx R (g τ)):Nx R (sIf c f g τ):=by
 cases b with
 | true=>
  obtain ⟨d,e,p⟩:=h1 rfl;exact ⟨d,eK h (λ _=>e) (λ q=>nomatch q),p⟩
 | false=>
  obtain ⟨d,e,p⟩:=h2 rfl;exact ⟨d,eK h (λ q=>nomatch q) (λ _=>e),p⟩
def sy {it:DI} {gg:DG} {ds:List D} (Q:Nat->List Sl->Prop) (h1:it τ=some ds) (h0:Q 0 τ) (hs:∀ j d τ,ds[j]?=some d->Q j τ->∃ τ1,gg d τ=some τ1/\Nx (Q (j+1)) (f τ1)) (h2:∀ τ',Q ds.length τ'->R τ'):Nx R (IT it gg f τ):=by
 obtain ⟨τ',e,p⟩:=Ij Q h1 h0 λ j d τ hd q=>by
  obtain ⟨τ1,e1,τ2,e2,q2⟩:=hs j d τ hd q;exact ⟨τ1,τ2,e1,e2,q2⟩
 exact ⟨τ',e,h2 _ p⟩
def qF {n m:Nat} {b:DS} {ds:List D} (h:Ret P (b (cF n ds))) (hl:ds.length=m:=by rfl):∃ d,cD n m b ds=some (.shr d)/\P d:=by
 obtain ⟨d,e,p⟩:=h;exact ⟨d,bF e hl,p⟩
def jH {f g:DT} {b c:Bool} (h1:f τ=some b) (h2:g τ=some c):B4 f g τ=some (b&&c):=by
 unfold B4; rw [h1]; cases b <;> simp [h2]
def dU {f g:DT} {b c:Bool} (h1:f τ=some b) (h2:g τ=some c):dOr f g τ=some (b||c):=by
 unfold dOr; rw [h1]; cases b <;> simp [h2]
def ib {b c:Bool} (h1:e τ=some (.bl b)) (h2:e2 τ=some (.bl c)):k6 e e2 τ=some (.bl (b&&c)):=by
 unfold k6; rw [h1]; cases b <;> simp [h2]
def BL {b c:Bool} (h1:e τ=some (.bl b)) (h2:e2 τ=some (.bl c)):Iy e e2 τ=some (.bl (b||c)):=by
 unfold Iy; rw [h1]; cases b <;> simp [h2]
def xf {j:Nat} {am:List (Key×D)} {k:Key} (h1:e τ=some d) (h2:e2 τ=some y) (q:τ[j]?=some (.own (.dct am))) (hk:sU y=some k) (hl:am.length < 100000):zX j e e2 τ=some (.next (τ.set j (.own (.dct (putD am k d))))):=by
 unfold zX; rw [h1]; show (e2 τ).bind _=_; rw [h2]; show (match τ[j]? with | some (.own (.dct am))=>_ | _=>_)=_; rw [q]; show (sU y).bind _=_; rw [hk]; exact if_pos hl
def BN {am:List (Key×D)} {k:Key} (h1:e τ=some (.dct am)) (h2:e2 τ=some y) (h3:e3 τ=some z) (hk:sU y=some k):Iz e e2 e3 τ=some ((gX am k).getD z):=by
 unfold Iz; rw [h1]; show (e2 τ).bind _=_; rw [h2]; show (e3 τ).bind _=_; rw [h3]; show (sU y).map _=_; rw [hk]; rfl
end
theorem xB {n:Nat}:∀ {ds:List D},(∀ d ∈ ds,okD n d=true)->mv n ds=true
 | [],_=>rfl
 | d::ds,h=>by
  rw [mv,h d (Zp ..),xB λ e m=>h e (Za _ m)];rfl
def Hf {xs ys:List D} (h:mv 8 xs=true) (h':mv 8 ys=true):oEq (.lst xs) (.lst ys)=some (.bl (eqB (.lst xs) (.lst ys))):=by
 unfold oEq eqO;rw [if_pos ⟨h,h'⟩]; rfl
theorem pC {c:D->Option Bool} {g:D->Option D} {t:D->Bool}:∀ {ds:List D},(∀ d ∈ ds,c d=some (t d)/\g d=some d)->wu c g ds=some (ds.filter t)
 | [],_=>rfl
 | d::ds,h=>by
  obtain ⟨h1,h2⟩:=h d (Zp ..);have ih:=pC (c:=c) (g:=g) (t:=t) (ds:=ds) λ e m=>h e (Za _ m)
  unfold wu;rw [h1]
  cases q:t d with
  | true=>simp [h2,ih,q]
  | false=>simp [ih,q]
theorem Cu {α:Type} {xs:List α} {j:Int} (h0:0<=j) (h1:j < xs.length):∃ (h:j.toNat < xs.length),atI xs j=some xs[j.toNat]:=by
 refine ⟨by omega,?_⟩;have e:=Cv (xs:=xs) (j:=j.toNat) (List.getElem?_eq_getElem (by omega));rw [show ((j.toNat:Nat):Int)=j by omega] at e;exact e
end L2
end
section
namespace PF
open PySem L2
def eF:DS:=
 (fu (mo 0 (ej IW (aG (aM 0) bR)))
 (fu (mo 1 (ej IW (aG (aM 1) bR)))
 (fu (ot (dT (dOp oNe (aM 1) (dC (.int 0)))) (fu (mo 2 (dOp oMod (aM 0) (aM 1)))
 (fu (mo 0 (aM 1))
 (mo 1 (aM 2)))))
 (nD (aM 0)))))
def fP:List D->Option Sl:=cD 3 2 eF
end PF
end
section
namespace S1
theorem xR {a b:Int} (ha:0<=a) (hb:0 < b):Int.gcd b (a % b)=Int.gcd a b:=by
 obtain ⟨m,rfl⟩:=Int.eq_ofNat_of_zero_le ha;obtain ⟨n,rfl⟩:=Int.eq_ofNat_of_zero_le (Int.le_of_lt hb);have e:((m:Int) % (n:Int))=((m % n:Nat):Int):=by omega
 rw [e];show Nat.gcd n (m % n)=Nat.gcd m n;rw [Nat.gcd_comm m n,Nat.gcd_rec n m,Nat.gcd_comm]
theorem Bz {a:Int} (ha:0<=a):((Int.gcd a 0:Nat):Int)=a:=by
 rw [Int.gcd_zero_right];omega
def Ig (a b:Int):Int.gcd (if a < 0 then -a else a) (if b < 0 then -b else b)=Int.gcd a b:=by
 split <;> split <;> simp
end S1
end
section
namespace PF
open PySem L2
local macro_rules | `(tactic| walk_at "ev")=>`(tactic| simp only [cD,cF,fu,mo,nD,sIf,d6,aM,dC,dOp,dUn,ej,mM,Md,aG,bR,dFn,dT,dIf,B4,dOr,pQ,k6,Iy,Eb,slD,oIx,jD,IW,ui,E4,jE,oLt,oLe,oGt,cq,eQ,vg,bp,sq,cj,cB,
 Zi,List.length_nil,Zz,X2,List.replicate,List.set_cons_zero,List.set_cons_succ,List.getElem?_cons_zero,List.getElem?_cons_succ,Yj,Yc,Xv,Option.map_some,Nat.reduceAdd,Nat.reduceSub,Nat.reduceLeDiff,if_true,if_false,reduceIte,Bool.not_true,Bool.not_false,decide_true,decide_false,Bool.false_eq_true])
theorem xS (c:DT) (b:DS) (hc:c=dT (dOp oNe (aM 1) (dC (.int 0)))) (hb:b=fu (mo 2 (dOp oMod (aM 0) (aM 1))) (fu (mo 0 (aM 1)) (mo 1 (aM 2)))):∀ (n:Nat) (x y:Int) (r:Sl),0<=x->0<=y->y.toNat < n->∃ r',cU c b n [.shr (.int x),.shr (.int y),r]=some (.next [.shr (.int (Int.gcd x y:Nat)),.shr (.int 0),r'])
 | 0,_,_,_,_,_,h=>by omega
 | n + 1,x,y,r,hx,hy,h=>by
  by_cases z:y=0
  ·subst z
   refine ⟨r,?_⟩;rw [S1.Bz hx];simp only [cU,hc]
   walk_at "ev"
  ·have py:0 < y:=by omega
   have m0:=Xj x (Int.ne_of_gt py);have m1:=Y8 x py;obtain ⟨r',e⟩:=xS c b hc hb n y (x % y) (.shr (.int (x % y))) hy m0 (by omega);refine ⟨r',?_⟩;rw [S1.xR hx py] at e;rw [<- e]
   conv=>lhs; unfold cU
   have t1:c [.shr (.int x),.shr (.int y),r]=some true:=by
    rw [hc]
    walk_at "ev"
    simp [z]
   have t2:b [.shr (.int x),.shr (.int y),r]=some (.next [.shr (.int y),.shr (.int (x % y)),.shr (.int (x % y))]):=by
    rw [hb];simp only [fu,mo,dOp,aM,List.getElem?_cons_zero,List.getElem?_cons_succ,Xv,aO py,Option.map_some,List.set_cons_zero,List.set_cons_succ]
   rw [t1,t2]
theorem sP (a b:Int):fP [.int a,.int b]=some (.shr (.int (Int.gcd a b:Nat))):=by
 obtain ⟨r',e⟩:=xS _ _ rfl rfl (((if b < 0 then -b else b)).toNat+1) (if a < 0 then -a else a) (if b < 0 then -b else b) .no (by split <;> omega) (by split <;> omega) (by omega);rw [S1.Ig] at e;have w:=tS e;unfold fP eF
 walk_at "ev"
 rw [w];rfl
end PF
end
section
namespace N50
open PySem L2 PF
def ext {x y:Str} (h:x.cps.toList=y.cps.toList):x=y:=by
 cases x; cases y
 simp only [Str.mk.injEq];exact Array.toList_inj.mp h
def aY (x y:Str):(x++y).cps.toList=x.cps.toList++y.cps.toList:=by
 show (x.cps++y.cps).toList=_;rw [Array.toList_append]
def aQ (x:Str):x.cps.toList.length=x.length:=rfl
def Tx (n:Nat):Str:=Str.ofString (toString (n:Int))
def lD (n:Nat):(Tx n).cps.toList=(Nat.toDigits 10 n).map Char.toNat:=W.KIN.signs_num n
def tE (n:Nat):NumText.AllDigits (Tx n).cps.toList:=by
 intro c hc;rw [lD] at hc;obtain ⟨ch,hm,rfl⟩:=Xn.mp hc;have:=Nat.isDigit_of_mem_toDigits (by decide) (by decide) hm;unfold Char.isDigit at this;rw [Zg] at this;have a:=Zu this.1;have b:=Zu this.2;exact ⟨a,b⟩
def zE (n:Nat):(Tx n).cps.toList≠[]:=by
 rw [lD];intro z;exact Nat.toDigits_ne_nil (List.map_eq_nil_iff.mp z)
def tD (n:Nat):NumText.digitsVal (Tx n).cps.toList=n:=by
 rw [lD];exact W.KIN.val_back n
def Ez (h:Tx n=Tx m):n=m:=by rw [<- tD n,<- tD m,h]
def eN (hk:1<=k) (h:n < 10 ^ k):(Tx n).length<=k:=by
 rw [<- aQ,lD,Zk];exact toDigits_len_pow (by decide) hk h
theorem Ey (hk:1<=k) (hk2:k<=600) (h:n < 10 ^ k):intText? (Tx n)=some (n:Int):=by
 rw [intText_digits (tE n) (zE n) (Zs (eN hk h) (by omega)),tD]
theorem digit_back:∀ c:_root_.Fin 58,(Char.ofNat c.val).toNat=c.val:=by decide +kernel
theorem Ge (n:Nat):Tx n="0"\/∃ c r,(Tx n).cps.toList=c::r/\c≠48:=by
 have d:=tE n;have e:=NumText.toDigits_all _ d;rw [tD] at e;have tl:=lD n;rw [e] at tl
 cases q:(Tx n).cps.toList with
 | nil=>exact absurd q (zE n)
 | cons c r=>
  by_cases h:c=48
  ·subst h
   left;rw [q] at tl;have e1:List.dropWhile (λ x=>x == 48) (48::r)=List.dropWhile (λ x=>x == 48) r:=rfl;rw [e1] at tl;have le:=(List.dropWhile_sublist (λ x=>x == 48) (l:=r)).length_le
   cases q2:List.dropWhile (λ x=>x == 48) r with
   | nil=>
    rw [q2] at tl;apply ext;rw [q,tl];rfl
   | cons c' r'=>
    rw [q2] at tl le;have:=Z8 List.length tl;simp only [Zi,Zk] at this le;omega
  · exact .inr ⟨c,r,rfl,h⟩
theorem cp (hk:k < 48\/57 < k) (n:Nat):k ∉ (Tx n).cps.toList:=λ h=>by
 have:=tE n k h;omega
def log2_lt (h:n < 2 ^ k) (hk:0 < k):n.log2 < k:=by
 by_cases z:n=0
 ·subst z
  rw [show Nat.log2 0=0 by decide];exact hk
 · exact (Nat.log2_lt z).mpr h
theorem uH {n:Nat} (h:n < 10 ^ 500):KC (.int (n:Int))=some (.str (Tx n)):=by
 show (if (n:Int).natAbs.log2 < 1920 then _ else none)=_;rw [if_pos]
 · rfl
 ·rw [Int.natAbs_natCast]
  exact log2_lt (Wc h (by decide +kernel)) (by decide)
def cZ (c:Nat):List (List Nat)->List Nat
 | []=>[]
 | [x]=>x
 | x::y::r=>x++c::cZ c (y::r)
theorem nX:∀ {x y s t:List Nat},c ∉ x->c ∉ y->x++c::s=y++c::t->x=y/\s=t
 | [],[],s,t,_,_,e=>⟨rfl,by simpa using e⟩
 | [],b::y,s,t,_,h2,e=>by
  simp only [Yc,Yj,List.cons.injEq] at e;exact absurd (by rw [e.1]; simp) h2
 | a::x,[],s,t,h1,_,e=>by
  simp only [Yc,Yj,List.cons.injEq] at e;exact absurd (by rw [<- e.1]; simp) h1
 | a::x,b::y,s,t,h1,h2,e=>by
  simp only [Yj,List.cons.injEq] at e;obtain ⟨e3,e4⟩:=nX (λ z=>h1 (Za _ z)) (λ z=>h2 (Za _ z)) e.2;exact ⟨by rw [e.1,e3],e4⟩
theorem qX:∀ {xs ys:List (List Nat)},xs≠[]->ys≠[]->(∀ x ∈ xs,c ∉ x)->(∀ y ∈ ys,c ∉ y)->cZ c xs=cZ c ys->xs=ys
 | [],_,h,_,_,_,_=>absurd rfl h
 | _,[],_,h,_,_,_=>absurd rfl h
 | [x],[y],_,_,_,_,e=>by
  have e':x=y:=e;rw [e']
 | [x],y::y2::r,_,_,hx,_,e=>by
  have e':x=y++c::cZ c (y2::r):=e;exact absurd (by rw [e']; simp) (hx x (by simp))
 | x::x2::r,[y],_,_,_,hy,e=>by
  have e':x++c::cZ c (x2::r)=y:=e;exact absurd (by rw [<- e']; simp) (hy y (by simp))
 | x::x2::r,y::y2::s,_,_,hx,hy,e=>by
  have e':x++c::cZ c (x2::r)=y++c::cZ c (y2::s):=e;have two:=nX (hx x (by simp)) (hy y (by simp)) e';obtain ⟨e1,e2⟩:=two;rw [e1,qX (xs:=x2::r) (ys:=y2::s) (by simp) (by simp) (λ z hz=>hx z (by simp [Zd.mp hz])) (λ z hz=>hy z (by simp [Zd.mp hz])) e2]
theorem xH (c:Nat):∀ ts:List Str,(Str.join ⟨#[c]⟩ ts).cps.toList=cZ c (ts.map λ x=>x.cps.toList)
 | []=>rfl
 | [x]=>rfl
 | x::y::r=>by
  have ih:=xH c (y::r);show ((x++⟨#[c]⟩)++Str.join ⟨#[c]⟩ (y::r)).cps.toList=x.cps.toList++c::cZ c ((y::r).map λ x=>x.cps.toList);rw [aY,aY,ih];simp
def kO (x y:Str):Txt.split x y≠[]:=by
 unfold Txt.split;split
 · exact λ z=>nomatch z
 ·split
  · exact λ z=>nomatch z
  ·intro z
   have:=PySem.length_partsBetween x (Builtin.Str.occurrences x y 0 x.length (x.length+1)) y.length;rw [z] at this;cases this
theorem uq:∀ {xs ys:List Str},xs.map (λ x=>x.cps.toList)=ys.map (λ x=>x.cps.toList)->xs=ys
 | [],[],_=>rfl
 | [],_::_,h=>by simp at h
 | _::_,[],h=>by simp at h
 | x::xs,y::ys,h=>by
  rw [Zz,Zz] at h;injection h with h1 h2
  rw [ext h1,uq h2]
def gB (n:ts≠[]) (hf:∀ t ∈ ts,c ∉ t.cps.toList) (e:x.cps.toList=cZ c (ts.map λ x=>x.cps.toList)):Txt.split x ⟨#[c]⟩=ts:=by
 have j:=X3 x ⟨#[c]⟩;have j2:=Z8 (λ z:Str=>z.cps.toList) j;rw [xH,e] at j2;refine uq (qX (c:=c) ?_ ?_ ?_ ?_ j2)
 · exact λ z=>kO _ _ (List.map_eq_nil_iff.mp z)
 · exact λ z=>n (List.map_eq_nil_iff.mp z)
 ·intro z hz
  obtain ⟨t,ht,rfl⟩:=Xn.mp hz;exact StrLaws.split_free x c t ht
 ·intro z hz
  obtain ⟨t,ht,rfl⟩:=Xn.mp hz;exact hf t ht
def de (n:ts≠[]) (hf:∀ t ∈ ts,c ∉ t.cps.toList) (e:x.cps.toList=cZ c (ts.map λ x=>x.cps.toList)) (hl:x.length<=100000):cW (.str x) (.str ⟨#[c]⟩)=some (.lst (ts.map .str)):=by
 show (if Str.length ⟨#[c]⟩≠0/\x.length<=100000 then _ else none)=_;rw [if_pos ⟨by show 1≠0; decide,hl⟩,gB n hf e]
theorem nu:("/":Str)=⟨#[47]⟩:=by decide +kernel
theorem blank:(" ":Str)=⟨#[32]⟩:=by decide +kernel
def dZ (h:c τ=some b) (h1:b=true->f τ=some (.ret s)) (h2:b=false->g τ=some (.ret s)):fu (sIf c f d6) g τ=some (.ret s):=by
 cases b with
 | true=>exact aV h (h1 rfl)
 | false=>exact az h (h2 rfl)
def Bs (h:f τ=some (.str x)):D1 f τ=some (chD x):=by unfold D1; rw [h]; rfl
def gZ (h1:f τ=some false):B4 f g τ=some false:=og h1 (λ z=>nomatch z) λ _=>rfl
def gY (h1:f τ=some true) (h2:g τ=some b):B4 f g τ=some b:=og h1 (λ _=>h2) λ z=>nomatch z
def lower (c:Nat):Bool:=decide (97<=c)&&decide (c<=122)
def a7 (x:Str):Bool:=(decide (1<=(x.length:Int))&&decide ((x.length:Int)<=8))&&x.cps.toList.all lower
def lt1 (c d:Nat):[c] < [d]↔c < d:=by
 constructor
 ·intro z
  cases z with
  | rel h=>exact h
  | cons h=>cases h
 ·intro h
  exact List.Lex.rel h
theorem le1 (c d:Nat):O8 (.str ⟨#[c]⟩) (.str ⟨#[d]⟩)=some (.bl (decide (c<=d))):=by
 show some (D.bl (!decide ([d] < [c])))=_;congr 2
 by_cases h:c<=d
 ·rw [Ze h,Zc]
  · rfl
  ·intro z
   have:=(lt1 d c).mp z;omega
 ·rw [Zc h,Ze]
  · rfl
  · exact (lt1 d c).mpr (by omega)
theorem sC {g:D->Option D} {t:Nat->Bool}:∀ {cs:List Nat},(∀ c ∈ cs,g (.str ⟨#[c]⟩)=some (.bl (t c)))->vn g (cs.map λ c=>.str ⟨#[c]⟩)=some (cs.map λ c=>.bl (t c))
 | [],_=>rfl
 | c::cs,h=>by
  show (g (.str ⟨#[c]⟩)).bind (λ x=>(vn g (cs.map λ c=>.str ⟨#[c]⟩)).bind λ xs=>some (x::xs))=_;rw [h c (Zp ..),sC λ c m=>h c (Za _ m)];rfl
theorem gJ (t:Nat->Bool):∀ cs:List Nat,Es (cs.map λ c=>.bl (t c))=some (cs.map t)
 | []=>rfl
 | c::cs=>by
  show (Es (cs.map λ c=>.bl (t c))).map (t c::·)=_;rw [gJ t cs]; rfl
theorem pb (x:Str) (hx:x.length<=50000):jg [.str x]=some (.shr (.bl (a7 x))):=by
 unfold jg qi; dsimp only
 refine bF ?_
 refine az (cx (b:=true) (aw (aS (ah e_v (ah Uf av)) rfl))) ?_
 have hl:jD [.str x]=some (.int (x.length:Int)):=by
  show (if x.length<=100000 then _ else none)=_;rw [if_pos (by omega)]
 refine dZ (cx (aw (ib (ar Uf (aS (ah e_v av) hl) rfl) (ar (aS (ah e_v av) hl) Uf rfl)))) (λ h=>?_) (λ h=>?_)
 ·unfold a7
  rw [Z7] at h;rw [h];exact aD Uf
 ·rw [Yb] at h
  refine aD (aS (ah (gq (Bs e_v) ?_ (sC λ c _=>ib (ar Uf e_v (le1 97 c)) (ar e_v Uf (le1 c 122)))) av) ?_)
  ·show (x.cps.toList.map _).length<=_
   rw [Zk];exact Zs hx (by decide)
  ·show (Es _).map _=_
   rw [gJ];unfold a7;rw [h];show some (D.bl ((x.cps.toList.map lower).all id))=some (D.bl (x.cps.toList.all lower));rw [List.all_map];rfl
def iG (x:Str) (hx:x.length<=100):jg [.str x]=some (.shr (.bl (a7 x))):=pb x (Zs hx (by decide))
def II {x:Str} (h:NumText.AllDigits x.cps.toList):(x.cps.toList.map λ c=>(decide (48<=c)&&decide (c<=57))).all id=true:=by
 rw [List.all_map,Yi];intro c hc;have:=h c hc;show (decide (48<=c)&&decide (c<=57))=true;rw [Ze this.1,Ze this.2];rfl
def sE (hx:x.length<=50000):jD [.str x]=some (.int (x.length:Int)):=by
 show (if x.length<=100000 then _ else none)=_;rw [if_pos (by omega)]
def QQ (hx:x.length<=1000):jD [.str x]=some (.int (x.length:Int)):=sE (Zs hx (by decide))
theorem uj {n:Nat} (h:n < 10 ^ 30):jf [.str (Tx n),.int 30]=some (.shr (.bl true)):=by
 have hl:=eN (by decide) h;have h1:1<=(Tx n).length:=List.length_pos_iff.mpr (zE n);have ll:=QQ (x:=Tx n) (by omega);refine bF ?_
 refine az (dU (cx (b:=true) (aw ((ib (ar Uf (aS (ah e_v av) ll) rfl) (ar (aS (ah e_v av) ll) e_v rfl)).trans ?_))) (cx (b:=true) (aw (aS (ah (gq (Bs e_v) ?_ (sC λ c _=>ib (ar Uf e_v (le1 48 c)) (ar e_v Uf (le1 c 57)))) av) ?_)))) ?_
 ·rw [Ze (by omega),Ze (by omega)]
  rfl
 ·show ((Tx n).cps.toList.map _).length<=_
  rw [Zk,aQ];omega
 ·show (Es _).map _=_
  rw [gJ];show some (D.bl _)=_;rw [II (tE n)]
 ·rcases Ge n with e | ⟨c,r,e,nz⟩
  ·refine aD (NQ (b:=true) ((ar e_v Uf (cj _ _)).trans ?_) (λ z=>nomatch z) λ _=>rfl)
   rw [Ze e]
  ·have i0:oIx (.str (Tx n)) (.int 0)=some (.str ⟨#[c]⟩):=by
    show (if (Tx n).length<=100000 then (atI (Tx n).cps.toList 0).map _ else none)=_;rw [if_pos (by omega),e,cq];rfl
   have z:decide (Tx n="0")=false:=Zc λ z=>by
    rw [z] at e
    have:c=48:=by
     have e2:(Str.cps "0").toList=[48]:=by decide +kernel
     rw [e2] at e;simp only [List.cons.injEq] at e;exact e.1.symm
    exact nz this
   refine aD (NQ (b:=false) ((ar e_v Uf (cj _ _)).trans (by rw [z])) (λ _=>(ar (ar e_v Uf i0) Uf (cB _ _)).trans ?_) λ z=>nomatch z);rw [Zc]
   · rfl
   ·intro z
    have e2:("0":Str)=⟨#[48]⟩:=by decide +kernel
    rw [e2] at z;injection z with z
    have:=Z8 Array.toList z;simp only [List.cons.injEq,and_true] at this;exact nz this
theorem bE (h:n < 10 ^ 30):fM [.str (Tx n)]=some (.shr (.int (n:Int))):=by
 refine bF ?_
 refine az (cx (aw (br (ah e_v (ah Uf av)) (uj h) rfl))) ?_
 refine aD (aS (ah e_v av) ?_);show (if (Tx n).length<=640 then (intText? (Tx n)).map D.int else none)=_;rw [if_pos (by have:=eN (by decide) h; omega),Ey (by decide) (by decide) h];rfl
def Rt (t b:Nat):Str:=if b=1 then Tx t else Tx t++("/":Str)++Tx b
theorem NV (h:n < 10 ^ 300):n < 10 ^ 500:=by grind
theorem QU (h1:f τ=some (.int (t:Int))) (h2:g τ=some (.int (b:Int))) (ht:t < 10 ^ 300) (hb:b < 10 ^ 300):dJ3 (dUn KC f) (dC (.str "/")) (dUn KC g) τ=some (.str (Tx t++("/":Str)++Tx b)):=by
 have e1:=sO h1 (uH (NV ht));have e2:=sO h2 (uH (NV hb));unfold dJ3;rw [e1,e2];have l1:=eN (by decide) ht;have l2:=eN (by decide) hb;show (if (Tx t).length<=30000/\Str.length "/"<=30000/\(Tx b).length<=30000 then _ else none)=_;rw [if_pos ⟨by omega,by decide +kernel,by omega⟩]
theorem NO (b:Nat):decide ((b:Int)=1)=decide (b=1):=by grind
def dX {t b:Nat} (ht:t < 10 ^ 300) (hb:b < 10 ^ 300):ng [.int (t:Int),.int (b:Int)]=some (.shr (.str (Rt t b))):=by
 refine bF (aD (CK (aw (ar e_v Uf (bp _ _))) (λ q=>?_) (λ q=>?_)))
 ·rw [NO] at q
  unfold Rt;rw [if_pos (Zu q)];exact sO e_v (uH (NV ht))
 ·rw [NO] at q
  unfold Rt;rw [if_neg (Z0 q)];exact QU e_v e_v ht hb
def dY {t b:Nat} (ht:t < 10 ^ 300) (hb:b < 10 ^ 300):gy [.int (t:Int),.int (b:Int)]=some (.shr (.str (Rt t b))):=by
 refine bF (dZ (aw (ar e_v Uf (bp _ _))) (λ q=>?_) (λ q=>?_))
 ·rw [NO] at q
  unfold Rt;rw [if_pos (Zu q)];exact aD (sO e_v (uH (NV ht)))
 ·rw [NO] at q
  unfold Rt;rw [if_neg (Z0 q)];exact aD (QU e_v e_v ht hb)
theorem ou (ht:t < 10 ^ 30) (hb:b < 10 ^ 30):(Rt t b).length<=61:=by
 have l1:=eN (by decide) ht;have l2:=eN (by decide) hb;unfold Rt;split
 · omega
 ·rw [U1,U1,show Str.length "/"=1 by decide +kernel]
  omega
def JY (h:b≠1):(Rt t b).cps.toList=(Tx t).cps.toList++47::(Tx b).cps.toList:=by
 unfold Rt;rw [if_neg h,aY,aY,nu];simp
theorem vJ (ht:t < 10 ^ 30) (hb:b < 10 ^ 30):gW [.str (Rt t b),.int 1]=some (.shr (.tup [.int (t:Int),.int (b:Int)])):=by
 have hl:=ou ht hb
 by_cases h:b=1
 ·subst h
  have e:Rt t 1=Tx t:=if_pos rfl
  have sp:cW (.str (Rt t 1)) (.str "/")=some (.lst [.str (Rt t 1)]):=by
   rw [nu];refine de (ts:=[Rt t 1]) (by simp) (λ x hx=>?_) rfl (by omega);rcases Zx.mp hx with rfl
   rw [e];exact cp (by decide) t
  refine bF ?_
  refine aR (aI (U3 rfl sp)) ?_
  refine az (aw (ar (aS (ah (ao rfl) av) rfl) Uf rfl)) ?_
  refine aV (aw (ar (aS (ah (ao rfl) av) rfl) Uf rfl)) ?_
  have rw':fM [.str (Rt t 1)]=some (.shr (.int (t:Int))):=by rw [e]; exact bE ht
  exact aD (bf (ah (br (ah (ao rfl) av) rw' rfl) (ah (ao rfl) av)) (Zb rfl))
 ·have sp:cW (.str (Rt t b)) (.str "/")=some (.lst [.str (Tx t),.str (Tx b)]):=by
   rw [nu];refine de (ts:=[Tx t,Tx b]) (by simp) (λ x hx=>?_) (JY h) (by omega);simp only [Zd,Zq,Z9] at hx;rcases hx with rfl | rfl
   · exact cp (by decide) t
   · exact cp (by decide) b
  refine bF ?_
  refine aR (aI (U3 rfl sp)) ?_
  refine az (aw (ar (aS (ah (ao rfl) av) rfl) Uf rfl)) ?_
  refine az (aw (ar (aS (ah (ao rfl) av) rfl) Uf rfl)) ?_
  exact aD (bf (ah (br (ah (U3 rfl (cq _ _)) av) (bE ht) rfl) (ah (br (ah (U3 rfl (eQ _ _ _)) av) (bE hb) rfl) av)) (Zb rfl))
theorem rg (h:Txt.endswith x y=true):∃ pre,x.cps.toList=pre++y.cps.toList:=by
 unfold Txt.endswith at h;rw [Zg] at h;have h1:=Zu h.1;have h2:=h.2;rw [Y9] at h2;have e:=eq_of_beq h2
 have dl:(List.drop (x.length - y.length) x.cps.toList).length=y.length:=by
  rw [Y7,aQ];omega
 rw [Y4 (by omega)] at e;exact ⟨x.cps.toList.take (x.length - y.length),by rw [<- e,Y6]⟩
theorem RJ:(Str.cps "/1").toList=[47,49]:=by decide +kernel
theorem zD:Tx 1=⟨#[49]⟩:=by decide +kernel
def L9:Txt.endswith (Rt t b) "/1"=false:=by
 refine Xc.mpr λ h=>?_
 obtain ⟨pre,e⟩:=rg h;have e:(Rt t b).cps.toList=pre++[47,49]:=by rw [e,RJ]
 by_cases hb:b=1
 ·subst hb
  have e2:Rt t 1=Tx t:=if_pos rfl;rw [e2] at e;exact cp (k:=47) (by decide) t (by rw [e]; simp)
 ·rw [JY hb] at e
  have e3:=Z8 List.reverse e;simp only [List.reverse_append,List.reverse_cons,Z5,Yj,Yc,List.reverse_nil] at e3;have e4:(Tx b).cps.toList.reverse++47::(Tx t).cps.toList.reverse=[49]++47::pre.reverse:=by simpa using e3
  obtain ⟨e5,_⟩:=nX (λ z=>cp (k:=47) (by decide) b (List.mem_reverse.mp z)) (by decide) e4
  have e6:(Tx b).cps.toList=[49]:=by
   have:=Z8 List.reverse e5;rw [List.reverse_reverse] at this;exact this
  exact hb (Ez (ext (e6.trans (by rw [zD]))))
theorem cz (ht:t < 10 ^ 30) (hb:b < 10 ^ 30) (b0:b≠0):jd [.str (Rt t b)]=some (.shr (.tup [.int (t:Int),.int (b:Int)])):=by
 unfold jd iY; dsimp only
 refine bF ?_
 refine aR (aI (br (ah (ao rfl) (ah Uf av)) (vJ ht hb) rfl)) ?_
 refine az (dU (b:=false) (c:=false) (aw ((ar (U3 rfl (b5 _ _ _)) Uf (bp _ _)).trans ?_)) (aw (U3 rfl ?_))) (aD (ao rfl))
 · rw [Zc (by omega)]
 ·show some (D.bl (Txt.endswith _ _))=_
  rw [L9]
def vQ (a b:Int):okD 9 (.tup [.int a,.int b])=true:=by simp [okD,mv]
def DH (h:eqS d d=none) (h2:okD 9 d=true):oNe d d=some (.bl false):=by
 have e:eqO d d=some true:=by
  unfold eqO;rw [h];show (if okD 9 d=true/\okD 9 d=true then _ else none)=_;rw [if_pos ⟨h2,h2⟩,kZ]
 show (eqO d d).map (λ b=>D.bl !b)=_;rw [e]; rfl
def rF (n:Int):l7 [.int n]=some (.shr (.bl true)):=by
 unfold l7 lY; dsimp only; exact bF (aD (jF (b:=true) (aS (ah (ao rfl) (ah Uf av)) rfl) (λ _=>Q8 (b:=false) (aS (ah (ao rfl) (ah Uf av)) rfl)) λ z=>nomatch z))
inductive It where
 | s (x:Str)
 | i (n:Int)
def It.D:It->D
 | .s x=>.str x
 | .i n=>.int n
def jS (l:List It):D:=.tup (l.map It.D)
def Ls (l:List It):jD [jS l]=some (.int (l.length:Int)):=by
 show some (D.int ((l.map It.D).length:Int))=_;rw [Zk]
inductive Vw where
 | hand | start | word (s:Str) | num (t b:Nat) | part (t b:Nat) | times (t b:Nat) | of (q:Str) (t b:Nat)
def Vw.its:Vw->List It
 | .hand=>[.s "hand"]
 | .start=>[.s "start"]
 | .word s=>[.s "word",.s s]
 | .num t b=>[.s "number",.i t,.i b]
 | .part t b=>[.s "part",.i t,.i b]
 | .times t b=>[.s "times",.i t,.i b]
 | .of q t b=>[.s "of",.s q,.i t,.i b]
def Vw.text:Vw->Str
 | .hand=>"hand"
 | .start=>"start"
 | .word s=>s
 | .num t b=>Rt t b
 | .part t b=>Rt t b++(" ":Str)++("part":Str)
 | .times t b=>Rt t b++(" ":Str)++("times":Str)
 | .of q t b=>Rt t b++(" of ":Str)++q
def P9:List Str:=["size","wide","least","most","grow","shrink","gap","pad","tall"]
def Rz (k:Nat) (t b:Nat):Prop:=t < 10 ^ k/\b < 10 ^ k/\b≠0
def Vw.ok (k:Nat):Vw->Prop
 | .hand=>True
 | .start=>True
 | .word s=>a7 s=true/\s ∉ (["hand","start"]:List Str)
 | .num t b=>Rz k t b
 | .part t b=>Rz k t b
 | .times t b=>Rz k t b
 | .of q t b=>Rz k t b/\q ∈ P9
theorem lG (ht:t < 10 ^ 300) (hb:b < 10 ^ 300):(Rt t b).length<=700:=by
 have l1:=eN (by decide) ht;have l2:=eN (by decide) hb;unfold Rt;split
 · omega
 ·rw [U1,U1,show Str.length "/"=1 by decide +kernel]
  omega
def bu (h:x.length+y.length<=100000):jE (.str x) (.str y)=some (.str (x++y)):=if_pos h
theorem t8:∀ q ∈ P9,q.length<=8:=by decide +kernel
def lb:Str.length (" ":Str)=1:=by rfl
def lo:Str.length (" of ":Str)=4:=by rfl
def lp:Str.length ("part":Str)=4:=by rfl
def lt:Str.length ("times":Str)=5:=by rfl
theorem rm (h1:f τ=some (.str x)) (h2:g τ=some (.str y)) (h3:h τ=some (.str z)) (hl:x.length<=700) (hl2:y.length<=10) (hl3:z.length<=10):dOp jE (dOp jE f g) h τ=some (.str (x++y++z)):=
 ar (ar h1 h2 (bu (by omega))) h3 (bu (by rw [U1]; omega))
theorem mi {v:Vw} (h:v.ok 300):dM [jS v.its]=some (.shr (.str v.text)):=by
 unfold dM dH; dsimp only
 refine bF ?_
 cases v with
 | hand=>exact aV (aw (ar (ar e_v Uf rfl) (bf (ah Uf (ah Uf av)) (by decide)) rfl)) (aD (ar e_v Uf rfl))
 | start=>exact aV (aw (ar (ar e_v Uf rfl) (bf (ah Uf (ah Uf av)) (by decide)) rfl)) (aD (ar e_v Uf rfl))
 | word s=>exact az (aw (ar (ar e_v Uf rfl) (bf (ah Uf (ah Uf av)) (by decide)) rfl)) (aV (aw (ar (ar e_v Uf rfl) Uf rfl)) (aD (ar e_v Uf rfl)))
 | num t b=>exact az (aw (ar (ar e_v Uf rfl) (bf (ah Uf (ah Uf av)) (by decide)) rfl)) (az (aw (ar (ar e_v Uf rfl) Uf rfl)) (az (aw (ar (ar e_v Uf rfl) Uf rfl)) (aR (aI (br (ah (ar e_v Uf rfl) (ah (ar e_v Uf rfl) av)) (dY h.1 h.2.1) rfl)) (aV (aw (ar (ar e_v Uf rfl) Uf rfl)) (aD e_v)))))
 | part t b=>exact az (aw (ar (ar e_v Uf rfl) (bf (ah Uf (ah Uf av)) (by decide)) rfl)) (az (aw (ar (ar e_v Uf rfl) Uf rfl)) (az (aw (ar (ar e_v Uf rfl) Uf rfl)) (aR (aI (br (ah (ar e_v Uf rfl) (ah (ar e_v Uf rfl) av)) (dY h.1 h.2.1) rfl)) (az (aw (ar (ar e_v Uf rfl) Uf rfl)) (aD (rm e_v Uf (ar e_v Uf rfl) (lG h.1 h.2.1) (by rw [lb]; omega) (by rw [lp]; omega)))))))
 | times t b=>exact az (aw (ar (ar e_v Uf rfl) (bf (ah Uf (ah Uf av)) (by decide)) rfl)) (az (aw (ar (ar e_v Uf rfl) Uf rfl)) (az (aw (ar (ar e_v Uf rfl) Uf rfl)) (aR (aI (br (ah (ar e_v Uf rfl) (ah (ar e_v Uf rfl) av)) (dY h.1 h.2.1) rfl)) (az (aw (ar (ar e_v Uf rfl) Uf rfl)) (aD (rm e_v Uf (ar e_v Uf rfl) (lG h.1 h.2.1) (by rw [lb]; omega) (by rw [lt]; omega)))))))
 | of q t b=>exact az (aw (ar (ar e_v Uf rfl) (bf (ah Uf (ah Uf av)) (by decide)) rfl)) (az (aw (ar (ar e_v Uf rfl) Uf rfl)) (aV (aw (ar (ar e_v Uf rfl) Uf rfl)) (aD (rm (br (ah (ar e_v Uf rfl) (ah (ar e_v Uf rfl) av)) (dY h.1.1 h.1.2.1) rfl) Uf (ar e_v Uf rfl) (lG h.1.1 h.1.2.1) (by rw [lo]; omega) (by have:=t8 q h.2; omega)))))
def mm {v:Vw} (h:v.ok 300):fL [jS v.its]=some (.shr (.str v.text)):=by
 unfold fL iT; dsimp only
 refine bF ?_
 cases v with
 | hand=>exact aR (aI (ar e_v Uf rfl)) (az (aw (ar e_v Uf rfl)) (az (aw (ar e_v Uf rfl)) (az (aw (ar e_v Uf rfl)) (az (aw (ar e_v (bf (ah Uf (ah Uf av)) (by decide)) rfl)) (aD e_v)))))
 | start=>exact aR (aI (ar e_v Uf rfl)) (az (aw (ar e_v Uf rfl)) (az (aw (ar e_v Uf rfl)) (az (aw (ar e_v Uf rfl)) (az (aw (ar e_v (bf (ah Uf (ah Uf av)) (by decide)) rfl)) (aD e_v)))))
 | word s=>exact aR (aI (ar e_v Uf rfl)) (aV (aw (ar e_v Uf rfl)) (aD (ar e_v Uf rfl)))
 | num t b=>exact aR (aI (ar e_v Uf rfl)) (az (aw (ar e_v Uf rfl)) (aV (aw (ar e_v Uf rfl)) (aD (br (ah (ar e_v Uf rfl) (ah (ar e_v Uf rfl) av)) (dX h.1 h.2.1) rfl))))
 | part t b=>exact aR (aI (ar e_v Uf rfl)) (az (aw (ar e_v Uf rfl)) (az (aw (ar e_v Uf rfl)) (az (aw (ar e_v Uf rfl)) (aV (aw (ar e_v (bf (ah Uf (ah Uf av)) (by decide)) rfl)) (aD (rm (br (ah (ar e_v Uf rfl) (ah (ar e_v Uf rfl) av)) (dX h.1 h.2.1) rfl) Uf e_v (lG h.1 h.2.1) (by rw [lb]; omega) (by rw [lp]; omega)))))))
 | times t b=>exact aR (aI (ar e_v Uf rfl)) (az (aw (ar e_v Uf rfl)) (az (aw (ar e_v Uf rfl)) (az (aw (ar e_v Uf rfl)) (aV (aw (ar e_v (bf (ah Uf (ah Uf av)) (by decide)) rfl)) (aD (rm (br (ah (ar e_v Uf rfl) (ah (ar e_v Uf rfl) av)) (dX h.1 h.2.1) rfl) Uf e_v (lG h.1 h.2.1) (by rw [lb]; omega) (by rw [lt]; omega)))))))
 | of q t b=>exact aR (aI (ar e_v Uf rfl)) (az (aw (ar e_v Uf rfl)) (az (aw (ar e_v Uf rfl)) (aV (aw (ar e_v Uf rfl)) (aD (rm (br (ah (ar e_v Uf rfl) (ah (ar e_v Uf rfl) av)) (dX h.1.1 h.1.2.1) rfl) Uf (ar e_v Uf rfl) (lG h.1.1 h.1.2.1) (by rw [lo]; omega) (by have:=t8 q h.2; omega))))))
def sI (x:Str):∀ l:List Str,inS (.str x) (l.map .str)=some (decide (x ∈ l)):=λ l=>by
 have e1:∀ l:List Str,IQ (l.map .str)=some (l.map V.str):=λ l=>by
  induction l with
  | nil=>rfl
  | cons y l ih=>
   show (scD (.str y)).bind (λ v=>(IQ (l.map .str)).map (v::·))=_;rw [ih]; rfl
 have e2:∀ l:List Str,inV (.str x) (l.map V.str)=decide (x ∈ l):=λ l=>by
  induction l with
  | nil=>simp [inV]
  | cons y l ih=>
   unfold inV at *;rw [Zz,Y2,ih]
   by_cases h:x=y
   ·subst h
    simp [eqV]
   ·have h':¬ y=x:=λ z=>h z.symm
    simp [eqV,h,h']
 unfold inS;rw [e1];show some (inV (.str x) _)=_;rw [e2]
def nU (x:Str) (l:List Str):nG (.str x) (.tup (l.map .str))=some (.bl (decide (x ∈ l))):=by
 show (inS (.str x) (l.map .str)).map D.bl=_;rw [sI]; rfl
structure Fig (x:Str):Prop where
 ne:x ∉ (["hand","start"]:List Str)
 nn:a7 x=false
theorem FW (e:x.cps.toList=c::r) (h:c<=57):Fig x:=by
 have lw:lower c=false:=by
  unfold lower;rw [Zc (by omega)]; rfl
 refine ⟨λ m=>?_,?_⟩
 ·simp only [Zd,Zq,Z9] at m
  have l1:(Str.cps "hand").toList=[104,97,110,100]:=by decide +kernel
  have l2:(Str.cps "start").toList=[115,116,97,114,116]:=by decide +kernel
  rcases m with m | m
  ·rw [m,l1] at e
   simp only [List.cons.injEq] at e;omega
  ·rw [m,l2] at e
   simp only [List.cons.injEq] at e;omega
 ·unfold a7
  rw [e,Y1,lw,Xr,X9]
def zZ (t b:Nat):∃ c r,(Rt t b).cps.toList=c::r/\c<=57:=by
 cases q:(Tx t).cps.toList with
 | nil=>exact absurd q (zE t)
 | cons c r=>
  have d:=tE t c (by rw [q]; simp)
  by_cases h:b=1
  ·subst h
   exact ⟨c,r,(by rw [show Rt t 1=Tx t from if_pos rfl,q]),d.2⟩
  · exact ⟨c,r++47::(Tx b).cps.toList,by rw [JY h,q]; rfl,d.2⟩
def wy (y:Str):Fig (Rt t b++y):=by
 obtain ⟨c,r,e,h⟩:=zZ t b;exact FW (by rw [aY,e]; rfl) h
def xW:Fig (Rt t b):=by
 obtain ⟨c,r,e,h⟩:=zZ t b;exact FW e h
def lH:32 ∉ (Rt t b).cps.toList:=by
 by_cases h:b=1
 ·subst h
  rw [show Rt t 1=Tx t from if_pos rfl];exact cp (by decide) t
 ·rw [JY h]
  intro z;rcases Z2.mp z with z | z
  · exact cp (by decide) t z
  ·rcases Zd.mp z with z | z
   · exact absurd z (by decide)
   · exact cp (by decide) b z
def Dm (hx:x.length<=100) (h:Fig x) (e:τ[0]?=some (.shr (.str x))) (hg:g τ=r):(fu (sIf (dT (dOp nG (aM 0) (mM (aG (dC (.str "hand")) (aG (dC (.str "start")) bR))))) (nD (mM (aG (aM 0) bR))) d6)
  (fu (sIf (dT (dFn jg (aG (aM 0) bR))) (nD (mM (aG (dC (.str "word")) (aG (aM 0) bR)))) d6) g)) τ=r:=by
 refine az (aw ((ar (ao e) (bf (ah Uf (ah Uf av)) (by decide)) (nU x ["hand","start"])).trans (by rw [Zc h.ne]))) ?_
 exact az (aw (br (ah (ao e) av) ((iG x hx).trans (by rw [h.nn])) rfl)) hg
theorem JK (ht:t < 10 ^ 30) (hb:b < 10 ^ 30):cW (.str (Rt t b)) (.str " ")=some (.lst [.str (Rt t b)]):=by
 rw [blank];refine de (ts:=[Rt t b]) (by simp) (λ x hx=>?_) rfl (by have:=ou ht hb; omega);rcases Zx.mp hx with rfl
 exact lH
theorem ED (hy:32 ∉ y.cps.toList) (hl:y.length<=10) (ht:t < 10 ^ 30) (hb:b < 10 ^ 30):cW (.str (Rt t b++(" ":Str)++y)) (.str " ")=some (.lst [.str (Rt t b),.str y]):=by
 have l:=ou ht hb;rw [blank];refine de (ts:=[Rt t b,y]) (by simp) (λ x hx=>?_) ?_ ?_
 ·simp only [Zd,Zq,Z9] at hx
  rcases hx with rfl | rfl
  · exact lH
  · exact hy
 ·rw [aY,aY]
  show _=(Rt t b).cps.toList++32::y.cps.toList;simp
 ·rw [U1,U1]
  show (Rt t b).length+1+y.length<=_;omega
def OW:(Str.cps " of ").toList=[32,111,102,32]:=by rfl
def DB:(Str.cps "of").toList=[111,102]:=by rfl
theorem Ax:∀ q ∈ P9,32 ∉ q.cps.toList:=by decide +kernel
theorem C1 (hq:q ∈ P9) (ht:t < 10 ^ 30) (hb:b < 10 ^ 30):cW (.str (Rt t b++(" of ":Str)++q)) (.str " ")=some (.lst [.str (Rt t b),.str "of",.str q]):=by
 have l:=ou ht hb;have l2:=t8 q hq;rw [blank];refine de (ts:=[Rt t b,"of",q]) (by simp) (λ x hx=>?_) ?_ ?_
 ·simp only [Zd,Zq,Z9] at hx
  rcases hx with rfl | rfl | rfl
  · exact lH
  · rw [DB]; decide
  · exact Ax _ hq
 ·rw [aY,aY,OW]
  show _=(Rt t b).cps.toList++32::((Str.cps "of").toList++32::q.cps.toList);rw [DB];simp
 ·rw [U1,U1,lo]
  omega
theorem part_free:32 ∉ (Str.cps "part").toList:=by decide +kernel
theorem lE:32 ∉ (Str.cps "times").toList:=by decide +kernel
theorem HG (ht:t < 10 ^ 30) (hb:b < 10 ^ 30) (hy:y.length<=10) (hz:z.length<=10):(Rt t b++y++z).length<=100:=by
 have l:=ou ht hb;rw [U1,U1];omega
def yM (h:q ∈ P9):nG (.str q) jR=some (.bl true):=by
 refine (nU q P9).trans ?_
 rw [Ze h]
def Rm (x y z:Str):x++y++z=x++(y++z):=by
 apply ext;rw [aY,aY,aY,aY,Z5]
theorem iy {v:Vw} (h:v.ok 30):fN [.str v.text]=some (.shr (jS v.its)):=by
 unfold fN iW; dsimp only
 refine bF ?_
 cases v with
 | hand=>exact aV (aw (ar (ao rfl) (bf (ah Uf (ah Uf av)) (by decide)) rfl)) (aD (bf (ah (ao rfl) av) (Zb rfl)))
 | start=>exact aV (aw (ar (ao rfl) (bf (ah Uf (ah Uf av)) (by decide)) rfl)) (aD (bf (ah (ao rfl) av) (Zb rfl)))
 | word s=>
  have hl:s.length<=100:=by
   have:=h.1;unfold a7 at this;rw [Zg,Zg] at this;have:=Zu this.1.2;omega
  refine az (aw ((ar (ao rfl) (bf (ah Uf (ah Uf av)) (by decide)) (nU s ["hand","start"])).trans (by rw [Zc h.2]))) ?_
  exact aV (aw (br (ah (ao rfl) av) ((iG s hl).trans (by rw [h.1])) rfl)) (aD (bf (ah Uf (ah (ao rfl) av)) (Zb rfl)))
 | num t b=>
  obtain ⟨ht,hb,b0⟩:=h;refine Dm (by have:=ou ht hb; omega) xW rfl ?_
  refine aR (aI (U3 rfl (JK ht hb))) ?_
  refine aR (aI (br (ah (U3 rfl (cq _ _)) av) (cz ht hb b0) rfl)) ?_
  exact aV (aw (ar (aS (ah (ao rfl) av) rfl) Uf rfl)) (aD (bf (ah Uf (ah (U3 rfl (bx _ _)) (ah (U3 rfl (b5 _ _ _)) av))) (Zb rfl)))
 | part t b=>
  obtain ⟨ht,hb,b0⟩:=h;refine Dm (HG ht hb (by rw [lb]; omega) (by rw [lp]; omega)) (by rw [Rm]; exact wy _) rfl ?_
  refine aR (aI (U3 rfl (ED part_free (by rw [lp]; omega) ht hb))) ?_
  refine aR (aI (br (ah (U3 rfl (cq _ _)) av) (cz ht hb b0) rfl)) ?_
  refine az (aw (ar (aS (ah (ao rfl) av) rfl) Uf rfl)) ?_
  exact aV (jH (b:=true) (aw (ar (aS (ah (ao rfl) av) rfl) Uf rfl)) (aw (ar (U3 rfl (eQ _ _ _)) (bf (ah Uf (ah Uf av)) (by decide)) rfl))) (aD (bf (ah (U3 rfl (eQ _ _ _)) (ah (U3 rfl (bx _ _)) (ah (U3 rfl (b5 _ _ _)) av))) (Zb rfl)))
 | times t b=>
  obtain ⟨ht,hb,b0⟩:=h;refine Dm (HG ht hb (by rw [lb]; omega) (by rw [lt]; omega)) (by rw [Rm]; exact wy _) rfl ?_
  refine aR (aI (U3 rfl (ED lE (by rw [lt]; omega) ht hb))) ?_
  refine aR (aI (br (ah (U3 rfl (cq _ _)) av) (cz ht hb b0) rfl)) ?_
  refine az (aw (ar (aS (ah (ao rfl) av) rfl) Uf rfl)) ?_
  exact aV (jH (b:=true) (c:=true) (aw (ar (aS (ah (ao rfl) av) rfl) Uf rfl)) (aw (ar (U3 rfl (eQ _ _ _)) (bf (ah Uf (ah Uf av)) (by decide)) rfl))) (aD (bf (ah (U3 rfl (eQ _ _ _)) (ah (U3 rfl (bx _ _)) (ah (U3 rfl (b5 _ _ _)) av))) (Zb rfl)))
 | of q t b=>
  obtain ⟨⟨ht,hb,b0⟩,hq⟩:=h;refine Dm (HG ht hb (by rw [lo]; omega) (by have:=t8 q hq; omega)) (by rw [Rm]; exact wy _) rfl ?_
  refine aR (aI (U3 rfl (C1 hq ht hb))) ?_
  refine aR (aI (br (ah (U3 rfl (cq _ _)) av) (cz ht hb b0) rfl)) ?_
  refine az (aw (ar (aS (ah (ao rfl) av) rfl) Uf rfl)) ?_
  refine az (og (aw (ar (aS (ah (ao rfl) av) rfl) Uf rfl)) (λ z=>nomatch z) λ _=>rfl) ?_
  exact aV (jH (b:=true) (c:=true) (aw (ar (aS (ah (ao rfl) av) rfl) Uf rfl)) (jH (b:=true) (c:=true) (aw (ar (U3 rfl (eQ _ _ _)) Uf rfl)) (aw (ar (U3 rfl (vg _ _ _ _)) Uf (yM hq))))) (aD (bf (ah Uf (ah (U3 rfl (vg _ _ _ _)) (ah (U3 rfl (bx _ _)) (ah (U3 rfl (b5 _ _ _)) av)))) (Zb rfl)))
end N50
end
local macro_rules | `(tactic| walk_at "ee")=>`(tactic| first
 | with_reducible assumption
 | with_reducible exact L2.Uf
 | ((with_reducible apply L2.ao); exact rfl)
 | with_reducible exact L2.av
 | ((with_reducible apply L2.ah) <;> walk_at "ee")
 | ((with_reducible apply L2.ar) <;> walk_at "ee")
 | ((with_reducible apply L2.bf) <;> walk_at "ee")
 | ((with_reducible apply L2.fb) <;> walk_at "ee")
 | ((with_reducible apply e_fld) <;> walk_at "ee")
 | ((with_reducible apply L2.sO) <;> walk_at "ee")
 | ((with_reducible apply L2.aS) <;> walk_at "ee")
 | ((with_reducible apply L2.br) <;> walk_at "ee")
 | ((with_reducible apply e_make) <;> walk_at "ee")
 | ((with_reducible apply e_meth) <;> walk_at "ee")
 | ((with_reducible apply L2.aw) <;> walk_at "ee")
 | ((with_reducible apply L2.cx) <;> walk_at "ee")
 | with_reducible exact L2.kI
 | ((with_reducible apply L2.be) <;> walk_at "ee")
 | ((with_reducible apply L2.CJ) <;> walk_at "ee")
 | ((with_reducible apply L2.jH) <;> walk_at "ee")
 | ((with_reducible apply L2.dU) <;> walk_at "ee")
 | ((with_reducible apply L2.ib) <;> walk_at "ee")
 | ((with_reducible apply L2.BL) <;> walk_at "ee")
 | ((with_reducible apply L2.BN) <;> walk_at "ee")
 | with_reducible exact L2.zQ _
 | with_reducible exact slD_own _
 | with_reducible exact L2.bx _ _
 | with_reducible exact L2.b5 _ _ _
 | with_reducible exact L2.eh _ _ _ _
 | with_reducible exact L2.a8 _ _
 | with_reducible exact L2.jv _ _
 | with_reducible exact L2.bp _ _
 | with_reducible exact L2.sq _ _
 | with_reducible exact L2.e9 _ _
 | with_reducible exact L2.cj _ _
 | with_reducible exact L2.cB _ _
 | with_reducible exact L2.aO (by decide)
 | with_reducible exact L2.bL (by decide) (by decide +kernel)
 | with_reducible exact L2.AO (by decide) (by decide)
 | with_reducible exact L2.qU (by decide) (by decide)
 | with_reducible exact L2.cq _ _
 | with_reducible exact L2.eQ _ _ _
 | with_reducible exact L2.vg _ _ _ _
 | exact rfl
 | exact Zb rfl
 | skip)
section
namespace N50
open PySem L2 PF
def scr (ns:List Int):D:=.fz (ns.map .int)
def HF (ns:List Int):jD [scr ns]=some (.int ns.length):=by
 show some (D.int ((ns.map D.int).length:Nat))=_;rw [Zk]
def LG (h0:0<=j) (h1:j < ns.length):∃ c:Int,oIx (scr ns) (.int j)=some (.int c):=by
 obtain ⟨h,e⟩:=Cu (xs:=ns.map D.int) h0 (by rw [Zk]; exact h1);refine ⟨ns[j.toNat]'(by rw [Zk] at h; exact h),?_⟩;show atI (ns.map D.int) j=_;rw [e,List.getElem_map]
theorem lL (c:Int) (w0:0<=w) (w1:w<=10000):∃ r,jC [.int c,.int w]=some (.shr (.int r))/\0<=r/\r < 1000003:=by
 have m0:=Xj ((c * 48271+w * 7919) % 2147483647 * (16807+2 * w)) (b:=1000003) (by decide);have m1:=Y8 ((c * 48271+w * 7919) % 2147483647 * (16807+2 * w)) (b:=1000003) (by decide);have e1:=AO (i:=(c * 48271+w * 7919) % 2147483647) (j:=16807+2 * w) (by omega) (by omega);refine ⟨_,?_,m0,m1⟩
 skip
 refine bF ?_
 refine aR (aI (by walk_at "ee")) ?_
 exact aD (by walk_at "ee")
def Ce (ns:List Int) (k0:0<=k):∃ c:Int,qo [scr ns,.int k]=some (.shr (.int c)):=by
 have hl:=HF ns;have t:=e9 k (ns.length:Int)
 skip
 by_cases h:k < (ns.length:Int)
 ·obtain ⟨c,hc⟩:=LG k0 h
  rw [Ze h] at t;refine ⟨c,bF ?_⟩;exact aV (by walk_at "ee") (aD (by walk_at "ee"))
 ·rw [Zc h] at t
  refine ⟨0,bF ?_⟩;show fu _ _ [.shr (scr ns),.shr (.int k)]=_;exact az (by walk_at "ee") (aD Uf)
def LET:Str:="abcdefghijklmnopqrstuvwxyz"
def okS (x:Str):Bool:=x.cps.all lower
def One (z:Str):Prop:=z.length=1/\okS z=true
def HE:LET.cps.toList.length=26:=by rfl
theorem FJ:∀ c ∈ LET.cps.toList,lower c=true:=by decide +kernel
theorem FK (k0:0<=k) (k1:k < 26):∃ z:Str,oIx (.str LET) (.int k)=some (.str z)/\One z:=by
 obtain ⟨h,e⟩:=Cu k0 (by rw [HE]; omega);refine ⟨⟨#[LET.cps.toList[k.toNat]]⟩,?_,rfl,?_⟩
 ·show (if LET.length<=100000 then (atI LET.cps.toList k).map _ else none)=_
  rw [if_pos (by decide +kernel),e];rfl
 ·unfold okS
  rw [Y5];intro c hc;have e:c=LET.cps.toList[k.toNat]:=by simpa using hc
  rw [e];exact FJ _ (List.getElem_mem h)
theorem strs_map:∀ ts:List Str,L2.yw (ts.map .str)=some ts
 | []=>rfl
 | t::ts=>by
  show (L2.yw (ts.map .str)).map _=_;rw [strs_map ts]; rfl
theorem ur:∀ {ds:List D},(∀ d ∈ ds,∃ z:Str,gg d=some (.str z)/\One z)->∃ ts:List Str,vn gg ds=some (ts.map .str)/\ts.length=ds.length/\∀ z ∈ ts,One z
 | [],_=>⟨[],rfl,rfl,λ q hq=>nomatch hq⟩
 | d::ds,h=>by
  obtain ⟨q,e1,p1⟩:=h d (Zp ..);obtain ⟨qs,e2,l2,p2⟩:=ur (gg:=gg) (ds:=ds) λ x hx=>h x (Za _ hx)
  refine ⟨q::qs,by simp only [vn,e1,e2]; rfl,by simp [l2],λ x hx=>?_⟩;rcases Zd.mp hx with rfl | hx
  · exact p1
  · exact p2 x hx
theorem w9:∀ {ts:List Str},(∀ z ∈ ts,One z)->(ts.map (·.length)).sum=ts.length
 | [],_=>rfl
 | t::ts,h=>by
  rw [Zz,List.sum_cons,(h t (Zp ..)).1,w9 λ z hz=>h z (Za _ hz),Zi];omega
theorem vG (h:d ∈ yC 0 n):∃ j:Nat,j < n/\d=.int (j:Int):=by
 obtain ⟨j,hj⟩:=List.getElem?_of_mem h;obtain ⟨e,l⟩:=rX hj;exact ⟨j,l,by rw [e]; congr 1; omega⟩
theorem AF {x y:Array Nat} (hx:x.all (lower)=true) (hy:y.all (lower)=true):(x++y).all (lower)=true:=by grind
theorem BB:∀ (ts:List Str) (a:Array Nat),(∀ z ∈ ts,One z)->a.all (lower)=true->(ts.foldl (λ acc p=>acc++(Str.cps "")++p.cps) a).size=a.size+ts.length/\(ts.foldl (λ acc p=>acc++(Str.cps "")++p.cps) a).all (lower)=true
 | [],a,_,h=>⟨rfl,h⟩
 | t::ts,a,h,ha=>by
  have h1:=h t (Zp ..);have h0:(Str.cps "").size=0:=by decide +kernel
  have h1':t.cps.size=1:=h1.1;obtain ⟨e1,e2⟩:=BB ts (a++(Str.cps "")++t.cps) (λ z hz=>h z (Za _ hz)) (AF (AF ha (by decide +kernel)) h1.2);refine ⟨?_,e2⟩;rw [List.foldl_cons,e1,Array.size_append,Array.size_append,h1',h0,Zi];omega
theorem HI (h:∀ z ∈ ts,One z) (n:ts≠[]):(Txt.join "" ts).length=ts.length/\okS (Txt.join "" ts)=true:=by
 match ts,n with
 | t::ts,_=>
  have h1:=h t (Zp ..);have h1':t.cps.size=1:=h1.1;obtain ⟨e1,e2⟩:=BB ts t.cps (λ z hz=>h z (Za _ hz)) h1.2;refine ⟨?_,e2⟩;show (ts.foldl (λ acc p=>acc++(Str.cps "")++p.cps) t.cps).size=_;rw [e1,h1',Zi];omega
def xZ (h1:f τ=some (.str z)) (h2:g τ=some (.lst (ts.map .str))) (h3:(ts.map (·.length)).sum+ts.length * z.length<=100000):Ec f g τ=some (.str (Txt.join z ts)):=by
 unfold Ec;rw [h1];rw [h2];show (L2.yw (ts.map .str)).bind _=_;rw [strs_map];exact if_pos h3
theorem AW (c:Int) (w0:0<=w) (w1:w<=1000):∃ z:Str,fo [.int c,.int w]=some (.shr (.str z))/\a7 z=true:=by
 unfold fo kF; dsimp only
 obtain ⟨r,er,r0,r1⟩:=lL c (w:=w+3) (by omega) (by omega)
 obtain ⟨ts,ets,lts,ots⟩:=ur (gg:=λ d=>dOp oIx (aM 1) (dOp oMod (dFn jC (aG (aM 2) (aG (dOp jE (aM 3) (dOp DK (dC (.int 5)) (aM 0))) bR))) (dC (.int 26))) [.shr d,.shr (.str LET),.shr (.int c),.shr (.int w)]) (ds:=yC 0 (Int.toNat (1+r % 8))) (by
  intro d hm;obtain ⟨j,hj,rfl⟩:=vG hm;obtain ⟨q,eq,q0,q1⟩:=lL c (w:=w+5 * (j:Int)) (by omega) (by omega);obtain ⟨z,ez,lz⟩:=FK (Xj _ (by decide)) (Y8 _ (by decide))
  exact ⟨z,by walk_at "ee",lz⟩)
 rw [iw] at lts;have ne:ts≠[]:=λ z=>by rw [z] at lts; simp at lts; omega
 obtain ⟨jl,jo⟩:=HI ots ne
 have nk:a7 (Txt.join "" ts)=true:=by
  unfold a7
  have jo':(Txt.join "" ts).cps.toList.all lower=true:=by
   rw [Array.all_toList];exact jo
  rw [Ze (by omega),Ze (by omega),jo'];rfl
 refine ⟨Txt.join "" ts,?_,nk⟩
 skip
 refine bF ?_
 refine aR (aI Uf) ?_
 refine aR (aI (by walk_at "ee")) ?_
 exact aD (xZ Uf (gq (yN rfl (by omega)) (by rw [iw]; omega) ets) (by rw [w9 ots,show Str.length ""=0 by decide +kernel]; omega))
def LI {ds:List D} {P:D->Prop} (h:∀ d ∈ ds,P d) {j:Int} (h0:0<=j) (h1:j < ds.length):∃ d,oIx (.lst ds) (.int j)=some d/\P d:=by
 obtain ⟨q,e⟩:=Cu h0 h1;exact ⟨_,e,h _ (List.getElem_mem q)⟩
def jL {xs:List Str} {P:Str->Prop} (h:∀ x ∈ xs,P x) {j:Int} (h0:0<=j) (h1:j < xs.length):∃ x,oIx (.lst (xs.map .str)) (.int j)=some (.str x)/\P x:=by
 obtain ⟨d,e,x,rfl,hx⟩:=LI (P:=λ d=>∃ x,d=.str x/\P x) (λ d m=>by
  obtain ⟨x,hx,rfl⟩:=Xn.mp m
  exact ⟨x,rfl,h x hx⟩) h0 (by rw [Zk]; exact h1)
 exact ⟨x,e,hx⟩
theorem em0 (r:Int) (h:0 < k):0<=r % k:=Xj _ (by omega)
def em1 (r:Int) (h:0 < k):r % k < k:=Y8 _ h
def N8 (e:p.1=k):gX (p::r) k=some p.2:=by simp [gX,e]
def N9 (e:¬ p.1=k):gX (p::r) k=gX r k:=by simp [gX,e]
def qv (p:Str):gX ((.inr q,d)::r) (.inr p)=if p=q then some d else gX r (.inr p):=by
 by_cases h:p=q
 · rw [if_pos h]; exact N8 (by rw [h])
 · rw [if_neg h]; exact N9 λ z=>h (by injection z with z; exact z.symm)
def lw:List (Key×D):=[(.inr "wide",.lst [.str "auto"]),(.inr "most",.lst [.str "none"]),(.inr "flow",.lst [.str "stack",.str "row",.str "wrap",.str "fair"]),(.inr "spread",.lst [.str "left",.str "middle",.str "right",.str "apart"]),(.inr "stand",.lst [.str "top",.str "middle",.str "bottom",.str "full"])]
def yE:dOp KA (dC (.int 10)) (dC (.int 30)) τ=some (.int (10 ^ 30)):=by rfl
def props:List Str:=["ink","size","wide","least","most","grow","shrink","gap","pad","tall","flow","spread","stand"]
def oH:fQ []=some (.shr (.lst (props.map .str))):=rfl
theorem nine (h0:0<=r) (h1:r < 9):∃ q ∈ P9,oIx (.lst (props.map .str)) (.int (1+r))=some (.str q):=by
 have c:r=0\/r=1\/r=2\/r=3\/r=4\/r=5\/r=6\/r=7\/r=8:=by omega
 rcases c with rfl | rfl | rfl | rfl | rfl | rfl | rfl | rfl | rfl
 · exact ⟨"size",by decide +kernel,rfl⟩
 · exact ⟨"wide",by decide +kernel,rfl⟩
 · exact ⟨"least",by decide +kernel,rfl⟩
 · exact ⟨"most",by decide +kernel,rfl⟩
 · exact ⟨"grow",by decide +kernel,rfl⟩
 · exact ⟨"shrink",by decide +kernel,rfl⟩
 · exact ⟨"gap",by decide +kernel,rfl⟩
 · exact ⟨"pad",by decide +kernel,rfl⟩
 · exact ⟨"tall",by decide +kernel,rfl⟩
def wl (p:Str):Option (List Str):=if p="wide" then some ["auto"] else if p="most" then some ["none"] else if p="flow" then some ["stack","row","wrap","fair"] else if p="spread" then some ["left","middle","right","apart"] else if p="stand" then some ["top","middle","bottom","full"] else none
def HB (p:Str):gX lw (.inr p)=(wl p).map λ ws=>.lst (ws.map .str):=by
 have e:gX lw (.inr p)=if p="wide" then some (.lst [.str "auto"]) else if p="most" then some (.lst [.str "none"]) else if p="flow" then some (.lst [.str "stack",.str "row",.str "wrap",.str "fair"]) else if p="spread" then some (.lst [.str "left",.str "middle",.str "right",.str "apart"]) else if p="stand" then some (.lst [.str "top",.str "middle",.str "bottom",.str "full"]) else none:=by
  refine (qv p).trans ?_
  refine We rfl (λ _=>rfl) λ _=>(qv p).trans ?_
  refine We rfl (λ _=>rfl) λ _=>(qv p).trans ?_
  refine We rfl (λ _=>rfl) λ _=>(qv p).trans ?_
  refine We rfl (λ _=>rfl) λ _=>(qv p).trans ?_
  exact We rfl (λ _=>rfl) λ _=>rfl
 rw [e];unfold wl;split
 · rfl
 split
 · rfl
 split
 · rfl
 split
 · rfl
 split
 · rfl
 · rfl
def rq (x:Str):Prop:=a7 x=true/\x ∉ (["hand","start"]:List Str)
def wok (l:List Str) (h:(l.all λ x=>a7 x&&!decide (x ∈ (["hand","start"]:List Str)))=true):∀ x ∈ l,rq x:=λ x hx=>by
 have:=(Yi.mp h) x hx;rw [Zg,Z7] at this;exact ⟨this.1,Z0 this.2⟩
theorem N6 (h:wl p=some ws):(∀ x ∈ ws,rq x)/\0 < ws.length/\ws.length<=4:=by
 unfold wl at h;split at h
 · cases h; exact ⟨wok _ (by decide +kernel),by decide,by decide⟩
 split at h
 · cases h; exact ⟨wok _ (by decide +kernel),by decide,by decide⟩
 split at h
 · cases h; exact ⟨wok _ (by decide +kernel),by decide,by decide⟩
 split at h
 · cases h; exact ⟨wok _ (by decide +kernel),by decide,by decide⟩
 split at h
 · cases h; exact ⟨wok _ (by decide +kernel),by decide,by decide⟩
 · cases h
theorem CP (h:p ∈ (["flow","spread","stand"]:List Str)):∃ ws,wl p=some ws:=by
 simp only [Zd,Zq,Z9] at h;rcases h with rfl | rfl | rfl
 · exact ⟨["stack","row","wrap","fair"],by decide +kernel⟩
 · exact ⟨["left","middle","right","apart"],by decide +kernel⟩
 · exact ⟨["top","middle","bottom","full"],by decide +kernel⟩
theorem Cy (h:l.length+m.length<=1000):Hg (jS l) (jS m)=some (jS (l++m)):=by
 show (if (l.map It.D).length+(m.map It.D).length<=100000 then _ else none)=_;rw [if_pos (by rw [Zk,Zk]; omega)];unfold jS;rw [Yu]
def VP (p:Str):Vw->Prop
 | .hand=>True
 | .start=>True
 | .word x=>p="ink"\/∃ ws,wl p=some ws/\x ∈ ws
 | .num _ _=>p ∈ P9
 | .part _ _=>p ∈ (["wide","least","most"]:List Str)
 | .times _ _=>p ∈ P9
 | .of _ _ _=>p ∈ P9
theorem Oc:∀ p ∈ props,p≠"ink"->p ∉ (["flow","spread","stand"]:List Str)->p ∈ P9:=by decide +kernel
def Mm (p:Str) (d:D):Prop:=∃ v:Vw,d=jS v.its/\v.ok 30/\VP p v
def iF (h:0<=x):∃ n:Nat,x=(n:Int):=Int.eq_ofNat_of_zero_le h
theorem Hh (hp:p ∈ props) (c1 c2:Int) (w0:0<=w) (w1:w<=900):∃ d,jm [.str p,.int c1,.int c2,.int w]=some (.shr d)/\Mm p d:=by
 obtain ⟨m,em,m0,m1⟩:=lL c1 w0 (by omega);refine qF ?_
 refine dD (aI (br (ah e_v (ah e_v av)) em rfl)) ?_
 have md:∀ {τ:List Sl} {k:Int},0 < k->τ[4]?=some (.shr (.int m))->dOp oMod (aM 4) (dC (.int k)) τ=some (.int (m % k)):=λ hk e=>ar (ao e) Uf (aO hk)
 have dm:∀ {τ:List Sl} {j k:Int},0 < j->Sz j->0 < k->τ[4]?=some (.shr (.int m))->dOp oMod (dOp oDiv (aM 4) (dC (.int j))) (dC (.int k)) τ=some (.int (m / j % k)):=λ hj sj hk e=>ar (ar (ao e) Uf (bL hj sj)) Uf (aO hk)
 refine vk (aw (ar (md (by decide) rfl) Uf (e9 _ _))) (λ _=>?_) (λ _=>?_)
 ·obtain ⟨x,ex,ox⟩:=jL (xs:=["hand","start"]) (λ x hx=>by simpa using hx) (em0 _ (by decide)) (em1 _ (by decide))
  refine mr (bf (ah (ar (fb (ah Uf (ah Uf av)) (by decide)) (md (by decide) rfl) ex) av) (Zb rfl)) ?_
  rcases ox with rfl | rfl
  · exact ⟨.hand,rfl,trivial,trivial⟩
  · exact ⟨.start,rfl,trivial,trivial⟩
 refine vk (aw (ar e_v Uf (cj _ _))) (λ hi=>?_) (λ hni=>?_)
 ·obtain ⟨z,ez,nz⟩:=AW c2 (w:=w+1) (by omega) (by omega)
  have hl:dFn fo (aG (aM 2) (aG (dOp jE (aM 3) (dC (.int 1))) bR)) [.shr (.str p),.shr (.int c1),.shr (.int c2),.shr (.int w),.shr (.int m),.no,.no,.no]=some (.str z):=br (ah e_v (ah (ar e_v Uf (a8 _ _)) av)) ez rfl
  obtain ⟨y,ey,oy⟩:∃ y:Str,dIf (dT (dOp nG (aM 5) (mM (aG (dC (.str "hand")) (aG (dC (.str "start")) bR))))) (dC (.str "of")) (aM 5) [.shr (.str p),.shr (.int c1),.shr (.int c2),.shr (.int w),.shr (.int m),.shr (.str z),.no,.no]=some (.str y)/\rq y:=by
   by_cases hz:z ∈ (["hand","start"]:List Str)
   · exact ⟨"of",CK (b:=true) (aw ((ar e_v (bf (ah Uf (ah Uf av)) (by decide)) (nU z ["hand","start"])).trans (by rw [Ze hz]))) (λ _=>Uf) (λ z=>nomatch z),by decide +kernel,by decide +kernel⟩
   · exact ⟨z,CK (b:=false) (aw ((ar e_v (bf (ah Uf (ah Uf av)) (by decide)) (nU z ["hand","start"])).trans (by rw [Zc hz]))) (λ z=>nomatch z) (λ _=>ao rfl),nz,hz⟩
  obtain ⟨d,e,pd⟩:Ret (Mm p) (fu (mo 5 (dFn fo (aG (aM 2) (aG (dOp jE (aM 3) (dC (.int 1))) bR)))) (nD (mM (aG (dC (.str "word")) (aG (dIf (dT (dOp nG (aM 5) (mM (aG (dC (.str "hand")) (aG (dC (.str "start")) bR))))) (dC (.str "of")) (aM 5)) bR)))) [.shr (.str p),.shr (.int c1),.shr (.int c2),.shr (.int w),.shr (.int m),.no,.no,.no]):=
   dD (aI hl) (rY (bf (ah Uf (ah ey av)) (Zb rfl)) ⟨.word y,rfl,⟨oy.1,oy.2⟩,.inl (Zu hi)⟩)
  exact ⟨d,kQ e,pd⟩
 refine dD (iu (by rfl) (Zb rfl)) ?_
 refine dD (xf (by rfl) (by rfl) rfl rfl (by decide)) ?_
 refine dD (xf (by rfl) (by rfl) rfl rfl (by decide)) ?_
 have din:KH (.str p) (.dct lw)=some (.bl (wl p).isSome):=by
  show some (D.bl (gX lw (.inr p)).isSome)=_;rw [HB,Option.isSome_map]
 refine vk (rP rfl (dU (aw (ar e_v (bf (ah Uf (ah Uf (ah Uf av))) (by decide)) (nU p ["flow","spread","stand"]))) (jH (aw (ar e_v e_v din)) (aw (ar (md (by decide) rfl) Uf (bp _ _)))))) (λ q=>?_) (λ nq=>?_)
 ·have hw:∃ ws,wl p=some ws:=by
   rw [Xi,Zg] at q;rcases q with q | q
   · exact CP (Zu q)
   · exact Yw.mp q.1
  obtain ⟨ws,hw⟩:=hw;obtain ⟨w1,w2,w3⟩:=N6 hw
  have dg:yH (.dct lw) (.str p)=some (.lst (ws.map .str)):=by
   show gX lw (.inr p)=_;rw [HB,hw];rfl
  have el:jD [.lst (ws.map .str)]=some (.int (ws.length:Int)):=by
   show some (D.int (List.length _:Int))=_;rw [Zk]
  obtain ⟨x,ex,ox,mx⟩:=jL (P:=λ x=>rq x/\x ∈ ws) (λ x hx=>⟨w1 x hx,hx⟩) (em0 _ (by omega)) (em1 _ (by omega))
  have e:IS 6 (nD (mM (aG (dC (.str "word")) (aG (dOp oIx (dOp yH (aM 6) (aM 0)) (dOp oMod (dOp oDiv (aM 4) (dC (.int 7))) (ej jD (aG (dOp yH (aM 6) (aM 0)) bR)))) bR)))) [.shr (.str p),.shr (.int c1),.shr (.int c2),.shr (.int w),.shr (.int m),.no,.own (.dct lw),.no]=some (.ret (.shr (jS [.s "word",.s x]))):=
   oq rfl (aD (bf (ah Uf (ah (ar (ar e_v e_v dg) (ar (ar e_v Uf (bL (by decide) (by decide +kernel))) (aS (ah (ar e_v e_v dg) av) el) (aO (by omega))) ex) av)) (Zb rfl)))
  exact ⟨_,kQ e,.word x,rfl,ox,.inr ⟨ws,hw,mx⟩⟩
 rw [Bool.or_eq_false_iff] at nq;have h9:=Oc p hp (Z0 hni) (Z0 nq.1);obtain ⟨t1,ht1⟩:=iF (em0 c1 (k:=10 ^ 30) (by decide));obtain ⟨b1,hb1⟩:=iF (em0 c2 (k:=10 ^ 30 - 1) (by decide));have tn:t1 < 10 ^ 30:=by omega
 have bn:b1+1 < 10 ^ 30:=by omega
 have pw1:∀ {τ:List Sl},dOp E4 (dOp KA (dC (.int 10)) (dC (.int 30))) (dC (.int 1)) τ=some (.int (10 ^ 30 - 1)):=ar yE Uf rfl
 refine dD (aI (d:=jS [.i t1,.i ((b1+1:Nat):Int)]) (bf (ah (ar e_v yE ((aO (by decide)).trans (by rw [ht1]; rfl))) (ah (ar Uf (ar e_v pw1 (aO (by decide))) ((a8 _ _).trans (by rw [hb1,show (1:Int)+(b1:Int)=((b1+1:Nat):Int) by omega]; rfl))) av)) (Zb rfl))) ?_
 refine CG (R:=λ τ=>∃ t b:Nat,Rz 30 t b/\τ=[.shr (.str p),.shr (.int c1),.shr (.int c2),.shr (.int w),.shr (.int m),.no,.own (.dct lw),.shr (jS [.i t,.i b])]) (E7 (aw (ar (dm (by decide) (by decide +kernel) (by decide) rfl) Uf (bp _ _))) (λ _=>?_) (λ _=>qV ⟨t1,b1+1,⟨tn,bn,by omega⟩,rfl⟩)) ?_
 ·obtain ⟨t2,ht2⟩:=iF (em0 (m / 21) (k:=12) (by decide))
  obtain ⟨b2,hb2⟩:=iF (em0 (m / 252) (k:=4) (by decide));refine xF (aI (bf (ah ((dm (by decide) (by decide +kernel) (by decide) rfl).trans (by rw [ht2]; rfl)) (ah (ar Uf (dm (by decide) (by decide +kernel) (by decide) rfl) ((a8 _ _).trans (by rw [hb2,show (1:Int)+(b2:Int)=((b2+1:Nat):Int) by omega]; rfl))) av)) (Zb rfl))) ⟨t2,b2+1,⟨?_,?_,by omega⟩,rfl⟩
  · exact Zl (show t2 < 12 by omega) (by decide +kernel)
  · exact Zl (show b2+1 < 6 by omega) (by decide +kernel)
 rintro τ ⟨t,b,rz,rfl⟩
 refine vk (aw (ar (md (by decide) rfl) Uf (bp _ _))) (λ _=>?_) (λ _=>?_)
 ·obtain ⟨q,hq,eq⟩:=nine (em0 (m / 21) (by decide)) (em1 (m / 21) (k:=9) (by decide))
  exact mr (ar (bf (ah Uf (ah (ar (br av oH rfl) (ar Uf (dm (by decide) (by decide +kernel) (by decide) rfl) (a8 _ _)) eq) av)) (Zb rfl)) e_v (Cy (l:=[.s "of",.s q]) (by simp))) ⟨.of q t b,rfl,⟨rz,hq⟩,h9⟩
 refine vk (jH (aw (ar (md (by decide) rfl) Uf (bp _ _))) (aw (ar e_v (bf (ah Uf (ah Uf (ah Uf av))) (by decide)) (nU p ["wide","least","most"])))) (λ hw=>?_) (λ _=>?_)
 · exact mr (ar (bf (ah Uf av) (Zb rfl)) e_v (Cy (l:=[.s "part"]) (m:=[.i t,.i b]) (by simp))) ⟨.part t b,rfl,rz,(Zu (Bool.and_eq_true_iff.mp hw).2:p ∈ (["wide","least","most"]:List Str))⟩
 ·obtain ⟨x,ex,ox⟩:=jL (xs:=["number","times"]) (λ x hx=>by simpa using hx) (j:=m % 2) (em0 _ (by decide)) (em1 _ (by decide))
  refine rY (ar (bf (ah (ar (fb (ah Uf (ah Uf av)) (by decide)) (md (by decide) rfl) ex) av) (Zb rfl)) e_v (Cy (l:=[.s x]) (m:=[.i t,.i b]) (by simp))) ?_
  rcases ox with rfl | rfl
  · exact ⟨.num t b,rfl,rz,h9⟩
  · exact ⟨.times t b,rfl,rz,h9⟩
theorem yJ (h:a7 s=true):PyData.strOk s=true:=by
 unfold a7 at h;rw [Zg] at h;have h:=Yi.mp h.2;unfold PyData.strOk;rw [Y5];intro c hc;have:=h c (Array.mem_toList_iff.mpr hc);unfold lower at this;rw [Zg] at this;have:=Zu this.2;exact Ze (by omega)
theorem OM:∀ q ∈ P9,PyData.strOk q=true:=by decide +kernel
def AE (x:Str) (hx:PyData.strOk x=true) (a b:Int):okD 9 (.tup [.str x,.int a,.int b])=true:=by simp [okD,mv,hx]
theorem E3 {v:Vw} (h:v.ok 30):okD 9 (jS v.its)=true:=by
 cases v with
 | hand=>decide +kernel
 | start=>decide +kernel
 | word s=>
  show okD 9 (.tup [.str "word",.str s])=true;simp [okD,mv,yJ h.1,show PyData.strOk "word"=true by decide +kernel]
 | num t b=>exact AE _ (by decide +kernel) _ _
 | part t b=>exact AE _ (by decide +kernel) _ _
 | times t b=>exact AE _ (by decide +kernel) _ _
 | of q t b=>
  show okD 9 (.tup [.str "of",.str q,.int (t:Int),.int (b:Int)])=true;simp [okD,mv,OM q h.2,show PyData.strOk "of"=true by decide +kernel]
def AV (p:Str) (l:List Str):j4 (.str p) (.tup (l.map .str))=some (.bl (!decide (p ∈ l))):=by
 show ((inS (.str p) (l.map .str)).map λ b=>D.bl !b)=_;rw [sI];rfl
def zA (p:Str):(gX jq (.inr p)).getD (.tup [])=.tup (((wl p).getD []).map .str):=by
 have e:gX jq (.inr p)=if p="wide" then some (.tup [.str "auto"]) else if p="most" then some (.tup [.str "none"]) else if p="flow" then some (.tup [.str "stack",.str "row",.str "wrap",.str "fair"]) else if p="spread" then some (.tup [.str "left",.str "middle",.str "right",.str "apart"]) else if p="stand" then some (.tup [.str "top",.str "middle",.str "bottom",.str "full"]) else none:=by
  refine (qv p).trans ?_
  refine We rfl (λ _=>rfl) λ _=>(qv p).trans ?_
  refine We rfl (λ _=>rfl) λ _=>(qv p).trans ?_
  refine We rfl (λ _=>rfl) λ _=>(qv p).trans ?_
  refine We rfl (λ _=>rfl) λ _=>(qv p).trans ?_
  exact We rfl (λ _=>rfl) λ _=>rfl
 rw [e];unfold wl;split
 · rfl
 split
 · rfl
 split
 · rfl
 split
 · rfl
 split
 · rfl
 · rfl
theorem dh (h:a7 x=true):x.length<=8:=by
 unfold a7 at h;rw [Zg,Zg] at h;have:=Zu h.1.2;omega
def Bl {p x:Str} (hx:rq x) (h:p="ink"\/∃ ws,wl p=some ws/\x ∈ ws):qk [.str p,.str x]=some (.shr (.bl true)):=by
 refine bF ?_
 refine dZ (aw (ar e_v Uf (cj _ _))) (λ q=>?_) (λ q=>?_)
 ·refine aD ?_
  have e:=iG x (Zs (dh hx.1) (by decide));rw [hx.1] at e;have e2:=AV x ["hand","start"];rw [Zc hx.2] at e2;exact jF (br (ah e_v av) e rfl) (λ _=>ar e_v (bf (ah Uf (ah Uf av)) (by decide)) e2) nofun
 ·refine aD ?_
  rcases h with h | ⟨ws,hw,hm⟩
  · exact absurd h (Z0 q)
  have e:B0 jq (aM 0) (mM bR) (cF 2 [.str p,.str x])=some (.tup (ws.map .str)):=by
   show some ((gX jq (.inr p)).getD (.tup []))=_;rw [zA,hw];rfl
  have e2:=nU x ws;rw [Ze hm] at e2;exact ar e_v e e2
theorem iz (h:Rz 30 t b):l9 [.int (t:Int),.int (b:Int)]=some (.shr (.bl true)):=by
 unfold l9 lZ; dsimp only
 obtain ⟨ht,hb,b0⟩:=h;refine bF (az (IP (cx (aw (br (ah e_v av) (rF _) rfl))) (λ _=>cx (b:=true) (aw (br (ah e_v av) (rF _) rfl))) nofun) (aD ?_));have l0:oLe (.int 0) (.int (t:Int))=some (.bl true):=by show some (D.bl (decide _))=_; rw [Ze (by omega)]
 have l1:oLt (.int (t:Int)) (.int (10 ^ 30))=some (.bl true):=by rw [e9,Ze (by omega)]
 have l2:oLe (.int 1) (.int (b:Int))=some (.bl true):=by show some (D.bl (decide _))=_; rw [Ze (by omega)]
 have l3:oLt (.int (b:Int)) (.int (10 ^ 30))=some (.bl true):=by rw [e9,Ze (by omega)]
 exact jF (b:=true) (jF (b:=true) (ar Uf e_v l0) (λ _=>ar e_v yE l1) nofun) (λ _=>jF (b:=true) (ar Uf e_v l2) (λ _=>ar e_v yE l3) nofun) nofun
def BH (h:l≠[.s y]):eqB (.tup [.str y]) (jS l)=false:=xY λ z=>h (by
 have z':[D.str y]=l.map It.D:=by injection z
 match l,z' with
 | [],z'=>cases z'
 | [a],z'=>cases a with
  | s x=>cases z'; rfl
  | i n=>cases z'
 | _::_::_,z'=>exact absurd (Z8 List.length z') (by simp))
theorem Bq {v:Vw} (h:v.ok 30) (h1:v.its≠[.s "hand"]) (h2:v.its≠[.s "start"]):IV (jS v.its) (.tup [.tup [.str "hand"],.tup [.str "start"]])=some (.bl false):=by
 show (if okD 9 (jS v.its)=true/\mv 9 [.tup [.str "hand"],.tup [.str "start"]]=true then _ else none)=_;rw [if_pos ⟨E3 h,by decide +kernel⟩];show some (D.bl (eqB (.tup [.str "hand"]) (jS v.its)||(eqB (.tup [.str "start"]) (jS v.its)||false)))=_;rw [BH h1,BH h2];rfl
def xP {v:Vw} (h:v.ok 30) (h1:v.its=[.s "hand"]\/v.its=[.s "start"]):IV (jS v.its) (.tup [.tup [.str "hand"],.tup [.str "start"]])=some (.bl true):=by
 show (if okD 9 (jS v.its)=true/\mv 9 [.tup [.str "hand"],.tup [.str "start"]]=true then _ else none)=_;rw [if_pos ⟨E3 h,by decide +kernel⟩];show some (D.bl (eqB (.tup [.str "hand"]) (jS v.its)||(eqB (.tup [.str "start"]) (jS v.its)||false)))=_;rcases h1 with e | e <;> rw [e]
 · rw [show eqB (.tup [.str "hand"]) (jS [.s "hand"])=true from kZ _]; rfl
 · rw [show eqB (.tup [.str "start"]) (jS [.s "start"])=true from kZ _,Bool.true_or,Bool.or_true]
def two:mM (aG (mM (aG (dC (.str "hand")) bR)) (aG (mM (aG (dC (.str "start")) bR)) bR)) τ=some (.tup [.tup [.str "hand"],.tup [.str "start"]]):=by rfl
def nI (l:List It) (e:τ[1]?=some (.shr (jS l))) (hk:¬ (l.length:Int)=k):dT (dOp oEq (ej jD (aG (aM 1) bR)) (dC (.int k))) τ=some false:=aw ((ar (aS (ah (ao e) av) (Ls l)) Uf (bp _ _)).trans (by rw [Zc hk]))
def hG (l:List It) (e:τ[1]?=some (.shr (jS l))) (hk:(l.length:Int)=k):dT (dOp oEq (ej jD (aG (aM 1) bR)) (dC (.int k))) τ=some true:=aw ((ar (aS (ah (ao e) av) (Ls l)) Uf (bp _ _)).trans (by rw [Ze hk]))
def QW (h:p ∈ (["wide","least","most"]:List Str)):nG (.str p) nr=some (.bl true):=by
 have e:=nU p ["wide","least","most"];rw [Ze h] at e;exact e
def Gb {p:Str} {v:Vw} (hp:p ∈ props) (h:v.ok 30) (hv:VP p v):l8 [.str p,jS v.its]=some (.shr (.bl true)):=by
 have np:j4 (.str p) CF=some (.bl false):=by
  have e:=AV p props;rw [Ze hp] at e;exact e
 refine bF (az (aw (ar e_v Uf np)) ?_);have off:v.its≠[.s "hand"]->v.its≠[.s "start"]->dT (dOp IV (aM 1) (mM (aG (mM (aG (dC (.str "hand")) bR)) (aG (mM (aG (dC (.str "start")) bR)) bR)))) (cF 2 [.str p,jS v.its])=some false:=λ h1 h2=>aw (ar e_v two (Bq h h1 h2))
 have tt:∀ x:Str,(x="number"\/x="times")->nG (.str x) (.tup [.str "number",.str "times"])=some (.bl true):=λ x hx=>by
  have e:=nU x ["number","times"];rw [Ze (by rcases hx with rfl | rfl <;> simp)] at e;exact e
 cases v with
 | hand=>exact aV (aw (ar e_v two (xP h (.inl rfl)))) (aD Uf)
 | start=>exact aV (aw (ar e_v two (xP h (.inr rfl)))) (aD Uf)
 | word x=>
  refine az (off nofun nofun) ?_
  exact aV (gY (hG _ rfl rfl) (aw (ar (ar e_v Uf rfl) Uf rfl))) (aD (br (ah e_v (ah (ar e_v Uf rfl) av)) (Bl h hv) rfl))
 | num t b=>
  refine az (off nofun nofun) (az (gZ (nI _ rfl (by simp [Vw.its]))) ?_);exact aV (gY (hG _ rfl rfl) (aw (ar (ar e_v Uf rfl) (bf (ah Uf (ah Uf av)) (by decide)) (tt _ (.inl rfl))))) (aD (jF (ar e_v Uf (yM hv)) (λ _=>br (ah (ar e_v Uf rfl) (ah (ar e_v Uf rfl) av)) (iz h) rfl) nofun))
 | times t b=>
  refine az (off nofun nofun) (az (gZ (nI _ rfl (by simp [Vw.its]))) ?_);exact aV (gY (hG _ rfl rfl) (aw (ar (ar e_v Uf rfl) (bf (ah Uf (ah Uf av)) (by decide)) (tt _ (.inr rfl))))) (aD (jF (b:=true) (ar e_v Uf (yM hv)) (λ _=>br (ah (ar e_v Uf rfl) (ah (ar e_v Uf rfl) av)) (iz h) rfl) nofun))
 | part t b=>
  refine az (off nofun nofun) (az (gZ (nI _ rfl (by simp [Vw.its]))) (az (gY (hG _ rfl rfl) (aw (ar (ar e_v Uf rfl) (bf (ah Uf (ah Uf av)) (by decide)) rfl))) ?_));exact aV (gY (hG _ rfl rfl) (aw (ar (ar e_v Uf rfl) Uf rfl))) (aD (jF (b:=true) (ar e_v Uf (QW hv)) (λ _=>br (ah (ar e_v Uf rfl) (ah (ar e_v Uf rfl) av)) (iz h) rfl) nofun))
 | of q t b=>
  refine az (off nofun nofun) (az (gZ (nI _ rfl (by simp [Vw.its]))) (az (gZ (nI _ rfl (by simp [Vw.its]))) (az (gZ (nI _ rfl (by simp [Vw.its]))) ?_)));exact aV (gY (hG _ rfl rfl) (aw (ar (ar e_v Uf rfl) Uf rfl))) (aD (jF (b:=true) (ar e_v Uf (yM hv)) (λ _=>jF (b:=true) (ar (ar e_v Uf rfl) Uf (yM h.2)) (λ _=>br (ah (ar e_v Uf rfl) (ah (ar e_v Uf rfl) av)) (iz h.1) rfl) nofun) nofun))
def fV {τ:List Sl} {f:DE} {l u:DO} {z:Str} {lo hi:Option Int} (h1:f τ=some (.str z)) (h2:l τ=some lo) (h3:u τ=some hi) (h4:z.length<=100000):qJ f l u τ=some (.str (Txt.slice z lo hi)):=by
 unfold qJ;rw [h1];rw [h2];rw [h3];exact if_pos h4
theorem dW (z:Str) (hab:a<=b) (hb:b<=z.length) (e:Builtin.Str.strSliceIndices l u 1 z.length=Builtin.Str.strSliceIndices (some (a:Int)) (some (b:Int)) 1 z.length):(Txt.slice z l u).cps.toList=(z.cps.toList.drop a).take (b - a):=by
 have hl:z.cps.toList.length=z.length:=Array.length_toList;unfold Txt.slice;rw [e];split
 ·rename_i h
  rw [StrLaws.strSliceIndices_plain hab hb,Zk,List.length_range] at h;have h':b - a=z.length:=by simpa using h
  have ha:a=0:=by omega
  subst ha;rw [Xb,h',<- hl,Xw]
 ·show (List.filterMap _ _)=_
  exact StrLaws.sliced_plain z hab hb
theorem oj (z:Str) (h:2<=z.length):(Txt.slice z none (some (-2))).cps.toList=z.cps.toList.take (z.length - 2):=by
 have e:=dW z (b:=z.length - 2) (u:=some (-2)) (Ye _) (Nat.sub_le _ _) (by
  rw [PyProof.Rows.sliceIdx_hi_neg _ (by decide),Yp];congr 2
  omega)
 rw [e,Xb,Nat.sub_zero]
theorem pO (h:x.cps.toList=pre++y.cps.toList):Txt.endswith x y=true:=by
 have hl:x.length=pre.length+y.length:=by rw [<- aQ,h,Zh,aQ]
 unfold Txt.endswith;rw [Zg];refine ⟨Ze (by omega),?_⟩;rw [Y9,h,show x.length - y.length=pre.length by omega,List.drop_left,Y4 (by rw [aQ]; omega)];exact beq_self_eq_true _
theorem Av {x a b:Str} (hf:32 ∉ a.cps.toList) (e:x.cps.toList=a.cps.toList++32::b.cps.toList):gi x " "=[a," ",b]:=by
 have bl:(Str.cps " ").toList=[32]:=by decide +kernel
 have l1:Str.length " "=1:=by decide +kernel
 have hl:x.length=a.length+1+b.length:=by rw [<- aQ,e,Zh,Zi,aQ,aQ]; omega
 have at_:∀ i,StrLaws.At x " " x.length i↔x.cps.toList[i]?=some 32:=λ i=>by
  unfold StrLaws.At;rw [Y9,bl,l1];constructor
  ·rintro ⟨h1,h2⟩
   have e2:=eq_of_beq h2;have:=Z8 (λ l=>l[0]?) e2
   simpa using this
  ·intro h
   have lt:=(List.getElem?_eq_some_iff.mp h).1;rw [aQ] at lt;refine ⟨by omega,?_⟩
   have ed:List.drop i x.cps.toList=32::List.drop (i+1) x.cps.toList:=by
    rw [Yg (by rw [aQ]; exact lt),(List.getElem?_eq_some_iff.mp h).2]
   rw [ed];rfl
 have here:x.cps.toList[a.length]?=some 32:=by
  rw [e,List.getElem?_append_right (by rw [aQ]; exact Zo _),aQ,Nat.sub_self];rfl
 rcases Yz x " " with ⟨_,h⟩ | ⟨i,h,h1,h2⟩
 · exact absurd ((at_ _).mpr here) (h _)
 have ei:i=a.length:=by
  have c:=(at_ i).mp h1;rcases Nat.lt_trichotomy i a.length with z | z | z
  ·rw [e,List.getElem?_append_left (by rw [aQ]; exact z)] at c
   exact absurd (List.mem_of_getElem? c) hf
  · exact z
  · exact absurd ((at_ _).mpr here) (h2 _ z)
 unfold gi;rw [h];subst ei
 have s1:Builtin.Str.strSub x 0 a.length=a:=ext (by
  show (x.cps.extract 0 a.length).toList=_
  rw [Array.toList_extract,List.extract_eq_drop_take,Nat.sub_zero,Xb,e,<- aQ,Wa])
 have s2:Builtin.Str.strSub x (a.length+Str.length " ") x.length=b:=ext (by
  show (x.cps.extract (a.length+Str.length " ") x.length).toList=_;rw [Array.toList_extract,List.extract_eq_drop_take,l1,e,hl,<- aQ a,List.drop_append,List.drop_of_length_le (by omega),Yc,show a.cps.toList.length+1 - a.cps.toList.length=1 by omega];show List.take _ b.cps.toList=_
  exact Y4 (by rw [aQ]; omega))
 rw [s1,s2]
def RT0 (p:Str) (v:Vw):Str:=p++(" ":Str)++v.text
def RT (p:Str) (v:Vw) (b:Bool):Str:=if b=true then RT0 p v++(" !":Str) else RT0 p v
def Mp (p:Str) (v:Vw) (b:Bool):D:=.tup [.str p,jS v.its,.bl b]
theorem xn:∀ p ∈ props,p.length<=8/\32 ∉ p.cps.toList:=by decide +kernel
theorem CU {v:Vw} (h:v.ok 30):v.ok 300:=by
 have b:(10:Nat) ^ 30<=10 ^ 300:=by decide +kernel
 cases v with
 | hand=>trivial
 | start=>trivial
 | word s=>exact h
 | num t b=>exact ⟨Zl h.1 ‹_›,Zl h.2.1 ‹_›,h.2.2⟩
 | part t b=>exact ⟨Zl h.1 ‹_›,Zl h.2.1 ‹_›,h.2.2⟩
 | times t b=>exact ⟨Zl h.1 ‹_›,Zl h.2.1 ‹_›,h.2.2⟩
 | of q t b=>exact ⟨⟨Zl h.1.1 ‹_›,Zl h.1.2.1 ‹_›,h.1.2.2⟩,h.2⟩
theorem text_len {v:Vw} (h:v.ok 30):v.text.length<=100:=by
 cases v with
 | hand=>decide +kernel
 | start=>decide +kernel
 | word s=>exact Zs (dh h.1) (by decide)
 | num t b=>exact Zs (ou h.1 h.2.1) (by decide)
 | part t b=>exact HG h.1 h.2.1 (by rw [lb]; decide) (by rw [lp]; decide)
 | times t b=>exact HG h.1 h.2.1 (by rw [lb]; decide) (by rw [lt]; decide)
 | of q t b=>exact HG h.1.1 h.1.2.1 (by rw [lo]; decide) (Zs (t8 q h.2) (by decide))
theorem vF (hp:p ∈ props) (h:v.ok 30):(RT0 p v).length<=120:=by
 have:=(xn p hp).1;have:=text_len h;unfold RT0;rw [U1,U1,lb];omega
theorem yz {p:Str} {v:Vw} {b:Bool} (hp:p ∈ props) (h:v.ok 30):jB [Mp p v b]=some (.shr (.str (RT p v b))):=by
 have l1:=(xn p hp).1;have l2:=text_len h;have l3:=vF hp h;refine bF (aR (aI (ar (ar (ar e_v Uf (bx _ _)) Uf (bu (by rw [show Str.length " "=1 from lb]; omega))) (br (ah (ar e_v Uf (b5 _ _ _)) av) (mm (CU h)) rfl) (bu (by rw [U1,show Str.length " "=1 from lb]; omega)))) ?_);refine aD (CK (aw (ar e_v Uf (eh _ _ _ _))) (λ q=>?_) (λ q=>?_))
 ·unfold RT
  rw [if_pos q];exact ar e_v Uf (bu (by rw [show Str.length " !"=2 by decide +kernel]; omega))
 ·unfold RT
  rw [q,if_neg Zf];exact ao rfl
def qN {p:Str} {v:Vw} {b:Bool} (hp:p ∈ props) (h:v.ok 30):ji [Mp p v b]=some (.shr (.str (RT p v b))):=by
 have l1:=(xn p hp).1;have l2:=text_len h;have l3:=vF hp h;refine bF (aR (aI (ar (ar (ar e_v Uf (bx _ _)) Uf (bu (by rw [show Str.length " "=1 from lb]; omega))) (br (ah (ar e_v Uf (b5 _ _ _)) av) (mi (CU h)) rfl) (bu (by rw [U1,show Str.length " "=1 from lb]; omega)))) ?_);refine dZ (aw (ar e_v Uf (eh _ _ _ _))) (λ q=>?_) (λ q=>?_)
 ·unfold RT
  rw [if_pos q];exact aD (ar e_v Uf (bu (by rw [show Str.length " !"=2 by decide +kernel]; omega)))
 ·unfold RT
  rw [q,if_neg Zf];exact aD e_v
theorem JX (hk:k < 47\/57 < k) (t b:Nat):k ∉ (Rt t b).cps.toList:=by
 unfold Rt;split
 · exact cp (by omega) t
 ·rw [aY,aY,show (Str.cps "/").toList=[47] by decide +kernel]
  intro h;rcases Z2.mp h with h | h
  ·rcases Z2.mp h with h | h
   · exact cp (by omega) t h
   ·rw [Zx] at h
    omega
  · exact cp (by omega) b h
theorem fU (hk:k < 97\/122 < k) (h:a7 x=true):k ∉ x.cps.toList:=λ hm=>by
 unfold a7 at h;rw [Zg] at h;have:=Yi.mp h.2 k hm;unfold lower at this;rw [Zg] at this;have a:=Zu this.1;have b:=Zu this.2;omega
theorem ON:∀ q ∈ P9,33 ∉ q.cps.toList:=by decide +kernel
theorem Hj {v:Vw} (h:v.ok 30):33 ∉ v.text.cps.toList:=by
 have hr:=λ t b=>JX (k:=33) (.inl (by decide)) t b
 cases v with
 | hand=>decide +kernel
 | start=>decide +kernel
 | word s=>exact fU (.inl (by decide)) h.1
 | num t b=>exact hr t b
 | part t b=>
  show 33 ∉ (Rt t b++(" ":Str)++("part":Str)).cps.toList;rw [aY,aY];intro z;rcases Z2.mp z with z | z
  ·rcases Z2.mp z with z | z
   · exact hr t b z
   · exact absurd z (by decide +kernel)
  · exact absurd z (by decide +kernel)
 | times t b=>
  show 33 ∉ (Rt t b++(" ":Str)++("times":Str)).cps.toList;rw [aY,aY];intro z;rcases Z2.mp z with z | z
  ·rcases Z2.mp z with z | z
   · exact hr t b z
   · exact absurd z (by decide +kernel)
  · exact absurd z (by decide +kernel)
 | of q t b=>
  show 33 ∉ (Rt t b++(" of ":Str)++q).cps.toList;rw [aY,aY];intro z;rcases Z2.mp z with z | z
  ·rcases Z2.mp z with z | z
   · exact hr t b z
   · exact absurd z (by decide +kernel)
  · exact ON q h.2 z
def RS (v:Vw) (b:Bool):Str:=if b=true then v.text++(" !":Str) else v.text
theorem yk:(Str.cps " !").toList=[32,33]:=by decide +kernel
def GD {v:Vw} (b:Bool) (h:v.ok 30):Txt.endswith (RS v b) " !"=b:=by
 cases b with
 | true=>exact pO (pre:=v.text.cps.toList) (by show (v.text++(" !":Str)).cps.toList=_; rw [aY])
 | false=>
  cases z:Txt.endswith (RS v false) " !" with
  | false=>rfl
  | true=>
   obtain ⟨pre,e⟩:=rg z;have e':v.text.cps.toList=pre++[32,33]:=by rw [<- yk]; exact e
   exact absurd (by rw [e']; simp) (Hj h)
theorem JZ {v:Vw}:Txt.slice (v.text++(" !":Str)) none (some (-2))=v.text:=by
 have l2:Str.length (" !":Str)=2:=by decide +kernel
 refine ext ?_
 rw [oj _ (by rw [U1,l2]; omega),aY,U1,l2,Nat.add_sub_cancel,<- aQ,Wa]
def GC (hp:p ∈ props):gi (RT p v b) " "=[p," ",RS v b]:=by
 refine Av (xn p hp).2 ?_
 unfold RT RS RT0;have bl:(Str.cps (" ":Str)).toList=[32]:=by decide +kernel
 cases b with
 | true=>
  rw [if_pos rfl,if_pos rfl,aY,aY,aY,aY,bl];simp
 | false=>
  rw [if_neg Zf,if_neg Zf,aY,aY,bl];simp
theorem zY (hp:p ∈ props) (h:v.ok 30):(RT p v b).length<=130:=by
 have:=vF hp h;unfold RT;split
 · rw [U1,show Str.length (" !":Str)=2 by decide +kernel]; omega
 · omega
theorem yD (hp:p ∈ props) (h:v.ok 30) (hv:VP p v):gx t [.str (RT p v b)]=some (.shr (Mp p v b)):=by
 unfold gx lX; dsimp only
 have ep:AN (.str (RT p v b)) (.str " ")=some (.tup [.str p,.str " ",.str (RS v b)]):=by
  show (if Str.length " "≠0/\(RT p v b).length<=100000 then some (D.tup ((gi (RT p v b) " ").map .str)) else none)=_;rw [if_pos ⟨by decide +kernel,Zs (zY hp h) (by decide)⟩,GC hp];rfl
 have ee:AQ (.str (RS v b)) (.str " !")=some (.bl b):=by
  show some (D.bl (Txt.endswith (RS v b) " !"))=_;rw [GD b h]
 refine bF (aR (aI (U3 rfl ep)) ?_);refine aR (aI (ar (U3 rfl (eh _ _ _ _)) Uf ee)) ?_
 have et:dIf (dT (aM 2)) (qJ (dOp oIx (aM 1) (dC (.int 2))) uX (dP (dUn ui (dC (.int 2))))) (dOp oIx (aM 1) (dC (.int 2))) [.shr (.str (RT p v b)),.shr (.tup [.str p,.str " ",.str (RS v b)]),.shr (.bl b),.no]=some (.str v.text):=by
  refine CK (b:=b) (aw (ao rfl)) (λ q=>?_) (λ q=>?_)
  ·subst q
   have l:=text_len h;exact (fV (lo:=none) (hi:=some (-2)) (U3 rfl (eh _ _ _ _)) rfl (be rfl) (by show (v.text++(" !":Str)).length<=_; rw [U1,show Str.length (" !":Str)=2 by decide +kernel]; omega)).trans (by rw [show RS v true=v.text++(" !":Str) from rfl,JZ])
  ·subst q
   exact U3 rfl (eh _ _ _ _)
 refine aR (aI (br (ah et av) (iy h) rfl)) ?_
 refine az (cx (b:=true) (aw (br (ah (U3 rfl (bx _ _)) (ah (ao rfl) av)) (Gb hp h hv) rfl))) ?_
 exact aD (bf (ah (U3 rfl (bx _ _)) (ah (ao rfl) (ah (ao rfl) av))) (Zb rfl))
inductive Tt where
 | any
 | name (x:Str)
 | mark (x:Str)
 | ij (x:Str)
 | rR (k:Bool) (f e:Nat)
def yy (k:Bool):Str:=if k=true then "back" else "front"
def kP (k:Bool):Str:=if k=true then "^" else "@"
def Tt.D:Tt->D
 | .any=>.tup [.str "any"]
 | .name x=>.tup [.str "name",.str x]
 | .mark x=>.tup [.str "mark",.str x]
 | .ij x=>.tup [.str "not",.tup [.str "mark",.str x]]
 | .rR k f e=>.tup [.str (yy k),.int (f:Int),.int (e:Int)]
def Ct (f e:Nat):Str:=if e=0 then Tx f else Tx f++("/":Str)++Tx e
def Tt.text:Tt->Str
 | .any=>"*"
 | .name x=>x
 | .mark x=>(".":Str)++x
 | .ij x=>("!":Str)++x
 | .rR k f e=>kP k++Ct f e
def Tt.ok:Tt->Prop
 | .any=>True
 | .name x=>a7 x=true
 | .mark x=>a7 x=true
 | .ij x=>a7 x=true
 | .rR _ f e=>f < 10 ^ 30/\e < 10 ^ 30
theorem yv (h:n < 10 ^ 30):n < 10 ^ 300:=by grind
theorem Gf (h:n < 10 ^ 30):n < 10 ^ 500:=by grind
def Sk (b:Nat):decide ((b:Int)=0)=decide (b=0):=by simp
def tR {f e:Nat} (hf:f < 10 ^ 30) (he:e < 10 ^ 30):ni [.int (f:Int),.int (e:Int)]=some (.shr (.str (Ct f e))):=by
 refine bF (aD (CK (aw ((ar e_v Uf (bp _ _)).trans (by rw [Sk]))) (λ q=>?_) (λ q=>?_)))
 ·unfold Ct
  rw [if_pos (Zu q)];exact sO e_v (uH (Gf hf))
 ·unfold Ct
  rw [if_neg (Z0 q)];exact QU e_v e_v (yv hf) (yv he)
def B8 (hf:f < 10 ^ 30) (he:e < 10 ^ 30):(Ct f e).length<=61:=by
 have l1:=eN (by decide) hf;have l2:=eN (by decide) he;unfold Ct;split
 · omega
 ·rw [U1,U1,show Str.length ("/":Str)=1 by decide +kernel]
  omega
theorem xc (k:Bool):(kP k).length=1:=by cases k <;> decide +kernel
theorem tH {d:Tt} (h:d.ok):d.text.length<=62:=by
 cases d with
 | any=>decide +kernel
 | name x=>exact Zs (dh h) (by decide)
 | mark x=>
  show ((".":Str)++x).length<=62;rw [U1,show Str.length (".":Str)=1 by decide +kernel];have:=dh h;omega
 | ij x=>
  show (("!":Str)++x).length<=62;rw [U1,show Str.length ("!":Str)=1 by decide +kernel];have:=dh h;omega
 | rR k f e=>
  show (kP k++Ct f e).length<=62;rw [U1,xc];have:=B8 h.1 h.2;omega
def eqs (h:a=b):oEq (.str a) (.str b)=some (.bl true):=by rw [cj,Ze h]
def nes (h:a≠b):oEq (.str a) (.str b)=some (.bl false):=by rw [cj,Zc h]
def tO (h:("back":Str)≠x/\("front":Str)≠x):oEq (.str (yy k)) (.str x)=some (.bl false):=by
 cases k
 · exact nes h.2
 · exact nes h.1
theorem tQ {d:Tt} (h:d.ok):eG [d.D]=some (.shr (.str d.text)):=by
 unfold eG iU; dsimp only
 refine bF ?_
 cases d with
 | any=>exact aR (aI (ar e_v Uf (bx _ _))) (aV (aw (ar e_v Uf (eqs rfl))) (aD Uf))
 | name x=>
  refine aR (aI (ar e_v Uf (bx _ _))) (az (aw (ar e_v Uf (nes (by decide)))) ?_);exact aV (aw (ar e_v Uf (eqs rfl))) (aD (ar e_v Uf (b5 _ _ _)))
 | mark x=>
  refine aR (aI (ar e_v Uf (bx _ _))) (az (aw (ar e_v Uf (nes (by decide)))) (az (aw (ar e_v Uf (nes (by decide)))) ?_));have l:=dh h;exact aV (aw (ar e_v Uf (eqs rfl))) (aD (ar Uf (ar e_v Uf (b5 _ _ _)) (bu (by rw [show Str.length "."=1 by decide +kernel]; omega))))
 | ij x=>
  refine aR (aI (ar e_v Uf (bx _ _))) (az (aw (ar e_v Uf (nes (by decide)))) (az (aw (ar e_v Uf (nes (by decide)))) (az (aw (ar e_v Uf (nes (by decide)))) ?_)));have l:=dh h;exact aV (aw (ar e_v Uf (eqs rfl))) (aD (ar Uf (ar (ar e_v Uf (b5 _ _ _)) Uf (b5 _ _ _)) (bu (by rw [show Str.length "!"=1 by decide +kernel]; omega))))
 | rR k f e=>
  refine aR (aI (ar e_v Uf (bx _ _))) (az (aw (ar e_v Uf (tO (by decide)))) (az (aw (ar e_v Uf (tO (by decide)))) (az (aw (ar e_v Uf (tO (by decide)))) (az (aw (ar e_v Uf (tO (by decide)))) ?_))));have l:=B8 h.1 h.2;refine aR (aI (d:=.str (kP k)) (CK (b:=!k) (aw (ar e_v Uf (by cases k <;> rfl))) (λ q=>?_) (λ q=>?_))) ?_
  ·cases k
   · exact Uf
   · cases q
  ·cases k
   · cases q
   · exact Uf
  · exact aD (ar e_v (br (ah (ar e_v Uf (b5 _ _ _)) (ah (ar e_v Uf (eh _ _ _ _)) av)) (tR h.1 h.2) rfl) (bu (by rw [xc]; omega)))
theorem tG {d:Tt} (h:d.ok):dN [d.D]=some (.shr (.str d.text)):=by
 unfold dN dI; dsimp only
 refine bF ?_
 cases d with
 | any=>exact aV (aw (ar (ar e_v Uf (bx _ _)) Uf (eqs rfl))) (aD Uf)
 | name x=>
  refine az (aw (ar (ar e_v Uf (bx _ _)) Uf (nes (by decide)))) ?_
  exact aV (aw (ar (ar e_v Uf (bx _ _)) Uf (eqs rfl))) (aD (ar e_v Uf (b5 _ _ _)))
 | mark x=>
  refine az (aw (ar (ar e_v Uf (bx _ _)) Uf (nes (by decide)))) (az (aw (ar (ar e_v Uf (bx _ _)) Uf (nes (by decide)))) ?_);have l:=dh h;exact aV (aw (ar (ar e_v Uf (bx _ _)) Uf (eqs rfl))) (aD (ar Uf (ar e_v Uf (b5 _ _ _)) (bu (by rw [show Str.length "."=1 by decide +kernel]; omega))))
 | ij x=>
  refine az (aw (ar (ar e_v Uf (bx _ _)) Uf (nes (by decide)))) (az (aw (ar (ar e_v Uf (bx _ _)) Uf (nes (by decide)))) (az (aw (ar (ar e_v Uf (bx _ _)) Uf (nes (by decide)))) ?_));have l:=dh h;exact aV (aw (ar (ar e_v Uf (bx _ _)) Uf (eqs rfl))) (aD (ar Uf (ar (ar e_v Uf (b5 _ _ _)) Uf (b5 _ _ _)) (bu (by rw [show Str.length "!"=1 by decide +kernel]; omega))))
 | rR k f e=>
  refine az (aw (ar (ar e_v Uf (bx _ _)) Uf (tO (by decide)))) (az (aw (ar (ar e_v Uf (bx _ _)) Uf (tO (by decide)))) (az (aw (ar (ar e_v Uf (bx _ _)) Uf (tO (by decide)))) (az (aw (ar (ar e_v Uf (bx _ _)) Uf (tO (by decide)))) ?_)));have l1:=eN (by decide) h.1;have l2:=eN (k:=30) (by decide) h.2;have sl:=xc k;have ls:Str.length "/"=1:=by decide +kernel
  have eg:yH (.dct [(.inr "front",.str "@"),(.inr "back",.str "^")]) (.str (yy k))=some (.str (kP k)):=by cases k <;> rfl
  refine aR (aI (ar (ar rfl (ar e_v Uf (bx _ _)) eg) (sO (ar e_v Uf (b5 _ _ _)) (uH (Gf h.1))) (bu (by omega)))) ?_
  refine dZ (aw ((ar (ar e_v Uf (eh _ _ _ _)) Uf (bp _ _)).trans (by rw [Sk]))) (λ q=>?_) (λ q=>?_)
  ·have ec:Ct f e=Tx f:=if_pos (Zu q)
   show _=some (Out.ret (.shr (.str (kP k++Ct f e))));rw [ec];exact aD e_v
  ·have ec:kP k++Ct f e=kP k++Tx f++("/":Str)++Tx e:=by
    unfold Ct;rw [if_neg (Z0 q)];exact ext (by simp only [aY,Z5])
   show _=some (Out.ret (.shr (.str (kP k++Ct f e))));rw [ec];exact aD (ar (ar e_v Uf (bu (by rw [U1,ls]; omega))) (sO (ar e_v Uf (eh _ _ _ _)) (uH (Gf h.2))) (bu (by rw [U1,U1,ls]; omega)))
def JN:List Str:=[">","+","~"]
abbrev Sp':=Str×List Tt
def stD (s:Sp'):D:=.tup [.str s.1,.tup (s.2.map Tt.D)]
def t7 (ps:List Sp'):D:=.tup (ps.map stD)
def WT:List Tt->Str
 | []=>""
 | d::ds=>d.text++WT ds
def gD (x:Str):("":Str)++x=x:=ext (by rw [aY]; rfl)
theorem kj (x:Str):x++("":Str)=x:=ext (by rw [aY,show (Str.cps ("":Str)).toList=[] by decide +kernel,Yd])
def fI (x y z:Str):x++y++z=x++(y++z):=ext (by simp only [aY,Z5])
theorem wX:∀ {ds:List Tt},(∀ d ∈ ds,d.ok)->(WT ds).length<=62 * ds.length
 | [],_=>by show Str.length ""<=_; rw [show Str.length ""=0 by decide +kernel]; exact Ye _
 | d::ds,h=>by
  show (d.text++WT ds).length<=_;rw [U1,Zi];have a:=tH (h d (by simp));have b:=wX (ds:=ds) λ e he=>h e (Za _ he)
  omega
def seg (j:Str):Str:=if j ∈ JN then (" ":Str)++j++(" ":Str) else j
def PTx:List Sp'->Str
 | []=>""
 | s::ps=>seg s.1++WT s.2++PTx ps
structure Rn (s:Sp'):Prop where
 ok:∀ d ∈ s.2,d.ok
 len:s.2.length<=12
 jn:s.1=""\/s.1=" "\/s.1 ∈ JN
theorem zT {j:Str} (h:j=""\/j=" "\/j ∈ JN):(seg j).length<=3:=by
 rcases h with rfl | rfl | h
 · decide +kernel
 · decide +kernel
 ·unfold JN at h
  simp only [Zd,Zq,Z9] at h;rcases h with rfl | rfl | rfl <;> decide +kernel
theorem Ad:∀ {ps:List Sp'},(∀ s ∈ ps,Rn s)->(PTx ps).length<=750 * ps.length
 | [],_=>by show Str.length ""<=_; rw [show Str.length ""=0 by decide +kernel]; exact Ye _
 | s::ps,h=>by
  show (seg s.1++WT s.2++PTx ps).length<=_;have hs:=h s (by simp);rw [U1,U1,Zi];have a:=zT hs.jn;have b:=wX hs.ok;have c:=hs.len;have d:=Ad (ps:=ps) λ e he=>h e (Za _ he)
  omega
theorem Bd:∀ ds:List Tt,Txt.join "" (ds.map Tt.text)=WT ds:=λ ds=>by
 refine ext ?_
 have key:∀ (ds:List Tt) (a:Array Nat),(((ds.map Tt.text).foldl (λ acc p=>acc++(Str.cps "")++p.cps) a)).toList=a.toList++(WT ds).cps.toList:=λ ds=>by
  induction ds with
  | nil=>intro a; show a.toList=a.toList++_; rw [show (WT []).cps.toList=[] by decide +kernel,Yd]
  | cons d ds ih=>
   intro a;show ((ds.map Tt.text).foldl _ (a++(Str.cps "")++d.text.cps)).toList=_;rw [ih];show _=a.toList++(d.text++WT ds).cps.toList;rw [aY,Array.toList_append,Array.toList_append,show (Str.cps "").toList=[] by decide +kernel,Yd,Z5]
 cases ds with
 | nil=>decide +kernel
 | cons d ds=>
  show ((ds.map Tt.text).foldl (λ acc p=>acc++(Str.cps "")++p.cps) d.text.cps).toList=(d.text++WT ds).cps.toList;rw [key,aY]
def Bp (j:Str):nG (.str j) qq=some (.bl (decide (j ∈ JN))):=nU j JN
def vL {ps:List Sp'} {j:Nat} {s:Sp'} (h:ps[j]?=some s):PTx (ps.take (j+1))=PTx (ps.take j)++(seg s.1++WT s.2):=by
 have key:∀ (xs:List Sp') (s:Sp'),PTx (xs++[s])=PTx xs++(seg s.1++WT s.2):=λ xs=>by
  induction xs with
  | nil=>intro s; show seg s.1++WT s.2++("":Str)=("":Str)++_; rw [kj,gD]
  | cons x xs ih=>intro s; show seg x.1++WT x.2++PTx (xs++[s])=seg x.1++WT x.2++PTx xs++_; rw [ih]; simp only [fI]
 rw [List.take_add_one,h];exact key _ _
structure Ml (ps:List Sp'):Prop where
 ok:∀ s ∈ ps,Rn s
 len:ps.length<=20
 j0:∀ s:Sp',ps[0]?=some s->s.1=("":Str)
 jn:∀ (j:Nat) (s:Sp'),ps[j+1]?=some s->s.1=(" ":Str)\/s.1 ∈ JN
def F9 {ds:List Tt} {j:Nat} {d:Tt} (h:ds[j]?=some d):WT (ds.take (j+1))=WT (ds.take j)++d.text:=by
 have key:∀ (xs:List Tt) (d:Tt),WT (xs++[d])=WT xs++d.text:=λ xs=>by
  induction xs with
  | nil=>intro d; show d.text++("":Str)=("":Str)++_; rw [kj,gD]
  | cons x xs ih=>intro d; show x.text++WT (xs++[d])=x.text++WT xs++_; rw [ih]; simp only [fI]
 rw [List.take_add_one,h];exact key _ _
theorem jz {j:Str} (h:j=""\/j=" "):j ∉ JN:=by rcases h with rfl | rfl <;> decide +kernel
def wH {as:List D} {j:Nat} {d:D} (h:(c7 as)[j]?=some d):∃ a,as[j]?=some a/\d=.tup [.int (j:Int),a]:=by
 unfold c7 at h;rw [List.getElem?_mapIdx] at h;obtain ⟨a,ea,rfl⟩:=Zm h;exact ⟨a,ea,rfl⟩
def nV (as:List D):(c7 as).length=as.length:=by unfold c7; rw [List.length_mapIdx]
def LC:mM (aG (dC (.str ">")) (aG (dC (.str "+")) (aG (dC (.str "~")) bR))) τ=some (.tup (JN.map .str)):=bf (ah Uf (ah Uf (ah Uf av))) (by decide)
def wm (h:f τ=some (.tup as)):wo (aG f bR) τ=some (c7 as):=by
 unfold wo;rw [ah h av];rfl
theorem LD {s:Sp'} (h:s.1=""\/s.1=" "\/s.1 ∈ JN):s.1.length<=1:=by
 rcases h with e | e | e
 · rw [e]; decide +kernel
 · rw [e]; decide +kernel
 ·unfold JN at e
  simp only [Zd,Zq,Z9] at e;rcases e with e | e | e <;> rw [e] <;> decide +kernel
theorem jI {ps:List Sp'} (h:Ml ps):cR [t7 ps]=some (.shr (.str (PTx ps))):=by
 unfold cR bY; dsimp only
 have tl:∀ j,(PTx (ps.take j)).length<=15000:=λ j=>by
  have:=Ad (ps:=ps.take j) λ s hs=>h.ok s (Y0 hs)
  have l:(ps.take j).length<=ps.length:=by rw [Yh]; exact Nat.min_le_right _ _
  have:=h.len;omega
 have b1:Str.length " "=1:=lb
 have key:Ret (λ d=>d=.str (PTx ps)) (bY.1 (cF 5 [t7 ps])):=by
  unfold bY; dsimp only
  refine dD (aI (d:=.str "") Uf) ?_
  refine CG (R:=λ τ=>∃ s2 s3 s4,τ=[.shr (t7 ps),.shr (.str (PTx ps)),s2,s3,s4]) (sy (λ j τ=>∃ s2 s3 s4,τ=[.shr (t7 ps),.shr (.str (PTx (ps.take j))),s2,s3,s4]) (wm (ao rfl)) ⟨_,_,_,rfl⟩ ?_ λ τ' ⟨s2,s3,s4,e⟩=>⟨s2,s3,s4,by rw [e,nV,Zk,Xw]⟩) ?_
  ·rintro j d τ ed ⟨s2,s3,s4,rfl⟩
   obtain ⟨a,ea,rfl⟩:=wH ed;rw [List.getElem?_map] at ea;obtain ⟨s,es,rfl⟩:=Zm ea;have hs:=h.ok s (List.mem_of_getElem? es);have lt:=tl j;have ls:=zT hs.jn;have lw:=wX hs.ok;have l12:=hs.len;have l1:=LD hs.jn;refine ⟨[.shr (t7 ps),.shr (.str (PTx (ps.take j))),.shr (.int (j:Int)),.shr (stD s),s4],rfl,?_⟩
   let B:Str:=if j=0 then "" else " "
   have lB:B.length<=1:=by
    show Str.length (if j=0 then "" else " ")<=1;split
    · decide +kernel
    · decide +kernel
   refine j5 (τ':=[.shr (t7 ps),.shr (.str (PTx (ps.take j)++B)),.shr (.int (j:Int)),.shr (stD s),s4]) ?_ ?_
   ·refine eK (b:=decide ((j:Int) > 0)) (aw (U3 rfl rfl)) (λ q=>?_) (λ q=>?_)
    ·have e:B=" ":=if_neg (by have:=Zu q; omega)
     rw [e];exact aI (U3 rfl (bu (by omega)))
    ·have e:B="":=if_pos (by have:=Z0 q; omega)
     rw [e];show some (Out.next _)=_;rw [show PTx (ps.take j)++("":Str)=PTx (ps.take j) from kj _]
   refine j5 (τ':=[.shr (t7 ps),.shr (.str (PTx (ps.take j)++seg s.1)),.shr (.int (j:Int)),.shr (stD s),s4]) ?_ ?_
   ·refine eK (b:=decide (s.1 ∈ JN)) (aw (ar (U3 rfl (bx _ _)) LC (nU s.1 JN))) (λ q=>?_) (λ q=>?_)
    ·have q':=Zu q
     have e:seg s.1=(" ":Str)++s.1++(" ":Str):=if_pos q'
     have eB:B=" ":=by
      cases j with
      | zero=>exact absurd q' (jz (.inl (h.j0 s es)))
      | succ j=>exact if_neg (Nat.succ_ne_zero _)
     rw [eB,e];refine (aI (ar (ar (ao rfl) (U3 rfl (bx _ _)) (bu ?_)) Uf (bu ?_))).trans ?_
     · rw [U1,b1]; omega
     · rw [U1,U1,b1]; omega
     ·show some (Out.next [_,.shr (.str (PTx (ps.take j)++(" ":Str)++s.1++(" ":Str))),_,_,_])=_
      simp only [fI]
    ·have q':=Z0 q
     have e:seg s.1=s.1:=if_neg q'
     have eB:B=s.1:=by
      cases j with
      | zero=>exact (h.j0 s es).symm
      | succ j=>
       rcases h.jn j s es with z | z
       · rw [z]; exact if_neg (Nat.succ_ne_zero _)
       · exact absurd z q'
     rw [eB,e];rfl
   refine sy (λ i τ=>∃ s4,τ=[.shr (t7 ps),.shr (.str (PTx (ps.take j)++seg s.1++WT (s.2.take i))),.shr (.int (j:Int)),.shr (stD s),s4]) (Br (U3 rfl (b5 _ _ _))) ⟨s4,by rw [List.take_zero,show WT []=("":Str) from rfl,kj]⟩ ?_ ?_
   ·rintro i d τ ed ⟨s4,rfl⟩
    rw [List.getElem?_map] at ed;obtain ⟨d,es',rfl⟩:=Zm ed;have ok:=hs.ok d (List.mem_of_getElem? es');have lw':=wX (ds:=s.2.take i) λ e he=>hs.ok e (Y0 he)
    have l:(s.2.take i).length<=s.2.length:=by rw [Yh]; exact Nat.min_le_right _ _
    have ltr:=tH ok;refine ⟨_,rfl,xF (aI (ar (ao rfl) (br (ah (ao rfl) av) (tG ok) rfl) (bu (by rw [U1,U1]; omega)))) ⟨_,by rw [F9 es',<- fI]; rfl⟩⟩
   ·rintro τ ⟨s4,rfl⟩
    refine ⟨_,_,_,by rw [Zk,Xw,vL es,fI]⟩
  ·rintro τ ⟨s2,s3,s4,rfl⟩
   exact rY (ao rfl) rfl
 obtain ⟨d,e,rfl⟩:=qF (n:=5) (m:=1) key;exact e
def Rf (h:b≠0):(Ct t b).cps.toList=(Tx t).cps.toList++47::(Tx b).cps.toList:=by
 unfold Ct;rw [if_neg h,aY,aY,nu];simp
theorem B7 (hk:k < 47\/57 < k) (t b:Nat):k ∉ (Ct t b).cps.toList:=by
 have h1:=cp (k:=k) (by omega) t;have h2:=cp (k:=k) (by omega) b
 by_cases h:b=0
 ·rw [show Ct t b=Tx t from if_pos h]
  exact h1
 ·rw [Rf h]
  simp only [Z2,Zd]
  rintro (z | z | z)
  · exact h1 z
  · omega
  · exact h2 z
theorem Tr:(Str.cps "/0").toList=[47,48]:=by decide +kernel
theorem zC:Tx 0=⟨#[48]⟩:=by decide +kernel
def Iq:Txt.endswith (Ct t b) "/0"=false:=by
 refine Xc.mpr λ h=>?_
 obtain ⟨pre,e⟩:=rg h;have e:(Ct t b).cps.toList=pre++[47,48]:=by rw [e,Tr]
 by_cases hb:b=0
 ·subst hb
  have e2:Ct t 0=Tx t:=if_pos rfl;rw [e2] at e;exact cp (k:=47) (by decide) t (by rw [e]; simp)
 ·rw [Rf hb] at e
  have e3:=Z8 List.reverse e;simp only [List.reverse_append,List.reverse_cons,Z5,Yj,Yc,List.reverse_nil] at e3;have e4:(Tx b).cps.toList.reverse++47::(Tx t).cps.toList.reverse=[48]++47::pre.reverse:=by simpa using e3
  obtain ⟨e5,_⟩:=nX (λ z=>cp (k:=47) (by decide) b (List.mem_reverse.mp z)) (by decide) e4
  have e6:(Tx b).cps.toList=[48]:=by
   have:=Z8 List.reverse e5;rw [List.reverse_reverse] at this;exact this
  exact hb (Ez (ext (e6.trans (by rw [zC]))))
theorem tU (ht:t < 10 ^ 30) (hb:b < 10 ^ 30):je [.str (Ct t b)]=some (.shr (.tup [.int (t:Int),.int (b:Int)])):=by
 unfold je ja; dsimp only
 have hl:=B8 ht hb
 have ee:AQ (.str (Ct t b)) (.str "/0")=some (.bl false):=by
  show some (D.bl (Txt.endswith _ _))=_;rw [Iq]
 refine bF (az (aw (U3 rfl ee)) (aD (br (ah (ao rfl) (ah Uf av)) (s:=.shr (.tup [.int (t:Int),.int (b:Int)])) ?_ rfl)))
 by_cases h:b=0
 ·subst h
  have e:Ct t 0=Tx t:=if_pos rfl
  have sp:cW (.str (Ct t 0)) (.str "/")=some (.lst [.str (Ct t 0)]):=by
   rw [nu];refine de (ts:=[Ct t 0]) (by simp) (λ x hx=>?_) rfl (by omega);rcases Zx.mp hx with rfl
   rw [e];exact cp (by decide) t
  refine bF ?_
  refine aR (aI (U3 rfl sp)) ?_
  refine az (aw (ar (aS (ah (ao rfl) av) rfl) Uf rfl)) ?_
  refine aV (aw (ar (aS (ah (ao rfl) av) rfl) Uf rfl)) ?_
  have rw':fM [.str (Ct t 0)]=some (.shr (.int (t:Int))):=by rw [e]; exact bE ht
  exact aD (bf (ah (br (ah (ao rfl) av) rw' rfl) (ah (ao rfl) av)) (Zb rfl))
 ·have sp:cW (.str (Ct t b)) (.str "/")=some (.lst [.str (Tx t),.str (Tx b)]):=by
   rw [nu];refine de (ts:=[Tx t,Tx b]) (by simp) (λ x hx=>?_) (Rf h) (by omega);simp only [Zd,Zq,Z9] at hx;rcases hx with rfl | rfl
   · exact cp (by decide) t
   · exact cp (by decide) b
  refine bF ?_
  refine aR (aI (U3 rfl sp)) ?_
  refine az (aw (ar (aS (ah (ao rfl) av) rfl) Uf rfl)) ?_
  refine az (aw (ar (aS (ah (ao rfl) av) rfl) Uf rfl)) ?_
  exact aD (bf (ah (br (ah (U3 rfl (cq _ _)) av) (bE ht) rfl) (ah (br (ah (U3 rfl (eQ _ _ _)) av) (bE hb) rfl) av)) (Zb rfl))
theorem pS (h:a7 x=true):gf [.str x]=some (.shr (.str x)):=by
 unfold gf f7; dsimp only
 have l:=dh h;exact bF (az (cx (b:=true) (aw (br (ah (ao rfl) av) ((iG x (by omega)).trans (by rw [h])) rfl))) (aD (ao rfl)))
def SG:List Str:=[".","!","@","^"]
def Tt.sg:Tt->Str
 | .mark _=>"."
 | .ij _=>"!"
 | .rR k _ _=>kP k
 | _=>""
def Tt.bd:Tt->Str
 | .mark x=>x
 | .ij x=>x
 | .rR _ f e=>Ct f e
 | _=>""
def Tt.tl:Tt->Prop
 | .any=>False
 | .name _=>False
 | _=>True
def mq {d:Tt} (h:d.ok) (ht:d.tl):fO [.str d.sg,.str d.bd]=some (.shr d.D):=by
 unfold fO iX; dsimp only
 refine bF ?_
 cases d with
 | any=>exact ht.elim
 | name x=>exact ht.elim
 | mark x=>exact aV (aw (U3 rfl (eqs rfl))) (aD (bf (ah Uf (ah (br (ah (ao rfl) av) (pS h) rfl) av)) (Zb rfl)))
 | ij x=>
  have n0:("!":Str)≠".":=by decide
  refine az (aw (U3 rfl (nes n0))) ?_
  exact aV (aw (U3 rfl (eqs rfl))) (aD (bf (ah Uf (ah (bf (ah Uf (ah (br (ah (ao rfl) av) (pS h) rfl) av)) (Zb rfl)) av)) (Zb rfl)))
 | rR k f e=>
  have n1:kP k≠(".":Str):=by cases k <;> decide
  have n2:kP k≠("!":Str):=by cases k <;> decide
  refine az (aw (U3 rfl (nes n1))) (az (aw (U3 rfl (nes n2))) ?_);refine aR (aI (br (ah (ao rfl) av) (tU h.1 h.2) rfl)) ?_
  have ei:∀ {τ:List Sl},τ[0]?=some (.shr (.str (kP k)))->dIf (dT (dOp oEq (aM 0) (dC (.str "@")))) (dC (.str "front")) (dC (.str "back")) τ=some (.str (yy k)):=λ {τ} e0=>by
   cases k
   · exact CK (b:=true) (aw (ar (ao e0) Uf (eqs rfl))) (λ _=>Uf) (λ z=>nomatch z)
   · exact CK (b:=false) (aw (ar (ao e0) Uf (nes (by decide)))) (λ z=>nomatch z) (λ _=>Uf)
  exact aD (bf (ah (ei rfl) (ah (U3 rfl (bx _ _)) (ah (U3 rfl (b5 _ _ _)) av))) (Zb rfl))
def Tt.hd:Tt->Prop
 | .any=>True
 | .name _=>True
 | _=>False
theorem oz {d:Tt} (h:d.ok) (hh:d.hd):kG [.str d.text]=some (.shr d.D):=by
 unfold kG kC; dsimp only
 refine bF ?_
 cases d with
 | any=>exact aV (aw (U3 rfl (eqs rfl))) (aD (bf (ah Uf av) (Zb rfl)))
 | name x=>
  have n1:x≠("*":Str):=λ z=>fU (k:=42) (by decide) h (by rw [z]; decide +kernel)
  exact az (aw (U3 rfl (nes n1))) (aD (bf (ah Uf (ah (br (ah (ao rfl) av) (pS h) rfl) av)) (Zb rfl)))
 | mark x=>exact hh.elim
 | ij x=>exact hh.elim
 | rR k f e=>exact hh.elim
def rZ:Nat->List Nat->List Nat
 | _,[]=>[]
 | k,c::cs=>if (⟨#[c]⟩:Str) ∈ SG then k::rZ (k+1) cs else rZ (k+1) cs
theorem jr:∀ (xs ys:List Nat) (k:Nat),rZ k (xs++ys)=rZ k xs++rZ (k+xs.length) ys
 | [],ys,k=>rfl
 | x::xs,ys,k=>by
  have ih:=jr xs ys (k+1);rw [Zi,show k+(xs.length+1)=k+1+xs.length by omega];show (if (⟨#[x]⟩:Str) ∈ SG then k::rZ (k+1) (xs++ys) else rZ (k+1) (xs++ys))=(if (⟨#[x]⟩:Str) ∈ SG then k::rZ (k+1) xs else rZ (k+1) xs)++_;split
  · rw [ih]; rfl
  · rw [ih]
theorem oI:∀ (xs:List Nat) (k:Nat),(∀ c ∈ xs,(⟨#[c]⟩:Str) ∉ SG)->rZ k xs=[]
 | [],_,_=>rfl
 | x::xs,k,h=>by
  show (if (⟨#[x]⟩:Str) ∈ SG then k::rZ (k+1) xs else rZ (k+1) xs)=[];rw [if_neg (h x (by simp))];exact oI xs _ λ c hc=>h c (Za _ hc)
theorem zR (c:Nat):(⟨#[c]⟩:Str) ∈ SG↔c=46\/c=33\/c=64\/c=94:=by
 have e:SG=[⟨#[46]⟩,⟨#[33]⟩,⟨#[64]⟩,⟨#[94]⟩]:=by decide +kernel
 rw [e];simp
theorem wt:∀ (cs:List Nat) (k:Nat),wu (oK (dT (dOp nG (aM 1) (dC qp))) τ []) (pairD (aM 0) τ []) (cs.mapIdx λ i c=>D.tup [.int ((i+k:Nat):Int),.str ⟨#[c]⟩])=some ((rZ k cs).map λ n=>.int (n:Int))
 | [],_=>rfl
 | c::cs,k=>by
  have ih:=wt (τ:=τ) cs (k+1);rw [List.mapIdx_cons]
  have ef:(λ i c=>D.tup [.int ((i+1+k:Nat):Int),.str ⟨#[c]⟩])=λ (i:Nat) (c:Nat)=>D.tup [.int ((i+(k+1):Nat):Int),.str ⟨#[c]⟩]:=by
   funext i c
   rw [show i+1+k=i+(k+1) by omega]
  rw [ef];have e1:oK (dT (dOp nG (aM 1) (dC qp))) τ [] (D.tup [.int ((0+k:Nat):Int),.str ⟨#[c]⟩])=some (decide ((⟨#[c]⟩:Str) ∈ SG)):=aw (U3 rfl (nU ⟨#[c]⟩ SG));have e2:pairD (aM 0) τ [] (D.tup [.int ((0+k:Nat):Int),.str ⟨#[c]⟩])=some (.int (k:Int)):=by rw [Xm]; show aM 0 (.shr (.int (k:Int))::.shr (.str ⟨#[c]⟩)::fe τ [])=_; exact ao rfl
  show (oK _ τ [] (D.tup [.int ((0+k:Nat):Int),.str ⟨#[c]⟩])).bind (λ b=>if b=true then (pairD (aM 0) τ [] (D.tup [.int ((0+k:Nat):Int),.str ⟨#[c]⟩])).bind λ x=>(wu _ _ _).bind λ xs=>some (x::xs) else wu _ _ _)=some ((if (⟨#[c]⟩:Str) ∈ SG then k::rZ (k+1) cs else rZ (k+1) cs).map λ n=>.int (n:Int));rw [e1,e2,ih]
  by_cases h:(⟨#[c]⟩:Str) ∈ SG
  ·rw [if_pos h]
   show (if decide ((⟨#[c]⟩:Str) ∈ SG)=true then _ else _)=_;rw [if_pos (Ze h)];rfl
  ·rw [if_neg h]
   show (if decide ((⟨#[c]⟩:Str) ∈ SG)=true then _ else _)=_;rw [if_neg (by rw [Zc h]; exact Zf)]
def BI (z:Str):c7 (chD z)=z.cps.toList.mapIdx λ i c=>D.tup [.int ((i+0:Nat):Int),.str ⟨#[c]⟩]:=by
 unfold c7 chD;refine List.ext_getElem? λ i=>?_
 rw [List.getElem?_mapIdx,List.getElem?_mapIdx,List.getElem?_map];cases z.cps.toList[i]? <;> rfl
def ya (h1:it τ=some ds) (hl:ds.length<=100000) (h2:wu (oK c τ cs) (pairD g τ cs) ds=some es):kf it c g cs τ=some (.lst es):=by
 unfold kf;rw [h1];show (if ds.length<=100000 then _ else none)=_;rw [if_pos hl,h2];rfl
def nM {d:Tt} (ht:d.tl):d.text=d.sg++d.bd:=by
 cases d with
 | any=>exact ht.elim
 | name x=>exact ht.elim
 | mark x=>rfl
 | ij x=>rfl
 | rR k f e=>rfl
theorem EG {d:Tt} (ht:d.tl):∃ c,d.sg=⟨#[c]⟩/\(⟨#[c]⟩:Str) ∈ SG:=by
 cases d with
 | any=>exact ht.elim
 | name x=>exact ht.elim
 | mark x=>exact ⟨46,show (".":Str)=_ by decide +kernel,by decide +kernel⟩
 | ij x=>exact ⟨33,show ("!":Str)=_ by decide +kernel,by decide +kernel⟩
 | rR k f e=>
  cases k
  · exact ⟨64,show ("@":Str)=_ by decide +kernel,by decide +kernel⟩
  · exact ⟨94,show ("^":Str)=_ by decide +kernel,by decide +kernel⟩
def Hi {xs:List Nat} (h1:46 ∉ xs) (h2:33 ∉ xs) (h3:64 ∉ xs) (h4:94 ∉ xs):∀ c ∈ xs,(⟨#[c]⟩:Str) ∉ SG:=λ c hc z=>by
 rcases (zR c).mp z with rfl | rfl | rfl | rfl
 · exact h1 hc
 · exact h2 hc
 · exact h3 hc
 · exact h4 hc
def wc {x:Str} (h:a7 x=true):∀ c ∈ x.cps.toList,(⟨#[c]⟩:Str) ∉ SG:=Hi (fU (by decide) h) (fU (by decide) h) (fU (by decide) h) (fU (by decide) h)
def Rl {d:Tt} (h:d.ok) (ht:d.tl):∀ c ∈ d.bd.cps.toList,(⟨#[c]⟩:Str) ∉ SG:=by
 cases d with
 | any=>exact ht.elim
 | name x=>exact ht.elim
 | mark x=>exact wc h
 | ij x=>exact wc h
 | rR k f e=>exact Hi (B7 (by decide) _ _) (B7 (by decide) _ _) (B7 (by decide) _ _) (B7 (by decide) _ _)
theorem Q2 {d:Tt} (h:d.ok) (ht:d.hd):∀ c ∈ d.text.cps.toList,(⟨#[c]⟩:Str) ∉ SG:=by
 cases d with
 | any=>exact Hi (by decide +kernel) (by decide +kernel) (by decide +kernel) (by decide +kernel)
 | name x=>exact wc h
 | mark x=>exact ht.elim
 | ij x=>exact ht.elim
 | rR k f e=>exact ht.elim
def stN:Nat->List Tt->List Nat
 | _,[]=>[]
 | k,d::ds=>k::stN (k+d.text.length) ds
def enN:Nat->List Tt->List Nat
 | _,[]=>[]
 | k,d::ds=>(k+d.text.length)::enN (k+d.text.length) ds
theorem Gr:∀ (ds:List Tt) (k:Nat),stN k ds++[k+(WT ds).length]=k::enN k ds
 | [],k=>by show [k+Str.length ""]=[k]; rw [show Str.length ""=0 by decide +kernel]; rfl
 | d::ds,k=>by
  have ih:=Gr ds (k+d.text.length);show k::(stN (k+d.text.length) ds++[k+(d.text++WT ds).length])=k::(k+d.text.length)::enN (k+d.text.length) ds;rw [<- ih,U1,Nat.add_assoc]
theorem tM:∀ (ds:List Tt) (k:Nat),(stN k ds).length=ds.length
 | [],_=>rfl
 | d::ds,k=>by show (stN _ ds).length+1=_; rw [tM]; rfl
def Jo:Str.length (WT [])=0:=by rfl
theorem EB:∀ {ds:List Tt} {k j:Nat} {d:Tt},ds[j]?=some d->(stN k ds)[j]?=some (k+(WT (ds.take j)).length)/\(enN k ds)[j]?=some (k+(WT (ds.take j)).length+d.text.length)
 | [],_,j,_,h=>by rw [List.getElem?_nil] at h; cases h
 | x::ds,k,0,d,h=>by
  have e:x=d:=by simpa using h
  subst e;rw [List.take_zero,Jo];exact ⟨rfl,rfl⟩
 | x::ds,k,j+1,d,h=>by
  have ih:=EB (ds:=ds) (k:=k+x.text.length) (j:=j) (d:=d) (by simpa using h)
  have e:(WT ((x::ds).take (j+1))).length=x.text.length+(WT (ds.take j)).length:=by
   rw [List.take_succ_cons];show (x.text++WT _).length=_;rw [U1]
  rw [e,<- Nat.add_assoc];exact ih
theorem EU:∀ {ds:List Tt} {k:Nat},(∀ d ∈ ds,d.ok/\d.tl)->rZ k (WT ds).cps.toList=stN k ds
 | [],k,_=>by rw [show (WT []).cps.toList=[] by decide +kernel]; rfl
 | d::ds,k,h=>by
  obtain ⟨ok,tl⟩:=h d (by simp);obtain ⟨c,ec,hc⟩:=EG tl;have ih:=EU (ds:=ds) (k:=k+d.text.length) λ e he=>h e (Za _ he)
  show rZ k (d.text++WT ds).cps.toList=k::stN (k+d.text.length) ds;rw [aY,jr,aQ,ih,nM tl,aY,jr,oI _ _ (Rl ok tl),Yd,ec];show (if (⟨#[c]⟩:Str) ∈ SG then [k] else [])++_=_;rw [if_pos hc];rfl
theorem Eu:∀ xs ys:List Tt,WT (xs++ys)=WT xs++WT ys
 | [],ys=>(gD _).symm
 | x::xs,ys=>by
  show x.text++WT (xs++ys)=x.text++WT xs++WT ys;rw [Eu,fI]
def CM {ds:List Tt} {j:Nat} {d:Tt} (h:ds[j]?=some d) (ht:d.tl):(WT ds).cps.toList=(WT (ds.take j)).cps.toList++(d.sg.cps.toList++(d.bd.cps.toList++(WT (ds.drop (j+1))).cps.toList)):=by
 have e:ds=ds.take j++d::ds.drop (j+1):=by
  rw [<- (List.getElem?_eq_some_iff.mp h).2,List.getElem_cons_drop,Y6]
 have e2:WT ds=WT (ds.take j)++(d.text++WT (ds.drop (j+1))):=by
  conv=>lhs; rw [e]
  rw [Eu];rfl
 rw [e2,aY,aY,nM ht,aY,Z5]
def Bt (h:f τ=some (.str z)):pz (aG f bR) τ=some (c7 (chD z)):=by
 unfold pz;rw [ah h av];rfl
def LM (h:f τ=some (.lst as)) (h2:g τ=some (.lst bs)):HU (aG f (aG g bR)) τ=some (zp as bs):=by
 unfold HU;rw [ah h (ah h2 av)];rfl
theorem sR (x:D) (xs:List D):cutD (x::xs) (some 1) none=xs:=by
 unfold cutD;rw [HT.C3,show HT.sIx (x::xs).length 0 (some 1)=min 1 (x::xs).length from HT.vD _ _ 1,Zi,show min 1 (xs.length+1)=1 by omega];simp
def Jf {as bs:List D} {j:Nat} {d:D} (h:(zp as bs)[j]?=some d):∃ a b,as[j]?=some a/\bs[j]?=some b/\d=.tup [a,b]:=by
 unfold zp at h;rw [List.getElem?_map] at h;obtain ⟨p,ep,rfl⟩:=Zm h;rw [List.getElem?_zip_eq_some] at ep;exact ⟨_,_,ep.1,ep.2,rfl⟩
theorem nA {z:Str} {A B R:List Nat} {y:Str} {l u:Option Int} {a b:Nat} (e:z.cps.toList=A++(B++R)) (ea:A.length=a) (eb:a+B.length=b) (hy:y.cps.toList=B) (es:Builtin.Str.strSliceIndices l u 1 z.length=Builtin.Str.strSliceIndices (some (a:Int)) (some (b:Int)) 1 z.length):Txt.slice z l u=y:=by
 have hz:z.length=A.length+(B.length+R.length):=by rw [<- aQ,e,Zh,Zh]
 refine ext ?_
 rw [dW z (a:=a) (b:=b) (by omega) (by omega) es,e,hy,<- ea,List.drop_left,<- eb,show A.length=a from ea,Nat.add_sub_cancel_left,Wa]
def qC {z:Str} {a c:Nat} (hl:z.length<=100000) (h:z.cps.toList[a]?=some c):oIx (.str z) (.int (a:Int))=some (.str ⟨#[c]⟩):=by
 show (if z.length<=100000 then (atI z.cps.toList (a:Int)).map _ else none)=_;rw [if_pos hl,Cv h];rfl
theorem Ob {k:Nat} (hk:k=32\/k=62\/k=43\/k=126\/k=44\/k=123) {d:Tt} (h:d.ok):k ∉ d.text.cps.toList:=by
 have one:∀ {x y:Str},k ∉ x.cps.toList->k ∉ y.cps.toList->k ∉ (x++y).cps.toList:=λ h1 h2 z=>by
  rw [aY,Z2] at z;exact z.elim h1 h2
 cases d with
 | any=>
  rcases hk with rfl | rfl | rfl | rfl | rfl | rfl
  · show 32 ∉ (Str.cps "*").toList; decide +kernel
  · show 62 ∉ (Str.cps "*").toList; decide +kernel
  · show 43 ∉ (Str.cps "*").toList; decide +kernel
  · show 126 ∉ (Str.cps "*").toList; decide +kernel
  · show 44 ∉ (Str.cps "*").toList; decide +kernel
  · show 123 ∉ (Str.cps "*").toList; decide +kernel
 | name x=>exact fU (by omega) h
 | mark x=>
  refine one ?_ (fU (by omega) h)
  rcases hk with rfl | rfl | rfl | rfl | rfl | rfl <;> decide +kernel
 | ij x=>
  refine one ?_ (fU (by omega) h)
  rcases hk with rfl | rfl | rfl | rfl | rfl | rfl <;> decide +kernel
 | rR b f e=>
  refine one ?_ (B7 (by omega) _ _)
  cases b
  ·show k ∉ (Str.cps "@").toList
   rcases hk with rfl | rfl | rfl | rfl | rfl | rfl <;> decide +kernel
  ·show k ∉ (Str.cps "^").toList
   rcases hk with rfl | rfl | rfl | rfl | rfl | rfl <;> decide +kernel
theorem yo {k:Nat} (hk:k=32\/k=62\/k=43\/k=126\/k=44\/k=123):∀ {ds:List Tt},(∀ d ∈ ds,d.ok)->k ∉ (WT ds).cps.toList
 | [],_=>by rw [show (WT []).cps.toList=[] by decide +kernel]; exact Zq
 | d::ds,h=>λ z=>by
  have z:k ∈ (d.text++WT ds).cps.toList:=z;rw [aY,Z2] at z;rcases z with z | z
  · exact Ob hk (h d (by simp)) z
  · exact yo hk (λ e he=>h e (Za _ he)) z
theorem N5 (h:∀ d ∈ ds,d.ok):WT ds ∉ JN:=λ z=>by
 unfold JN at z;simp only [Zd,Zq,Z9] at z;rcases z with z | z | z
 · exact yo (k:=62) (by decide) h (by rw [z]; decide +kernel)
 · exact yo (k:=43) (by decide) h (by rw [z]; decide +kernel)
 · exact yo (k:=126) (by decide) h (by rw [z]; decide +kernel)
theorem HK:∀ j ∈ JN,32 ∉ j.cps.toList:=by decide +kernel
def wds:List Sp'->List Str
 | []=>[]
 | s::ps=>if s.1 ∈ JN then s.1::WT s.2::wds ps else WT s.2::wds ps
theorem rG:∀ {ps:List Sp'},(∀ s ∈ ps,s.1=(" ":Str)\/s.1 ∈ JN)->∀ w:List Nat,w++(PTx ps).cps.toList=cZ 32 (w::(wds ps).map λ x=>x.cps.toList)
 | [],_,w=>by rw [show (PTx []).cps.toList=[] by decide +kernel,Yd]; rfl
 | s :: ps,h,w=>by
  have ih:=rG (ps:=ps) (λ e he=>h e (Za _ he)) (WT s.2).cps.toList;have bl:(" ":Str).cps.toList=[32]:=by decide +kernel
  show w++(seg s.1++WT s.2++PTx ps).cps.toList=cZ 32 (w::(if s.1 ∈ JN then s.1::WT s.2::wds ps else WT s.2::wds ps).map λ x=>x.cps.toList)
  by_cases q:s.1 ∈ JN
  ·rw [if_pos q,show seg s.1=(" ":Str)++s.1++(" ":Str) from if_pos q]
   simp only [aY,bl,Zz];show _=w++32::(s.1.cps.toList++32::cZ 32 ((WT s.2).cps.toList::(wds ps).map λ x=>x.cps.toList));rw [<- ih];simp only [Z5,Yj,Yc]
  ·rw [if_neg q,show seg s.1=s.1 from if_neg q]
   rcases h s (by simp) with e | e
   ·rw [e]
    simp only [aY,bl,Zz];show _=w++32::(cZ 32 ((WT s.2).cps.toList::(wds ps).map λ x=>x.cps.toList));rw [<- ih];simp only [Z5,Yj,Yc]
   · exact absurd e q
theorem wY:∀ {ps:List Sp'},(∀ s ∈ ps,∀ d ∈ s.2,d.ok)->∀ t ∈ wds ps,32 ∉ t.cps.toList
 | [],_,t,ht=>by cases ht
 | s::ps,h,t,ht=>by
  have w:=yo (k:=32) (by decide) (h s (by simp));have ih:=wY (ps:=ps) λ e he=>h e (Za _ he)
  have ht:t ∈ (if s.1 ∈ JN then s.1::WT s.2::wds ps else WT s.2::wds ps):=ht;split at ht
  ·rename_i q
   rcases Zd.mp ht with rfl | ht
   · exact HK _ q
   rcases Zd.mp ht with rfl | ht
   · exact w
   · exact ih t ht
  ·rcases Zd.mp ht with rfl | ht
   · exact w
   · exact ih t ht
def Cz (s:Sp'):Prop:=∃ d0 ds,s.2=d0::ds/\d0.hd/\∀ d ∈ ds,d.tl
def rpB:DS:=sIf (dT (dOp nG (aM 3) (dC qq))) (fu (sIf (dT (dOp oNe (aM 2) (dC (.str " ")))) EK d6)
 (mo 2 (aM 3))) (fu (GA 1 (mM (aG (aM 2) (aG (dFn gS (aG (aM 3) bR)) bR))))
 (mo 2 (dC (.str " "))))
def z9 (hj:j ∈ JN):((gN 3 (.str j) [.shr (.str z),.own (.lst ds),.shr (.str " "),x3]).bind rpB)=some (.next [.shr (.str z),.own (.lst ds),.shr (.str j),.shr (.str j)]):=by
 show rpB [.shr (.str z),.own (.lst ds),.shr (.str " "),.shr (.str j)]=_;refine eK (b:=true) (aw ((U3 rfl (Bp _)).trans (by rw [Ze hj]))) (λ _=>?_) (λ z=>nomatch z);exact az (aw (U3 rfl rfl)) (aI (ao rfl))
def fG (h:b d τ=some (.next τ')) (h2:ia b ds τ'=r):ia b (d::ds) τ=r:=by
 show (match b d τ with | some (.next τ')=>ia b ds τ' | some (.cnt τ')=>ia b ds τ' | some (.brk τ')=>some (.next τ') | r=>r)=r;rw [h];exact h2
theorem gm:a7 x=true↔1<=x.length/\x.length<=8/\∀ c ∈ x.cps.toList,lower c=true:=by
 unfold a7;rw [Zg,Zg,Z3,Z3,Yi];constructor
 ·rintro ⟨⟨h1,h2⟩,h3⟩
  exact ⟨by omega,by omega,h3⟩
 ·rintro ⟨h1,h2,h3⟩
  exact ⟨⟨by omega,by omega⟩,h3⟩
def lM (x:Str):x.length=x.cps.toList.length:=by rfl
def Ha (h:One z):∀ c ∈ z.cps.toList,lower c=true:=by
 have h2:=h.2;unfold okS at h2;rw [Y5] at h2;intro c hc;exact h2 c (by simpa using hc)
theorem Kb (ns:List Int):∃ a b c d:Str,kH [scr ns,.int 0]=some (.shr (.lst [.str a,.str b,.str c,.str d]))/\a7 a=true/\a7 b=true/\a7 c=true/\a7 d=true:=by
 unfold kH kE; dsimp only
 obtain ⟨c1,e1⟩:=Ce ns (k:=0) (by decide);obtain ⟨c2,e2⟩:=Ce ns (k:=0+1) (by decide);obtain ⟨z,ez,nz⟩:=AW c1 (w:=1) (by decide) (by decide);obtain ⟨y,ey,ny⟩:=AW c2 (w:=4) (by decide) (by decide);obtain ⟨z1,z8,zl⟩:=gm.mp nz;obtain ⟨r,er,r0,r1⟩:=lL c2 (w:=2) (by decide) (by decide)
 have hl:jD [.str z]=some (.int (z.length:Int)):=by
  show (if z.length<=100000 then _ else _)=_;rw [if_pos (by omega)]
 have em:=aO (i:=r) (j:=(z.length:Int)) (by omega);obtain ⟨s,es,os⟩:=FK (Xj _ (by decide)) (Y8 _ (by decide));have ls:=os.1;have sl:=Ha os;have a1:=Ym z none (some (r % (z.length:Int)));have a2:=Ym z (some (r % (z.length:Int)+1)) none;have f1:=bu (x:=Txt.slice z none (some (r % (z.length:Int)))) (y:=s) (by omega);have f2:=bu (x:=Txt.slice z none (some (r % (z.length:Int)))++s) (y:=Txt.slice z (some (r % (z.length:Int)+1)) none) (by rw [U1]; omega);have f3:=bu (x:=z) (y:=s) (by omega);have p0:=Xj r (b:=(z.length:Int)) (by omega);have p1:=Y8 r (b:=(z.length:Int)) (by omega);obtain ⟨p,hp⟩:∃ p:Nat,r % (z.length:Int)=(p:Int):=⟨(r % (z.length:Int)).toNat,by omega⟩
 rw [hp] at p1;have s1:(Txt.slice z none (some (p:Int))).cps.toList=(z.cps.toList.drop 0).take (p - 0):=dW z (Ye _) (by omega) (Yp _ _);have s2:(Txt.slice z (some ((p:Int)+1)) none).cps.toList=(z.cps.toList.drop (p+1)).take (z.length - (p+1)):=dW z (by omega) (Zo _) (Yy _ _)
 have zs:∀ c ∈ (z++s).cps.toList,lower c=true:=by
  intro c hc;rw [aY] at hc;rcases Z2.mp hc with h | h
  · exact zl c h
  · exact sl c h
 have lzs:=U1 z s
 have s3:(Txt.slice (z++s) (some (-8)) none).cps.toList=((z++s).cps.toList.drop ((z++s).length - 8)).take ((z++s).length - ((z++s).length - 8)):=by
  refine dW (z++s) (by omega) (Zo _) ?_
  rw [PyProof.Rows.sliceIdx_lo_neg _ (by decide),Yy];congr 2;omega
 refine ⟨z,Txt.slice z none (some (r % (z.length:Int)))++s++Txt.slice z (some (r % (z.length:Int)+1)) none,Txt.slice (z++s) (some (-8)) none,y,?_,nz,?_,?_,ny⟩
 ·skip
  refine bF ?_
  refine aR (aI (d:=.str LET) Uf) ?_
  refine aR (aI (by walk_at "ee")) ?_
  refine aR (aI (by walk_at "ee")) ?_
  refine aR (aI (by walk_at "ee")) ?_
  refine aR (aI (by walk_at "ee")) ?_
  refine aR (aI (ar (ar (fV e_v kI (be e_v) (by omega)) e_v f1) (fV e_v (be (ar e_v Uf (a8 _ _))) kI (by omega)) f2)) ?_
  refine aR (aI (fV (ar e_v e_v f3) (be (sO Uf rfl)) kI (by rw [U1]; omega))) ?_
  exact aD (by walk_at "ee")
 ·rw [hp]
  refine gm.mpr ⟨by rw [U1,U1]; omega,?_,λ c hc=>?_⟩
  ·rw [U1,U1,lM (Txt.slice z none _),lM (Txt.slice z (some _) none),s1,s2,Yh,Yh,Y7,Y7]
   omega
  ·rw [aY,aY,s1,s2] at hc
   rcases Z2.mp hc with h | h
   ·rcases Z2.mp h with h | h
    · exact zl c (Wb (Y0 h))
    · exact sl c h
   · exact zl c (Wb (Y0 h))
 ·refine gm.mpr ⟨?_,?_,λ c hc=>?_⟩
  ·rw [lM,s3,Yh,Y7,<- lM]
   omega
  ·rw [lM,s3,Yh,Y7,<- lM]
   omega
  ·rw [s3] at hc
   exact zs c (Wb (Y0 hc))
def SV (ds:List Tt):Prop:=(∀ d ∈ ds,d.ok)/\ds.length<=12/\∃ d0 r,ds=d0::r/\d0.hd/\∀ d ∈ r,d.tl
def Gs:∃ k,oIx (.lst [.str "front",.str "back"]) (.int (r % 2))=some (.str (yy k)):=by
 obtain ⟨x,ex,k,rfl⟩:=jL (xs:=["front","back"]) (P:=λ x=>∃ k,x=yy k) (λ x hx=>by
  simp only [Zd,Zq,Z9] at hx;rcases hx with rfl | rfl
  · exact ⟨false,rfl⟩
  · exact ⟨true,rfl⟩) (em0 _ (by decide)) (em1 _ (by decide))
 exact ⟨k,ex⟩
theorem Ma {xs:List Str} (hx:∀ x ∈ xs,a7 x=true) (h4:xs.length=4) (c:Int) {w m:Int} (w0:0<=w) (w1:w<=900) (m0:0 < m) (m1:m<=12):∃ ds,qm [.int c,.int w,.lst (xs.map .str),.int m]=some (.shr (.tup (ds.map Tt.D)))/\SV ds:=by
 obtain ⟨r,er,r0,r1⟩:=lL c w0 (by omega);have pk:∀ q:Int,∃ x,oIx (.lst (xs.map .str)) (.int (q % 4))=some (.str x)/\a7 x=true:=λ q=>jL hx (em0 _ (by decide)) (by rw [h4]; exact em1 _ (by decide))
 have n0:=em0 (r / 12) m0;have n1:=em1 (r / 12) (k:=m) m0
 have key:Ret (λ d=>∃ ds,d=.tup (ds.map Tt.D)/\SV ds) (kD.1 (cF 11 [.int c,.int w,.lst (xs.map .str),.int m])):=by
  refine dD (aI (br (ah e_v (ah e_v av)) er rfl)) ?_
  refine dD (iu (fb (ah (bf (ah Uf av) (Zb rfl)) av) (Zb rfl)) (show 5 < 11 by decide)) ?_
  refine CG (R:=λ τ=>∃ d0:Tt,d0.ok/\d0.hd/\τ=[.shr (.int c),.shr (.int w),.shr (.lst (xs.map .str)),.shr (.int m),.shr (.int r),.own (.lst [d0.D]),.no,.no,.no,.no,.no]) (E7 (aw (ar (ar e_v Uf (aO (by decide))) Uf rfl)) (λ _=>?_) (λ _=>qV ⟨.any,trivial,trivial,rfl⟩)) ?_
  ·obtain ⟨x,ex,ox⟩:=pk (r / 3)
   exact xF (iu (fb (ah (bf (ah Uf (ah (ar e_v (ar (ar e_v Uf (bL (by decide) (by decide +kernel))) Uf (aO (by decide))) ex) av)) (Zb rfl)) av) (Zb rfl)) (show 5 < 11 by decide)) ⟨.name x,ox,trivial,rfl⟩
  rintro τ ⟨d0,ok0,hd0,rfl⟩
  refine CG (R:=λ τ=>∃ (ds:List Tt) (x6 x7 x8 x9 x10:Sl),ds.length<=11/\(∀ d ∈ ds,d.ok/\d.tl)/\τ=[.shr (.int c),.shr (.int w),.shr (.lst (xs.map .str)),.shr (.int m),.shr (.int r),.own (.lst ((d0::ds).map Tt.D)),x6,x7,x8,x9,x10]) (sy (λ j τ=>∃ (ds:List Tt) (x6 x7 x8 x9 x10:Sl),ds.length=j/\(∀ d ∈ ds,d.ok/\d.tl)/\τ=[.shr (.int c),.shr (.int w),.shr (.lst (xs.map .str)),.shr (.int m),.shr (.int r),.own (.lst ((d0::ds).map Tt.D)),x6,x7,x8,x9,x10]) (yN (j:=r / 12 % m) (ah (ar (ar e_v Uf (bL (by decide) (by decide +kernel))) e_v (aO m0)) av) (by omega)) ⟨[],_,_,_,_,_,rfl,(λ d hd=>nomatch hd),rfl⟩ ?_ λ τ' ⟨ds,x6,x7,x8,x9,x10,l,h,e⟩=>⟨ds,x6,x7,x8,x9,x10,by rw [iw] at l; omega,h,e⟩) ?_
  ·rintro j d τ ed ⟨ds,x6,x7,x8,x9,x10,l,h,rfl⟩
   obtain ⟨rfl,jl⟩:=rX ed;rw [Int.zero_add];refine ⟨_,rfl,?_⟩;obtain ⟨q,eq,q0,q1⟩:=lL c (w:=w+1+(j:Int)) (by omega) (by omega);obtain ⟨x,ex,ox⟩:=pk (q / 4);refine j5 (aI (br (ah e_v (ah (ar (ar e_v Uf (a8 _ _)) e_v (a8 _ _)) av)) eq rfl)) ?_
   refine j5 (aI (ar e_v (ar (ar e_v Uf (bL (by decide) (by decide +kernel))) Uf (aO (by decide))) ex)) ?_
   have fin:∀ {τ:List Sl} {e:DE} {y7 y8 y9 y10:Sl} {d:Tt},τ=[.shr (.int c),.shr (.int w),.shr (.lst (xs.map .str)),.shr (.int m),.shr (.int r),.own (.lst ((d0::ds).map Tt.D)),.shr (.int (j:Int)),y7,y8,y9,y10]->e τ=some d.D->d.ok/\d.tl->Nx (λ τ=>∃ (ds:List Tt) (x6 x7 x8 x9 x10:Sl),ds.length=j+1/\(∀ d ∈ ds,d.ok/\d.tl)/\τ=[.shr (.int c),.shr (.int w),.shr (.lst (xs.map .str)),.shr (.int m),.shr (.int r),.own (.lst ((d0::ds).map Tt.D)),x6,x7,x8,x9,x10]) (GA 5 e τ):=λ {τ e y7 y8 y9 y10 d} eτ ee hd=>by
    subst eτ;refine xF (yB ee rfl ?_) ⟨ds++[d],.shr (.int (j:Int)),y7,y8,y9,y10,by rw [Zh,l]; rfl,λ e he=>?_,?_⟩
    ·rw [Zk,Zi]
     omega
    ·rcases Z2.mp he with z | z
     · exact h e z
     ·rw [Zx.mp z]
      exact hd
    ·rw [<- Yj,Yu]
     rfl
   refine E7 (aw (ar (ar e_v Uf (aO (by decide))) Uf (bp _ _))) (λ _=>?_) (λ _=>?_)
   · exact fin (d:=.mark x) rfl (bf (ah Uf (ah e_v av)) (Zb rfl)) ⟨ox,trivial⟩
   refine E7 (aw (ar (ar e_v Uf (aO (by decide))) Uf (bp _ _))) (λ _=>?_) (λ _=>?_)
   · exact fin (d:=.ij x) rfl (bf (ah Uf (ah (bf (ah Uf (ah e_v av)) (Zb rfl)) av)) (Zb rfl)) ⟨ox,trivial⟩
   obtain ⟨f1,hf1⟩:=iF (em0 (q / 4) (k:=20) (by decide));obtain ⟨e1,he1⟩:=iF (em0 (q / 80) (k:=4) (by decide));obtain ⟨g,hg⟩:=iF (em0 c (k:=10 ^ 30) (by decide));have gn:g < 10 ^ 30:=by omega
   have sm:∀ {n:Nat},n < 20->n < 10 ^ 30:=λ hn=>Zl hn (by decide +kernel)
   refine j5 (aI (ar (ar e_v Uf (bL (by decide) (by decide +kernel))) Uf ((aO (by decide)).trans (by rw [hf1])))) ?_
   refine j5 (aI (ar (ar e_v Uf (bL (by decide) (by decide +kernel))) Uf ((aO (by decide)).trans (by rw [he1])))) ?_
   have step:∀ {Q:List Sl->Prop} {f g:DS} {τ:List Sl} (R:List Sl->Prop),Nx R (f τ)->(∀ τ',R τ'->Nx Q (g τ'))->Nx Q (fu f g τ):=λ R ⟨τ',e,p⟩ k=>j5 e (k τ' p)
   refine step (λ τ=>∃ f:Nat,f < 10 ^ 30/\τ=[.shr (.int c),.shr (.int w),.shr (.lst (xs.map .str)),.shr (.int m),.shr (.int r),.own (.lst ((d0::ds).map Tt.D)),.shr (.int (j:Int)),.shr (.int q),.shr (.str x),.shr (.int (f:Int)),.shr (.int (e1:Int))]) (E7 (aw (ar (ar (ar e_v Uf (bL (by decide) (by decide +kernel))) Uf (aO (by decide))) Uf (bp _ _))) (λ _=>xF (aI (ar e_v yE ((aO (by decide)).trans (by rw [hg])))) ⟨g,gn,rfl⟩) (λ _=>qV ⟨f1,sm (by omega),rfl⟩)) ?_
   rintro τ ⟨f,hf,rfl⟩
   refine step (λ τ=>∃ e:Nat,e < 10 ^ 30/\τ=[.shr (.int c),.shr (.int w),.shr (.lst (xs.map .str)),.shr (.int m),.shr (.int r),.own (.lst ((d0::ds).map Tt.D)),.shr (.int (j:Int)),.shr (.int q),.shr (.str x),.shr (.int (f:Int)),.shr (.int (e:Int))]) (E7 (aw (ar (ar (ar e_v Uf (bL (by decide) (by decide +kernel))) Uf (aO (by decide))) Uf (bp _ _))) (λ _=>xF (aI (d:=.int (g:Int)) (ar e_v yE ((aO (by decide)).trans (by rw [hg])))) ⟨g,gn,rfl⟩) (λ _=>qV ⟨e1,sm (by omega),rfl⟩)) ?_
   rintro τ ⟨e,he,rfl⟩
   obtain ⟨k,ek⟩:=Gs;exact fin (d:=.rR k f e) rfl (bf (ah (ar (fb (ah Uf (ah Uf av)) (Zb rfl)) (ar e_v Uf (aO (by decide))) ek) (ah e_v (ah e_v av))) (Zb rfl)) ⟨⟨hf,he⟩,trivial⟩
  ·rintro τ ⟨ds,x6,x7,x8,x9,x10,l,h,rfl⟩
   refine ⟨_,oq rfl (aD (aS (ah e_v av) rfl)),d0::ds,rfl,λ d hd=>?_,by rw [Zi]; omega,d0,ds,rfl,hd0,λ d hd=>(h d hd).2⟩;rcases Zd.mp hd with rfl | z
   · exact ok0
   · exact (h d z).1
 obtain ⟨d,e,ds,rfl,h⟩:=qF key;exact ⟨ds,e,h⟩
structure Jd (ps:List Sp'):Prop where
 ok:Ml ps
 st:∀ s ∈ ps,Cz s
 ne:ps≠[]
def HJ (r:Int):∃ x:Str,oIx (.lst [.str " ",.str ">",.str "+",.str "~"]) (.int (r % 4))=some (.str x)/\(x=(" ":Str)\/x ∈ JN):=by
 obtain ⟨x,ex,hx⟩:=jL (xs:=[" ",">","+","~"]) (P:=λ x=>x=(" ":Str)\/x ∈ JN) (λ x hx=>by
  rcases Zd.mp hx with h | h
  · exact .inl h
  · exact .inr h) (em0 _ (by decide)) (em1 _ (by decide))
 exact ⟨x,ex,hx⟩
theorem BP {xs:List Str} (hx:∀ x ∈ xs,a7 x=true) (h4:xs.length=4) (c:Int) {w n m:Int} (w0:0<=w) (w1:w<=700) (n0:0 < n) (n1:n<=8) (m0:0 < m) (m1:m<=12):∃ ps,jh [.int c,.int w,.lst (xs.map .str),.int n,.int m]=some (.shr (t7 ps))/\Jd ps/\ps.length=n.toNat:=by
 have key:Ret (λ d=>∃ ps,d=t7 ps/\Jd ps/\ps.length=n.toNat) (fK.1 (cF 8 [.int c,.int w,.lst (xs.map .str),.int n,.int m])):=by
  unfold fK; dsimp only
  refine dD (iu (fb av (Ye _)) (show 5 < 8 by decide)) ?_
  let St (ps:List Sp') (τ:List Sl):Prop:=∃ x6 x7:Sl,τ=[.shr (.int c),.shr (.int w),.shr (.lst (xs.map .str)),.shr (.int n),.shr (.int m),.own (.lst (ps.map stD)),x6,x7]
  let Hs (ps:List Sp'):Prop:=(∀ s ∈ ps,Rn s/\Cz s)/\(∀ s:Sp',ps[0]?=some s->s.1=("":Str))/\(∀ (j:Nat) (s:Sp'),ps[j+1]?=some s->s.1=(" ":Str)\/s.1 ∈ JN)
  refine CG (R:=λ τ=>∃ ps,ps.length=n.toNat/\Hs ps/\St ps τ) (sy (λ j τ=>∃ ps,ps.length=j/\Hs ps/\St ps τ) (yN (j:=n) (ah e_v av) (by omega)) ⟨[],rfl,⟨(λ _ h=>nomatch h),(λ _ h=>by cases h),(λ _ _ h=>by cases h)⟩,_,_,rfl⟩ ?_ λ τ' ⟨ps,l,h⟩=>⟨ps,by rw [iw] at l; exact l,h⟩) ?_
  ·rintro j d τ ed ⟨ps,l,hs,x6,x7,rfl⟩
   obtain ⟨rfl,jl⟩:=rX ed;rw [Int.zero_add];refine ⟨[.shr (.int c),.shr (.int w),.shr (.lst (xs.map .str)),.shr (.int n),.shr (.int m),.own (.lst (ps.map stD)),.shr (.int (j:Int)),x7],rfl,?_⟩;refine j5 (aI Uf) ?_
   have step:∀ {Q:List Sl->Prop} {f g:DS} {τ:List Sl} (R:List Sl->Prop),Nx R (f τ)->(∀ τ',R τ'->Nx Q (g τ'))->Nx Q (fu f g τ):=λ R ⟨τ',e,p⟩ k=>j5 e (k τ' p)
   refine step (λ τ=>∃ x:Str,(j=0->x=("":Str))/\(j≠0->x=(" ":Str)\/x ∈ JN)/\τ=[.shr (.int c),.shr (.int w),.shr (.lst (xs.map .str)),.shr (.int n),.shr (.int m),.own (.lst (ps.map stD)),.shr (.int (j:Int)),.shr (.str x)]) (E7 (aw (ar e_v Uf rfl)) (λ q=>?_) (λ q=>qV ⟨"",λ _=>rfl,λ z=>?_,rfl⟩)) ?_
   ·obtain ⟨r,er,_,_⟩:=lL c (w:=w+7 * (j:Int)) (by omega) (by omega)
    obtain ⟨x,ex,hx⟩:=HJ r;refine xF (aI (ar (fb (ah Uf (ah Uf (ah Uf (ah Uf av)))) (Zb rfl)) (ar (br (ah e_v (ah (ar e_v (ar Uf e_v (qU (by decide) (by decide))) (a8 _ _)) av)) er rfl) Uf (aO (by decide))) ex)) ⟨x,λ z=>?_,λ _=>hx,rfl⟩;have:=Zu q;omega
   ·have:=Z0 q
    omega
   rintro τ ⟨x,hx0,hx1,rfl⟩
   obtain ⟨ds,ed,dok,dl,dst⟩:=Ma hx h4 c (w:=w+1+13 * (j:Int)) (by omega) (by omega) m0 m1;refine xF (yB (bf (ah e_v (ah (br (ah e_v (ah (ar (ar e_v Uf (a8 _ _)) (ar Uf e_v (qU (by decide) (by decide))) (a8 _ _)) (ah e_v (ah e_v av)))) ed rfl) av)) (Zb rfl)) rfl ?_) ⟨ps++[(x,ds)],by rw [Zh,l]; rfl,⟨λ s hm=>?_,λ s e=>?_,λ i s e=>?_⟩,.shr (.int (j:Int)),.shr (.str x),?_⟩
   ·rw [Zk]
    omega
   ·rcases Z2.mp hm with z | z
    · exact hs.1 s z
    ·rw [Zx.mp z]
     refine ⟨⟨dok,dl,?_⟩,dst⟩
     by_cases z0:j=0
     · exact .inl (hx0 z0)
     · exact .inr (hx1 z0)
   ·by_cases z0:j=0
    ·have:ps=[]:=List.eq_nil_of_length_eq_zero (by omega)
     rw [this] at e;have e:(x,ds)=s:=by simpa using e
     rw [<- e];exact hx0 z0
    ·rw [List.getElem?_append_left (by omega)] at e
     exact hs.2.1 s e
   ·by_cases z0:i+1 < ps.length
    ·rw [List.getElem?_append_left z0] at e
     exact hs.2.2 i s e
    ·rw [List.getElem?_append_right (by omega)] at e
     cases q:i+1 - ps.length with
     | zero=>
      rw [q] at e;have e:(x,ds)=s:=by simpa using e
      rw [<- e];exact hx1 (by omega)
     | succ k=>
      rw [q] at e;simp at e
   ·rw [Yu]
    rfl
  ·rintro τ ⟨ps,l,hs,x6,x7,rfl⟩
   refine ⟨_,oq rfl (aD (aS (ah e_v av) rfl)),ps,rfl,⟨⟨λ s hm=>(hs.1 s hm).1,by omega,hs.2.1,hs.2.2⟩,λ s hm=>(hs.1 s hm).2,λ z=>?_⟩,l⟩;rw [z] at l;have l:0=n.toNat:=l;omega
 obtain ⟨d,e,ps,rfl,h⟩:=qF key;exact ⟨ps,e,h⟩
def joinM (c d:Nat):List (List Nat)->List Nat
 | []=>[]
 | [x]=>x
 | x::y::r=>x++c::d::joinM c d (y::r)
theorem FN (c d:Nat):∀ ts:List Str,(Str.join ⟨#[c,d]⟩ ts).cps.toList=joinM c d (ts.map λ x=>x.cps.toList)
 | []=>rfl
 | [x]=>rfl
 | x::y::r=>by
  have ih:=FN c d (y::r);show ((x++⟨#[c,d]⟩)++Str.join ⟨#[c,d]⟩ (y::r)).cps.toList=x.cps.toList++c::d::joinM c d ((y::r).map λ x=>x.cps.toList);rw [aY,aY,ih];simp
theorem Mj (h1:x.cps.toList[k]?=some c) (h2:x.cps.toList[k+1]?=some d):StrLaws.At x ⟨#[c,d]⟩ x.length k:=by
 have l2:=(List.getElem?_eq_some_iff.mp h2).1;rw [aQ] at l2;unfold StrLaws.At;refine ⟨by show k+2<=_; omega,?_⟩;rw [Y9]
 have ed:List.drop k x.cps.toList=c::d::List.drop (k+2) x.cps.toList:=by
  rw [Yg (by rw [aQ]; omega),(List.getElem?_eq_some_iff.mp h1).2,Yg (by rw [aQ]; omega),(List.getElem?_eq_some_iff.mp h2).2]
 rw [ed];show ([c,d] == [c,d])=true;exact beq_self_eq_true _
theorem join_snoc (sep x:Str):∀ {xs:List Str},xs≠[]->Str.join sep (xs++[x])=Str.join sep xs++sep++x
 | [],h=>absurd rfl h
 | [y],_=>rfl
 | y::z::r,_=>by
  have ih:=join_snoc sep x (xs:=z::r) (by simp);show (y++sep)++Str.join sep ((z::r)++[x])=(y++sep)++Str.join sep (z::r)++sep++x;rw [ih];simp only [fI]
def w5 (sep:Str):∀ ts:List Str,ts≠[]->Txt.join sep ts=Str.join sep ts
 | [],h=>absurd rfl h
 | x::xs,_=>StrLaws.glued_cons sep xs x
theorem jw (sep:Str):∀ {ts:List Str},(∀ t ∈ ts,t.length<=b)->(Str.join sep ts).length<=(b+sep.length) * ts.length
 | [],_=>Ye _
 | [x],h=>by
  have:=h x (by simp);show x.length<=(b+sep.length) * 1;omega
 | x::y::r,h=>by
  have ih:=jw sep (ts:=y::r) λ t ht=>h t (Za _ ht)
  have:=h x (by simp);show ((x++sep)++Str.join sep (y::r)).length<=_;rw [U1,U1,Zi (as:=y::r),Nat.mul_add];omega
theorem Be {sep:Str} {ts:List Str} {j:Nat} {x:Str} (h:ts[j]?=some x):Str.join sep (ts.take (j+1))=Str.join sep (ts.take j)++(if j=0 then ("":Str) else sep)++x:=by
 rw [List.take_add_one,h];have jl:=(List.getElem?_eq_some_iff.mp h).1
 by_cases z:j=0
 ·subst z
  rw [if_pos rfl,List.take_zero];show x=("":Str)++("":Str)++x;rw [gD,gD]
 ·rw [if_neg z]
  exact join_snoc sep x λ e=>by
   have:=Z8 List.length e;rw [Yh,List.length_nil] at this;omega
theorem Dx {x a b:Str} (hf:123 ∉ a.cps.toList) (e:x.cps.toList=a.cps.toList++32::123::b.cps.toList):gi x " {"=[a," {",b]:=by
 have bl:(Str.cps " {").toList=[32,123]:=by decide +kernel
 have l1:Str.length " {"=2:=by decide +kernel
 have hl:x.length=a.length+2+b.length:=by rw [<- aQ,e,Zh,Zi,Zi,aQ,aQ]; omega
 have eb:(" {":Str)=⟨#[32,123]⟩:=by decide +kernel
 have here:StrLaws.At x " {" x.length a.length:=by
  rw [eb];refine Mj ?_ ?_
  ·rw [e,List.getElem?_append_right (by rw [aQ]; exact Zo _),aQ,Nat.sub_self]
   rfl
  ·rw [e,List.getElem?_append_right (by rw [aQ]; omega),aQ,Nat.add_sub_cancel_left]
   rfl
 have snd:∀ i,StrLaws.At x " {" x.length i->x.cps.toList[i+1]?=some 123:=λ i h=>by
  unfold StrLaws.At at h;rw [Y9,bl,l1] at h;have e2:=eq_of_beq h.2;have:=Z8 (λ l=>l[1]?) e2
  simpa using this
 rcases Yz x " {" with ⟨_,h⟩ | ⟨i,h,h1,h2⟩
 · exact absurd here (h _)
 have ei:i=a.length:=by
  have c:=snd i h1;rcases Nat.lt_trichotomy i a.length with z | z | z
  ·by_cases z2:i+1 < a.length
   ·rw [e,List.getElem?_append_left (by rw [aQ]; exact z2)] at c
    exact absurd (List.mem_of_getElem? c) hf
   ·rw [e,List.getElem?_append_right (by rw [aQ]; omega),aQ,show i+1 - a.length=0 by omega] at c
    exact absurd (Zj c) (by decide)
  · exact z
  · exact absurd here (h2 _ z)
 unfold gi;rw [h];subst ei
 have s1:Builtin.Str.strSub x 0 a.length=a:=ext (by
  rw [X4,Nat.sub_zero,Xb,e,<- aQ,Wa])
 have s2:Builtin.Str.strSub x (a.length+Str.length " {") x.length=b:=ext (by
  rw [X4,l1,e,hl,<- aQ a,List.drop_append,List.drop_of_length_le (by omega),Yc,show a.cps.toList.length+2 - a.cps.toList.length=2 by omega];show List.take _ b.cps.toList=_
  exact Y4 (by rw [aQ]; omega))
 show [Builtin.Str.strSub x 0 a.length," {",Builtin.Str.strSub x (a.length+Str.length " {") x.length]=_;rw [s1,s2]
theorem zN (h:x.cps.toList=y.cps.toList++post):Txt.startswith x y=true:=by
 have hl:x.length=y.length+post.length:=by rw [<- aQ,h,Zh,aQ]
 unfold Txt.startswith;rw [Zg];refine ⟨Ze (by omega),?_⟩;rw [Y9,h,Xb,<- aQ y,Wa];exact beq_self_eq_true _
structure Rw where
 p:Str
 v:Vw
 b:Bool
def Rw.D (r:Rw):D:=Mp r.p r.v r.b
def Rw.text (r:Rw):Str:=RT r.p r.v r.b
structure Rw.ok (r:Rw):Prop where
 hp:r.p ∈ props
 ho:r.v.ok 30
 hv:VP r.p r.v
def CO:Str:=⟨#[44,32]⟩
def SE:Str:=⟨#[59,32]⟩
theorem Eg:(", ":Str)=CO:=by decide +kernel
theorem Gw:("; ":Str)=SE:=by decide +kernel
def JR (rs:List Rw):Str:=Str.join SE (rs.map Rw.text)
def JP (pp:List (List Sp')):Str:=Str.join CO (pp.map PTx)
def BR (rs:List Rw):Str:=if rs=[] then ("{ }":Str) else ("{ ":Str)++JR rs++(" }":Str)
def HDx (l:Nat) (pp:List (List Sp')):Str:=Tx l++(" ":Str)++JP pp
def RX (l:Nat) (pp:List (List Sp')) (rs:List Rw):Str:=HDx l pp++(" ":Str)++BR rs
def Ox (rs:List Rw):D:=.tup (rs.map Rw.D)
def OK (pp:List (List Sp')):D:=.tup (pp.map t7)
def C8 (l:Nat) (pp:List (List Sp')) (rs:List Rw):D:=.tup [.int (l:Int),OK pp,Ox rs]
structure NW (l:Nat) (pp:List (List Sp')) (rs:List Rw):Prop where
 hl:l < 10
 pn:pp≠[]
 pl:pp.length<=12
 po:∀ ps ∈ pp,Jd ps/\ps.length<=3
 rl:rs.length<=30
 ro:∀ r ∈ rs,r.ok
def rW {r:Rw} (h:r.ok):r.text.length<=130:=zY h.hp h.ho
theorem sf (h:Jd ps/\ps.length<=3):(PTx ps).length<=2250:=by
 have:=Ad h.1.ok.ok;have:=h.2;omega
def all_map {α β:Type} {f:α->β} {xs:List α} {P:β->Prop} (h:∀ x ∈ xs,P (f x)):∀ y ∈ xs.map f,P y:=λ y hy=>by
 obtain ⟨x,hx,rfl⟩:=Xn.mp hy;exact h x hx
theorem Lz (h:∀ r ∈ rs,r.ok) (hl:rs.length<=30):(JR rs).length<=4000:=by
 have:=jw SE (b:=130) (ts:=rs.map Rw.text) (all_map λ r hr=>rW (h r hr));rw [Zk,show SE.length=2 from rfl] at this;unfold JR;omega
theorem LA (h:∀ ps ∈ pp,Jd ps/\ps.length<=3) (hl:pp.length<=12):(JP pp).length<=28000:=by
 have:=jw CO (b:=2250) (ts:=pp.map PTx) (all_map λ r hr=>sf (h r hr));rw [Zk,show CO.length=2 from rfl] at this;unfold JP;omega
theorem vC (h:l < 10):(Tx l).length=1:=by
 have a:=eN (k:=1) (by decide) (by simpa using h);have b:(Tx l).cps.toList.length≠0:=λ z=>zE l (List.eq_nil_of_length_eq_zero z)
 rw [aQ] at b;omega
theorem LR (h:NW l pp rs):(HDx l pp).length<=28010:=by
 have a:=LA h.po h.pl;have b:=vC h.hl;unfold HDx;rw [U1,U1,lb,b];omega
def Tn {n:Nat} (h:n < 10 ^ 500):Hd [.int (n:Int)]=some (.str (Tx n)):=by
 show (if (n:Int).natAbs.log2 < 1920 then _ else none)=_;rw [if_pos]
 · rfl
 ·rw [Int.natAbs_natCast]
  exact log2_lt (Wc h (by decide +kernel)) (by decide)
theorem QM (h:l < 10):l < 10 ^ 500:=Zl h (by decide +kernel)
def Lq {α:Type} (f:α->D) (xs:List α):jD [.tup (xs.map f)]=some (.int (xs.length:Int)):=by
 show some (D.int ((xs.map f).length:Int))=_;rw [Zk]
theorem ym {α:Type} {f:α->D} {tx:α->Str} {F:List D->Option Sl} {i:Nat} {xs:List α} {sep base:Str} {R:List Sl->Prop} {it:DI} {τ:List Sl} {rule:D} (hi:i=3\/i=4) (b:Nat)
  (hF:∀ x ∈ xs,F [f x]=some (.shr (.str (tx x)))) (hl:∀ x ∈ xs,(tx x).length<=b) (hs:sep.length=2) (hb:base.length+(b+2) * xs.length<=90000)
  (hit:it τ=some (c7 (xs.map f))) (h0:∃ x2 x3 x4,τ=[.shr rule,.shr (.str base),x2,x3,x4])
  (hR:∀ x2 x3 x4,R [.shr rule,.shr (.str (base++Str.join sep (xs.map tx))),x2,x3,x4]):Nx R (IT it (gT 2 (mF (gN 2) (mF (gN i) Bw))) (fu (sIf (dT (dOp oGt (aM 2) (dC (.int 0)))) (mo 1 (dOp jE (aM 1) (dC (.str sep)))) d6) (mo 1 (dOp jE (aM 1) (dFn F (aG (aM i) bR))))) τ):=by
 have tl:∀ j,(Str.join sep ((xs.map tx).take j)).length<=(b+2) * xs.length:=λ j=>by
  have a:=jw sep (ts:=(xs.map tx).take j) λ t ht=>all_map (P:=λ t=>t.length<=b) hl t (Y0 ht)
  rw [hs,Yh,Zk] at a;exact Zs a (Nat.mul_le_mul_left _ (Nat.min_le_right _ _))
 refine sy (λ j τ=>∃ x2 x3 x4,τ=[.shr rule,.shr (.str (base++Str.join sep ((xs.map tx).take j))),x2,x3,x4]) hit ?_ ?_ ?_
 ·obtain ⟨x2,x3,x4,rfl⟩:=h0
  exact ⟨x2,x3,x4,by rw [List.take_zero,show Str.join sep []=("":Str) from rfl,kj]⟩
 ·rintro j d τ ed ⟨x2,x3,x4,rfl⟩
  obtain ⟨a,ea,rfl⟩:=wH ed;rw [List.getElem?_map] at ea;obtain ⟨x,ex,rfl⟩:=Zm ea;have mx:=List.mem_of_getElem? ex;have jt:=Be (sep:=sep) (x:=tx x) (by rw [List.getElem?_map,ex]; rfl);have l2:=tl (j+1);rw [jt] at l2;rw [U1,U1] at l2
  let B:Str:=if j=0 then ("":Str) else sep
  obtain ⟨y3,y4,e1⟩:∃ y3 y4,gT 2 (mF (gN 2) (mF (gN i) Bw)) (.tup [.int (j:Int),f x]) [.shr rule,.shr (.str (base++Str.join sep ((xs.map tx).take j))),x2,x3,x4]=some [.shr rule,.shr (.str (base++Str.join sep ((xs.map tx).take j))),.shr (.int (j:Int)),y3,y4]/\∀ z w,([.shr rule,z,w,y3,y4]:List Sl)[i]?=some (.shr (f x)):=by
   rcases hi with rfl | rfl
   · exact ⟨.shr (f x),x4,rfl,λ _ _=>rfl⟩
   · exact ⟨x3,.shr (f x),rfl,λ _ _=>rfl⟩
  refine ⟨_,e1.1,?_⟩;refine j5 (τ':=[.shr rule,.shr (.str (base++Str.join sep ((xs.map tx).take j)++B)),.shr (.int (j:Int)),y3,y4]) ?_ ?_
  ·refine eK (aw (ar e_v Uf rfl)) (λ q=>?_) (λ q=>?_)
   ·have e:B=sep:=if_neg (by have:=Zu q; omega)
    rw [e];exact aI (ar e_v Uf (bu (by rw [U1,hs]; omega)))
   ·have e:B=("":Str):=if_pos (by have:=Z0 q; omega)
    rw [e,kj];rfl
  ·refine xF (aI (ar e_v (br (ah (ao (e1.2 _ _)) av) (hF x mx) rfl) (bu ?_))) ⟨.shr (.int (j:Int)),y3,y4,?_⟩
   ·rw [U1,U1]
    show _+Str.length (if j=0 then ("":Str) else sep)+_<=_;omega
   ·rw [jt]
    show [_,Sl.shr (.str (base++Str.join sep ((xs.map tx).take j)++B++tx x)),_,_,_]=_;rw [fI,fI,<- fI (Str.join sep _)]
 ·rintro τ ⟨x2,x3,x4,rfl⟩
  rw [nV,Zk,show (xs.map tx).take xs.length=xs.map tx by rw [<- Zk (f:=tx),Xw]];exact hR x2 x3 x4
theorem vE (h:NW l pp rs):ie [C8 l pp rs]=some (.shr (.str (RX l pp rs))):=by
 have kl:=Lz h.ro h.rl;have hl:=LR h;have tl:=vC h.hl;have pl:=h.pl;have rl:=h.rl;have b1:=lb;have b3:Str.length " { "=3:=by decide +kernel
 have b4:Str.length "}"=1:=by decide +kernel
 have key:Ret (λ d=>d=.str (RX l pp rs)) (eM.1 (cF 5 [C8 l pp rs])):=by
  refine dD (aI (ar (sO (ar e_v Uf (bx _ _)) (uH (QM h.hl))) Uf (bu (by omega)))) ?_
  refine CG (R:=λ τ=>∃ x2 x3 x4,τ=[.shr (C8 l pp rs),.shr (.str (HDx l pp)),x2,x3,x4]) ?_ ?_
  ·rw [Eg]
   exact ym (.inl rfl) 2250 (λ ps hp=>jI (h.po ps hp).1.ok) (λ ps hp=>sf (h.po ps hp)) rfl (by rw [U1,lb,tl]; omega) (wm (ar e_v Uf (b5 _ _ _))) ⟨_,_,_,rfl⟩ λ x2 x3 x4=>⟨x2,x3,x4,rfl⟩
  rintro τ ⟨x2,x3,x4,rfl⟩
  refine dD (aI (d:=.str (HDx l pp++(" { ":Str))) (ar e_v Uf (bu (by omega)))) ?_
  refine CG (R:=λ τ=>∃ x2 x3 x4,τ=[.shr (C8 l pp rs),.shr (.str (HDx l pp++(" { ":Str)++JR rs)),x2,x3,x4]) ?_ ?_
  ·rw [Gw]
   exact ym (base:=HDx l pp++(" { ":Str)) (.inr rfl) 130 (λ r hr=>qN (h.ro r hr).hp (h.ro r hr).ho) (λ r hr=>rW (h.ro r hr)) rfl (by rw [U1,b3]; omega) (wm (ar e_v Uf (eh _ _ _ _))) ⟨_,_,_,rfl⟩ λ x2 x3 x4=>⟨x2,x3,x4,rfl⟩
  rintro τ ⟨x2,x3,x4,rfl⟩
  have bsp:(" ":Str).cps.toList=[32]:=by decide +kernel
  have bop:(" { ":Str).cps.toList=[32,123,32]:=by decide +kernel
  have bo2:("{ ":Str).cps.toList=[123,32]:=by decide +kernel
  have bcl:(" }":Str).cps.toList=[32,125]:=by decide +kernel
  have bc2:("}":Str).cps.toList=[125]:=by decide +kernel
  have b00:("{ }":Str).cps.toList=[123,32,125]:=by decide +kernel
  by_cases z:rs=[]
  ·subst z
   refine vk (aw (ar (aS (ah (ar e_v Uf (eh _ _ _ _)) av) (Lq Rw.D [])) Uf rfl)) (λ z=>nomatch z) λ _=>?_
   refine rY (ar e_v Uf (bu (by rw [U1,U1]; omega))) ?_
   refine Z8 D.str (ext ?_);unfold RX BR;rw [if_pos rfl];show (HDx l pp++(" { ":Str)++("":Str)++("}":Str)).cps.toList=_;rw [kj];simp only [aY,bsp,bop,bc2,b00,Z5,Yj,Yc]
  ·have lp:0 < rs.length:=by
    cases rs with
    | nil=>exact absurd rfl z
    | cons r rs=>exact Nat.succ_pos _
   refine vk (b:=true) (aw ((ar (aS (ah (ar e_v Uf (eh _ _ _ _)) av) (Lq Rw.D rs)) Uf (rfl)).trans (by rw [Ze (by omega)]))) (λ _=>?_) (λ z=>nomatch z);refine dD (aI (ar e_v Uf (bu (by rw [U1,U1]; omega)))) ?_
   refine rY (ar e_v Uf (bu (by rw [U1,U1,U1]; omega))) ?_
   refine Z8 D.str (ext ?_);unfold RX BR;rw [if_neg z];simp only [aY,bsp,bop,bc2,bo2,bcl,Z5,Yj,Yc]
 obtain ⟨d,e,rfl⟩:=qF key;exact e
def xE {k:Nat} {x y:Str} (h1:k ∉ x.cps.toList) (h2:k ∉ y.cps.toList):k ∉ (x++y).cps.toList:=λ z=>by
 rw [aY,Z2] at z;exact z.elim h1 h2
theorem JQ {k:Nat} (hk:k=44\/k=123) {j:Str} (h:j=""\/j=" "\/j ∈ JN):k ∉ (seg j).cps.toList:=by
 rcases h with rfl | rfl | h
 · rcases hk with rfl | rfl <;> decide +kernel
 · rcases hk with rfl | rfl <;> decide +kernel
 ·unfold JN at h
  simp only [Zd,Zq,Z9] at h;rcases h with rfl | rfl | rfl <;> rcases hk with rfl | rfl <;> decide +kernel
theorem Bf {k:Nat} {sep:Str} (hs:k ∉ sep.cps.toList):∀ {ts:List Str},(∀ t ∈ ts,k ∉ t.cps.toList)->k ∉ (Str.join sep ts).cps.toList
 | [],_=>Zq
 | [x],h=>h x (by simp)
 | x::y::r,h=>xE (xE (h x (by simp)) hs) (Bf hs (ts:=y::r) λ t ht=>h t (Za _ ht))
theorem D0 {n b:Nat} (h:n=b+2) {l:Option Int}:Builtin.Str.strSliceIndices l (some (-2)) 1 n=Builtin.Str.strSliceIndices l (some (b:Int)) 1 n:=by
 have q:¬ ((b:Int) < 0):=by omega
 have e:(-2:Int)+(n:Int)=(b:Int):=by omega
 unfold Builtin.Str.strSliceIndices;simp [q,e]
def dig (c:Nat):Bool:=decide (48<=c)&&decide (c<=57)
def bz (x:Str):Bool:=((decide (1<=(x.length:Int))&&decide ((x.length:Int)<=30))&&x.cps.toList.all dig)&&(decide (x=("0":Str))||!decide (x.cps.toList.head?=some 48))
def ix0 (e:x.cps.toList=c::r) (hl:x.length<=100000):oIx (.str x) (.int 0)=some (.str ⟨#[c]⟩):=qC (a:=0) hl (by rw [e]; rfl)
def oO (c d:Nat):decide ((⟨#[c]⟩:Str)=⟨#[d]⟩)=decide (c=d):=by
 by_cases h:c=d
 · rw [h,Ze rfl,Ze rfl]
 · rw [Zc h,Zc λ z=>h (by injection z with z; injection z with z; injection z)]
def zw:("0":Str)=⟨#[48]⟩:=by decide +kernel
theorem FL (e:τ[i]?=some (.shr (.str x))) (h1:1<=x.length) (h2:x.length<=50000):Iy (dOp oEq (aM i) (dC (.str "0"))) (dOp oNe (dOp oIx (aM i) (dC (.int 0))) (dC (.str "0"))) τ=some (.bl (decide (x=("0":Str))||!decide (x.cps.toList.head?=some 48))):=by
 cases q:x.cps.toList with
 | nil=>rw [<- aQ,q] at h1; exact absurd h1 (by decide)
 | cons c r=>
  refine BL (ar (ao e) Uf (cj _ _)) (ar (ar (ao e) Uf (ix0 q (by omega))) Uf ((cB _ _).trans ?_));rw [zw,oO];show _=some (D.bl (!decide (some c=some 48)));congr 3
  by_cases h:c=48
  · rw [h,Ze rfl,Ze rfl]
  · rw [Zc h,Zc λ z=>h (by injection z)]
theorem xN (x:Str) (hx:x.length<=50000):jf [.str x,.int 30]=some (.shr (.bl (bz x))):=by
 refine bF ?_
 have hl:=sE hx;refine dZ (b:=!((decide (1<=(x.length:Int))&&decide ((x.length:Int)<=30))&&x.cps.toList.all dig)) ?_ (λ h=>?_) (λ h=>?_)
 ·refine (dU (cx (aw (ib (ar Uf (aS (ah (ao rfl) av) hl) rfl) (ar (aS (ah (ao rfl) av) hl) (ao rfl) rfl)))) (cx (aw (aS (ah (gq (Bs (ao rfl)) (by show (List.map _ x.cps.toList).length<=100000; rw [Zk,aQ]; omega) (sC (t:=dig) λ c _=>ib (ar Uf (ao rfl) (le1 48 c)) (U3 rfl (le1 c 57)))) av) ?_)))).trans (by rw [<- Bool.not_and])
  show (Es (x.cps.toList.map λ c=>.bl (dig c))).map (λ bs=>D.bl (bs.all id))=_;rw [gJ,Option.map_some,List.all_map];rfl
 ·rw [Z7] at h
  unfold bz;rw [h];exact aD Uf
 ·rw [Yb] at h
  have h1:1<=x.length:=by
   simp only [Zg,Z3] at h;omega
  unfold bz;rw [h,Zv];exact aD (FL rfl h1 hx)
def Iw {x:Str} (h:x.cps.toList.all dig=true):NumText.AllDigits x.cps.toList:=λ c hc=>by
 have:=Yi.mp h c hc;unfold dig at this
 simpa using this
theorem Ew:∀ (cs:List Nat) (a:Nat),NumText.AllDigits cs->cs.foldl (λ acc c=>acc * 10+(c - 48)) a < (a+1) * 10 ^ cs.length
 | [],a,_=>by simp
 | c::cs,a,h=>by
  have h1:=Ew cs (a * 10+(c - 48)) h.tail;have hc:=h c (Zp ..);refine Zl h1 ?_
  rw [Zi,Nat.pow_succ,Nat.mul_comm (10 ^ cs.length) 10,<- Nat.mul_assoc];exact Nat.mul_le_mul_right _ (by omega)
theorem cE (h:bz x=true):∃ n,n < 10 ^ 30/\x=Tx n:=by
 unfold bz at h;simp only [Zg,Z3,Xi,Z7,Ys] at h;obtain ⟨⟨⟨h1,h2⟩,h3⟩,h4⟩:=h;have ad:=Iw h3;refine ⟨NumText.digitsVal x.cps.toList,?_,?_⟩
 ·refine Zl (Ew _ 0 ad) ?_
  rw [Xm,Nat.one_mul,aQ];exact Nat.pow_le_pow_right (by decide) (by omega)
 refine ext ?_
 rw [lD]
 have key:Nat.toDigits 10 (NumText.digitsVal x.cps.toList)=x.cps.toList.map Char.ofNat:=by
  refine NumText.toDigits_digitsVal (x.cps.toList.length - 1) _ (by rw [aQ]; omega) ad ?_
  rcases h4 with h4 | h4
  · exact .inl (by rw [h4]; decide +kernel)
  ·cases q:x.cps.toList with
   | nil=>rw [<- aQ,q] at h1; exact absurd h1 (by decide)
   | cons c r=>
    refine .inr ⟨c,r,rfl,?_⟩;have:=ad c (by rw [q]; exact Zp ..);have n48:c≠48:=λ z=>h4 (by rw [q,z]; rfl)
    omega
 rw [key,List.map_map]
 conv=>lhs; rw [<- List.map_id x.cps.toList]
 refine List.map_congr_left λ c hc=>?_
 have:=ad c hc;exact (digit_back ⟨c,by omega⟩).symm
def gA (h:n < 10 ^ 30):bz (Tx n)=true:=by
 have e1:=uj h;have e2:=xN (Tx n) (Zs (eN (by decide) h) (by decide));rw [e1] at e2;injection e2 with e2
 injection e2 with e2
 injection e2 with e2
 exact e2.symm
def eO (hx:x.length<=50000) (h:bz x=false):mQ t [.str x]:=⟨rfl,.inl ⟨cx (aw (br (ah (ao rfl) (ah Uf av)) (xN x hx) rfl)) |>.trans (by rw [h]; rfl),trivial⟩⟩
def lU (hx:x.length<=50000) (h:a7 x=false):jO t [.str x]:=⟨rfl,.inl ⟨cx (aw (br (ah (ao rfl) av) (pb x hx) rfl)) |>.trans (by rw [h]; rfl),trivial⟩⟩
def sH (c:Nat) (y:Str):He (.str ⟨#[c]⟩) (.str y)=some (.bl (decide (c ∈ y.cps.toList))):=by
 show some (D.bl (occ y ⟨#[c]⟩))=_;unfold occ;rw [StrLaws.found_one]
def Ir (h1:it τ=some ds) (hl:ds.length<=100000) (h2:wu (λ d=>c (.shr d::fe τ cs)) (λ d=>g (.shr d::fe τ cs)) ds=some es):uY it c g cs τ=some (.lst es):=by
 unfold uY;rw [h1];show (if ds.length<=100000 then _ else none)=_;rw [if_pos hl,h2];rfl
def FU (p:Nat->Bool) (hp:∀ c,decide (c ∈ y.cps.toList)=p c) (e:τ[i]?=some (.shr (.str x))) (hx:x.length<=50000):∃ ds:List D,uY (D1 (aM i)) (dT (dOp He (aM 0) (dC (.str y)))) (aM 0) [] τ=some (.lst ds)/\(x.cps.toList.all p=true->ds.length=x.length)/\(x.cps.toList.all p=false->ds.length≠x.length):=by
 have hf:wu (λ d=>dT (dOp He (aM 0) (dC (.str y))) (.shr d::fe τ [])) (λ d=>aM 0 (.shr d::fe τ [])) (chD x)=some ((chD x).filter λ d=>match d with | .str z=>p (z.cps.toList.headD 0) | _=>false):=by
  refine pC λ d hd=>?_
  obtain ⟨c,hc,rfl⟩:=Xn.mp hd;exact ⟨aw ((U3 rfl (sH c y)).trans (by rw [hp]; rfl)),ao rfl⟩
 have e2:((chD x).filter λ d=>match d with | .str z=>p (z.cps.toList.headD 0) | _=>false)=(x.cps.toList.filter p).map λ c=>D.str ⟨#[c]⟩:=by
  show (x.cps.toList.map λ c=>D.str ⟨#[c]⟩).filter _=_;rw [List.filter_map];rfl
 rw [e2] at hf;refine ⟨_,Ir (Bs (ao e)) (by show (List.map _ x.cps.toList).length<=100000; rw [Zk,aQ]; omega) hf,λ h=>?_,λ h=>?_⟩
 · rw [Zk,List.filter_eq_self.mpr (Yi.mp h),aQ]
 ·rw [Zk]
  intro z;rw [<- aQ,List.length_filter_eq_length_iff] at z;rw [Yi.mpr z] at h;cases h
theorem Cd (e0:τ[0]?=some (.shr (.str x))) (e1:τ[1]?=some (.shr (.lst ds))) (hx:x.length<=50000) (h1:x.cps.toList.all p=true->ds.length=x.length) (h2:x.cps.toList.all p=false->ds.length≠x.length):k6 (dOp oLe (dC (.int 1)) (ej jD (aG (aM 1) bR))) (k6 (dOp oEq (ej jD (aG (aM 1) bR)) (ej jD (aG (aM 0) bR))) (dOp oLe (ej jD (aG (aM 0) bR)) (dC (.int (k:Int))))) τ
   = some (.bl ((decide (1<=(x.length:Int))&&decide ((x.length:Int)<=k))&&x.cps.toList.all p)):=by
 refine (ib (ar Uf (aS (ah (ao e1) av) rfl) rfl) (ib (ar (aS (ah (ao e1) av) rfl) (aS (ah (ao e0) av) (sE hx)) (bp _ _)) (ar (aS (ah (ao e0) av) (sE hx)) Uf rfl))).trans ?_
 congr 2
 cases q:x.cps.toList.all p with
 | true=>rw [h1 q,Ze rfl,Zv,Bool.and_true]
 | false=>
  rw [Zc (p:=(ds.length:Int)=(x.length:Int)) (λ z=>h2 q (by omega)),Xr,X9,X9]
def FIG:Str:="0123456789"
theorem QP (c:Nat):decide (c ∈ LET.cps.toList)=lower c:=by
 unfold lower
 by_cases h:97<=c/\c<=122
 ·have:∀ k:_root_.Fin 123,97<=k.val->k.val ∈ LET.cps.toList:=by decide +kernel
  rw [Ze (this ⟨c,by omega⟩ h.1),Ze h.1,Ze h.2];rfl
 ·rw [Zc (p:=c ∈ LET.cps.toList) λ z=>h (by have:=FJ c z; unfold lower at this; simpa using this)]
  by_cases h1:97<=c
  · rw [Zc (p:=c<=122) λ z=>h ⟨h1,z⟩,X9]
  · rw [Zc h1]; rfl
theorem LZ (c:Nat):decide (c ∈ FIG.cps.toList)=dig c:=by
 unfold dig
 by_cases h:48<=c/\c<=57
 ·have:∀ k:_root_.Fin 58,48<=k.val->k.val ∈ FIG.cps.toList:=by decide +kernel
  rw [Ze (this ⟨c,by omega⟩ h.1),Ze h.1,Ze h.2];rfl
 ·have ok:∀ c ∈ FIG.cps.toList,48<=c/\c<=57:=by decide +kernel
  rw [Zc (p:=c ∈ FIG.cps.toList) λ z=>h (ok c z)]
  by_cases h1:48<=c
  · rw [Zc (p:=c<=57) λ z=>h ⟨h1,z⟩,X9]
  · rw [Zc h1]; rfl
def sD (x:Str) (hx:x.length<=50000):cN [.str x]=some (.shr (.bl (a7 x))):=by
 unfold cN gc; dsimp only
 refine bF ?_
 obtain ⟨ds,e,h1,h2⟩:=FU (τ:=cF 2 [.str x]) (y:=LET) (i:=0) lower QP rfl hx;refine aR (aI e) ?_
 exact aD (Cd (k:=8) rfl rfl hx h1 h2)
def gF (x:Str) (hx:x.length<=50000):bj [.str x]=some (.shr (.bl (bz x))):=by
 unfold bj fh; dsimp only
 refine bF ?_
 obtain ⟨ds,e,h1,h2⟩:=FU (τ:=cF 2 [.str x]) (y:=FIG) (i:=0) dig LZ rfl hx;refine aR (aI e) ?_
 refine aD (jF (Cd (k:=30) rfl rfl hx h1 h2) (λ h=>?_) λ h=>?_)
 ·have l1:1<=x.length:=by
   simp only [Zg,Z3] at h;omega
  unfold bz;rw [show ((decide (1<=(x.length:Int))&&decide ((x.length:Int)<=30))&&x.cps.toList.all dig)=true from h,Zv];exact FL rfl l1 hx
 ·unfold bz
  rw [show ((decide (1<=(x.length:Int))&&decide ((x.length:Int)<=30))&&x.cps.toList.all dig)=false from h];rfl
theorem uz:∀ {xs:List (List Nat)} {x:List Nat},x ∈ xs->x.length<=(cZ c xs).length
 | [y],x,h=>by rw [Zx.mp h]; exact Zo _
 | y::z::r,x,h=>by
  show _<=(y++c::cZ c (z::r)).length;rw [Zh,Zi];rcases Zd.mp h with rfl | h
  · omega
  ·have:=uz (c:=c) h
   omega
abbrev pts (c:Nat) (x:Str):List Str:=Txt.split x ⟨#[c]⟩
def qy (c:Nat) (x:Str):x.cps.toList=cZ c ((pts c x).map λ x=>x.cps.toList):=by
 have j:=Z8 (λ z:Str=>z.cps.toList) (X3 x ⟨#[c]⟩);rw [xH] at j;exact j.symm
def d7 (c:Nat) (x:Str):pts c x≠[]:=kO _ _
def nP (c:Nat) (x:Str):∀ p ∈ pts c x,c ∉ p.cps.toList:=StrLaws.split_free x c
def jV (h:p ∈ pts c x):p.length<=x.length:=by
 rw [<- aQ,<- aQ,qy c x];exact uz (Xn.mpr ⟨p,h,rfl⟩)
def zP (hx:x.length<=50000):cW (.str x) (.str ⟨#[c]⟩)=some (.lst ((pts c x).map .str)):=de (d7 c x) (nP c x) (qy c x) (by omega)
def yG (h:pts c x=[a]):x=a:=ext ((qy c x).trans (by rw [h]; rfl))
def zF (h:pts c x=[a,b]):x.cps.toList=a.cps.toList++c::b.cps.toList:=(qy c x).trans (by rw [h]; rfl)
def hU (ds:List D) (h:f τ=some (.lst ds)):ej jD (aG f bR) τ=some (.int (ds.length:Int)):=aS (ah h av) rfl
def valN (b:Str):Nat:=NumText.digitsVal b.cps.toList
def oa (n:Nat):valN (Tx n)=n:=tD n
def shL:List Str->Bool
 | [a]=>bz a
 | [a,b]=>bz a&&(bz b&&decide (1 < valN b))
 | _=>false
def mn (x:Str):Bool:=shL (pts 47 x)
def ctL:List Str->Bool
 | [a]=>bz a
 | [a,b]=>bz a&&(bz b&&!decide (b=("0":Str)))
 | _=>false
def IA (x:Str):Bool:=ctL (pts 47 x)
theorem pw (h:bz b=true):DL [.str b]=some (.int (valN b:Int)):=by
 obtain ⟨n,hn,rfl⟩:=cE h;have hl:=eN (by decide) hn;show (if (Tx n).length<=640 then _ else none)=_;rw [if_pos (by omega),Ey (by decide) (by decide) hn,oa];rfl
def IY (i j:Int):oGt (.int i) (.int j)=some (.bl (decide (j < i))):=rfl
theorem kX (x:Str) (hx:x.length<=50000):ft [.str x]=some (.shr (.bl (mn x))):=by
 unfold ft fj; dsimp only
 refine bF ?_
 rw [nu];refine aR (aI (U3 rfl (zP hx))) ?_
 have pl:∀ p ∈ pts 47 x,p.length<=50000:=λ p hp=>Zs (jV hp) hx
 unfold mn
 match hs:pts 47 x with
 | []=>exact absurd hs (d7 47 x)
 | [a]=>
  rw [show shL [a]=bz a from rfl];have ha:=gF a (pl a (by rw [hs]; exact Zp ..));refine dZ (b:=!bz a) ((dU (aw (ar (hU _ (ao rfl)) Uf (IY _ _))) (cx (aw (br (ah (U3 rfl (cq _ _)) av) ha rfl)))).trans (by rfl)) (λ h=>?_) (λ h=>?_)
  ·rw [Z7] at h
   rw [h];exact aD Uf
  ·rw [Yb] at h
   rw [h];exact aD (NQ (ar (hU _ (ao rfl)) Uf rfl) (λ z=>nomatch z) λ _=>rfl)
 | [a,b]=>
  rw [show shL [a,b]=(bz a&&(bz b&&decide (1 < valN b))) from rfl];have ha:=gF a (pl a (by rw [hs]; exact Zp ..));have hb:=gF b (pl b (by rw [hs]; exact Za _ (Zp ..)));refine dZ (b:=!bz a) ((dU (aw (ar (hU _ (ao rfl)) Uf (IY _ _))) (cx (aw (br (ah (U3 rfl (cq _ _)) av) ha rfl)))).trans (by rfl)) (λ h=>?_) (λ h=>?_)
  ·rw [Z7] at h
   rw [h];exact aD Uf
  ·rw [Yb] at h
   rw [h,Zv];refine aD (NQ (ar (hU _ (ao rfl)) Uf rfl) (λ _=>jF (br (ah (U3 rfl (eQ _ _ _)) av) hb rfl) (λ q=>?_) λ q=>by rw [q]; rfl) λ z=>nomatch z);rw [q,Zv];refine (ar (aS (ah (U3 rfl (eQ _ _ _)) av) (pw q)) Uf (IY _ _)).trans ?_
   congr 2
   by_cases z:1 < valN b
   · rw [Ze z,Ze (by omega)]
   · rw [Zc z,Zc (by omega)]
 | a::b::c::r=>
  have ha:=gF a (pl a (by rw [hs]; exact Zp ..));refine aV ((dU (aw (ar (hU _ (ao rfl)) Uf (IY _ _))) (cx (aw (br (ah (U3 rfl (cq _ _)) av) ha rfl)))).trans ?_) (aD Uf);rw [Ze (by simp only [Zz,Zi]; omega)];rfl
def Dy (hx:x.length<=50000) (hs:pts 47 x=[Tx n,Tx m]) (hn:n < 10 ^ 30) (hm:m < 10 ^ 30):gW [.str x,.int o]=some (.shr (.tup [.int (n:Int),.int (m:Int)])):=by
 unfold gW kB; dsimp only
 refine bF ?_
 rw [nu];refine aR (aI (U3 rfl (zP hx))) ?_
 rw [hs];refine az (aw (ar (hU _ (ao rfl)) Uf rfl)) ?_
 refine az (aw (ar (hU _ (ao rfl)) Uf rfl)) ?_
 exact aD (bf (ah (br (ah (U3 rfl (cq _ _)) av) (bE hn) rfl) (ah (br (ah (U3 rfl (eQ _ _ _)) av) (bE hm) rfl) av)) (Zb rfl))
def prL:List Str->Bool
 | [a]=>bz a
 | [a,b]=>bz a&&bz b
 | _=>false
def IU (x:Str):Bool:=prL (pts 47 x)
def Aw (hx:x.length<=50000) (h:IU x=false):qb t [.str x,.int o]:=by
 refine ⟨rfl,?_⟩;unfold ko; dsimp only
 rw [nu];refine ⟨_,aI (U3 rfl (zP hx)),?_⟩;have pl:∀ p ∈ pts 47 x,p.length<=50000:=λ p hp=>Zs (jV hp) hx
 unfold IU at h
 match hs:pts 47 x with
 | []=>exact absurd hs (d7 47 x)
 | [a]=>
  rw [hs,show prL [a]=bz a from rfl] at h;have e:=yG hs;refine .inr ⟨_,eK (aw (ar (hU _ (ao rfl)) Uf rfl)) (λ z=>nomatch z) (λ _=>rfl),.inl (.inl ⟨aw (ar (hU _ (ao rfl)) Uf rfl),_,ah (ao rfl) av,?_⟩)⟩;rw [e];exact eO (pl a (by rw [hs]; exact Zp ..)) h
 | [a,b]=>
  rw [hs,show prL [a,b]=(bz a&&bz b) from rfl] at h;refine .inr ⟨_,eK (aw (ar (hU _ (ao rfl)) Uf rfl)) (λ z=>nomatch z) (λ _=>rfl),.inr ⟨_,eK (aw (ar (hU _ (ao rfl)) Uf rfl)) (λ z=>nomatch z) (λ _=>rfl),?_⟩⟩;have la:=pl a (by rw [hs]; exact Zp ..);have lb:=pl b (by rw [hs]; exact Za _ (Zp ..))
  cases qa:bz a with
  | false=>exact .inl ⟨_,ah (U3 rfl (cq _ _)) av,eO la qa⟩
  | true=>
   rw [qa,Zv] at h;obtain ⟨n,hn,rfl⟩:=cE qa;exact .inr ⟨⟨_,br (ah (U3 rfl (cq _ _)) av) (bE hn) rfl⟩,_,ah (U3 rfl (eQ _ _ _)) av,eO lb h⟩
 | a::b::c::r=>
  refine .inl (.inl ⟨(aw (ar (hU _ (ao rfl)) Uf (IY _ _))).trans ?_,trivial⟩);rw [Ze (by simp only [Zz,Zi]; omega)]
def tbL:List Str->Nat×Nat
 | [a]=>(valN a,1)
 | [a,b]=>(valN a,valN b)
 | _=>(0,0)
def tb (x:Str):Nat×Nat:=tbL (pts 47 x)
theorem yA (h:mn x=true):Rz 30 (tb x).1 (tb x).2/\x=Rt (tb x).1 (tb x).2:=by
 unfold mn at h;unfold tb
 match hs:pts 47 x with
 | []=>exact absurd hs (d7 47 x)
 | [a]=>
  rw [hs,show shL [a]=bz a from rfl] at h;obtain ⟨n,hn,rfl⟩:=cE h;rw [show tbL [Tx n]=(valN (Tx n),1) from rfl,oa];exact ⟨⟨hn,(by decide:1 < 10 ^ 30),(by decide:1≠0)⟩,(yG hs).trans (if_pos rfl).symm⟩
 | [a,b]=>
  rw [hs,show shL [a,b]=(bz a&&(bz b&&decide (1 < valN b))) from rfl] at h;simp only [Zg,Z3] at h;obtain ⟨h1,h2,h3⟩:=h;obtain ⟨n,hn,rfl⟩:=cE h1;obtain ⟨m,hm,rfl⟩:=cE h2;rw [oa] at h3;rw [show tbL [Tx n,Tx m]=(valN (Tx n),valN (Tx m)) from rfl,oa,oa];exact ⟨⟨hn,hm,by show m≠0; omega⟩,ext ((zF hs).trans (JY (by show m≠1; omega)).symm)⟩
 | a::b::c::r=>rw [hs] at h; exact nomatch h
def Ka (h:IU x=true):(∃ n,n < 10 ^ 30/\pts 47 x=[Tx n])\/∃ n m,n < 10 ^ 30/\m < 10 ^ 30/\pts 47 x=[Tx n,Tx m]:=by
 unfold IU at h
 match hs:pts 47 x with
 | []=>exact absurd hs (d7 47 x)
 | [a]=>
  rw [hs,show prL [a]=bz a from rfl] at h;obtain ⟨n,hn,rfl⟩:=cE h;exact .inl ⟨n,hn,rfl⟩
 | [a,b]=>
  rw [hs,show prL [a,b]=(bz a&&bz b) from rfl] at h;simp only [Zg] at h;obtain ⟨n,hn,rfl⟩:=cE h.1;obtain ⟨m,hm,rfl⟩:=cE h.2;exact .inr ⟨n,m,hn,hm,rfl⟩
 | a::b::c::r=>rw [hs] at h; exact nomatch h
theorem xj (hx:x.length<=50000) (h:mn x=false):iO t [.str x]:=by
 refine ⟨rfl,?_⟩
 cases q:IU x with
 | false=>exact .inl ⟨_,ah e_v (ah Uf av),Aw hx q⟩
 | true=>
  rcases Ka q with ⟨n,hn,hs⟩ | ⟨n,m,hn,hm,hs⟩
  ·unfold mn at h
   rw [hs,show shL [Tx n]=bz (Tx n) from rfl,gA hn] at h;cases h
  ·unfold mn at h
   rw [hs,show shL [Tx n,Tx m]=(bz (Tx n)&&(bz (Tx m)&&decide (1 < valN (Tx m)))) from rfl,gA hn,gA hm,oa,Zv,Zv,Ys] at h;refine .inr ⟨_,aI (br (ah e_v (ah Uf av)) (Dy hx hs hn hm) rfl),.inl ⟨IP (aw (ar (ar e_v Uf (b5 _ _ _)) Uf (bp _ _))) (λ z=>aw ((ar e_v Uf rfl).trans ?_)) λ _=>rfl,trivial⟩⟩;have m1:m=1:=by have:=Z0 z; omega
   subst m1;rw [pO];rw [RJ,zF hs,zD]
def Me (h:IA x=true):∃ f e,f < 10 ^ 30/\e < 10 ^ 30/\x=Ct f e:=by
 unfold IA at h
 match hs:pts 47 x with
 | []=>exact absurd hs (d7 47 x)
 | [a]=>
  rw [hs,show ctL [a]=bz a from rfl] at h;obtain ⟨n,hn,rfl⟩:=cE h;exact ⟨n,0,hn,by decide,(yG hs).trans (if_pos rfl).symm⟩
 | [a,b]=>
  rw [hs,show ctL [a,b]=(bz a&&(bz b&&!decide (b=("0":Str)))) from rfl] at h;simp only [Zg,Z7,Ys] at h;obtain ⟨h1,h2,h3⟩:=h;obtain ⟨n,hn,rfl⟩:=cE h1;obtain ⟨m,hm,rfl⟩:=cE h2;have m0:m≠0:=λ z=>h3 (by rw [z,zC,zw])
  refine ⟨n,m,hn,hm,ext ((zF hs).trans ?_)⟩;unfold Ct;rw [if_neg m0,aY,aY,nu];simp
 | a::b::c::r=>rw [hs] at h; exact nomatch h
def Ee (hx:x.length<=50000) (h:IA x=false):mR t [.str x]:=by
 refine ⟨rfl,?_⟩
 cases e:Txt.endswith x "/0" with
 | true=>exact .inl (.inl ⟨aw ((ar e_v Uf rfl).trans (by show some (D.bl (Txt.endswith x "/0"))=_; rw [e])),trivial⟩)
 | false=>
  refine .inr ⟨_,eK (b:=false) (aw ((ar e_v Uf rfl).trans (by show some (D.bl (Txt.endswith x "/0"))=_; rw [e]))) (λ z=>nomatch z) (λ _=>rfl),_,ah e_v (ah Uf av),Aw hx ?_⟩
  cases q:IU x with
  | false=>rfl
  | true=>
   rcases Ka q with ⟨n,hn,hs⟩ | ⟨n,m,hn,hm,hs⟩
   ·unfold IA at h
    rw [hs,show ctL [Tx n]=bz (Tx n) from rfl,gA hn] at h;cases h
   ·unfold IA at h
    rw [hs,show ctL [Tx n,Tx m]=(bz (Tx n)&&(bz (Tx m)&&!decide (Tx m=("0":Str)))) from rfl,gA hn,gA hm,Zv,Zv,Yb,Z3] at h;rw [pO] at e
    · cases e
    · rw [zF hs,h,show (Str.cps ("0":Str)).toList=[48] by decide +kernel,show (Str.cps ("/0":Str)).toList=[47,48] by decide +kernel]
def IZ (x:Str):Bool:=mn x&&decide (Nat.gcd (tb x).1 (tb x).2=1)
def OL (h:g τ=some [d,e]):JV i j g τ=some (.next ((τ.set i (.shr d)).set j (.shr e))):=by unfold JV; rw [h]; rfl
theorem uF (c:DT) (b:DS) (hc:c=dT (dOp oNe (aM 3) (dC (.int 0)))) (hb:b=JV 2 3 (aG (aM 3) (aG (dOp oMod (aM 2) (aM 3)) bR))):∀ (n:Nat) (x y:Int),0<=x->0<=y->y.toNat < n->cU c b n [s0,s1,.shr (.int x),.shr (.int y)]=some (.next [s0,s1,.shr (.int (Int.gcd x y:Nat)),.shr (.int 0)])
 | 0,_,_,_,_,h=>by omega
 | n + 1,x,y,hx,hy,h=>by
  have t:c [s0,s1,.shr (.int x),.shr (.int y)]=some (!decide (y=0)):=by rw [hc]; exact aw (U3 rfl (sq _ _))
  by_cases z:y=0
  ·subst z
   rw [S1.Bz hx];unfold cU;rw [t,Ze rfl];rfl
  ·have py:0 < y:=by omega
   have m0:=Xj x (Int.ne_of_gt py);have m1:=Y8 x py;have e:=uF (s0:=s0) (s1:=s1) c b hc hb n y (x % y) hy m0 (by omega);rw [S1.xR hx py] at e;rw [<- e]
   conv=>lhs; unfold cU
   have t2:b [s0,s1,.shr (.int x),.shr (.int y)]=some (.next [s0,s1,.shr (.int y),.shr (.int (x % y))]):=by
    rw [hb];exact OL (ah (ao rfl) (ah (ar (ao rfl) (ao rfl) (aO py)) av))
   rw [t,Zc z,t2];rfl
def Cw (h:xs.length+ys.length<=100000):jE (.lst xs) (.lst ys)=some (.lst (xs++ys)):=if_pos h
theorem RB {n:Nat} (h:n < 10 ^ 30):Sz (n:Int):=by
 unfold Sz;rw [Int.natAbs_natCast];exact Wc h (by decide +kernel)
def HR:DL [.str "1"]=some (.int 1):=by
 have:=pw (b:=Tx 1) (gA (by decide));rw [oa,zD] at this;exact this
theorem Lr (x:Str) (hx:x.length<=50000):ig [.str x]=some (.shr (.bl (IZ x))):=by
 refine bF ?_
 unfold IZ;refine dZ (cx (aw (br (ah (ao rfl) av) (kX x hx) rfl))) (λ h=>?_) (λ h=>?_)
 ·rw [Z7] at h
  rw [h];exact aD Uf
 rw [Yb] at h;rw [h,Zv];rw [nu]
 have fin:∀ (s1:Sl) (n m:Nat),fu (ot (dT (dOp oNe (aM 3) (dC (.int 0)))) (JV 2 3 (aG (aM 3) (aG (dOp oMod (aM 2) (aM 3)) bR)))) (nD (dOp oEq (aM 2) (dC (.int 1)))) [.shr (.str x),s1,.shr (.int (n:Int)),.shr (.int (m:Int))]=some (.ret (.shr (.bl (decide (Nat.gcd n m=1))))):=λ s1 n m=>by
  have e:=uF (s0:=.shr (.str x)) (s1:=s1) _ _ rfl rfl (m+1) (n:Int) (m:Int) (by omega) (by omega) (by omega);rw [Int.gcd_natCast_natCast] at e;refine aR (tS e) (aD ((U3 rfl (bp _ _)).trans ?_));congr 2
  by_cases z:Nat.gcd n m=1
  · rw [Ze z,Ze (by omega)]
  · rw [Zc z,Zc (by omega)]
 unfold mn at h;unfold tb
 match hs:pts 47 x with
 | []=>exact absurd hs (d7 47 x)
 | [a]=>
  rw [hs,show shL [a]=bz a from rfl] at h;refine aR (aI (ar (U3 rfl ((zP hx).trans (by rw [hs]))) (fb (ah Uf av) (Zb rfl)) (Cw (by simp)))) ?_
  refine aR (aI (aS (ah (U3 rfl (cq _ _)) av) (pw h))) ?_
  refine aR (aI (aS (ah (U3 rfl (eQ _ _ _)) av) HR)) ?_
  exact fin _ (valN a) 1
 | [a,b]=>
  rw [hs,show shL [a,b]=(bz a&&(bz b&&decide (1 < valN b))) from rfl] at h;simp only [Zg] at h;refine aR (aI (ar (U3 rfl ((zP (c:=47) hx).trans (by rw [hs]))) (fb (ah Uf av) (Zb rfl)) (Cw (by simp)))) ?_
  refine aR (aI (aS (ah (U3 rfl (cq _ _)) av) (pw h.1))) ?_
  refine aR (aI (aS (ah (U3 rfl (eQ _ _ _)) av) (pw h.2.1))) ?_
  exact fin _ (valN a) (valN b)
 | a::b::c::r=>rw [hs] at h; exact nomatch h
theorem qZ {t b:Nat} (hb:b < 10 ^ 30) (b0:b≠0):ma [.int (t:Int),.int (b:Int)]=some (.shr (.tup [.int ((t / Nat.gcd t b:Nat):Int),.int ((b / Nat.gcd t b:Nat):Int)])):=by
 unfold ma l6; dsimp only
 refine bF ?_
 refine az (dU (cx (aw (br (ah e_v av) (rF _) rfl))) (cx (b:=true) (aw (br (ah e_v av) (rF _) rfl)))) ?_
 refine az (aw ((ar e_v Uf (bp _ _)).trans (by rw [Zc (by omega)]))) ?_
 have dv:=sP (t:Int) (b:Int);rw [Int.gcd_natCast_natCast] at dv;refine aR (aI (br (ah e_v (ah e_v av)) dv rfl)) ?_
 refine az (aw ((ar e_v Uf (e9 _ _)).trans (by rw [Zc (by omega)]))) ?_
 have gp:0 < Nat.gcd t b:=Nat.gcd_pos_of_pos_right _ (by omega);have gl:Nat.gcd t b<=b:=Nat.gcd_le_right _ (by omega);have sz:Sz ((Nat.gcd t b:Nat):Int):=RB (by omega);have o1:∀ n:Nat,oDiv (.int (n:Int)) (.int ((Nat.gcd t b:Nat):Int))=some (.int ((n / Nat.gcd t b:Nat):Int)):=λ n=>(bL (by omega) sz).trans (by rw [Int.natCast_ediv])
 exact aD (bf (ah (ar e_v e_v (o1 t)) (ah (ar e_v e_v (o1 b)) av)) (Zb rfl))
def om {t b:Nat} (ht:t < 10 ^ 30) (hb:b < 10 ^ 30):fk [.tup [.int (t:Int),.int (b:Int)]]=some (.shr (.str (Rt t b))):=by
 exact bF (aD (br (ah (ar e_v Uf (bx _ _)) (ah (ar e_v Uf (b5 _ _ _)) av)) (dX (yv ht) (yv hb)) rfl))
def oA {t b:Nat} (h:Rz 30 t b) (g:Nat.gcd t b=1):fm [.str (Rt t b)]=some (.shr (.tup [.int (t:Int),.int (b:Int)])):=by
 refine bF ?_
 refine aR (aI (br (ah e_v av) (cz h.1 h.2.1 h.2.2) rfl)) ?_
 have fq:=qZ (t:=t) h.2.1 h.2.2;rw [g,Nat.div_one,Nat.div_one] at fq;exact az (aw (ar e_v (br (ah (ar e_v Uf (bx _ _)) (ah (ar e_v Uf (b5 _ _ _)) av)) fq rfl) (DH rfl (vQ _ _)))) (aD e_v)
def Ip (h1:okD 9 (.tup xs)=true) (h2:okD 9 (.tup ys)=true):eqO (.tup xs) (.tup ys)=some (eqB (.tup xs) (.tup ys)):=by
 unfold eqO;rw [show eqS (.tup xs) (.tup ys)=none from rfl];exact if_pos ⟨h1,h2⟩
structure CD (ok:Str->Bool) (R S:List D->Option Sl) (X:List D->Prop) (x:Str):Prop where
 yes:ok x=true->∃ v,R [.str x]=some (.shr v)/\S [v]=some (.shr (.str x))
 no:ok x=false->X [.str x]
theorem sQ {t:Adr} {x:Str} (hx:x.length<=50000):CD IZ fm fk (iP t) x:=by
 refine ⟨λ h=>?_,λ h=>?_⟩
 ·unfold IZ at h
  rw [Zg,Z3] at h;obtain ⟨rz,e⟩:=yA h.1;have e1:=oA rz h.2;have e2:=om rz.1 rz.2.1;rw [<- e] at e1 e2;exact ⟨_,e1,e2⟩
 ·refine ⟨rfl,?_⟩
  cases q:mn x with
  | false=>exact .inl ⟨_,ah e_v av,xj hx q⟩
  | true=>
   obtain ⟨rz,e⟩:=yA q;unfold IZ at h;rw [q,Zv,Ys] at h;have e1:=cz rz.1 rz.2.1 rz.2.2;rw [<- e] at e1;refine .inr ⟨_,aI (br (ah e_v av) e1 rfl),.inl ⟨aw (ar e_v (br (ah (ar e_v Uf (bx _ _)) (ah (ar e_v Uf (b5 _ _ _)) av)) (qZ rz.2.1 rz.2.2) rfl) ?_),trivial⟩⟩;generalize (tb x).1=n at *;generalize (tb x).2=m at *
   have eq:eqO (.tup [.int (n:Int),.int (m:Int)]) (.tup [.int ((n / Nat.gcd n m:Nat):Int),.int ((m / Nat.gcd n m:Nat):Int)])=some false:=by
    refine (Ip (vQ _ _) (vQ _ _)).trans (Z8 some (xY ?_));intro z;injection z with z
    injection z with z1 z
    injection z with z z2
    injection z with z
    have gp:0 < Nat.gcd n m:=Nat.gcd_pos_of_pos_right _ (by have:=rz.2.2; omega);have:=Nat.div_lt_self (n:=m) (k:=Nat.gcd n m) (by have:=rz.2.2; omega) (by omega);omega
   show (eqO _ _).map (λ b=>D.bl !b)=_;rw [eq];rfl
def QX (x:Str) (l:List Str):nG (.str x) (.lst (l.map .str))=some (.bl (decide (x ∈ l))):=by
 show (inS (.str x) (l.map .str)).map D.bl=_;rw [sI];rfl
def PT2:List Str:=["part","times"]
def vaL:List Str->Bool
 | [a]=>a7 a||mn a
 | [a,b]=>mn a&&decide (b ∈ PT2)
 | [a,b,c]=>mn a&&(decide (b=("of":Str))&&decide (c ∈ P9))
 | _=>false
def tz (x:Str):Bool:=vaL (pts 32 x)
def gE (h:a7 x=true):pts 32 x=[x]:=gB (by simp) (λ p hp=>by rw [Zx.mp hp]; exact fU (by decide) h) rfl
def Kn:oSl (.lst (props.map .str)) (some 1) (some 10)=some (.lst (P9.map .str)):=by rfl
theorem xG (x:Str) (hx:x.length<=50000):dw [.str x]=some (.shr (.bl (tz x))):=by
 unfold dw fi; dsimp only
 refine bF ?_
 rw [blank];refine aR (aI (U3 rfl (zP hx))) ?_
 have pl:∀ p ∈ pts 32 x,p.length<=50000:=λ p hp=>Zs (jV hp) hx
 have p9:∀ τ:List Sl,dSl (dFn fQ bR) (dP (dC (.int 1))) (dP (dC (.int 10))) τ=some (.lst (P9.map .str)):=λ τ=>CJ (br av oH rfl) (be Uf) (be Uf) Kn
 unfold tz
 match hs:pts 32 x with
 | []=>exact absurd hs (d7 32 x)
 | [a]=>
  have e:=yG hs;subst e;exact aV (aw (ar (hU _ (ao rfl)) Uf rfl)) (aD (BL (br (ah (ao rfl) av) (sD x hx) rfl) (br (ah (ao rfl) av) (kX x hx) rfl)))
 | [a,b]=>
  rw [show vaL [a,b]=(mn a&&decide (b ∈ PT2)) from rfl];refine az (aw (ar (hU _ (ao rfl)) Uf rfl)) ?_
  refine dZ (cx (aw (br (ah (U3 rfl (cq _ _)) av) (kX a (pl a (by rw [hs]; exact Zp ..))) rfl))) (λ h=>?_) (λ h=>?_)
  ·rw [Z7] at h
   rw [h];exact aD Uf
  rw [Yb] at h;rw [h,Zv];exact aV (aw (ar (hU _ (ao rfl)) Uf rfl)) (aD (ar (U3 rfl (eQ _ _ _)) (bf (ah Uf (ah Uf av)) (by decide)) (nU b PT2)))
 | [a,b,c]=>
  rw [show vaL [a,b,c]=(mn a&&(decide (b=("of":Str))&&decide (c ∈ P9))) from rfl];refine az (aw (ar (hU _ (ao rfl)) Uf rfl)) ?_
  refine dZ (b:=!mn a) (cx (aw (br (ah (U3 rfl (cq _ _)) av) (kX a (pl a (by rw [hs]; exact Zp ..))) rfl))) (λ h=>?_) (λ h=>?_)
  ·rw [Z7] at h
   rw [h];exact aD Uf
  rw [Yb] at h;rw [h,Zv];refine az (aw (ar (hU _ (ao rfl)) Uf rfl)) ?_
  exact aD (jF (ar (hU _ (ao rfl)) Uf rfl) (λ _=>ib (ar (U3 rfl (eQ _ _ _)) Uf (cj _ _)) (ar (U3 rfl (vg _ _ _ _)) (p9 _) (QX c P9))) λ z=>nomatch z)
 | a::b::c::d::r=>
  rw [show vaL (a::b::c::d::r)=false from rfl];have no:∀ k:Int,k < 4->decide ((((a::b::c::d::r).map D.str).length:Int)=k)=false:=λ k hk=>Zc (by simp only [Zz,Zi]; omega)
  refine az (aw ((ar (hU _ (ao rfl)) Uf (bp _ _)).trans (by rw [no 1 (by decide)]))) ?_
  refine dZ (b:=!mn a) (cx (aw (br (ah (U3 rfl (cq _ _)) av) (kX a (pl a (by rw [hs]; exact Zp ..))) rfl))) (λ h=>aD Uf) (λ h=>?_);refine az (aw ((ar (hU _ (ao rfl)) Uf (bp _ _)).trans (by rw [no 2 (by decide)]))) ?_
  exact aD (jF (b:=false) ((ar (hU _ (ao rfl)) Uf (bp _ _)).trans (by rw [no 3 (by decide)])) (λ z=>nomatch z) λ _=>rfl)
def CT (h:tz x=true):∃ v:Vw,v.ok 30/\x=v.text:=by
 unfold tz at h
 match hs:pts 32 x with
 | []=>exact absurd hs (d7 32 x)
 | [a]=>
  have e:=yG hs;subst e;rw [hs,show vaL [x]=(a7 x||mn x) from rfl,Xi] at h;rcases h with h | h
  ·by_cases h1:x=("hand":Str)
   · exact ⟨.hand,trivial,h1⟩
   ·by_cases h2:x=("start":Str)
    · exact ⟨.start,trivial,h2⟩
    ·refine ⟨.word x,⟨h,λ z=>?_⟩,rfl⟩
     simp only [Zd,Zq,Z9] at z;exact z.elim h1 h2
  ·obtain ⟨rz,e⟩:=yA h
   exact ⟨.num _ _,rz,e⟩
 | [a,b]=>
  rw [hs,show vaL [a,b]=(mn a&&decide (b ∈ PT2)) from rfl,Zg,Z3] at h;obtain ⟨rz,e⟩:=yA h.1;have hb:=h.2;unfold PT2 at hb;simp only [Zd,Zq,Z9] at hb;have ex:x=Rt (tb a).1 (tb a).2++(" ":Str)++b:=ext ((zF hs).trans (by rw [aY,aY,blank,<- e]; simp));rcases hb with rfl | rfl
  · exact ⟨.part _ _,rz,ex⟩
  · exact ⟨.times _ _,rz,ex⟩
 | [a,b,c]=>
  rw [hs,show vaL [a,b,c]=(mn a&&(decide (b=("of":Str))&&decide (c ∈ P9))) from rfl] at h;simp only [Zg,Z3] at h;obtain ⟨h1,rfl,h3⟩:=h;obtain ⟨rz,e⟩:=yA h1;refine ⟨.of c _ _,⟨rz,h3⟩,ext ((qy 32 x).trans ?_)⟩;rw [hs];show a.cps.toList++32::((Str.cps ("of":Str)).toList++32::c.cps.toList)=(Rt _ _++(" of ":Str)++c).cps.toList;rw [aY,aY,<- e,OW,DB];simp
 | a::b::c::d::r=>rw [hs] at h; exact nomatch h
theorem wZ (hx:x.length<=50000) (h:tz x=false):iM t [.str x]:=by
 have nm:a7 x=false:=by
  cases q:a7 x with
  | false=>rfl
  | true=>
   unfold tz at h;rw [gE q,show vaL [x]=(a7 x||mn x) from rfl,q] at h;cases h
 have nh:x ∉ (["hand","start"]:List Str):=λ z=>by
  simp only [Zd,Zq,Z9] at z;rcases z with rfl | rfl
  · rw [show a7 _=true by decide +kernel] at nm; cases nm
  · rw [show a7 _=true by decide +kernel] at nm; cases nm
 refine ⟨rfl,?_⟩;unfold iQ; dsimp only
 rw [blank];refine ⟨_,eK (b:=false) (aw ((ar (ao rfl) (bf (ah Uf (ah Uf av)) (by decide)) (nU x ["hand","start"])).trans (by rw [Zc nh]))) (λ z=>nomatch z) (λ _=>rfl),?_⟩;refine ⟨_,eK (b:=false) (aw (br (ah (ao rfl) av) ((pb x hx).trans (by rw [nm])) rfl)) (λ z=>nomatch z) (λ _=>rfl),?_⟩;refine ⟨_,aI (U3 rfl (zP hx)),?_⟩;have pl:∀ p ∈ pts 32 x,p.length<=50000:=λ p hp=>Zs (jV hp) hx
 unfold tz at h;have go:∀ (a:Str) (r:List Str),pts 32 x=a::r->mn a=false->_:=λ a r hs q=>(⟨_,ah (U3 rfl (by rw [hs]; exact cq _ _)) av,xj (pl a (by rw [hs]; exact Zp ..)) q⟩:∃ ds,aG (dOp oIx (aM 1) (dC (.int 0))) bR [.shr (.str x),.shr (.lst ((pts 32 x).map .str)),.no]=some ds/\iO t ds)
 match hs:pts 32 x with
 | []=>exact absurd hs (d7 32 x)
 | a :: r=>
  cases q:mn a with
  | false=>have g:=go a r hs q; rw [hs] at g; exact .inl g
  | true=>
   obtain ⟨rz,e⟩:=yA q;have e1:=cz rz.1 rz.2.1 rz.2.2;rw [<- e] at e1;refine .inr ⟨_,aI (br (ah (U3 rfl (cq _ _)) av) e1 rfl),?_⟩;rw [hs] at h
   match r,h with
   | [],h=>
    rw [show vaL [a]=(a7 a||mn a) from rfl,q,Bool.or_true] at h;cases h
   | [b],h=>
    rw [show vaL [a,b]=(mn a&&decide (b ∈ PT2)) from rfl,q,Zv] at h;refine ⟨_,eK (b:=false) (aw (ar (hU _ (ao rfl)) Uf rfl)) (λ z=>nomatch z) (λ _=>rfl),_,eK (b:=false) (og (aw (ar (hU _ (ao rfl)) Uf rfl)) (λ _=>aw ((ar (U3 rfl (eQ _ _ _)) (bf (ah Uf (ah Uf av)) (by decide)) (nU b PT2)).trans (by rw [h]))) λ z=>nomatch z) (λ z=>nomatch z) (λ _=>rfl),_,eK (b:=false) (og (b:=false) (aw (ar (hU _ (ao rfl)) Uf rfl)) (λ z=>nomatch z) λ _=>rfl) (λ z=>nomatch z) (λ _=>rfl),trivial⟩
   | [b,c],h=>
    rw [show vaL [a,b,c]=(mn a&&(decide (b=("of":Str))&&decide (c ∈ P9))) from rfl,q,Zv] at h;refine ⟨_,eK (b:=false) (aw (ar (hU _ (ao rfl)) Uf rfl)) (λ z=>nomatch z) (λ _=>rfl),_,eK (b:=false) (og (b:=false) (aw (ar (hU _ (ao rfl)) Uf rfl)) (λ z=>nomatch z) λ _=>rfl) (λ z=>nomatch z) (λ _=>rfl),_,eK (b:=false) (og (b:=true) (aw (ar (hU _ (ao rfl)) Uf rfl)) (λ _=>(jH (aw (ar (U3 rfl (eQ _ _ _)) Uf (cj _ _))) (aw (ar (U3 rfl (vg _ _ _ _)) Uf (nU c P9)))).trans (by rw [h])) λ z=>nomatch z) (λ z=>nomatch z) (λ _=>rfl),trivial⟩
   | b::c::d::r,h=>
    have no:∀ k:Int,k < 4->decide ((((a::b::c::d::r).map D.str).length:Int)=k)=false:=λ k hk=>Zc (by simp only [Zz,Zi]; omega)
    refine ⟨_,eK (b:=false) (aw ((ar (hU _ (ao rfl)) Uf (bp _ _)).trans (by rw [no 1 (by decide)]))) (λ z=>nomatch z) (λ _=>rfl),_,eK (b:=false) (og (b:=false) (aw ((ar (hU _ (ao rfl)) Uf (bp _ _)).trans (by rw [no 2 (by decide)]))) (λ z=>nomatch z) λ _=>rfl) (λ z=>nomatch z) (λ _=>rfl),_,eK (b:=false) (og (b:=false) (aw ((ar (hU _ (ao rfl)) Uf (bp _ _)).trans (by rw [no 3 (by decide)]))) (λ z=>nomatch z) λ _=>rfl) (λ z=>nomatch z) (λ _=>rfl),trivial⟩
def za (hx:x.length<=50000):CD tz fN fL (iM t) x:=by
 refine ⟨λ h=>?_,wZ hx⟩;obtain ⟨v,hv,rfl⟩:=CT h;exact ⟨_,iy hv,mm (CU hv)⟩
theorem lN:∀ {xs:List (List Nat)},xs≠[]->cZ c (xs++[y])=cZ c xs++c::y
 | [x],_=>rfl
 | x::z::r,_=>by
  show x++c::cZ c ((z::r)++[y])=(x++c::cZ c (z::r))++c::y;rw [lN (by simp)];simp
theorem uy:∀ {xs:List (List Nat)},xs≠[]->(cZ c xs).length+1=(xs.map List.length).sum+xs.length
 | [x],_=>by show x.length+1=_; simp
 | x::y::r,_=>by
  have:=uy (c:=c) (xs:=y::r) (by simp);show (x++c::cZ c (y::r)).length+1=_;rw [Zh,Zi,Zz,List.sum_cons,Zi];omega
def jn (vs:List Str):Str:=⟨(cZ 32 (vs.map λ x=>x.cps.toList)).toArray⟩
def QT (vs:List Str):(jn vs).cps.toList=cZ 32 (vs.map λ x=>x.cps.toList):=rfl
def xJ (n:vs≠[]) (h:∀ v ∈ vs,32 ∉ v.cps.toList):pts 32 (jn vs)=vs:=gB n h rfl
def J3:jn (pts 32 x)=x:=ext (qy 32 x).symm
def Au (h:32 ∉ x.cps.toList):gi x " "=[x,"",""]:=by
 unfold gi;rw [blank]
 have e:Builtin.Str.occurrences x ⟨#[32]⟩ 0 x.length 1=[]:=by
  have:=PyProof.Rows.empty_one x 32;rw [Zc h] at this;exact List.isEmpty_iff.mp this
 unfold Txt.partition;rw [e];rfl
def rwW (l:List Str):List Str:=if l.getLast?=some ("!":Str) then l.dropLast else l
def Cs:("!":Str)=⟨#[33]⟩:=by decide +kernel
theorem Jq:tz ""=false:=by decide +kernel
theorem Gd:tz "!"=false:=by decide +kernel
structure Ro (x p0 y:Str) (b:Bool):Prop where
 pt:∃ p1 p2,gi x " "=[p0,p1,p2]/\Txt.endswith p2 " !"=b/\p2.length<=x.length/\(b=true->2<=p2.length/\Txt.slice p2 none (some (-2))=y)/\(b=false->p2=y)
 len:y.length<=x.length
 two:(∃ vs,vs≠[]/\rwW (pts 32 x)=p0::vs/\pts 32 y=vs/\x=p0++(" ":Str)++(if b=true then y++(" !":Str) else y))\/((rwW (pts 32 x)).length < 2/\tz y=false)
theorem EN (x:Str):∃ p0 y b,Ro x p0 y b:=by
 have fr:=nP 32 x;have hl:=qy 32 x
 match hs:pts 32 x with
 | []=>exact absurd hs (d7 32 x)
 | [w]=>
  have e:=yG hs;subst e;have nb:32 ∉ x.cps.toList:=fr x (by rw [hs]; exact Zp ..);refine ⟨x,"",false,⟨"","",Au nb,by decide +kernel,by show 0<=_; exact Ye _,(λ z=>nomatch z),λ _=>rfl⟩,by show 0<=_; exact Ye _,.inr ⟨?_,Jq⟩⟩;rw [hs];unfold rwW;split
  · exact Nat.zero_lt_two
  · exact Nat.one_lt_two
 | w :: w1::r=>
  rw [hs] at fr hl;have fw:=fr w (Zp ..);have fws:∀ v ∈ w1::r,32 ∉ v.cps.toList:=λ v hv=>fr v (Za _ hv)
  have ex:x.cps.toList=w.cps.toList++32::(jn (w1::r)).cps.toList:=hl;have pq:=Av (a:=w) (b:=jn (w1::r)) fw ex
  have ll:(jn (w1::r)).length<=x.length:=by
   rw [<- aQ,<- aQ,ex,Zh,Zi];omega
  have pj:=xJ (vs:=w1::r) (by simp) fws
  cases q:Txt.endswith (jn (w1::r)) " !" with
  | false=>
   have e1:x=w++(" ":Str)++jn (w1::r):=ext (by rw [ex,aY,aY,blank]; simp)
   by_cases hb:(w1::r).getLast?=some ("!":Str)
   ·-- a ! alone behind the first word
    have rn:r=[]:=by
     cases r with
     | nil=>rfl
     | cons y r=>
      exfalso
      have e2:(w1::y::r).dropLast++[("!":Str)]=w1::y::r:=by
       have h1:=List.dropLast_concat_getLast (l:=w1::y::r) (by simp);have h2:=List.getLast?_eq_some_getLast (l:=w1::y::r) (by simp);rw [hb] at h2;injection h2 with h2
       rw [h2];exact h1
      rw [pO (pre:=(jn (w1::y::r).dropLast).cps.toList)] at q
      · cases q
      ·have e3:(jn (w1::y::r)).cps.toList=cZ 32 (((w1::y::r).dropLast++[("!":Str)]).map λ x=>x.cps.toList):=by rw [e2]; rfl
       rw [e3,Yu,Zz,X2,lN (by simp),<- QT,Cs,yk]
    subst rn;have e3:w1=("!":Str):=by simpa using hb
    subst e3;refine ⟨w,jn [("!":Str)],false,⟨" ",jn [("!":Str)],pq,q,ll,(λ z=>nomatch z),λ _=>rfl⟩,ll,.inr ⟨?_,?_⟩⟩
    ·rw [hs]
     unfold rwW;rw [if_pos (by simp)];exact Nat.one_lt_two
    ·rw [show jn [("!":Str)]=("!":Str) from ext rfl]
     exact Gd
   ·refine ⟨w,jn (w1::r),false,⟨" ",jn (w1::r),pq,q,ll,(λ z=>nomatch z),λ _=>rfl⟩,ll,.inl ⟨w1::r,by simp,?_,pj,?_⟩⟩
    ·rw [hs]
     unfold rwW;rw [if_neg (by rw [List.getLast?_cons_cons]; exact hb)]
    ·rw [if_neg Zf]
     exact e1
  | true=>
   obtain ⟨pre,hp⟩:=rg q;rw [yk] at hp
   have e2:w1::r=pts 32 ⟨pre.toArray⟩++[("!":Str)]:=by
    rw [<- pj];refine gB (by simp) (λ v hv=>?_) ?_
    ·rcases Z2.mp hv with hv | hv
     · exact nP 32 _ v hv
     · rw [Zx.mp hv]; decide +kernel
    · rw [hp,Yu,Zz,X2,lN (by simp [d7]),<- qy,Cs]
   have ln:(jn (w1::r)).length=pre.length+2:=by rw [<- aQ,hp,Zh]; rfl
   have sl:Txt.slice (jn (w1::r)) none (some (-2))=⟨pre.toArray⟩:=ext (by
    rw [oj _ (by omega),ln,hp,Nat.add_sub_cancel,Wa])
   refine ⟨w,⟨pre.toArray⟩,true,⟨" ",jn (w1::r),pq,q,ll,(λ _=>⟨by omega,sl⟩),(λ z=>nomatch z)⟩,?_,.inl ⟨pts 32 ⟨pre.toArray⟩,d7 _ _,?_,rfl,?_⟩⟩
   ·show pre.toArray.size<=_
    rw [Zw];omega
   ·rw [hs,e2]
    unfold rwW;rw [<- Yj,if_pos (by rw [List.getLast?_append]; rfl),List.dropLast_concat]
   ·rw [if_pos rfl]
    refine ext ?_
    rw [ex,hp,aY,aY,aY,blank,yk];simp
def P3:List Str:=["wide","least","most"]
def vpB (p:Str):Vw->Bool
 | .hand=>true
 | .start=>true
 | .word x=>decide (p=("ink":Str))||decide (x ∈ (wl p).getD [])
 | .part _ _=>decide (p ∈ P3)
 | _=>decide (p ∈ P9)
def N7 (h:vpB p v=true):VP p v:=by
 cases v with
 | hand=>trivial
 | start=>trivial
 | word x=>
  unfold vpB at h;rw [Xi,Z3,Z3] at h;rcases h with h | h
  · exact .inl h
  ·cases q:wl p with
   | none=>rw [q] at h; exact nomatch h
   | some ws=>rw [q] at h; exact .inr ⟨ws,q,h⟩
 | num t b=>exact (Zu h:p ∈ P9)
 | part t b=>exact (Zu h:p ∈ P3)
 | times t b=>exact (Zu h:p ∈ P9)
 | of q t b=>exact (Zu h:p ∈ P9)
def Bm (hx:rq x):qk [.str p,.str x]=some (.shr (.bl (decide (p=("ink":Str))||decide (x ∈ (wl p).getD [])))):=by
 refine bF ?_
 refine dZ (aw (ar e_v Uf (cj _ _))) (λ q=>?_) (λ q=>?_)
 ·refine aD ?_
  have e:=iG x (Zs (dh hx.1) (by decide));rw [hx.1] at e;have e2:=AV x ["hand","start"];rw [Zc hx.2] at e2;rw [q,Bool.true_or];exact jF (br (ah e_v av) e rfl) (λ _=>ar e_v (bf (ah Uf (ah Uf av)) (by decide)) e2) nofun
 ·refine aD ?_
  have e:B0 jq (aM 0) (mM bR) (cF 2 [.str p,.str x])=some (.tup (((wl p).getD []).map .str)):=by
   show some ((gX jq (.inr p)).getD (.tup []))=_;rw [zA]
  rw [q,Bool.false_or];exact ar e_v e (nU x _)
def Gc (h:v.ok 30):l8 [.str p,jS v.its]=some (.shr (.bl (decide (p ∈ props)&&vpB p v))):=by
 have np:=AV p props;have i9:=nU p P9;have i3:=nU p P3;refine bF (dZ (aw (ar e_v Uf np)) (λ q=>?_) (λ q=>?_))
 ·rw [Z7] at q
  rw [q];exact aD Uf
 rw [Yb] at q;rw [q,Zv];have off:v.its≠[.s "hand"]->v.its≠[.s "start"]->dT (dOp IV (aM 1) (mM (aG (mM (aG (dC (.str "hand")) bR)) (aG (mM (aG (dC (.str "start")) bR)) bR)))) (cF 2 [.str p,jS v.its])=some false:=λ h1 h2=>aw (ar e_v two (Bq h h1 h2))
 have tt:∀ x:Str,(x="number"\/x="times")->nG (.str x) (.tup [.str "number",.str "times"])=some (.bl true):=λ x hx=>by
  have e:=nU x ["number","times"];rw [Ze (by rcases hx with rfl | rfl <;> simp)] at e;exact e
 have an:∀ {τ:List Sl} {f g:DE} {b:Bool},f τ=some (.bl b)->g τ=some (.bl true)->k6 f g τ=some (.bl b):=λ h1 h2=>(ib h1 h2).trans (by rw [Bool.and_true])
 cases v with
 | hand=>exact aV (aw (ar e_v two (xP h (.inl rfl)))) (aD Uf)
 | start=>exact aV (aw (ar e_v two (xP h (.inr rfl)))) (aD Uf)
 | word x=>
  refine az (off nofun nofun) ?_
  exact aV (gY (hG _ rfl rfl) (aw (ar (ar e_v Uf rfl) Uf rfl))) (aD (br (ah e_v (ah (ar e_v Uf rfl) av)) (Bm h) rfl))
 | num t b=>
  refine az (off nofun nofun) (az (gZ (nI _ rfl (by simp [Vw.its]))) ?_);exact aV (gY (hG _ rfl rfl) (aw (ar (ar e_v Uf rfl) (bf (ah Uf (ah Uf av)) (by decide)) (tt _ (.inl rfl))))) (aD (an (ar e_v Uf i9) (br (ah (ar e_v Uf rfl) (ah (ar e_v Uf rfl) av)) (iz h) rfl)))
 | times t b=>
  refine az (off nofun nofun) (az (gZ (nI _ rfl (by simp [Vw.its]))) ?_);exact aV (gY (hG _ rfl rfl) (aw (ar (ar e_v Uf rfl) (bf (ah Uf (ah Uf av)) (by decide)) (tt _ (.inr rfl))))) (aD (an (ar e_v Uf i9) (br (ah (ar e_v Uf rfl) (ah (ar e_v Uf rfl) av)) (iz h) rfl)))
 | part t b=>
  refine az (off nofun nofun) (az (gZ (nI _ rfl (by simp [Vw.its]))) (az (gY (hG _ rfl rfl) (aw (ar (ar e_v Uf rfl) (bf (ah Uf (ah Uf av)) (by decide)) rfl))) ?_));exact aV (gY (hG _ rfl rfl) (aw (ar (ar e_v Uf rfl) Uf rfl))) (aD (an (ar e_v Uf i3) (br (ah (ar e_v Uf rfl) (ah (ar e_v Uf rfl) av)) (iz h) rfl)))
 | of q t b=>
  refine az (off nofun nofun) (az (gZ (nI _ rfl (by simp [Vw.its]))) (az (gZ (nI _ rfl (by simp [Vw.its]))) (az (gZ (nI _ rfl (by simp [Vw.its]))) ?_)));exact aV (gY (hG _ rfl rfl) (aw (ar (ar e_v Uf rfl) Uf rfl))) (aD (an (ar e_v Uf i9) (jF (ar (ar e_v Uf rfl) Uf (yM h.2)) (λ _=>br (ah (ar e_v Uf rfl) (ah (ar e_v Uf rfl) av)) (iz h.1) rfl) nofun)))
def sV (w:Str) (vs:List Str):Bool:=
 if vs=[("hand":Str)]\/vs=[("start":Str)] then true
 else if a7 (vs.headD "")=true then decide (w=("ink":Str))||decide (vs.headD "" ∈ (wl w).getD [])
 else if vs.getLast?=some ("part":Str) then decide (w ∈ P3) else decide (w ∈ P9)
def EM (t b:Nat):pts 32 (Rt t b)=[Rt t b]:=gB (by simp) (λ p hp=>by rw [Zx.mp hp]; exact lH) rfl
def rV (t b:Nat) (hy:32 ∉ y.cps.toList):pts 32 (Rt t b++(" ":Str)++y)=[Rt t b,y]:=gB (by simp) (λ p hp=>by
 simp only [Zd,Zq,Z9] at hp;rcases hp with rfl | rfl
 · exact lH
 · exact hy) (by rw [aY,aY,blank]; show _=_++32::y.cps.toList; simp)
theorem z7 (t b:Nat) (hq:q ∈ P9):pts 32 (Rt t b++(" of ":Str)++q)=[Rt t b,("of":Str),q]:=gB (by simp) (λ p hp=>by
 simp only [Zd,Zq,Z9] at hp;rcases hp with rfl | rfl | rfl
 · exact lH
 · decide +kernel
 · exact Ax _ hq) (by rw [aY,aY,OW]; show _=_++32::((Str.cps ("of":Str)).toList++32::q.cps.toList); rw [DB]; simp)
def v9:a7 "hand"=true:=by rfl
def su:a7 "start"=true:=by rfl
theorem G2:∀ q ∈ P9,q≠("part":Str):=by decide +kernel
theorem FV (h:v.ok 30):sV w (pts 32 v.text)=vpB w v:=by
 have nf:∀ (t b:Nat) (r:List Str),¬ (Rt t b::r=[("hand":Str)]\/Rt t b::r=[("start":Str)]):=λ t b r z=>by
  have:=(xW (t:=t) (b:=b)).ne;rcases z with z | z
  · injection z with z; rw [z] at this; exact this (by simp)
  · injection z with z; rw [z] at this; exact this (by simp)
 have nn:∀ (t b:Nat) (r:List Str),¬ a7 ((Rt t b::r).headD "")=true:=λ t b r z=>by
  have:=(xW (t:=t) (b:=b)).nn;rw [show ((Rt t b::r).headD "")=Rt t b from rfl,this] at z;cases z
 cases v with
 | hand=>
  show sV w (pts 32 "hand")=true;rw [gE v9];exact if_pos (.inl rfl)
 | start=>
  show sV w (pts 32 "start")=true;rw [gE su];exact if_pos (.inr rfl)
 | word s=>
  show sV w (pts 32 s)=_;rw [gE h.1];unfold sV;rw [if_neg (λ z=>h.2 (by rcases z with z | z <;> injection z with z <;> rw [z] <;> simp)),if_pos (show a7 (([s]:List Str).headD "")=true from h.1)];rfl
 | num t b=>
  show sV w (pts 32 (Rt t b))=_;rw [EM];unfold sV;rw [if_neg (nf _ _ _),if_neg (nn _ _ _),if_neg]
  · rfl
  ·intro z
   have:Rt t b=("part":Str):=by simpa using z
   have n2:=(xW (t:=t) (b:=b)).nn;rw [this] at n2;exact absurd n2 (by decide +kernel)
 | part t b=>
  show sV w (pts 32 (Rt t b++(" ":Str)++("part":Str)))=_;rw [rV _ _ part_free];unfold sV;rw [if_neg (nf _ _ _),if_neg (nn _ _ _),if_pos (by simp)];rfl
 | times t b=>
  show sV w (pts 32 (Rt t b++(" ":Str)++("times":Str)))=_;rw [rV _ _ lE];unfold sV;rw [if_neg (nf _ _ _),if_neg (nn _ _ _),if_neg]
  · rfl
  ·rw [show ([Rt t b,("times":Str)]:List Str).getLast?=some ("times":Str) from rfl]
   decide +kernel
 | of q t b=>
  show sV w (pts 32 (Rt t b++(" of ":Str)++q))=_;rw [z7 _ _ h.2];unfold sV;rw [if_neg (nf _ _ _),if_neg (nn _ _ _),if_neg]
  · rfl
  ·rw [show ([Rt t b,("of":Str),q]:List Str).getLast?=some q from rfl]
   exact λ z=>G2 q h.2 (Zj z)
def Mo:List Str->Bool
 | w::v::vs=>decide (w ∈ props)&&(vaL (v::vs)&&sV w (v::vs))
 | _=>false
def ow (x:Str):Bool:=Mo (rwW (pts 32 x))
theorem J0 (hx:x.length<=50000) (h:ow x=false):jA t [.str x]:=by
 obtain ⟨p0,y,b,⟨p1,p2,ep,ee,l2,et,ef⟩,ly,tw⟩:=EN x;refine ⟨rfl,?_⟩
 have eP:AN (.str x) (.str " ")=some (.tup [.str p0,.str p1,.str p2]):=by
  show (if Str.length " "≠0/\x.length<=100000 then some (D.tup ((gi x " ").map .str)) else none)=_;rw [if_pos ⟨by decide +kernel,by omega⟩,ep];rfl
 have eE:AQ (.str p2) (.str " !")=some (.bl b):=by
  show some (D.bl (Txt.endswith p2 " !"))=_;rw [ee]
 refine ⟨_,aI (ar e_v Uf eP),_,aI (ar (ar e_v Uf (eh _ _ _ _)) Uf eE),?_⟩
 have eY:dIf (dT (aM 2)) (qJ (dOp oIx (aM 1) (dC (.int 2))) uX (dP (dUn ui (dC (.int 2))))) (dOp oIx (aM 1) (dC (.int 2))) [.shr (.str x),.shr (.tup [.str p0,.str p1,.str p2]),.shr (.bl b),.no]=some (.str y):=by
  refine CK (aw e_v) (λ q=>?_) (λ q=>?_)
  · exact (fV (ar e_v Uf (eh _ _ _ _)) rfl (be rfl) (by omega)).trans (by rw [(et q).2])
  ·rw [<- ef q]
   exact ar e_v Uf (eh _ _ _ _)
 cases q:tz y with
 | false=>exact .inl ⟨_,ah eY av,wZ (by omega) q⟩
 | true=>
  obtain ⟨vs,nv,er,ev,ex⟩:=tw.resolve_right λ z=>by rw [z.2] at q; cases q
  obtain ⟨v,hv,rfl⟩:=CT q;refine .inr ⟨_,aI (br (ah eY av) (iy hv) rfl),.inl ⟨(cx (aw (br (ah (ar e_v Uf (bx _ _)) (ah e_v av)) (Gc hv) rfl))).trans ?_,trivial⟩⟩;unfold ow at h;rw [er] at h
  cases vs with
  | nil=>exact absurd rfl nv
  | cons v0 vs=>
   unfold tz at q;rw [show Mo (p0::v0::vs)=(decide (p0 ∈ props)&&(vaL (v0::vs)&&sV p0 (v0::vs))) from rfl,<- ev,q,Zv,FV hv] at h;rw [h];rfl
theorem yb (hx:x.length<=50000):CD ow (gx t) jB (jA t) x:=by
 refine ⟨λ h=>?_,J0 hx⟩;obtain ⟨p0,y,b,_,ly,tw⟩:=EN x;unfold ow at h;rcases tw with ⟨vs,nv,er,ev,ex⟩ | ⟨z,_⟩
 ·rw [er] at h
  cases vs with
  | nil=>exact absurd rfl nv
  | cons v0 vs=>
   rw [show Mo (p0::v0::vs)=(decide (p0 ∈ props)&&(vaL (v0::vs)&&sV p0 (v0::vs))) from rfl,<- ev] at h;simp only [Zg,Z3] at h;obtain ⟨h1,h2,h3⟩:=h;obtain ⟨v,hv,rfl⟩:=CT h2;rw [FV hv] at h3
   have e:x=RT p0 v b:=by
    rw [ex];unfold RT RT0
    cases b with
    | true=>rw [if_pos rfl,if_pos rfl,fI,fI,fI]
    | false=>rw [if_neg Zf,if_neg Zf]
   rw [e];exact ⟨_,yD h1 hv (N7 h3),yz h1 hv⟩
 ·match rwW (pts 32 x),z,h with
  | [],_,h=>exact nomatch h
  | [_],_,h=>exact nomatch h
  | _::_::r,z,_=>simp only [Zi] at z; omega
def QA (p:Str) (l:List Str):j4 (.str p) (.lst (l.map .str))=some (.bl (!decide (p ∈ l))):=by
 show (inS (.str p) (l.map .str)).map (λ b=>D.bl !b)=_;rw [sI];rfl
theorem oZ {ds:List D} {d:D} (h:ds.getLast?=some d):oIx (.lst ds) (.int (-1))=some d:=by
 have hl:0 < ds.length:=by
  cases ds with
  | nil=>cases h
  | cons=>simp
 show atI ds (-1)=_;unfold atI ixN;rw [if_neg (by decide),if_pos (by omega),Xv,<- h,List.getLast?_eq_getElem?];congr 1;omega
theorem sF {l:List Str} {z:Str} (h:l.getLast?=some z):(l.map D.str).getLast?=some (.str z):=by grind
def B6 (x:D) (xs:List D):oSl (.lst (x::xs)) (some 1) none=some (.lst xs):=Z8 (λ z=>some (D.lst z)) (sR x xs)
def tJ {x:Str} {vs:List Str} (n:vs≠[]) (h:∀ v ∈ vs,32 ∉ v.cps.toList):(jn vs).length+1=(vs.map (·.length)).sum+vs.length:=by
 rw [<- aQ,QT,uy (by simp [n]),Zk,List.map_map];rfl
def LB {vs:List Str} (n:vs≠[]):Txt.join " " vs=jn vs:=ext (by rw [w5 _ _ n,blank,xH,QT])
def xA {vs:List Str} (h:∀ v ∈ vs,PyData.strOk v=true):mv 8 (vs.map D.str)=true:=xB λ d hd=>by
 obtain ⟨v,hv,rfl⟩:=Xn.mp hd;exact h v hv
theorem Lp {x:Str} (h:∀ c ∈ x.cps.toList,c < 128):PyData.strOk x=true:=by
 unfold PyData.strOk;rw [Y5];intro c hc;have:=h c (Array.mem_toList_iff.mpr hc);exact Ze (by omega)
theorem AU (h:a7 x=true):∀ c ∈ x.cps.toList,c < 128:=λ c hc=>by
 have:=(gm.mp h).2.2 c hc;unfold lower at this;simp only [Zg,Z3] at this;omega
theorem xg (t b:Nat):∀ c ∈ (Rt t b).cps.toList,c < 128:=λ c hc=>by
 by_cases h:c < 47\/57 < c
 · exact absurd hc (JX h t b)
 · omega
theorem Jp {v:Vw} (h:v.ok 30):∀ w ∈ pts 32 v.text,∀ c ∈ w.cps.toList,c < 128:=by
 intro w hw;have k:∀ q ∈ P9,∀ c ∈ q.cps.toList,c < 128:=by decide +kernel
 have k2:∀ q ∈ ([("part":Str),("times":Str),("of":Str)]:List Str),∀ c ∈ q.cps.toList,c < 128:=by decide +kernel
 cases v with
 | hand=>rw [show Vw.hand.text=("hand":Str) from rfl,gE v9] at hw; rw [Zx.mp hw]; exact AU v9
 | start=>rw [show Vw.start.text=("start":Str) from rfl,gE su] at hw; rw [Zx.mp hw]; exact AU su
 | word s=>rw [show (Vw.word s).text=s from rfl,gE h.1] at hw; rw [Zx.mp hw]; exact AU h.1
 | num t b=>rw [show (Vw.num t b).text=Rt t b from rfl,EM] at hw; rw [Zx.mp hw]; exact xg _ _
 | part t b=>
  rw [show (Vw.part t b).text=Rt t b++(" ":Str)++("part":Str) from rfl,rV _ _ part_free] at hw;simp only [Zd,Zq,Z9] at hw;rcases hw with rfl | rfl
  · exact xg _ _
  · exact k2 _ (by simp)
 | times t b=>
  rw [show (Vw.times t b).text=Rt t b++(" ":Str)++("times":Str) from rfl,rV _ _ lE] at hw;simp only [Zd,Zq,Z9] at hw;rcases hw with rfl | rfl
  · exact xg _ _
  · exact k2 _ (by simp)
 | of q t b=>
  rw [show (Vw.of q t b).text=Rt t b++(" of ":Str)++q from rfl,z7 _ _ h.2] at hw;simp only [Zd,Zq,Z9] at hw;rcases hw with rfl | rfl | rfl
  · exact xg _ _
  · exact k2 _ (by simp)
  · exact k _ h.2
def xX {vs ws:List Str} (h1:∀ v ∈ vs,PyData.strOk v=true) (h2:∀ v ∈ ws,PyData.strOk v=true):oEq (.lst (vs.map .str)) (.lst (ws.map .str))=some (.bl (decide (vs=ws))):=by
 rw [Hf (xA h1) (xA h2)];congr 2
 by_cases h:vs=ws
 · rw [h,kZ,Ze rfl]
 ·rw [Zc h,xY]
  intro z;injection z with z
  exact h ((List.map_inj_right (λ a b e=>by injection e)).mp z)
theorem FI {t:Adr} (x:Str) (hx:x.length<=50000):eS t [.str x]=some (.shr (.bl (ow x))):=by
 unfold eS gP; dsimp only
 refine bF ?_
 rw [blank];refine aR (iu (U3 rfl (zP hx)) (Zb rfl)) ?_
 have fr:=nP 32 x
 have sm:((pts 32 x).map (·.length)).sum+(pts 32 x).length<=50001:=by
  have:=tJ (x:=x) (d7 32 x) fr;rw [J3] at this;omega
 unfold ow;generalize hW:pts 32 x=W at *;have nW:W≠[]:=by rw [<- hW]; exact d7 32 x
 have s1:sIf (JG 1 (dT (dOp oEq (dOp oIx (aM 1) (dUn ui (dC (.int 1)))) (dC (.str "!"))))) (Gz 1) d6 [.shr (.str x),.own (.lst (W.map .str)),.no]=some (.next [.shr (.str x),.own (.lst ((rwW W).map .str)),.no]):=by
  obtain ⟨z,hz⟩:∃ z,W.getLast?=some z:=by
   cases q:W.getLast? with
   | none=>exact absurd (List.getLast?_eq_none_iff.mp q) nW
   | some z=>exact ⟨z,rfl⟩
  refine eK (rP rfl (aw (ar (ar (ao rfl) (sO Uf rfl) (oZ (sF hz))) Uf (cj _ _)))) (λ q=>?_) (λ q=>?_)
  ·have e:=Zu q
   subst e;unfold rwW;rw [if_pos hz];show (((W.map D.str)[(W.map D.str).length - 1]?).map λ _=>Out.next _)=_;have:(W.map D.str)[(W.map D.str).length - 1]?=some (.str "!"):=by rw [<- List.getLast?_eq_getElem?]; exact sF hz
   rw [this,List.map_dropLast];rfl
  ·have e:=Z0 q
   unfold rwW;rw [if_neg (λ y=>e (by rw [hz] at y; exact Zj y))];rfl
 refine aR s1 ?_
 have sub:∀ v ∈ rwW W,v ∈ W:=λ v hv=>by
  unfold rwW at hv;split at hv
  · exact (List.dropLast_sublist W).subset hv
  · exact hv
 have sm2:((rwW W).map (·.length)).sum+(rwW W).length<=50001:=by
  refine Zs ?_ sm;unfold rwW;split
  ·have e:=List.dropLast_concat_getLast nW
   conv=>rhs; rw [<- e]
   rw [Yu,List.sum_append,Zh];omega
  · exact Zo _
 generalize rwW W=U at *
 match U,sub,sm2 with
 | [],_,_=>exact aV (rP rfl (IP (aw (ar (hU _ (ao rfl)) Uf rfl)) (λ z=>nomatch z) λ _=>rfl)) (aD Uf)
 | [w],_,_=>exact aV (rP rfl (IP (b:=true) (aw (ar (hU _ (ao rfl)) Uf rfl)) (λ z=>nomatch z) λ _=>rfl)) (aD Uf)
 | w::v::vs,sub,sm2=>
 have fv:∀ u ∈ v::vs,32 ∉ u.cps.toList:=λ u hu=>fr u (sub u (Za _ hu))
 have sv:=tJ (x:=x) (by simp) fv
 have sm3:((v::vs).map (·.length)).sum+(v::vs).length<=50001:=by
  rw [Zz,List.sum_cons,Zi] at sm2;omega
 have lj:(jn (v::vs)).length<=50000:=by omega
 have no2:decide ((((w::v::vs).map D.str).length:Int) < 2)=false:=Zc (by simp only [Zz,Zi]; omega);have tl:∀ {τ:List Sl},τ[1]?=some (.shr (.lst ((w::v::vs).map .str)))->dSl (aM 1) (dP (dC (.int 1))) uX τ=some (.lst ((v::vs).map .str)):=λ h=>CJ (ao h) (be Uf) kI (B6 _ _)
 have vq:dw [.str (jn (v::vs))]=some (.shr (.bl (vaL (v::vs)))):=by
  rw [xG _ lj];unfold tz;rw [xJ (by simp) fv]
 rw [show Mo (w::v::vs)=(decide (w ∈ props)&&(vaL (v::vs)&&sV w (v::vs))) from rfl];refine dZ (rP rfl ((dU (aw ((ar (hU _ (ao rfl)) Uf rfl).trans (by show some (D.bl (decide _))=_; rw [no2]))) (dU (aw (ar (U3 rfl (cq _ _)) (br av oH rfl) (QA w props))) (cx (aw (br (ah (xZ Uf (tl rfl) (by rw [show Str.length ⟨#[32]⟩=1 from rfl]; omega)) av) (by rw [<- blank,LB (by simp)]; exact vq) rfl))))).trans (by rw [Bool.false_or,<- Bool.not_and]))) (λ q=>?_) (λ q=>?_)
 ·rw [Z7] at q
  rw [<- Bool.and_assoc,q];exact aD Uf
 rw [Yb] at q;rw [<- Bool.and_assoc,q,Zv];rw [Zg] at q;have q2:tz (jn (v::vs))=true:=by unfold tz; rw [xJ (by simp) fv]; exact q.2
 obtain ⟨vw,hv,et⟩:=CT q2;have ok1:∀ u ∈ v::vs,PyData.strOk u=true:=λ u hu=>Lp (Jp hv u (by rw [<- et,xJ (by simp) fv]; exact hu))
 have ok2:∀ z ∈ ([("hand":Str)]:List Str),PyData.strOk z=true:=by decide +kernel
 have ok3:∀ z ∈ ([("start":Str)]:List Str),PyData.strOk z=true:=by decide +kernel
 unfold sV;refine dZ (rP rfl (dU (aw (ar (tl rfl) (fb (ah Uf av) (Zb rfl)) (xX ok1 ok2))) (aw (ar (tl rfl) (fb (ah Uf av) (Zb rfl)) (xX ok1 ok3))))) (λ q=>?_) (λ q=>?_)
 ·rw [Xi,Z3,Z3] at q
  rw [if_pos q];exact aD Uf
 rw [Bool.or_eq_false_iff,Ys,Ys] at q;rw [if_neg (λ z=>z.elim q.1 q.2)]
 have lv:v.length<=50000:=by
  rw [Zz,List.sum_cons,Zi] at sm3;omega
 refine dZ (rP rfl (aw (br (ah (U3 rfl (eQ _ _ _)) av) (sD v lv) rfl))) (λ q=>?_) (λ q=>?_)
 ·rw [if_pos (show a7 ((v::vs).headD "")=true from q)]
  refine aR (iu (by rfl) (Zb rfl)) ?_
  refine aR (xf (by rfl) (by rfl) rfl rfl (by decide)) ?_
  refine aR (xf (by rfl) (by rfl) rfl rfl (by decide)) ?_
  show IS 2 _ [.shr (.str x),.own (.lst ((w::v::vs).map .str)),.own (.dct lw)]=_;refine oq rfl (oq rfl (aD (BL (ar (U3 rfl (cq _ _)) Uf (cj _ _)) (ar (U3 rfl (eQ _ _ _)) ((BN (ao rfl) (U3 rfl (cq _ _)) (fb av (by decide)) rfl).trans ?_) (QX v _)))));rw [HB];cases wl w <;> rfl
 rw [if_neg (λ z=>by rw [show (v::vs).headD ""=v from rfl,q] at z; cases z)];obtain ⟨z,hz⟩:∃ z,(v::vs).getLast?=some z:=⟨_,List.getLast?_eq_some_getLast (by simp)⟩
 have hz2:(w::v::vs).getLast?=some z:=by rw [List.getLast?_cons_cons]; exact hz
 refine dZ (rP rfl (aw (ar (ar (ao rfl) (sO Uf rfl) (oZ (sF hz2))) Uf (cj _ _)))) (λ q=>?_) (λ q=>?_)
 ·rw [if_pos (by rw [hz,Zu q])]
  exact oq rfl (aD (ar (U3 rfl (cq _ _)) (bf (ah Uf (ah Uf (ah Uf av))) (by decide)) (nU w P3)))
 ·rw [if_neg (by rw [hz]; exact λ y=>Z0 q (Zj y))]
  exact oq rfl (aD (ar (U3 rfl (cq _ _)) (CJ (br av oH rfl) (be Uf) (be Uf) Kn) (QX w P9)))
def Lj (h:a7 x=true):1<=x.length:=(gm.mp h).1
theorem Jw {d:Tt} (h:d.ok):1<=d.text.length:=by
 cases d with
 | any=>decide +kernel
 | name x=>exact Lj h
 | mark x=>show 1<=((".":Str)++x).length; rw [U1,show Str.length (".":Str)=1 by decide +kernel]; omega
 | ij x=>show 1<=(("!":Str)++x).length; rw [U1,show Str.length ("!":Str)=1 by decide +kernel]; omega
 | rR k f e=>show 1<=(kP k++Ct f e).length; rw [U1,xc]; omega
theorem CN:∀ {ds:List Tt},(∀ d ∈ ds,d.ok)->ds.length<=(WT ds).length
 | [],_=>Ye _
 | d::ds,h=>by
  have a:=Jw (h d (by simp));have b:=CN (ds:=ds) λ e he=>h e (Za _ he)
  show ds.length+1<=(d.text++WT ds).length;rw [U1];omega
theorem vH (h0:d0.ok) (hh:d0.hd) (hd:∀ d ∈ ds,d.ok/\d.tl) (lzz:(WT (d0::ds)).length<=50000):gS [.str (WT (d0::ds))]=some (.shr (.tup ((d0::ds).map Tt.D))):=by
 have ld:=CN λ d m=>(hd d m).1
 have ld2:(WT ds).length<=(WT (d0::ds)).length:=by show _<=(d0.text++WT ds).length; rw [U1]; omega
 generalize ez:WT (d0::ds)=z at lzz ld2;have ez:z=d0.text++WT ds:=ez.symm;have ezl:z.cps.toList=d0.text.cps.toList++(WT ds).cps.toList:=by rw [ez,aY]
 let n0:=d0.text.length
 have sts:kf (pz (aG (aM 0) bR)) (dT (dOp nG (aM 1) (dC qp))) (aM 0) [] [.shr (.str z),.no,.no,.no,.no,.no]=some (.lst ((stN n0 ds).map λ n:Nat=>D.int (n:Int))):=by
  refine ya (Bt (ao rfl)) ?_ ?_
  ·rw [nV]
   unfold chD;rw [Zk,aQ];omega
  · rw [BI,wt,ezl,jr,oI _ _ (Q2 h0 hh),Yc,aQ,Xm,EU hd]
 have eln:∀ {τ:List Sl},τ[0]?=some (.shr (.str z))->Md (aG (ej jD (aG (aM 0) bR)) bR) τ=some (.lst [.int (z.length:Int)]):=λ e=>fb (ah (aS (ah (ao e) av) (sE lzz)) av) (Zb rfl)
 have eends:jE (.lst ((stN n0 ds).map λ n:Nat=>D.int (n:Int))) (.lst [.int (z.length:Int)])=some (.lst (.int (n0:Int)::(enN n0 ds).map λ n:Nat=>D.int (n:Int))):=by
  show (if _<=100000 then some (D.lst (_++_)) else none)=_;rw [if_pos (by rw [Zk,tM]; show ds.length+1<=_; omega)];have:=Z8 (List.map λ n:Nat=>D.int (n:Int)) (Gr ds n0);rw [Yu] at this;rw [ez,U1];exact Z8 (λ l=>some (D.lst l)) this
 have key:Ret (λ d=>d=.tup ((d0::ds).map Tt.D)) (ky.1 (cF 6 [.str z])):=by
  refine dD (aI sts) ?_
  refine dD (aI (ar (ao rfl) (eln rfl) eends)) ?_
  have ehd:=nA (A:=[]) (b:=n0) ezl rfl (by rw [aQ]; exact Xm _) rfl (Yp _ _);refine dD (iu (fb (ah (br (ah (fV (ao rfl) kI (be (U3 rfl (cq _ _))) (by omega)) av) (by rw [ehd]; exact oz h0 hh) rfl) av) (Zb rfl)) (show 3 < 6 by decide)) ?_
  refine CG (R:=λ τ=>∃ s1 s2 s4 s5,τ=[.shr (.str z),s1,s2,.own (.lst ((d0::ds).map Tt.D)),s4,s5]) (sy (λ j τ=>∃ s1 s2 s4 s5,τ=[.shr (.str z),s1,s2,.own (.lst ((d0::ds.take j).map Tt.D)),s4,s5]) (LM (ao rfl) (CJ (ao rfl) (be Uf) kI (Z8 (λ l=>some (D.lst l)) (sR _ _)))) ⟨_,_,_,_,rfl⟩ ?_ λ τ' ⟨s1,s2,s4,s5,e⟩=>⟨s1,s2,s4,s5,?_⟩) ?_
  ·rintro j d τ ed ⟨s1,s2,s4,s5,rfl⟩
   obtain ⟨x,y,ex,ey,rfl⟩:=Jf ed;rw [List.getElem?_map] at ex ey;obtain ⟨a,ea,rfl⟩:=Zm ex;obtain ⟨b,eb,rfl⟩:=Zm ey
   have jl:j < ds.length:=by
    have:=(List.getElem?_eq_some_iff.mp ea).1;rw [tM] at this;exact this
   obtain ⟨d,ed'⟩:∃ d,ds[j]?=some d:=⟨_,List.getElem?_eq_getElem jl⟩
   obtain ⟨ok,tl⟩:=hd d (List.mem_of_getElem? ed');obtain ⟨g1,g2⟩:=EB ed';rw [g1] at ea;rw [g2] at eb;injection ea with ea
   injection eb with eb
   obtain ⟨c,ec,_⟩:=EG tl;have w:=CM ed' tl;rw [ec] at w
   have zl:z.cps.toList=(d0.text.cps.toList++(WT (ds.take j)).cps.toList)++(c::(d.bd.cps.toList++(WT (ds.drop (j+1))).cps.toList)):=by
    rw [ezl,w,Z5];rfl
   have al:(d0.text.cps.toList++(WT (ds.take j)).cps.toList).length=a:=by rw [Zh,aQ,aQ,<- ea]
   have tl2:d.text.length=1+d.bd.length:=by
    rw [nM tl,U1,ec];rfl
   have e1:oIx (.str z) (.int (a:Int))=some (.str d.sg):=by
    rw [ec];refine qC (by omega) ?_
    rw [zl,List.getElem?_append_right (by omega),al,Nat.sub_self];rfl
   have e2:Txt.slice z (some ((a:Int)+1)) (some (b:Int))=d.bd:=nA (A:=(d0.text.cps.toList++(WT (ds.take j)).cps.toList)++[c]) (R:=(WT (ds.drop (j+1))).cps.toList) (a:=a+1) (by rw [zl]; simp only [Z5,Yj,Yc]) (by rw [Zh,al]; rfl) (by rw [aQ]; omega) rfl rfl;refine ⟨[.shr (.str z),s1,s2,.own (.lst ((d0::ds.take j).map Tt.D)),.shr (.int (a:Int)),.shr (.int (b:Int))],rfl,xF (yB (br (ah (ar (ao rfl) (ao rfl) e1) (ah (fV (z:=z) (ao rfl) (be (U3 rfl (a8 _ _))) (be (ao rfl)) (by omega)) av)) (by rw [e2]; exact mq ok tl) rfl) rfl ?_) ⟨s1,s2,.shr (.int (a:Int)),.shr (.int (b:Int)),?_⟩⟩
   ·rw [Zk,Zi,Yh]
    omega
   ·rw [List.take_add_one,ed']
    rw [<- Yj,Yu];rfl
  ·rw [e]
   have:(zp ((stN n0 ds).map λ n:Nat=>D.int (n:Int)) ((enN n0 ds).map λ n:Nat=>D.int (n:Int))).length=ds.length:=by
    have e3:=Z8 List.length (Gr ds n0);rw [Zh,tM,Zi] at e3;have e3:ds.length+1=(enN n0 ds).length+1:=e3;unfold zp;rw [Zk,List.length_zip,Zk,Zk,tM];omega
   rw [this,Xw]
  ·rintro τ ⟨s1,s2,s4,s5,rfl⟩
   exact ⟨_,oq rfl (aD (aS (ah (ao rfl) av) rfl)),rfl⟩
 obtain ⟨d,e,rfl⟩:=qF key;exact e
structure SpG (s:Sp'):Prop where
 ok:∀ d ∈ s.2,d.ok
 jn:s.1=""\/s.1=" "\/s.1 ∈ JN
theorem ES (h:ps[j]?=some s):(PTx (ps.take j)).length+((seg s.1).length+(WT s.2).length)<=(PTx ps).length:=by
 have key:∀ (xs ys:List Sp'),(PTx (xs++ys)).length=(PTx xs).length+(PTx ys).length:=λ xs ys=>by
  induction xs with
  | nil=>show _=Str.length ""+_; rw [show Str.length ""=0 by decide +kernel,Xm]; rfl
  | cons x xs ih=>show (seg x.1++WT x.2++PTx (xs++ys)).length=(seg x.1++WT x.2++PTx xs).length+_; rw [U1,U1,U1,U1,ih]; omega
 have e:=key (ps.take (j+1)) (ps.drop (j+1));rw [Y6,vL h,U1,U1] at e;omega
theorem qw (h:∀ s ∈ ps,SpG s) (hl:(PTx ps).length<=50000):cL [t7 ps]=some (.shr (.str (PTx ps))):=by
 have add:∀ {a b:Str},a.length<=50000->b.length<=50000->xO (.str a) (.str b)=some (.str (a++b)):=λ h1 h2=>if_pos (by omega)
 have key:Ret (λ d=>d=.str (PTx ps)) (dS.1 (cF 3 [t7 ps])):=by
  unfold dS; dsimp only
  refine dD (aI Uf) ?_
  refine CG (R:=λ τ=>∃ s2,τ=[.shr (t7 ps),.shr (.str (PTx ps)),s2]) (sy (λ j τ=>∃ s2,τ=[.shr (t7 ps),.shr (.str (PTx (ps.take j))),s2]) (Br (ao rfl)) ⟨_,rfl⟩ ?_ λ τ' ⟨s2,e⟩=>⟨s2,by rw [e,Zk,Xw]⟩) ?_
  ·rintro j d τ ed ⟨s2,rfl⟩
   rw [List.getElem?_map] at ed;obtain ⟨s,es,rfl⟩:=Zm ed;have hs:=h s (List.mem_of_getElem? es);have lt:=ES es;have l12:=CN hs.ok
   have l1:s.1.length<=1:=by
    rcases hs.jn with e | e | e
    · rw [e]; decide +kernel
    · rw [e]; decide +kernel
    ·unfold JN at e
     simp only [Zd,Zq,Z9] at e;rcases e with e | e | e <;> rw [e] <;> decide +kernel
   refine ⟨_,rfl,xF (aR (τ':=[.shr (t7 ps),.shr (.str (PTx (ps.take j)++seg s.1)),.shr (stD s)]) ?_ (Gy (ao rfl) (xZ (ts:=s.2.map Tt.text) Uf (gq (Br (U3 rfl (b5 _ _ _))) (by rw [Zk]; omega) ?_) ?_) (add (by rw [U1]; omega) (by rw [Bd]; omega)))) ⟨_,by rw [Bd,fI,vL es]; rfl⟩⟩
   ·refine eK (aw (ar (U3 rfl (bx _ _)) Uf (Bp s.1))) (λ q=>?_) (λ q=>?_)
    ·have e:seg s.1=(" ":Str)++s.1++(" ":Str):=if_pos (Zu q)
     rw [e];exact Gy (ao rfl) (ar (ar Uf (U3 rfl (bx _ _)) (bu (by rw [show Str.length " "=1 from lb]; omega))) Uf (bu (by rw [U1,show Str.length " "=1 from lb]; omega))) (add (by omega) (by rw [<- e]; omega))
    ·have e:seg s.1=s.1:=if_neg (Z0 q)
     rw [e];exact Gy (ao rfl) (U3 rfl (bx _ _)) (add (by omega) (by omega))
   ·have mp:∀ (ds:List Tt),(∀ d ∈ ds,d.ok)->∀ {cs:List Sl},vn (λ d=>dFn eG (aG (aM 0) bR) (.shr d::cs)) (ds.map Tt.D)=some ((ds.map Tt.text).map .str):=λ ds=>by
     induction ds with
     | nil=>intro _ cs; rfl
     | cons d ds ih=>
      intro hd cs;show (dFn eG (aG (aM 0) bR) (.shr d.D::cs)).bind _=_;rw [br (ah (ao rfl) av) (tQ (hd d (by simp))) rfl];rw [ih λ e he=>hd e (Za _ he)];rfl
    exact mp s.2 hs.ok
   ·have sm:∀ (ds:List Tt),((ds.map Tt.text).map (·.length)).sum=(WT ds).length:=λ ds=>by
     induction ds with
     | nil=>rfl
     | cons d ds ih=>
      show d.text.length+_=(d.text++WT ds).length;rw [U1,<- ih]; rfl
    rw [sm s.2,show Str.length ""=0 by decide +kernel];omega
  ·rintro τ ⟨s2,rfl⟩
   exact rY (ao rfl) rfl
 obtain ⟨d,e,rfl⟩:=qF key;exact e
def JI (h:SpG s) (hs:Cz s) (hz:(WT s.2).length<=50000):gS [.str (WT s.2)]=some (.shr (.tup (s.2.map Tt.D))):=by
 obtain ⟨d0,ds,e,hh,ht⟩:=hs;have ok:=h.ok;rw [e] at ok hz ⊢;exact vH (ok d0 (by simp)) hh (λ d hd=>⟨ok d (Za _ hd),ht d hd⟩) hz
def nO (h:SpG s) (hs:Cz s) (hz:(WT s.2).length<=50000) (hl:ds.length < 100000):((gN 3 (.str (WT s.2)) [.shr (.str z),.own (.lst ds),.shr (.str j),x3]).bind rpB)=some (.next [.shr (.str z),.own (.lst (ds++[.tup [.str j,.tup (s.2.map Tt.D)]])),.shr (.str " "),.shr (.str (WT s.2))]):=by
 show rpB [.shr (.str z),.own (.lst ds),.shr (.str j),.shr (.str (WT s.2))]=_;refine eK (b:=false) (aw ((ar e_v Uf (Bp _)).trans (by rw [Zc (N5 h.ok)]))) (λ z=>nomatch z) λ _=>?_
 refine aR (yB (bf (ah e_v (ah (br (ah e_v av) (JI h hs hz) rfl) av)) (Zb rfl)) rfl (by omega)) ?_
 exact aI Uf
theorem xh:∀ {ps:List Sp'},(∀ s ∈ ps,s.1=(" ":Str)\/s.1 ∈ JN)->(∀ s ∈ ps,(SpG s/\Cz s)/\(WT s.2).length<=50000)->∀ (ds:List D) (x3:Sl),ds.length+ps.length < 100000->∃ x3',ia (λ d τ=>(gN 3 d τ).bind rpB) ((wds ps).map .str) [.shr (.str z),.own (.lst ds),.shr (.str " "),x3]=some (.next [.shr (.str z),.own (.lst (ds++ps.map stD)),.shr (.str " "),x3'])
 | [],_,_,ds,x3,_=>⟨x3,by rw [X2,Yd]; rfl⟩
 | s :: ps,h,hs,ds,x3,hl=>by
  rw [Zi] at hl;obtain ⟨⟨h1,h2⟩,hz⟩:=hs s (by simp);obtain ⟨x3',ih⟩:=xh (z:=z) (ps:=ps) (λ e he=>h e (Za _ he)) (λ e he=>hs e (Za _ he)) (ds++[stD s]) (.shr (.str (WT s.2))) (by rw [Zh]; show ds.length+1+_ < _; omega);rw [Z5] at ih;refine ⟨x3',?_⟩;show ia _ ((if s.1 ∈ JN then s.1::WT s.2::wds ps else WT s.2::wds ps).map .str) _=_
  by_cases q:s.1 ∈ JN
  ·rw [if_pos q]
   exact fG (z9 q) (fG (nO h1 h2 hz (by omega)) ih)
  ·rw [if_neg q]
   rcases h s (by simp) with e | e
   ·have st:=nO (z:=z) (j:=" ") (x3:=x3) (ds:=ds) h1 h2 hz (by omega)
    rw [show D.tup [.str " ",.tup (s.2.map Tt.D)]=stD s by unfold stD; rw [e]] at st;exact fG st ih
   · exact absurd e q
structure SS (ps:List Sp'):Prop where
 ok:∀ s ∈ ps,SpG s
 j0:∀ s:Sp',ps[0]?=some s->s.1=("":Str)
 jn:∀ (j:Nat) (s:Sp'),ps[j+1]?=some s->s.1=(" ":Str)\/s.1 ∈ JN
theorem JJ (h:SpG s) (hs:Cz s):1<=(WT s.2).length:=by
 obtain ⟨d0,ds,e,_⟩:=hs;have:=CN h.ok;rw [e] at this ⊢;rw [Zi] at this;omega
theorem J5:∀ {ps:List Sp'},(∀ s ∈ ps,SpG s/\Cz s)->ps.length<=(PTx ps).length
 | [],_=>Ye _
 | s::ps,h=>by
  have a:=JJ (h s (by simp)).1 (h s (by simp)).2;have b:=J5 (ps:=ps) λ e he=>h e (Za _ he)
  show ps.length+1<=(seg s.1++WT s.2++PTx ps).length;rw [U1,U1];omega
theorem OB (h:s ∈ ps):(WT s.2).length<=(PTx ps).length:=by
 obtain ⟨j,hj⟩:=List.mem_iff_getElem?.mp h;have:=ES hj;omega
theorem qx (h:SS ps) (hs:∀ s ∈ ps,Cz s) (n:ps≠[]) (hz:(PTx ps).length<=50000):cn [.str (PTx ps)]=some (.shr (t7 ps)):=by
 unfold cn f6; dsimp only
 cases ps with
 | nil=>exact absurd rfl n
 | cons s ps=>
  have e0:=h.j0 s rfl
  have ht:∀ e ∈ ps,e.1=(" ":Str)\/e.1 ∈ JN:=λ e he=>by
   obtain ⟨j,hj⟩:=List.mem_iff_getElem?.mp he;exact h.jn j e (by rw [List.getElem?_cons_succ]; exact hj)
  have hl:=J5 λ e he=>⟨h.ok e he,hs e he⟩
  rw [Zi] at hl;have wz:∀ e ∈ s::ps,(WT e.2).length<=50000:=λ e he=>Zs (OB he) hz
  have nj:=jz (.inl e0)
  have sp:cW (.str (PTx (s::ps))) (.str " ")=some (.lst ((wds (s::ps)).map .str)):=by
   rw [blank];refine de ?_ (wY λ e he=>(h.ok e he).ok) ?_ (by omega)
   ·show (if s.1 ∈ JN then _ else _)≠[]
    rw [if_neg nj];exact Wd _ _
   ·show (seg s.1++WT s.2++PTx ps).cps.toList=cZ 32 ((if s.1 ∈ JN then s.1::WT s.2::wds ps else WT s.2::wds ps).map λ x=>x.cps.toList)
    rw [if_neg nj,show seg s.1=s.1 from if_neg nj,e0,gD,aY];exact rG ht _
  obtain ⟨x3,lp⟩:=xh ht (λ e he=>⟨⟨h.ok e (Za _ he),hs e (Za _ he)⟩,wz e (Za _ he)⟩) [stD s] (.shr (.str (WT s.2))) (by show 1+_ < _; omega);refine bF ?_
  refine aR (iu (fb av (Ye _)) (show 1 < 4 by decide)) ?_
  refine aR (aI Uf) ?_
  refine aR (τ':=[.shr (.str (PTx (s::ps))),.own (.lst (stD s::ps.map stD)),.shr (.str " "),x3]) (nB (uC (ar e_v Uf sp)) ?_) ?_
  ·show ia (λ d τ=>(gN 3 d τ).bind rpB) ((if s.1 ∈ JN then s.1::WT s.2::wds ps else WT s.2::wds ps).map .str) [.shr (.str (PTx (s::ps))),.own (.lst []),.shr (.str ""),.no]=_
   rw [if_neg nj];have st:=nO (z:=PTx (s::ps)) (j:="") (x3:=.no) (ds:=[]) (h.ok s (by simp)) (hs s (by simp)) (wz s (by simp)) (by decide);rw [show D.tup [.str "",.tup (s.2.map Tt.D)]=stD s by unfold stD; rw [e0]] at st;exact fG st lp
  ·refine az (aw (ar e_v Uf rfl)) ?_
   exact oq rfl (aD (aS (ah e_v av) rfl))
abbrev S (l:List Nat):Str:=⟨l.toArray⟩
def qM:List Nat->List Nat×List (Nat×List Nat)
 | []=>([],[])
 | c::cs=>if (⟨#[c]⟩:Str) ∈ SG then ([],(c,(qM cs).1)::(qM cs).2) else (c::(qM cs).1,(qM cs).2)
def flat:List (Nat×List Nat)->List Nat
 | []=>[]
 | p::r=>p.1::(p.2++flat r)
theorem rT:∀ cs,cs=(qM cs).1++flat (qM cs).2
 | []=>rfl
 | c::cs=>by
  have ih:=rT cs;unfold qM;split
  ·show c::cs=c::((qM cs).1++flat (qM cs).2)
   rw [<- ih]
  ·show c::cs=c::((qM cs).1++flat (qM cs).2)
   rw [<- ih]
def Cut (h:List Nat) (r:List (Nat×List Nat)):Prop:=(∀ c ∈ h,(⟨#[c]⟩:Str) ∉ SG)/\∀ p ∈ r,(⟨#[p.1]⟩:Str) ∈ SG/\∀ c ∈ p.2,(⟨#[c]⟩:Str) ∉ SG
theorem nN:∀ cs,Cut (qM cs).1 (qM cs).2
 | []=>⟨nofun,nofun⟩
 | c::cs=>by
  have ih:=nN cs;unfold qM;split
  ·rename_i hc
   refine ⟨nofun,λ p hp=>?_⟩;rcases Zd.mp hp with rfl | hp
   · exact ⟨hc,ih.1⟩
   · exact ih.2 p hp
  ·rename_i hc
   refine ⟨λ d hd=>?_,ih.2⟩;rcases Zd.mp hd with rfl | hd
   · exact hc
   · exact ih.1 d hd
def jU (p:Nat×List Nat):Bool:=if p.1=46\/p.1=33 then a7 (S p.2) else IA (S p.2)
def FR (h:List Nat):Bool:=decide (S h=("*":Str))||a7 (S h)
def stepOk (x:Str):Bool:=FR (qM x.cps.toList).1&&(qM x.cps.toList).2.all jU
def RH:(".":Str)=⟨#[46]⟩:=by rfl
def RI:("!":Str)=⟨#[33]⟩:=by rfl
def Tp:("@":Str)=⟨#[64]⟩:=by rfl
def To:("^":Str)=⟨#[94]⟩:=by rfl
theorem EI (hs:(⟨#[p.1]⟩:Str) ∈ SG) (h:jU p=true):∃ d:Tt,d.ok/\d.tl/\d.sg=⟨#[p.1]⟩/\d.bd=S p.2:=by
 unfold jU at h;rcases (zR p.1).mp hs with e | e | e | e
 ·rw [if_pos (.inl e)] at h
  exact ⟨.mark (S p.2),h,trivial,by rw [e]; exact RH,rfl⟩
 ·rw [if_pos (.inr e)] at h
  exact ⟨.ij (S p.2),h,trivial,by rw [e]; exact RI,rfl⟩
 ·rw [if_neg (by omega)] at h
  obtain ⟨f,n,hf,hn,e2⟩:=Me h;exact ⟨.rR false f n,⟨hf,hn⟩,trivial,by rw [e]; exact Tp,e2.symm⟩
 ·rw [if_neg (by omega)] at h
  obtain ⟨f,n,hf,hn,e2⟩:=Me h;exact ⟨.rR true f n,⟨hf,hn⟩,trivial,by rw [e]; exact To,e2.symm⟩
def LQ (hh:FR h=true):∃ d:Tt,d.ok/\d.hd/\d.text=S h:=by
 unfold FR at hh;rw [Xi,Z3] at hh;rcases hh with e | e
 · exact ⟨.any,trivial,trivial,e.symm⟩
 · exact ⟨.name (S h),e,trivial,rfl⟩
theorem zS:∀ {r:List (Nat×List Nat)},(∀ p ∈ r,(⟨#[p.1]⟩:Str) ∈ SG)->r.all jU=true->∃ ds:List Tt,(∀ d ∈ ds,d.ok/\d.tl)/\(WT ds).cps.toList=flat r
 | [],_,_=>⟨[],nofun,by decide +kernel⟩
 | p::r,hs,h=>by
  rw [Y1,Zg] at h;obtain ⟨ds,h1,h2⟩:=zS (r:=r) (λ q hq=>hs q (Za _ hq)) h.2;obtain ⟨d,o,t,e1,e2⟩:=EI (hs p (by simp)) h.1;refine ⟨d::ds,λ e he=>?_,?_⟩
  ·rcases Zd.mp he with rfl | he
   · exact ⟨o,t⟩
   · exact h1 e he
  ·show (d.text++WT ds).cps.toList=_
   rw [aY,nM t,aY,e1,e2,h2];rfl
def Gp (h:stepOk x=true):∃ d0 ds,d0.ok/\d0.hd/\(∀ d ∈ ds,Tt.ok d/\d.tl)/\x=WT (d0::ds):=by
 unfold stepOk at h;rw [Zg] at h;obtain ⟨d0,o,hd,e0⟩:=LQ h.1;obtain ⟨ds,h1,h2⟩:=zS (λ p hp=>((nN _).2 p hp).1) h.2;refine ⟨d0,ds,o,hd,h1,ext ?_⟩;show _=(d0.text++WT ds).cps.toList;rw [aY,e0,h2];exact rT _
def HX (hl:h.length<=50000) (hh:FR h=false):qc t [.str (S h)]:=by
 unfold FR at hh;rw [Bool.or_eq_false_iff,Ys] at hh;refine ⟨rfl,?_⟩;exact ⟨_,eK (aw (ar e_v Uf (nes hh.1))) (λ z=>nomatch z) (λ _=>rfl),⟨_,rfl⟩,_,ah e_v av,lU (by show h.toArray.size<=_; rw [Zw]; exact hl) hh.2⟩
theorem CY (hs:(⟨#[p.1]⟩:Str) ∈ SG) (hl:p.2.length<=50000) (h:jU p=false):iN t [.str ⟨#[p.1]⟩,.str (S p.2)]:=by
 have hl':(S p.2).length<=50000:=by show p.2.toArray.size<=_; rw [Zw]; exact hl
 unfold jU at h;refine ⟨rfl,?_⟩;unfold iR; dsimp only
 rw [RH,RI];have q1:∀ {τ:List Sl} (k:Nat),τ[0]?=some (.shr (.str ⟨#[p.1]⟩))->dT (dOp oEq (aM 0) (dC (.str ⟨#[k]⟩))) τ=some (decide (p.1=k)):=λ k e=>aw ((ar (ao e) Uf (cj _ _)).trans (by rw [oO]))
 by_cases h1:p.1=46
 ·rw [if_pos (.inl h1)] at h
  exact .inl (.inl ⟨(q1 46 rfl).trans (by rw [Ze h1]),⟨_,rfl⟩,_,ah e_v av,lU hl' h⟩)
 refine .inr ⟨_,eK (b:=false) ((q1 46 rfl).trans (by rw [Zc h1])) (λ z=>nomatch z) (λ _=>rfl),?_⟩
 by_cases h2:p.1=33
 ·rw [if_pos (.inr h2)] at h
  exact .inl (.inl ⟨(q1 33 rfl).trans (by rw [Ze h2]),⟨_,rfl⟩,⟨_,rfl⟩,_,ah e_v av,lU hl' h⟩)
 rw [if_neg (by omega)] at h;exact .inr ⟨_,eK (b:=false) ((q1 33 rfl).trans (by rw [Zc h2])) (λ z=>nomatch z) (λ _=>rfl),_,ah e_v av,Ee hl' h⟩
def stP:Nat->List (Nat×List Nat)->List Nat
 | _,[]=>[]
 | k,p::r=>k::stP (k+1+p.2.length) r
def enP:Nat->List (Nat×List Nat)->List Nat
 | _,[]=>[]
 | k,p::r=>(k+1+p.2.length)::enP (k+1+p.2.length) r
def prD:Nat->List (Nat×List Nat)->List D
 | _,[]=>[]
 | k,p::r=>.tup [.int (k:Int),.int ((k+1+p.2.length:Nat):Int)]::prD (k+1+p.2.length) r
theorem xo:∀ {r:List (Nat×List Nat)} {k:Nat},(∀ p ∈ r,(⟨#[p.1]⟩:Str) ∈ SG/\∀ c ∈ p.2,(⟨#[c]⟩:Str) ∉ SG)->rZ k (flat r)=stP k r
 | [],_,_=>rfl
 | p::r,k,h=>by
  have hp:=h p (by simp);show (if (⟨#[p.1]⟩:Str) ∈ SG then k::rZ (k+1) (p.2++flat r) else _)=_;rw [if_pos hp.1,jr,oI _ _ hp.2,Yc,xo λ q hq=>h q (Za _ hq)];rfl
theorem EC:∀ (r:List (Nat×List Nat)) (k:Nat),stP k r++[k+(flat r).length]=k::enP k r
 | [],k=>rfl
 | p::r,k=>by
  have ih:=EC r (k+1+p.2.length);show k::(stP _ r++[k+((p.2++flat r).length+1)])=k::(k+1+p.2.length)::enP _ r;rw [<- ih,Zh,show k+(p.2.length+(flat r).length+1)=k+1+p.2.length+(flat r).length by omega]
theorem Jg:∀ (r:List (Nat×List Nat)) (k:Nat),zp ((stP k r).map λ n:Nat=>D.int (n:Int)) ((enP k r).map λ n:Nat=>D.int (n:Int))=prD k r
 | [],_=>rfl
 | p::r,k=>by
  have ih:=Jg r (k+1+p.2.length);show D.tup [_,_]::zp _ _=D.tup [_,_]::prD _ r;rw [ih]
theorem wx:∀ (r:List (Nat×List Nat)),r.length<=(flat r).length
 | []=>Ye _
 | p::r=>by
  have:=wx r;show r.length+1<=(p.2++flat r).length+1;rw [Zh];omega
theorem zO:∀ (r:List (Nat×List Nat)) (k:Nat),(stP k r).length=r.length
 | [],_=>rfl
 | p::r,k=>by show (stP _ r).length+1=_; rw [zO]; rfl
def Mk {z:Str} {A:List Nat} {p:Nat×List Nat} {R:List Nat} {s1 s2 s3:Sl} (hz:z.length<=50000) (e:z.cps.toList=A++(p.1::(p.2++R))):aG (dOp oIx (aM 0) (aM 4)) (aG (qJ (aM 0) (dP (dOp jE (aM 4) (dC (.int 1)))) (dP (aM 5))) bR) [.shr (.str z),s1,s2,s3,.shr (.int (A.length:Int)),.shr (.int ((A.length+1+p.2.length:Nat):Int))]=some [.str ⟨#[p.1]⟩,.str (S p.2)]:=by
 have e1:oIx (.str z) (.int (A.length:Int))=some (.str ⟨#[p.1]⟩):=by
  refine qC (by omega) ?_
  rw [e,List.getElem?_append_right (Zo _),Nat.sub_self];rfl
 have e2:Txt.slice z (some ((A.length:Int)+1)) (some ((A.length+1+p.2.length:Nat):Int))=S p.2:=nA (A:=A++[p.1]) (R:=R) (by rw [e]; simp) (by simp) rfl rfl rfl;exact ah (ar e_v e_v e1) (ah ((fV e_v (be (ar e_v Uf (a8 _ _))) (be e_v) (by omega)).trans (by rw [e2])) av)
theorem xa (hz:z.length<=50000):∀ {r:List (Nat×List Nat)} {A:List Nat} {s1 s2 s4 s5:Sl} {acc:List D},z.cps.toList=A++flat r->(∀ p ∈ r,(⟨#[p.1]⟩:Str) ∈ SG)->r.all jU=false->acc.length+r.length < 100000->tV (gT 2 (mF (gN 4) (mF (gN 5) Bw))) (GA 3 (dFn fO (aG (dOp oIx (aM 0) (aM 4)) (aG (qJ (aM 0) (dP (dOp jE (aM 4) (dC (.int 1)))) (dP (aM 5))) bR))))
   (λ τ=>(∃ ds,τ[3]?=some (Sl.own (.lst ds)))/\∃ ds,aG (dOp oIx (aM 0) (aM 4)) (aG (qJ (aM 0) (dP (dOp jE (aM 4) (dC (.int 1)))) (dP (aM 5))) bR) τ=some ds/\iN t ds)
   (prD A.length r) [.shr (.str z),s1,s2,.own (.lst acc),s4,s5]
 | [],_,_,_,_,_,_,_,_,h,_=>nomatch h
 | p::r,A,s1,s2,s4,s5,acc,e,hs,h,hl=>by
  have ha:=Mk (s1:=s1) (s2:=s2) (s3:=.own (.lst acc)) hz e;rw [Zi] at hl
  cases q:jU p with
  | false=>
   refine .inl ⟨[.shr (.str z),s1,s2,.own (.lst acc),.shr (.int (A.length:Int)),.shr (.int ((A.length+1+p.2.length:Nat):Int))],rfl,⟨_,rfl⟩,_,ha,CY (hs p (by simp)) ?_ q⟩;rw [<- aQ,e,Zh] at hz;show p.2.length<=50000;have:(flat (p::r)).length=(p.2++flat r).length+1:=rfl;rw [this,Zh] at hz;omega
  | true=>
   rw [Y1,q,Zv] at h;obtain ⟨d,o,tl,e1,e2⟩:=EI (hs p (by simp)) q;have rt:=mq o tl;rw [e1,e2] at rt;have ih:=xa (t:=t) hz (r:=r) (A:=A++(p.1::p.2)) (s1:=s1) (s2:=s2) (s4:=.shr (.int (A.length:Int))) (s5:=.shr (.int ((A.length+1+p.2.length:Nat):Int))) (acc:=acc++[d.D]) (by rw [e]; show A++p.1::(p.2++flat r)=_; simp) (λ q hq=>hs q (Za _ hq)) h (by rw [Zh]; show acc.length+1+_ < _; omega);rw [show (A++(p.1::p.2)).length=A.length+1+p.2.length by rw [Zh,Zi]; omega] at ih;exact .inr ⟨[.shr (.str z),s1,s2,.own (.lst acc),.shr (.int (A.length:Int)),.shr (.int ((A.length+1+p.2.length:Nat):Int))],_,rfl,yB (br ha rt rfl) rfl (by omega),ih⟩
theorem Gq (hx:x.length<=50000) (h:stepOk x=false):km t [.str x]:=by
 have ct:=nN x.cps.toList;have ex:=rT x.cps.toList;unfold stepOk at h;generalize (qM x.cps.toList).1=hd at *;generalize (qM x.cps.toList).2=r at *
 have hlen:hd.length+(flat r).length<=50000:=by
  rw [<- aQ,ex,Zh] at hx;exact hx
 refine ⟨rfl,?_⟩
 have sts:kf (pz (aG (aM 0) bR)) (dT (dOp nG (aM 1) (dC qp))) (aM 0) [] [.shr (.str x),.no,.no,.no,.no,.no]=some (.lst ((stP hd.length r).map λ n:Nat=>D.int (n:Int))):=by
  refine ya (Bt (ao rfl)) ?_ ?_
  ·rw [nV]
   unfold chD;rw [Zk,aQ];omega
  · rw [BI,wt,ex,jr,oI _ _ ct.1,Yc,Xm,xo ct.2]
 have eends:jE (.lst ((stP hd.length r).map λ n:Nat=>D.int (n:Int))) (.lst [.int (x.length:Int)])=some (.lst (.int (hd.length:Int)::(enP hd.length r).map λ n:Nat=>D.int (n:Int))):=by
  have:=wx r;rw [Cw (by rw [Zk,zO]; show _+1<=_; omega)];have e3:=Z8 (List.map λ n:Nat=>D.int (n:Int)) (EC r hd.length);rw [Yu] at e3;rw [<- aQ,ex,Zh];exact Z8 (λ l=>some (D.lst l)) e3
 refine ⟨_,aI sts,_,aI (ar (ao rfl) (fb (ah (aS (ah (ao rfl) av) (sE hx)) av) (Zb rfl)) eends),?_⟩;have ehd:Txt.slice x none (some (hd.length:Int))=S hd:=nA (A:=[]) ex rfl (Xm _) rfl (Yp _ _);have ea:∀ {τ:List Sl},τ[0]?=some (.shr (.str x))->τ[2]?=some (.shr (.lst (.int (hd.length:Int)::(enP hd.length r).map λ n:Nat=>D.int (n:Int))))->aG (qJ (aM 0) uX (dP (dOp oIx (aM 2) (dC (.int 0))))) bR τ=some [.str (S hd)]:=λ e0 e2=>ah ((fV (ao e0) kI (be (ar (ao e2) Uf (cq _ _))) (by omega)).trans (by rw [ehd])) av
 cases q:FR hd with
 | false=>exact .inl ⟨_,ea rfl rfl,HX (by omega) q⟩
 | true=>
  rw [q,Zv] at h;obtain ⟨d0,o,hh,e0⟩:=LQ q;have rh:=oz o hh;rw [e0] at rh;refine .inr ⟨_,iu (fb (ah (br (ea rfl rfl) rh rfl) av) (Zb rfl)) (show 3 < 6 by decide),prD hd.length r,?_,?_⟩
  ·rw [<- Jg]
   exact LM (ao rfl) (CJ (ao rfl) (be Uf) kI (Z8 (λ l=>some (D.lst l)) (sR _ _)))
  ·have:=wx r
   exact xa hx ex (λ p hp=>(ct.2 p hp).1) h (by show 1+_ < _; omega)
def uG (h:b d τ=some (.next τ')):ia b (d::ds) τ=ia b ds τ':=fG h rfl
def sJ (h:b d τ=some (.ret s)):ia b (d::ds) τ=some (.ret s):=by
 show (match b d τ with | some (.next τ')=>ia b ds τ' | some (.cnt τ')=>ia b ds τ' | some (.brk τ')=>some (.next τ') | r=>r)=_;rw [h]
def JT (h1:f τ=some v) (h2:g τ=some (.int k)) (q:τ[j]?=some (.own (.lst ds))) (hi:ixN ds.length k=some n):zW j f g τ=some (.next (τ.set j (.own (.lst (ds.set n v))))):=by
 unfold zW;rw [h1];rw [h2];rw [q];show (ixN ds.length k).map _=_;rw [hi];rfl
theorem LH (n:Nat):ixN (n+1) (-1)=some n:=by
 unfold ixN;rw [if_neg (by decide),if_pos (by omega)];congr 1;omega
def Gv (qs:List D) (a b:D):(qs++[a]).set qs.length b=qs++[b]:=by simp
def DU (qs:List D) (a:D):(qs++[a]).getLast?=some a:=by simp
theorem sgx (c:Nat):decide (c ∈ (Str.cps ".!@^").toList)=decide ((⟨#[c]⟩:Str) ∈ SG):=by
 have e:(Str.cps ".!@^").toList=[46,33,64,94]:=by decide +kernel
 have i:=zR c;rw [e]
 by_cases h:(⟨#[c]⟩:Str) ∈ SG
 · rw [Ze h,Ze (by simpa using i.mp h)]
 · rw [Zc h,Zc (λ z=>h (i.mpr (by simpa using z)))]
def B1:DS:=fu (sIf (dT (dOp He (aM 2) (dC (.str ".!@^")))) (GA 1 (dC (.str ""))) d6) (zW 1 (Ja 1 (dOp jE (dOp oIx (aM 1) (dUn ui (dC (.int 1)))) (aM 2))) (dUn ui (dC (.int 1))))
def L1:D->DS:=λ d τ=>(gN 2 d τ).bind B1
def Ac (hl:z.length+1<=100000):zW 1 (Ja 1 (dOp jE (dOp oIx (aM 1) (dUn ui (dC (.int 1)))) (aM 2))) (dUn ui (dC (.int 1))) [x0,.own (.lst (qs++[.str z])),.shr (.str ⟨#[c]⟩),n3,n4]=some (.next [x0,.own (.lst (qs++[.str (z++⟨#[c]⟩)])),.shr (.str ⟨#[c]⟩),n3,n4]):=by
 refine (JT (Ra rfl (ar (ar e_v (sO Uf rfl) (oZ (DU qs _))) e_v (bu hl)) (by rw [lO])) (sO Uf rfl) rfl (by rw [Zh]; exact LH _)).trans ?_
 rw [Gv];rfl
def Lu {x0 n3 n4 s2:Sl} {qs:List D} {z:Str} {c:Nat} {rest:List D} (hc:(⟨#[c]⟩:Str) ∉ SG) (hl:z.length+1<=100000):ia L1 (.str ⟨#[c]⟩::rest) [x0,.own (.lst (qs++[.str z])),s2,n3,n4]=ia L1 rest [x0,.own (.lst (qs++[.str (z++⟨#[c]⟩)])),.shr (.str ⟨#[c]⟩),n3,n4]:=by
 refine uG ?_
 refine aR (eK (b:=false) (aw ((ar e_v Uf (sH c _)).trans (by rw [sgx,Zc hc]))) (λ z=>nomatch z) (λ _=>rfl)) (Ac hl)
def QR {x0 n3 n4 s2:Sl} {ps:List D} {c:Nat} {rest:List D} (hc:(⟨#[c]⟩:Str) ∈ SG) (hl:ps.length < 100000):ia L1 (.str ⟨#[c]⟩::rest) [x0,.own (.lst ps),s2,n3,n4]=ia L1 rest [x0,.own (.lst (ps++[.str ⟨#[c]⟩])),.shr (.str ⟨#[c]⟩),n3,n4]:=by
 refine uG ?_
 refine aR (eK (b:=true) (aw ((ar e_v Uf (sH c _)).trans (by rw [sgx,Ze hc]))) (λ _=>yB Uf rfl hl) (λ z=>nomatch z)) ?_
 refine (Ac (by rw [show Str.length ""=0 by decide +kernel]; decide)).trans ?_
 rw [show ("":Str)++(⟨#[c]⟩:Str)=⟨#[c]⟩ from gD _]
def ch (cs:List Nat):List D:=cs.map λ c=>.str ⟨#[c]⟩
def JU (z:Str) (c:Nat) (cs:List Nat):z++(⟨#[c]⟩:Str)++S cs=z++S (c::cs):=ext (by rw [aY,aY,aY]; simp)
theorem HH {x0 n3 n4:Sl} {qs rest:List D}:∀ {cs:List Nat} {z:Str} {s2:Sl},(∀ c ∈ cs,(⟨#[c]⟩:Str) ∉ SG)->z.length+cs.length<=100000->∃ s2',ia L1 (ch cs++rest) [x0,.own (.lst (qs++[.str z])),s2,n3,n4]=ia L1 rest [x0,.own (.lst (qs++[.str (z++S cs)])),s2',n3,n4]
 | [],z,s2,_,_=>⟨s2,by rw [show z++S []=z from ext (by rw [aY]; simp)]; rfl⟩
 | c::cs,z,s2,h,hl=>by
  rw [Zi] at hl;obtain ⟨s2',e⟩:=HH (cs:=cs) (z:=z++⟨#[c]⟩) (s2:=.shr (.str ⟨#[c]⟩)) (λ d hd=>h d (Za _ hd)) (by rw [U1]; show z.length+1+_<=_; omega);rw [JU] at e;exact ⟨s2',(Lu (h c (by simp)) (by omega)).trans e⟩
theorem A7 {x0 n3 n4:Sl}:∀ {r:List (Nat×List Nat)} {ps:List D} {s2:Sl},(∀ p ∈ r,(⟨#[p.1]⟩:Str) ∈ SG/\∀ c ∈ p.2,(⟨#[c]⟩:Str) ∉ SG)->ps.length+(flat r).length < 100000->∃ s2',ia L1 (ch (flat r)) [x0,.own (.lst ps),s2,n3,n4]=some (.next [x0,.own (.lst (ps++r.map λ p=>.str (S (p.1::p.2)))),s2',n3,n4])
 | [],ps,s2,_,_=>⟨s2,by rw [X2,Yd]; rfl⟩
 | p::r,ps,s2,h,hl=>by
  have hp:=h p (by simp);have hfl:(flat (p::r)).length=(p.2++flat r).length+1:=rfl;rw [hfl,Zh] at hl;obtain ⟨s3,e1⟩:=HH (x0:=x0) (n3:=n3) (n4:=n4) (qs:=ps) (rest:=ch (flat r)) (cs:=p.2) (z:=⟨#[p.1]⟩) (s2:=.shr (.str ⟨#[p.1]⟩)) hp.2 (by show 1+_<=_; omega);obtain ⟨s4,e2⟩:=A7 (x0:=x0) (n3:=n3) (n4:=n4) (r:=r) (ps:=ps++[.str (S (p.1::p.2))]) (s2:=s3) (λ q hq=>h q (Za _ hq)) (by rw [Zh]; show ps.length+1+_ < _; omega);refine ⟨s4,?_⟩;rw [Z5] at e2;rw [Zz];refine Eq.trans ?_ e2
  have e3:ch (flat (p::r))=.str ⟨#[p.1]⟩::(ch p.2++ch (flat r)):=by
   show D.str ⟨#[p.1]⟩::List.map _ (p.2++flat r)=_;rw [Yu];rfl
  rw [e3,QR hp.1 (by omega),e1,show (⟨#[p.1]⟩:Str)++S p.2=S (p.1::p.2) from ext (by rw [aY]; rfl)]
def B2:DS:=sIf (dT (dOp He (dOp oIx (aM 3) (dC (.int 0))) (dC (.str ".!"))))
 (sIf (pQ (dT (dFn cN (aG (qJ (aM 3) (dP (dC (.int 1))) uX) bR)))) (nD (dC (.bl false))) d6)
 (fu (mo 4 (dOp cW (qJ (aM 3) (dP (dC (.int 1))) uX) (dC (.str "/"))))
   (fu (sIf (dOr (dT (dOp oGt (ej jD (aG (aM 4) bR)) (dC (.int 2)))) (dOr (pQ (dT (dFn bj (aG (dOp oIx (aM 4) (dC (.int 0))) bR)))) (pQ (dT (dFn bj (aG (dOp oIx (aM 4) (dUn ui (dC (.int 1)))) bR)))))) (nD (dC (.bl false))) d6)
     (sIf (B4 (dT (dOp oEq (ej jD (aG (aM 4) bR)) (dC (.int 2)))) (dT (dOp oEq (dOp oIx (aM 4) (dC (.int 1))) (dC (.str "0"))))) (nD (dC (.bl false))) d6)))
def L2':D->DS:=λ d τ=>(gN 3 d τ).bind B2
def Gg (c:Nat) (b:List Nat):Txt.slice (S (c::b)) (some 1) none=S b:=ext (by
 refine (dW (S (c::b)) (by rw [<- aQ]; simp) (Zo _) (Yy _ _)).trans ?_
 rw [<- aQ]
 simp)
theorem Jv (c:Nat):decide (c ∈ (Str.cps ".!").toList)=decide (c=46\/c=33):=by
 have e:(Str.cps ".!").toList=[46,33]:=by decide +kernel
 rw [e];simp
theorem UR (hl:p.2.length+1<=50000):(jU p=true->∃ s4',B2 [x0,P,s2,.shr (.str (S (p.1::p.2))),s4]=some (.next [x0,P,s2,.shr (.str (S (p.1::p.2))),s4']))/\(jU p=false->B2 [x0,P,s2,.shr (.str (S (p.1::p.2))),s4]=some (.ret (.shr (.bl false)))):=by
 have ls:(S (p.1::p.2)).length<=50000:=by rw [<- aQ]; exact hl
 have lb:(S p.2).length<=50000:=by rw [<- aQ]; show p.2.length<=_; omega
 have i0:∀ {τ:List Sl},τ[3]?=some (.shr (.str (S (p.1::p.2))))->dT (dOp He (dOp oIx (aM 3) (dC (.int 0))) (dC (.str ".!"))) τ=some (decide (p.1=46\/p.1=33)):=λ e=>aw ((ar (ar (ao e) Uf (ix0 rfl (by omega))) Uf (sH p.1 _)).trans (by rw [Jv]))
 have sl:∀ {τ:List Sl},τ[3]?=some (.shr (.str (S (p.1::p.2))))->qJ (aM 3) (dP (dC (.int 1))) uX τ=some (.str (S p.2)):=λ e=>(fV (ao e) (be Uf) kI (by omega)).trans (by rw [Gg])
 unfold jU
 by_cases h1:p.1=46\/p.1=33
 ·rw [if_pos h1]
  have bd:B2 [x0,P,s2,.shr (.str (S (p.1::p.2))),s4]=sIf (pQ (dT (dFn cN (aG (qJ (aM 3) (dP (dC (.int 1))) uX) bR)))) (nD (dC (.bl false))) d6 [x0,P,s2,.shr (.str (S (p.1::p.2))),s4]:=eK (b:=true) ((i0 rfl).trans (by rw [Ze h1])) (λ _=>rfl) (λ z=>nomatch z);rw [bd];have nq:=cx (aw (br (ah (sl (τ:=[x0,P,s2,.shr (.str (S (p.1::p.2))),s4]) rfl) av) (sD (S p.2) lb) rfl));exact ⟨λ h=>⟨s4,eK (b:=false) (nq.trans (by rw [h]; rfl)) (λ z=>nomatch z) (λ _=>rfl)⟩,λ h=>eK (b:=true) (nq.trans (by rw [h]; rfl)) (λ _=>aD Uf) (λ z=>nomatch z)⟩
 ·rw [if_neg h1]
  have bd:∀ r,(fu (mo 4 (dOp cW (qJ (aM 3) (dP (dC (.int 1))) uX) (dC (.str "/")))) (fu (sIf (dOr (dT (dOp oGt (ej jD (aG (aM 4) bR)) (dC (.int 2)))) (dOr (pQ (dT (dFn bj (aG (dOp oIx (aM 4) (dC (.int 0))) bR)))) (pQ (dT (dFn bj (aG (dOp oIx (aM 4) (dUn ui (dC (.int 1)))) bR)))))) (nD (dC (.bl false))) d6)
    (sIf (B4 (dT (dOp oEq (ej jD (aG (aM 4) bR)) (dC (.int 2)))) (dT (dOp oEq (dOp oIx (aM 4) (dC (.int 1))) (dC (.str "0"))))) (nD (dC (.bl false))) d6))) [x0,P,s2,.shr (.str (S (p.1::p.2))),s4]=r->B2 [x0,P,s2,.shr (.str (S (p.1::p.2))),s4]=r:=λ r h=>eK (b:=false) ((i0 rfl).trans (by rw [Zc h1])) (λ z=>nomatch z) (λ _=>h)
  have sp:=aI (i:=4) (ar (sl (τ:=[x0,P,s2,.shr (.str (S (p.1::p.2))),s4]) rfl) (Uf (d:=.str "/")) (by rw [nu]; exact zP lb));have pl:∀ q ∈ pts 47 (S p.2),q.length<=50000:=λ q hq=>Zs (jV hq) lb
  unfold IA
  match hs:pts 47 (S p.2) with
  | []=>exact absurd hs (d7 47 _)
  | [a]=>
   rw [hs] at sp;have ha:=gF a (pl a (by rw [hs]; exact Zp ..));rw [show ctL [a]=bz a from rfl];have tq:∀ {τ:List Sl},τ[4]?=some (.shr (.lst [.str a]))->dOr (dT (dOp oGt (ej jD (aG (aM 4) bR)) (dC (.int 2)))) (dOr (pQ (dT (dFn bj (aG (dOp oIx (aM 4) (dC (.int 0))) bR)))) (pQ (dT (dFn bj (aG (dOp oIx (aM 4) (dUn ui (dC (.int 1)))) bR))))) τ=some (!bz a):=λ e=>(dU (aw (ar (hU _ (ao e)) Uf rfl)) (dU (cx (aw (br (ah (ar (ao e) Uf (cq _ _)) av) ha rfl))) (cx (aw (br (ah (ar (ao e) (sO Uf rfl) (oZ rfl)) av) ha rfl))))).trans (by cases bz a <;> rfl)
   exact ⟨λ h=>⟨_,bd _ (aR sp (az ((tq rfl).trans (by rw [h]; rfl)) (eK (b:=false) (og (b:=false) (aw (ar (hU _ e_v) Uf rfl)) (λ z=>nomatch z) λ _=>rfl) (λ z=>nomatch z) (λ _=>rfl))))⟩,λ h=>bd _ (aR sp (aV ((tq rfl).trans (by rw [h]; rfl)) (aD Uf)))⟩
  | [a,b]=>
   rw [hs] at sp;have ha:=gF a (pl a (by rw [hs]; exact Zp ..));have hb:=gF b (pl b (by rw [hs]; exact Za _ (Zp ..)));rw [show ctL [a,b]=(bz a&&(bz b&&!decide (b=("0":Str)))) from rfl];have tq:∀ {τ:List Sl},τ[4]?=some (.shr (.lst [.str a,.str b]))->dOr (dT (dOp oGt (ej jD (aG (aM 4) bR)) (dC (.int 2)))) (dOr (pQ (dT (dFn bj (aG (dOp oIx (aM 4) (dC (.int 0))) bR)))) (pQ (dT (dFn bj (aG (dOp oIx (aM 4) (dUn ui (dC (.int 1)))) bR))))) τ=some (!(bz a&&bz b)):=λ e=>(dU (aw (ar (hU _ (ao e)) Uf rfl)) (dU (cx (aw (br (ah (ar (ao e) Uf (cq _ _)) av) ha rfl))) (cx (aw (br (ah (ar (ao e) (sO Uf rfl) (oZ rfl)) av) hb rfl))))).trans (by cases bz a <;> cases bz b <;> rfl)
   have zq:∀ {τ:List Sl},τ[4]?=some (.shr (.lst [.str a,.str b]))->B4 (dT (dOp oEq (ej jD (aG (aM 4) bR)) (dC (.int 2)))) (dT (dOp oEq (dOp oIx (aM 4) (dC (.int 1))) (dC (.str "0")))) τ=some (decide (b=("0":Str))):=λ e=>og (b:=true) (aw (ar (hU _ (ao e)) Uf rfl)) (λ _=>aw (ar (ar (ao e) Uf (eQ _ _ _)) Uf (cj _ _))) λ z=>nomatch z
   refine ⟨λ h=>?_,λ h=>?_⟩
   ·simp only [Zg,Z7] at h
    exact ⟨_,bd _ (aR sp (az ((tq rfl).trans (by rw [h.1,h.2.1]; rfl)) (eK (b:=false) ((zq rfl).trans (by rw [h.2.2])) (λ z=>nomatch z) (λ _=>rfl))))⟩
   ·cases q:bz a&&bz b with
    | false=>exact bd _ (aR sp (aV ((tq rfl).trans (by rw [q]; rfl)) (aD Uf)))
    | true=>
     rw [<- Bool.and_assoc,q,Zv,Yb] at h;exact bd _ (aR sp (az ((tq rfl).trans (by rw [q]; rfl)) (eK (b:=true) ((zq rfl).trans (by rw [h])) (λ _=>aD Uf) (λ z=>nomatch z))))
  | a::b::c::r=>
   rw [hs] at sp;refine ⟨(λ h=>nomatch h),λ _=>bd _ (aR sp (aV (IP (b:=true) (aw ((ar (hU _ e_v) Uf (IY _ _)).trans ?_)) (λ z=>nomatch z) λ _=>rfl) (aD Uf)))⟩;rw [Ze (by simp only [Zz,Zi]; omega)]
theorem SI:∀ {r:List (Nat×List Nat)} {s3 s4:Sl},(∀ p ∈ r,p.2.length+1<=50000)->(r.all jU=true->∃ s3' s4',ia L2' (r.map λ p=>.str (S (p.1::p.2))) [x0,P,s2,s3,s4]=some (.next [x0,P,s2,s3',s4']))/\(r.all jU=false->ia L2' (r.map λ p=>.str (S (p.1::p.2))) [x0,P,s2,s3,s4]=some (.ret (.shr (.bl false))))
 | [],s3,s4,_=>⟨λ _=>⟨s3,s4,rfl⟩,nofun⟩
 | p :: r,s3,s4,hl=>by
  have bq:=UR (x0:=x0) (P:=P) (s2:=s2) (s4:=s4) (hl p (by simp));rw [Y1,Zz]
  cases q:jU p with
  | false=>exact ⟨(λ h=>nomatch h),λ _=>sJ (bq.2 q)⟩
  | true=>
   obtain ⟨s4',e⟩:=bq.1 q;have ih:=SI (x0:=x0) (P:=P) (s2:=s2) (r:=r) (s3:=.shr (.str (S (p.1::p.2)))) (s4:=s4') λ q hq=>hl q (Za _ hq)
   rw [Zv]
   exact ⟨λ h=>by
    obtain ⟨a,b,e2⟩:=ih.1 h
    exact ⟨a,b,fG e e2⟩,λ h=>fG e (ih.2 h)⟩
theorem xU:∀ {r:List (Nat×List Nat)} {p:Nat×List Nat},p ∈ r->p.2.length+1<=(flat r).length
 | q::r,p,h=>by
  have e:(flat (q::r)).length=(q.2++flat r).length+1:=rfl;rw [e,Zh];rcases Zd.mp h with rfl | h
  · omega
  ·have:=xU h
   omega
theorem HC (x:Str) (hx:x.length<=50000):cM [.str x]=some (.shr (.bl (stepOk x))):=by
 unfold cM f9; dsimp only
 refine bF ?_
 have ct:=nN x.cps.toList;have ex:=rT x.cps.toList;unfold stepOk;generalize (qM x.cps.toList).1=hd at *;generalize (qM x.cps.toList).2=r at *
 have hlen:hd.length+(flat r).length<=50000:=by
  rw [<- aQ,ex,Zh] at hx;exact hx
 refine aR (iu (fb (ah Uf av) (Zb rfl)) (Zb rfl)) ?_
 obtain ⟨s2,e1⟩:=HH ct.1 (by rw [show Str.length ""=0 by decide +kernel]; omega);obtain ⟨s2',e2⟩:=A7 (x0:=.shr (.str x)) (n3:=.no) (n4:=.no) (ps:=[]++[.str (("":Str)++S hd)]) ct.2 (by show 1+_ < _; omega);rw [show ("":Str)++S hd=S hd from gD _] at e1 e2
 have ec:chD x=ch hd++ch (flat r):=by
  show List.map _ x.cps.toList=List.map _ hd++List.map _ (flat r);rw [ex,Yu]
 refine aR (nB (Bs e_v) ((by rw [ec]; exact e1.trans e2))) ?_
 have lh:(S hd).length<=50000:=by rw [<- aQ]; show hd.length<=_; omega
 refine dZ (b:=!FR hd) (rP rfl ((jH (aw (ar (ar e_v Uf (cq _ _)) Uf (cB _ _))) (cx (aw (br (ah (ar e_v Uf (cq _ _)) av) (sD (S hd) lh) rfl)))).trans (by unfold FR; rw [Bool.not_or]))) (λ h=>?_) (λ h=>?_)
 ·rw [Z7] at h
  rw [h];exact aD Uf
 rw [Yb] at h;rw [h,Zv];have lq:=SI (x0:=.shr (.str x)) (P:=.shr (.lst (D.str (S hd)::r.map λ p=>.str (S (p.1::p.2))))) (s2:=s2') (r:=r) (s3:=.no) (s4:=.no) λ p hp=>by have:=xU hp; omega
 have it:∀ {τ:List Sl},τ[1]?=some (.shr (.lst (D.str (S hd)::r.map λ p=>.str (S (p.1::p.2)))))->D2 (dSl (aM 1) (dP (dC (.int 1))) uX) τ=some (r.map λ p=>.str (S (p.1::p.2))):=λ e=>uC (CJ (ao e) (be Uf) kI (B6 _ _))
 cases q:r.all jU with
 | true=>
  obtain ⟨s3,s4,e3⟩:=lq.1 q;exact aR (oq rfl (nB (it rfl) e3)) (aD Uf)
 | false=>exact kQ (oq rfl (nB (it rfl) (lq.2 q)))
def pat:Bool->List Str->Bool
 | b,[]=>b
 | b,w::ws=>if w ∈ JN then b&&pat false ws else stepOk w&&pat true ws
def kS (x:Str):Bool:=pat false (pts 32 x)
def qP (h:w ∈ JN):pat b (w::ws)=(b&&pat false ws):=if_pos h
def qO (h:w ∉ JN):pat b (w::ws)=(stepOk w&&pat true ws):=if_neg h
abbrev dJN:DE:=mM (aG (dC (.str ">")) (aG (dC (.str "+")) (aG (dC (.str "~")) bR)))
def Q9 (τ:List Sl):dJN τ=some (.tup (JN.map .str)):=rfl
def lpB:DS:=fu (sIf (dT (dOp nG (aM 2) dJN)) (sIf (dT (dOp nG (aM 1) dJN)) (nD (dC (.bl false))) d6)
 (sIf (pQ (dT (dFn cM (aG (aM 2) bR)))) (nD (dC (.bl false))) d6)) (mo 1 (aM 2))
theorem SH:∀ {ws:List Str} {e:Str} {s2:Sl},(∀ w ∈ ws,w.length<=50000)->(ia (λ d τ=>(gN 2 d τ).bind lpB) (ws.map .str) [.shr (.str z),.shr (.str e),s2]=some (.ret (.shr (.bl false)))/\pat (!decide (e ∈ JN)) ws=false)\/∃ e' s2',ia (λ d τ=>(gN 2 d τ).bind lpB) (ws.map .str) [.shr (.str z),.shr (.str e),s2]=some (.next [.shr (.str z),.shr (.str e'),s2'])/\pat (!decide (e ∈ JN)) ws=!decide (e' ∈ JN)
 | [],e,s2,_=>.inr ⟨e,s2,rfl,rfl⟩
 | w :: ws,e,s2,hl=>by
  have ih:=SH (z:=z) (ws:=ws) (e:=w) (s2:=.shr (.str w)) λ v hv=>hl v (Za _ hv)
  have i2:dT (dOp nG (aM 2) dJN) [.shr (.str z),.shr (.str e),.shr (.str w)]=some (decide (w ∈ JN)):=aw (ar (ao rfl) (Q9 _) (nU w JN));have i1:dT (dOp nG (aM 1) dJN) [.shr (.str z),.shr (.str e),.shr (.str w)]=some (decide (e ∈ JN)):=aw (ar (ao rfl) (Q9 _) (nU e JN));have i3:pQ (dT (dFn cM (aG (aM 2) bR))) [.shr (.str z),.shr (.str e),.shr (.str w)]=some (!stepOk w):=cx (aw (br (ah (ao rfl) av) (HC w (hl w (by simp))) rfl));have on:(∀ {r},lpB [.shr (.str z),.shr (.str e),.shr (.str w)]=r->(gN 2 (.str w) [.shr (.str z),.shr (.str e),s2]).bind lpB=r):=λ h=>h
  by_cases hw:w ∈ JN
  ·rw [qP hw]
   rw [Ze hw] at i2 ih
   by_cases he:e ∈ JN
   ·rw [Ze he] at i1 ⊢
    exact .inl ⟨sJ (on (kQ (eK i2 (λ _=>eK i1 (λ _=>aD Uf) λ z=>nomatch z) λ z=>nomatch z))),rfl⟩
   ·rw [Zc he] at i1 ⊢
    have st:(gN 2 (.str w) [.shr (.str z),.shr (.str e),s2]).bind lpB=some (.next [.shr (.str z),.shr (.str w),.shr (.str w)]):=on (aR (eK i2 (λ _=>eK i1 (λ z=>nomatch z) λ _=>rfl) λ z=>nomatch z) (aI (ao rfl)));rw [Zz,uG st];exact ih
  ·rw [qO hw]
   rw [Zc hw] at i2 ih
   cases q:stepOk w with
   | false=>
    rw [q] at i3;exact .inl ⟨sJ (on (kQ (eK i2 (λ z=>nomatch z) λ _=>eK i3 (λ _=>aD Uf) λ z=>nomatch z))),rfl⟩
   | true=>
    rw [q] at i3;have st:(gN 2 (.str w) [.shr (.str z),.shr (.str e),s2]).bind lpB=some (.next [.shr (.str z),.shr (.str w),.shr (.str w)]):=on (aR (eK i2 (λ z=>nomatch z) λ _=>eK i3 (λ z=>nomatch z) λ _=>rfl) (aI (ao rfl)));rw [Zz,uG st];exact ih
theorem qW (x:Str) (hx:x.length<=50000):dO [.str x]=some (.shr (.bl (kS x))):=by
 unfold dO dJ; dsimp only
 refine bF (aR (aI Uf) ?_);have h:=SH (z:=x) (ws:=pts 32 x) (e:=">") (s2:=.no) λ w hw=>Zs (jV hw) hx
 rw [show (!decide ((">":Str) ∈ JN))=false by decide +kernel] at h;have it:∀ {τ:List Sl},τ[0]?=some (.shr (.str x))->D2 (dOp cW (aM 0) (dC (.str " "))) τ=some ((pts 32 x).map .str):=λ e=>uC (ar (ao e) Uf (by rw [blank]; exact zP hx))
 unfold kS;rcases h with ⟨h1,h2⟩ | ⟨e,s2,h1,h2⟩
 ·rw [h2]
  exact kQ (nB (it rfl) h1)
 ·rw [h2]
  exact aR (nB (it rfl) h1) (aD (ar e_v (Q9 _) (AV e JN)))
def rpX (t:Adr):DX:=λ τ=>dT (dOp nG (aM 3) (dC qq)) τ=some true/\(dT (dOp oNe (aM 2) (dC (.str " "))) τ=some true/\True\/dT (dOp oNe (aM 2) (dC (.str " "))) τ=some false/\False)\/dT (dOp nG (aM 3) (dC qq)) τ=some false/\(∃ ds,τ[1]?=some (Sl.own (.lst ds)))/\(∃ d,aM 2 τ=some d)/\∃ ds,aG (aM 3) bR τ=some ds/\km t ds
def zy (h:stepOk w=true) (j:Str):∃ s:Sp',s.1=j/\(∀ d ∈ s.2,Tt.ok d)/\Cz s/\w=WT s.2:=by
 obtain ⟨d0,ds,h0,hh,hd,e⟩:=Gp h;exact ⟨(j,d0::ds),rfl,λ d h=>(Zd.mp h).elim (λ e=>e ▸ h0) λ h=>(hd d h).1,⟨d0,ds,rfl,hh,λ d h=>(hd d h).2⟩,e⟩
theorem GR:∀ {ws:List Str} {acc:List D} {j:Str} {x3:Sl},(∀ w ∈ ws,w.length<=50000)->acc.length+ws.length < 100000->pat (decide (j=(" ":Str))) ws=false->tV (gN 3) rpB (rpX t) (ws.map .str) [.shr (.str z),.own (.lst acc),.shr (.str j),x3]\/∃ (acc':List D) (j':Str) (x3':Sl),ia (λ d τ=>(gN 3 d τ).bind rpB) (ws.map .str) [.shr (.str z),.own (.lst acc),.shr (.str j),x3]=some (.next [.shr (.str z),.own (.lst acc'),.shr (.str j'),x3'])/\j'≠(" ":Str)
 | [],acc,j,x3,_,_,h=>.inr ⟨acc,j,x3,rfl,Z0 h⟩
 | w :: ws,acc,j,x3,hl,hn,h=>by
  rw [Zi] at hn;have hl':∀ v ∈ ws,v.length<=50000:=λ v hv=>hl v (Za _ hv)
  have go:∀ {τ':List Sl},(gN 3 (.str w) [.shr (.str z),.own (.lst acc),.shr (.str j),x3]).bind rpB=some (.next τ')->(tV (gN 3) rpB (rpX t) (ws.map .str) τ'\/∃ (acc':List D) (j':Str) (x3':Sl),ia (λ d τ=>(gN 3 d τ).bind rpB) (ws.map .str) τ'=some (.next [.shr (.str z),.own (.lst acc'),.shr (.str j'),x3'])/\j'≠(" ":Str))->tV (gN 3) rpB (rpX t) ((w::ws).map .str) [.shr (.str z),.own (.lst acc),.shr (.str j),x3]\/∃ (acc':List D) (j':Str) (x3':Sl),ia (λ d τ=>(gN 3 d τ).bind rpB) ((w::ws).map .str) [.shr (.str z),.own (.lst acc),.shr (.str j),x3]=some (.next [.shr (.str z),.own (.lst acc'),.shr (.str j'),x3'])/\j'≠(" ":Str):=λ h1 h2=>by
   rcases h2 with h2 | ⟨a,b,c,e,n⟩
   · exact .inl (.inr ⟨_,_,rfl,h1,h2⟩)
   · exact .inr ⟨a,b,c,fG h1 e,n⟩
  by_cases hw:w ∈ JN
  ·rw [qP hw] at h
   by_cases hj:j=(" ":Str)
   ·subst hj
    rw [Ze rfl,Zv] at h;refine go (z9 hw) (GR hl' (by omega) ?_);rw [Zc λ e=>jz (.inr e) hw];exact h
   · refine .inl (.inl ⟨[.shr (.str z),.own (.lst acc),.shr (.str j),.shr (.str w)],rfl,.inl ⟨aw ((U3 rfl (Bp _)).trans (by rw [Ze hw])),.inl ⟨aw ((U3 rfl (cB _ _)).trans (by rw [Zc hj]; rfl)),trivial⟩⟩⟩)
  ·rw [qO hw] at h
   cases q:stepOk w with
   | false=>exact .inl (.inl ⟨[.shr (.str z),.own (.lst acc),.shr (.str j),.shr (.str w)],rfl,.inr ⟨aw ((U3 rfl (Bp _)).trans (by rw [Zc hw])),⟨_,rfl⟩,⟨_,rfl⟩,_,rfl,Gq (hl w (by simp)) q⟩⟩)
   | true=>
    rw [q,Zv] at h;obtain ⟨s,e1,ok,so,e⟩:=zy q " ";have hz:=hl w (by simp);subst e;exact go (nO ⟨ok,.inr (.inl e1)⟩ so hz (by omega)) (GR hl' (by rw [Zh]; show acc.length+1+_ < _; omega) (by rw [Ze rfl]; exact h))
theorem Ap:∀ {ws:List Str},pat true ws=true->∃ ps:List Sp',(∀ s ∈ ps,(s.1=(" ":Str)\/s.1 ∈ JN)/\(∀ d ∈ s.2,Tt.ok d)/\Cz s)/\wds ps=ws
 | [],_=>⟨[],(λ _ h=>nomatch h),rfl⟩
 | [w],h=>by
  by_cases hw:w ∈ JN
  ·rw [qP hw] at h
   exact nomatch h
  ·rw [qO hw,Zg] at h
   obtain ⟨s,e1,ok,so,e⟩:=zy h.1 " ";refine ⟨[s],λ r hr=>?_,?_⟩
   ·cases Zx.mp hr
    exact ⟨.inl e1,ok,so⟩
   ·show (if s.1 ∈ JN then _ else WT s.2::[])=_
    rw [if_neg (jz (.inr e1)),e]
 | w :: v::ws,h=>by
  by_cases hw:w ∈ JN
  ·rw [qP hw,Zv] at h
   by_cases hv:v ∈ JN
   ·rw [qP hv] at h
    exact nomatch h
   rw [qO hv,Zg] at h;obtain ⟨ps,a,b⟩:=Ap h.2;obtain ⟨s,e1,ok,so,e⟩:=zy h.1 w;refine ⟨s::ps,λ r hr=>(Zd.mp hr).elim (λ q=>?_) (a r),?_⟩
   ·subst q
    exact ⟨.inr (e1 ▸ hw),ok,so⟩
   ·show (if s.1 ∈ JN then s.1::WT s.2::wds ps else _)=_
    rw [if_pos (e1 ▸ hw),e1,e,b]
  ·rw [qO hw,Zg] at h
   obtain ⟨ps,a,b⟩:=Ap h.2;obtain ⟨s,e1,ok,so,e⟩:=zy h.1 " ";refine ⟨s::ps,λ r hr=>(Zd.mp hr).elim (λ q=>?_) (a r),?_⟩
   ·subst q
    exact ⟨.inl e1,ok,so⟩
   ·show (if s.1 ∈ JN then _ else WT s.2::wds ps)=_
    rw [if_neg (jz (.inr e1)),e,b]
def E1 (h:kS x=true):∃ ps:List Sp',SS ps/\(∀ s ∈ ps,Cz s)/\ps≠[]/\x=PTx ps:=by
 unfold kS at h;have pl:=qy 32 x
 match q:pts 32 x with
 | []=>exact absurd q (d7 _ _)
 | w :: ws=>
  rw [q] at h pl
  by_cases hw:w ∈ JN
  ·rw [qP hw] at h
   exact nomatch h
  rw [qO hw,Zg] at h;obtain ⟨ps,a,b⟩:=Ap h.2;obtain ⟨s,e1,ok,so,e⟩:=zy h.1 "";refine ⟨s::ps,⟨λ r hr=>?_,λ r hr=>?_,λ j r hr=>?_⟩,λ r hr=>?_,Wd _ _,ext (pl.trans ?_)⟩
  ·rcases Zd.mp hr with q | q
   ·subst q
    exact ⟨ok,.inl e1⟩
   ·obtain ⟨u,v,_⟩:=a r q
    exact ⟨v,.inr u⟩
  ·cases Zj hr
   exact e1
  ·rw [List.getElem?_cons_succ] at hr
   exact (a r (List.mem_of_getElem? hr)).1
  ·rcases Zd.mp hr with q | q
   ·subst q
    exact so
   · exact (a r q).2.2
  ·show _=(seg s.1++WT s.2++PTx ps).cps.toList
   rw [show seg s.1=s.1 from if_neg (jz (.inl e1)),e1,gD,aY,rG (λ r hr=>(a r hr).1),b,e];rfl
theorem xI (c:Nat):∀ (l:List (List Nat)),l.length<=(cZ c l).length+1
 | []=>Ye _
 | [a]=>Nat.le_add_left _ _
 | a::b::l=>by
  have:=xI c (b::l);show (b::l).length+1<=(a++c::cZ c (b::l)).length+1;rw [Zh,Zi (a:=c)];omega
def J2 (c:Nat) (x:Str):(pts c x).length<=x.length+1:=by
 have:=xI c ((pts c x).map λ x=>x.cps.toList);rw [<- qy,Zk,aQ] at this;exact this
theorem mL (hx:x.length<=50000):CD kS cn cL (fZ t) x:=by
 refine ⟨λ h=>?_,λ h=>⟨rfl,?_⟩⟩
 ·obtain ⟨ps,g,so,n,e⟩:=E1 h
  subst e;exact ⟨_,qx g so n hx,qw g.ok hx⟩
 have le:=J2 32 x;have key:=GR (t:=t) (z:=x) (ws:=pts 32 x) (acc:=[]) (x3:=.no) (λ w hw=>Zs (jV hw) hx) (by show 0+_ < _; omega) (by rw [show decide (("":Str)=(" ":Str))=false by decide +kernel]; exact h);have it:∀ {τ:List Sl},τ[0]?=some (.shr (.str x))->D2 (dOp cW (aM 0) (dC (.str " "))) τ=some ((pts 32 x).map .str):=λ e=>uC (ar (ao e) Uf (by rw [blank]; exact zP hx))
 refine ⟨_,iu (fb av (Ye _)) (show 1 < 4 by decide),_,aI Uf,?_⟩;rcases key with key | ⟨acc,j,x3,e,n⟩
 · exact .inl ⟨_,it rfl,key⟩
 · exact .inr ⟨_,nB (it rfl) e,.inl ⟨aw ((ar e_v Uf (cB _ _)).trans (by rw [Zc n]; rfl)),trivial⟩⟩
def A0 (h1:g d=some x) (h2:vn g ds=some xs):vn g (d::ds)=some (x::xs):=by
 show (g d).bind _=_;rw [h1];rw [h2];rfl
theorem BQ {ok:Str->Bool} {R S:List D->Option Sl} {X:List D->Prop}:∀ {ps:List Str},(∀ p ∈ ps,CD ok R S X p)->ps.all ok=true->∃ vs:List D,vs.length=ps.length/\(∀ cs:List Sl,vn (λ d=>dFn R (aG (aM 0) bR) (.shr d::cs)) (ps.map .str)=some vs)/\∀ cs:List Sl,vn (λ d=>dFn S (aG (aM 0) bR) (.shr d::cs)) vs=some (ps.map .str)
 | [],_,_=>⟨[],rfl,λ _=>rfl,λ _=>rfl⟩
 | p::ps,h,a=>by
  rw [Y1,Zg] at a;obtain ⟨vs,l,e1,e2⟩:=BQ (ps:=ps) (λ q hq=>h q (Za _ hq)) a.2;obtain ⟨v,h1,h2⟩:=(h p (by simp)).yes a.1;exact ⟨v::vs,by rw [Zi,Zi,l],λ cs=>A0 (br (ah (ao rfl) av) h1 rfl) (e1 cs),λ cs=>A0 (br (ah (ao rfl) av) h2 rfl) (e2 cs)⟩
theorem Iu {ok:Str->Bool} {R S:List D->Option Sl} {X:List D->Prop}:∀ {ps:List Str},(∀ p ∈ ps,CD ok R S X p)->ps.all ok=false->xk (dFn R (aG (aM 0) bR)) (λ τ=>∃ ds,aG (aM 0) bR τ=some ds/\X ds) (ps.map .str)
 | [],_,a=>nomatch a
 | p::ps,h,a=>by
  cases q:ok p with
  | false=>exact .inl ⟨_,ah (ao rfl) av,(h p (by simp)).no q⟩
  | true=>
   rw [Y1,q,Zv] at a;obtain ⟨v,h1,h2⟩:=(h p (by simp)).yes q;exact .inr ⟨⟨v,br (ah (ao rfl) av) h1 rfl⟩,Iu (λ q hq=>h q (Za _ hq)) a⟩
abbrev pt2 (c:Nat) (x:Str):List Str:=Txt.split x ⟨#[c,32]⟩
def TJ (c:Nat) (x:Str):x.cps.toList=joinM c 32 ((pt2 c x).map λ x=>x.cps.toList):=by
 have j:=Z8 (λ z:Str=>z.cps.toList) (X3 x ⟨#[c,32]⟩);rw [FN] at j;exact j.symm
theorem FO (c d:Nat):∀ (l:List Str),l≠[]->(l.map (·.length)).sum+l.length * 2=(joinM c d (l.map λ x=>x.cps.toList)).length+2
 | [],h=>absurd rfl h
 | [x],_=>by
  show x.length+0+1 * 2=x.cps.toList.length+2;rw [aQ]
 | x::y::r,_=>by
  have ih:=FO c d (y::r) (Wd _ _);show x.length+((y::r).map (·.length)).sum+((y::r).length+1) * 2=(x.cps.toList++c::d::joinM c d ((y::r).map λ x=>x.cps.toList)).length+2;rw [Zh,Zi (a:=c),Zi (a:=d),aQ];omega
def qQ (c:Nat) (x:Str):((pt2 c x).map (·.length)).sum+(pt2 c x).length * 2=x.length+2:=by
 rw [FO c 32 _ (kO _ _),<- TJ,aQ]
theorem AZ:∀ {l:List Str},p ∈ l->p.length<=(l.map (·.length)).sum
 | y::l,h=>by
  show p.length<=y.length+(l.map (·.length)).sum;rcases Zd.mp h with rfl | h
  · omega
  ·have:=AZ h
   omega
def E2 (c:Nat) (x:Str):1<=(pt2 c x).length:=List.length_pos_iff.mpr (kO _ _)
theorem xy (h:p ∈ pt2 c x):p.length<=x.length:=by
 have a:=AZ h;have b:=qQ c x;have d:=E2 c x;omega
def OO (hx:x.length<=50000):cW (.str x) (.str ⟨#[c,32]⟩)=some (.lst ((pt2 c x).map .str)):=if_pos ⟨by show 2≠0; decide,by omega⟩
def G4 (c:Nat) (x:Str):Txt.join ⟨#[c,32]⟩ (pt2 c x)=x:=(w5 _ _ (kO _ _)).trans (X3 x _)
theorem BM (hx:x.length<=50000) (h1:f τ=some (.str ⟨#[c,32]⟩)) (h2:g τ=some (.lst ((pt2 c x).map .str))):Ec f g τ=some (.str x):=by
 have:=qQ c x;refine (xZ h1 h2 ?_).trans (by rw [G4]);show ((pt2 c x).map (·.length)).sum+(pt2 c x).length * 2<=100000;omega
def OP (h1:k≠c) (h2:k≠32) (h:∀ p ∈ pt2 c x,k ∉ p.cps.toList):k ∉ x.cps.toList:=by
 have e:=X3 x ⟨#[c,32]⟩;rw [<- e];refine Bf (λ z=>?_) h;simp only [Zd,Zq,Z9] at z;exact z.elim h1 h2
def xb (h:Txt.startswith x y=true):∃ post,x.cps.toList=y.cps.toList++post:=by
 unfold Txt.startswith at h;rw [Zg] at h;have h2:=h.2;rw [Y9,Xb] at h2;exact ⟨x.cps.toList.drop y.length,by rw [<- eq_of_beq h2,Y6]⟩
def Mr:("{ ":Str).cps.toList=[123,32]:=by decide +kernel
def NT:(" }":Str).cps.toList=[32,125]:=by decide +kernel
def yj (h1:a=true->b=true) (h2:b=true->a=true):a=b:=by cases a <;> cases b <;> simp_all
theorem Oo (r:Str):decide (Txt.slice r none (some 2)=("{ ":Str))=Txt.startswith r "{ ":=by
 refine yj (λ h=>?_) λ h=>?_
 ·have h:=Zu h
  have l:=Ym r none (some 2);rw [h,show Str.length ("{ ":Str)=2 by decide +kernel] at l;have e:=dW r (a:=0) (b:=2) (l:=none) (u:=some 2) (by decide) l (Yp _ _);rw [h,Xb] at e;exact zN (post:=r.cps.toList.drop 2) (by rw [e]; exact (Y6 2 _).symm)
 ·obtain ⟨post,e⟩:=xb h
  rw [show (Str.cps "{ ").toList=[123,32] from Mr] at e;exact Ze (nA (A:=[]) (B:=[123,32]) (R:=post) (a:=0) (b:=2) e rfl rfl Mr (Yp _ _))
theorem uB {n b:Nat} (h:n=b+2):Builtin.Str.strSliceIndices (some (-2)) none 1 n=Builtin.Str.strSliceIndices (some (b:Int)) (some (n:Int)) 1 n:=by
 rw [Yy,StrLaws.sliceIdx_neg_lo _ _ (by decide) (by omega),show (-2:Int)+(n:Int)=(b:Int) by omega]
theorem Oq (r:Str):decide (Txt.slice r (some (-2)) none=(" }":Str))=Txt.endswith r " }":=by
 refine yj (λ h=>?_) λ h=>?_
 ·have h:=Zu h
  have l:=Ym r (some (-2)) none;rw [h,show Str.length (" }":Str)=2 by decide +kernel] at l;have e:=dW r (a:=r.length - 2) (b:=r.length) (l:=some (-2)) (u:=none) (by omega) (Zo _) (uB (by omega));rw [h,Y4 (by rw [Y7,aQ]; exact Zo _)] at e;exact pO (pre:=r.cps.toList.take (r.length - 2)) (by rw [e]; exact (Y6 _ _).symm)
 ·obtain ⟨pre,e⟩:=rg h
  rw [show (Str.cps " }").toList=[32,125] from NT] at e;have hl:r.length=pre.length+2:=by rw [<- aQ,e,Zh]; rfl
  exact Ze (nA (A:=pre) (B:=[32,125]) (R:=[]) (a:=pre.length) (b:=r.length) e rfl hl.symm NT (uB hl))
theorem GF (h1:Txt.startswith r "{ "=true) (h2:Txt.endswith r " }"=true) (n:r≠("{ }":Str)):("{ ":Str)++Txt.slice r (some 2) (some (-2))++(" }":Str)=r:=by
 obtain ⟨post,e1⟩:=xb h1;obtain ⟨pre,e2⟩:=rg h2;rw [show (Str.cps "{ ").toList=[123,32] from Mr] at e1;rw [show (Str.cps " }").toList=[32,125] from NT] at e2;have e3:=e1.symm.trans e2
 match pre,e2,e3 with
 | [],_,e3=>exact nomatch (List.cons.inj e3).1
 | [a],e2,e3=>
  have e4:=(List.cons.inj e3).1;subst e4;exact absurd (ext (e2.trans (by decide +kernel))) n
 | a::b::mid,e2,e3=>
  have e4:=(List.cons.inj e3).1;have e5:=(List.cons.inj (List.cons.inj e3).2).1;subst e4;subst e5;have hl:r.length=(2+mid.length)+2:=by rw [<- aQ,e2,Zh]; show mid.length+2+2=_; omega
  have s:Txt.slice r (some 2) (some (-2))=S mid:=nA (A:=[123,32]) e2 rfl rfl rfl (D0 hl);refine ext ?_
  rw [aY,aY,Mr,NT,s,e2];rfl
def g8 (r:Str):Bool:=decide (r=("{ }":Str))||((Txt.startswith r "{ "&&Txt.endswith r " }")&&(pt2 59 (Txt.slice r (some 2) (some (-2)))).all ow)
theorem sG (hr:r.length<=50000) (e:τ[i]?=some (.shr (.str r))):D2 (dOp cW (qJ (aM i) (dP (dC (.int 2))) (dP (dUn ui (dC (.int 2))))) (dC (.str "; "))) τ=some ((pt2 59 (Txt.slice r (some 2) (some (-2)))).map .str):=by
 have:=Ym r (some 2) (some (-2));exact uC (ar (fV (ao e) (be Uf) (be (sO Uf rfl)) (by omega)) Uf (by rw [Gw]; exact OO (by omega)))
theorem uV (hr:r.length<=50000):CD g8 (gV t) gR (p8 t) r:=by
 have sl:=Ym r (some 2) (some (-2));have ps:=qQ 59 (Txt.slice r (some 2) (some (-2)));have dr:∀ p ∈ pt2 59 (Txt.slice r (some 2) (some (-2))),CD ow (gx t) jB (jA t) p:=λ p hp=>yb (Zs (xy hp) (by omega))
 by_cases z:r=("{ }":Str)
 ·subst z
  refine ⟨λ _=>⟨.tup [],?_,?_⟩,λ h=>?_⟩
  ·unfold gV gM; dsimp only
   exact bF (aV (aw (ar e_v Uf (eqs rfl))) (aD (bf av (Ye _))))
  ·unfold gR gL; dsimp only
   exact bF (aV (aw (ar (aS (ah e_v av) rfl) Uf (bp _ _))) (aD Uf))
  ·unfold g8 at h
   rw [Ze rfl] at h;exact nomatch h
 have tq:∀ {τ:List Sl},τ[0]?=some (.shr (.str r))->dOr (pQ (dT (dOp AM (aM 0) (dC (.str "{ "))))) (pQ (dT (dOp AQ (aM 0) (dC (.str " }"))))) τ=some (!(Txt.startswith r "{ "&&Txt.endswith r " }")):=λ e=>(dU (cx (aw (ar (ao e) Uf rfl))) (cx (aw (ar (ao e) Uf rfl)))).trans (by rw [Bool.not_and])
 have ok:g8 r=((Txt.startswith r "{ "&&Txt.endswith r " }")&&(pt2 59 (Txt.slice r (some 2) (some (-2)))).all ow):=by
  unfold g8;rw [Zc z];rfl
 refine ⟨λ h=>?_,λ h=>⟨rfl,?_⟩⟩
 ·rw [ok,Zg] at h
  obtain ⟨vs,l,m1,m2⟩:=BQ dr h.2;refine ⟨.tup vs,?_,?_⟩
  ·unfold gV gM; dsimp only
   refine bF (az (aw (ar e_v Uf (nes z))) (az ((tq rfl).trans (by rw [h.1]; rfl)) ?_));exact aD (aS (ah (gq (sG hr rfl) (by rw [Zk]; omega) (m1 _)) av) rfl)
  ·unfold gR gL; dsimp only
   rw [Zg] at h;have pp:=E2 59 (Txt.slice r (some 2) (some (-2)));have ri:=GF h.1.1 h.1.2 z;have rl:=Z8 Str.length ri;rw [U1,U1,show Str.length ("{ ":Str)=2 by decide +kernel,show Str.length (" }":Str)=2 by decide +kernel] at rl;have rt:some (Out.ret (.shr (.str (("{ ":Str)++Txt.slice r (some 2) (some (-2))++(" }":Str)))))=some (Out.ret (.shr (.str r))):=by rw [ri]
   refine bF (az (aw ((ar (aS (ah e_v av) rfl) Uf (bp _ _)).trans (by rw [Zc (by omega)]))) (Eq.trans ?_ rt));refine aD (ar (ar Uf (BM (by omega) (by rw [Gw]; rfl) (gq (Br e_v) (by omega) (m2 _))) (bu ?_)) Uf (bu ?_))
   · rw [show Str.length ("{ ":Str)=2 by decide +kernel]; omega
   · rw [U1,show Str.length ("{ ":Str)=2 by decide +kernel,show Str.length (" }":Str)=2 by decide +kernel]; omega
 ·rw [ok] at h
  refine ⟨_,eK (aw (ar e_v Uf (nes z))) (λ z=>nomatch z) (λ _=>rfl),?_⟩
  cases q:(Txt.startswith r "{ "&&Txt.endswith r " }") with
  | false=>exact .inl (.inl ⟨(tq rfl).trans (by rw [q]; rfl),trivial⟩)
  | true=>
   rw [q,Zv] at h;exact .inr ⟨_,eK (b:=false) ((tq rfl).trans (by rw [q]; rfl)) (λ z=>nomatch z) (λ _=>rfl),_,sG hr rfl,by rw [Zk]; omega,Iu dr h⟩
def Q1:List Nat->Bool
 | c::d::m=>dig c&&(decide (d=32)&&(pt2 44 (S m)).all kS)
 | _=>false
def fF (h:Str):Bool:=Q1 h.cps.toList
def AR (c:Nat):bz ⟨#[c]⟩=dig c:=by
 have e0:("0":Str)=⟨#[48]⟩:=by decide +kernel
 unfold bz;rw [e0,oO];show (((true&&true)&&(dig c&&true))&&(decide (c=48)||!decide (some c=some 48)))=_
 by_cases h:c=48
 ·subst h
  rfl
 ·rw [Zc h,Zc λ z=>h (Zj z)]
  cases dig c <;> rfl
theorem ER (hk:k=44\/k=123):∀ {ps:List Sp'},(∀ s ∈ ps,SpG s)->k ∉ (PTx ps).cps.toList
 | [],_=>by rw [show (PTx []).cps.toList=[] by decide +kernel]; exact Zq
 | s::ps,h=>xE (xE (JQ hk (h s (by simp)).jn) (yo (by omega) (h s (by simp)).ok)) (ER hk λ e he=>h e (Za _ he))
def Km (h:kS p=true):123 ∉ p.cps.toList:=by
 obtain ⟨ps,g,_,_,e⟩:=E1 h;subst e;exact ER (.inr rfl) g.ok
def uE (ok:fF h=true):123 ∉ h.cps.toList:=by
 unfold fF at ok
 match q:h.cps.toList with
 | []=>exact Zq
 | [a]=>rw [q] at ok; exact nomatch ok
 | c::d::m=>
  rw [q] at ok;have ok:(dig c&&(decide (d=32)&&(pt2 44 (S m)).all kS))=true:=ok;rw [Zg,Zg,Z3] at ok;have n:=OP (by decide) (by decide) λ p hp=>Km (Yi.mp ok.2.2 p hp)
  intro z;rcases Zd.mp z with e | z
  ·rw [<- e] at ok
   exact nomatch ok.1
  rcases Zd.mp z with e | z
  ·rw [<- e] at ok
   exact nomatch ok.2.1
  · exact n z
def H9 (e:h.cps.toList=c::r):Txt.slice h none (some 1)=⟨#[c]⟩:=nA (A:=[]) e rfl rfl rfl (Yp _ _)
def HY (e:h.cps.toList=c::d::r):Txt.slice h (some 1) (some 2)=⟨#[d]⟩:=nA (A:=[c]) e rfl rfl rfl rfl
theorem FT (e:h.cps.toList=c::d::r):Txt.slice h (some 2) none=S r:=nA (A:=[c,d]) (B:=r) (by rw [e,Yd]; rfl) rfl (by rw [<- aQ,e]; show 2+_=_+1+1; omega) rfl (Yy _ _)
theorem HZ (e:h.cps.toList=[c]):Txt.slice h (some 1) (some 2)≠(" ":Str):=by
 have e:h=⟨#[c]⟩:=ext e;subst e;show (⟨#[]⟩:Str)≠_;decide +kernel
theorem BK (hx:x.length<=50000) (ep:gi x " {"=[h,p1,p2]) (e:τ[0]?=some (.shr (.str x))):dOp oIx (dOp AN (aM 0) (dC (.str " {"))) (dC (.int 0)) τ=some (.str h):=by
 refine ar (ar (z:=.tup [.str h,.str p1,.str p2]) (ao e) Uf ?_) Uf (bx _ _);show (if Str.length " {"≠0/\x.length<=100000 then some (D.tup ((gi x " {").map .str)) else none)=_;rw [if_pos ⟨by decide +kernel,by omega⟩,ep];rfl
def NS (hh:h.length<=50000) (e:τ[1]?=some (.shr (.str h))):qJ (aM 1) uX (dP (dC (.int 1))) τ=some (.str (Txt.slice h none (some 1))):=fV (ao e) kI (be Uf) (by omega)
def NR (hh:h.length<=50000) (e:τ[1]?=some (.shr (.str h))):qJ (aM 1) (dP (dC (.int 1))) (dP (dC (.int 2))) τ=some (.str (Txt.slice h (some 1) (some 2))):=fV (ao e) (be Uf) (be Uf) (by omega)
theorem wj (hh:h.length<=50000) (e:τ[1]?=some (.shr (.str h))) (el:h.cps.toList=c::d::m):D2 (dOp cW (qJ (aM 1) (dP (dC (.int 2))) uX) (dC (.str ", "))) τ=some ((pt2 44 (S m)).map .str):=by
 have hm:=Ym h (some 2) none;rw [FT el] at hm;exact uC (ar ((fV (ao e) (be Uf) kI (by omega)).trans (by rw [FT el])) Uf (by rw [Eg]; exact OO (by omega)))
def dp (hm:(S m).length<=50000):∀ p ∈ pt2 44 (S m),CD kS cn cL (fZ t) p:=λ p hp=>mL (Zs (xy hp) hm)
theorem LP {h:Str} {c d:Nat} {m:List Nat} (hh:h.length<=50000) (el:h.cps.toList=c::d::m):(S m).length+2<=50000/\h.length=(S m).length+2:=by
 have:h.length=m.length+2:=by rw [<- aQ,el]; rfl
 have:(S m).length=m.length:=by rw [<- aQ]
 omega
theorem C7 {t:Adr} {x h p1 p2:Str} (hx:x.length<=50000) (hh:h.length<=50000) (ep:gi x " {"=[h,p1,p2]) (no:fF h=false):gK t [.str x]:=by
 refine ⟨rfl,?_⟩;refine ⟨_,aI (BK hx ep rfl),?_⟩
 cases q:bz (Txt.slice h none (some 1)) with
 | false=>exact .inl ⟨_,ah (NS hh rfl) av,eO (Zs (Ym _ _ _) hh) q⟩
 | true=>
  obtain ⟨n,hn,en⟩:=cE q;refine .inr ⟨_,aI (br (ah ((NS hh rfl).trans (by rw [en])) av) (bE hn) rfl),?_⟩
  by_cases z:Txt.slice h (some 1) (some 2)=(" ":Str)
  ·refine .inr ⟨_,eK (b:=false) (aw ((ar (NR hh rfl) Uf (cB _ _)).trans (by rw [Ze z]; rfl))) (λ z=>nomatch z) (λ _=>rfl),.inl ?_⟩
   unfold fF at no
   match ql:h.cps.toList with
   | []=>
    have e:h=⟨#[]⟩:=ext ql;subst e;exact absurd q (by decide +kernel)
   | [c]=>exact absurd z (HZ ql)
   | c::d::m=>
    rw [ql] at no;rw [H9 ql,AR] at q;rw [HY ql,blank] at z;have z':=Ze z;rw [oO] at z';have no:(dig c&&(decide (d=32)&&(pt2 44 (S m)).all kS))=false:=no;rw [q,z',Zv,Zv] at no;have hm:=LP hh ql;have ps:=qQ 44 (S m);exact ⟨_,wj hh rfl ql,by rw [Zk]; omega,Iu (dp (by omega)) no⟩
  · exact .inl (.inl ⟨aw ((ar (NR hh rfl) Uf (cB _ _)).trans (by rw [Zc z]; rfl)),trivial⟩)
theorem xQ (t:Adr) {h:Str} (hh:h.length<=50000) (ok:fF h=true):∃ (n c:Nat) (m:List Nat) (vs:List D),n < 10 ^ 30/\h.cps.toList=c::32::m/\(⟨#[c]⟩:Str)=Tx n/\vs.length=(pt2 44 (S m)).length/\(∀ cs:List Sl,vn (λ d=>dFn cn (aG (aM 0) bR) (.shr d::cs)) ((pt2 44 (S m)).map .str)=some vs)/\∀ cs:List Sl,vn (λ d=>dFn cL (aG (aM 0) bR) (.shr d::cs)) vs=some ((pt2 44 (S m)).map .str):=by
 unfold fF at ok
 match ql:h.cps.toList with
 | []=>rw [ql] at ok; exact nomatch ok
 | [a]=>rw [ql] at ok; exact nomatch ok
 | c::d::m=>
  rw [ql] at ok;have ok:(dig c&&(decide (d=32)&&(pt2 44 (S m)).all kS))=true:=ok;rw [Zg,Zg,Z3,<- AR] at ok;obtain ⟨n,hn,en⟩:=cE ok.1;have hm:=LP hh ql;obtain ⟨vs,l,m1,m2⟩:=BQ (dp (t:=t) (by omega)) ok.2.2;exact ⟨n,c,m,vs,hn,by rw [ok.2.1],en,l,m1,m2⟩
theorem FZ (hx:x.length<=50000) (hh:h.length<=50000) (e0:τ[0]?=some (.shr (.str x))) (e1:τ[1]?=some (.shr (.str h))):qJ (aM 0) (dP (dOp jE (ej jD (aG (aM 1) bR)) (dC (.int 1)))) uX τ=some (.str (Txt.slice x (some ((h.length:Int)+1)) none)):=
 fV (ao e0) (be (ar (aS (ah (ao e1) av) (sE hh)) Uf (a8 _ _))) kI (by omega)
theorem C6 {t:Adr} {x h p1 p2:Str} (hx:x.length<=50000) (hh:h.length<=50000) (ep:gi x " {"=[h,p1,p2]) (ok:fF h=true) (no:g8 (Txt.slice x (some ((h.length:Int)+1)) none)=false):gK t [.str x]:=by
 refine ⟨rfl,?_⟩;obtain ⟨n,c,m,vs,hn,el,en,l,m1,m2⟩:=xQ t hh ok;have hm:=LP hh el;have ps:=qQ 44 (S m);refine ⟨_,aI (BK hx ep rfl),.inr ⟨_,aI (br (ah ((NS hh rfl).trans (by rw [H9 el,en])) av) (bE hn) rfl),.inr ⟨_,eK (b:=false) (aw (ar ((NR hh rfl).trans (by rw [HY el])) Uf rfl)) (λ z=>nomatch z) (λ _=>rfl),.inr ⟨_,aI (aS (ah (gq (wj hh rfl el) (by rw [Zk]; omega) (m1 _)) av) rfl),⟨_,rfl⟩,⟨_,rfl⟩,_,ah (FZ hx hh rfl rfl) av,?_⟩⟩⟩⟩;exact (uV (Zs (Ym _ _ _) hx)).no no
theorem C5 {t:Adr} {x h r:Str} (hx:x.length<=50000) (ex:x.cps.toList=h.cps.toList++32::r.cps.toList) {p1 p2:Str} (ep:gi x " {"=[h,p1,p2]) (er:Txt.slice x (some ((h.length:Int)+1)) none=r) (ok:fF h=true) (rk:g8 r=true):∃ v,gU t [.str x]=some (.shr v)/\gQ [v]=some (.shr (.str x)):=by
 have xl:x.length=h.length+(r.length+1):=by rw [<- aQ,ex,Zh,Zi,aQ,aQ]
 have hh:h.length<=50000:=by omega
 obtain ⟨n,c,m,vs,hn,el,en,l,m1,m2⟩:=xQ t hh ok;have hm:=LP hh el;have ps:=qQ 44 (S m);obtain ⟨v,r1,r2⟩:=(uV (by omega)).yes rk;refine ⟨.tup [.int (n:Int),.tup vs,v],?_,?_⟩
 ·unfold gU kA; dsimp only
  refine bF (aR (aI (BK hx ep rfl)) (aR (aI (br (ah ((NS hh rfl).trans (by rw [H9 el,en])) av) (bE hn) rfl)) (az (aw (ar ((NR hh rfl).trans (by rw [HY el])) Uf rfl)) (aR (aI (aS (ah (gq (wj hh rfl el) (by rw [Zk]; omega) (m1 _)) av) rfl)) ?_))));exact aD (bf (ah e_v (ah e_v (ah (br (ah ((FZ hx hh rfl rfl).trans (by rw [er])) av) r1 rfl) av))) (Zb rfl))
 ·unfold gQ ku; dsimp only
  have tl:(Tx n).length=1:=by rw [<- en]; rfl
  have b1:=lb
  have xe:Tx n++(" ":Str)++S m++(" ":Str)++r=x:=by
   refine ext ?_
   rw [ex,el,aY,aY,aY,aY,<- en,show (" ":Str).cps.toList=[32] by decide +kernel];simp
  have rt:some (Out.ret (.shr (.str (Tx n++(" ":Str)++S m++(" ":Str)++r))))=some (Out.ret (.shr (.str x))):=by rw [xe]
  refine bF (aR (aI (BM (by omega) (by rw [Eg]; rfl) (gq (Br (ar e_v Uf (b5 _ _ _))) (by omega) (m2 _)))) (Eq.trans ?_ rt));refine aD (ar (ar (ar (ar (aS (ah (ar e_v Uf (bx _ _)) av) (Tn (Wc hn (by decide +kernel)))) Uf (bu ?_)) e_v (bu ?_)) Uf (bu ?_)) (br (ah (ar e_v Uf (eh _ _ _ _)) av) r2 rfl) (bu ?_))
  · omega
  · rw [U1]; omega
  · rw [U1,U1]; omega
  · rw [U1,U1,U1]; omega
def tT (x:Str):Bool:=fF (Txt.partition x " {").1&&g8 (Txt.slice x (some (((Txt.partition x " {").1.length:Int)+1)) none)
inductive yn (x:Str):Str->Prop
 | here {h r:Str} (f:123 ∉ h.cps.toList) (e:x.cps.toList=h.cps.toList++32::r.cps.toList) (rb:∃ b,r.cps.toList=123::b) (sl:Txt.slice x (some ((h.length:Int)+1)) none=r):yn x h
 | late {h:Str} {A B:List Nat} (f:123 ∉ A) (e:x.cps.toList=A++123::B) (n:A.getLast?≠some 32) (i:123 ∈ h.cps.toList):yn x h
 | none (f:123 ∉ x.cps.toList):yn x x
theorem As (x:Str):yn x (Txt.partition x " {").1:=by
 have bl:(Str.cps " {").toList=[32,123]:=by decide +kernel
 have l1:Str.length " {"=2:=by decide +kernel
 have ats:∀ i,StrLaws.At x " {" x.length i->x.cps.toList[i]?=some 32/\x.cps.toList[i+1]?=some 123:=λ i h=>by
  unfold StrLaws.At at h;rw [Y9,bl,l1] at h;have e2:=eq_of_beq h.2;have h0:=Z8 (λ l=>l[0]?) e2;have h1:=Z8 (λ l=>l[1]?) e2;exact ⟨by simpa using h0,by simpa using h1⟩
 by_cases z:123 ∈ x.cps.toList
 ·obtain ⟨A,B,e,f⟩:=List.eq_append_cons_of_mem z
  by_cases q:A.getLast?=some 32
  ·obtain ⟨A',eA⟩:=List.getLast?_eq_some_iff.mp q
   subst eA;have f':123 ∉ (S A').cps.toList:=λ z=>f (Yt _ z)
   have e':x.cps.toList=(S A').cps.toList++32::123::(S B).cps.toList:=by rw [e,Z5]; rfl
   have pe:=Dx (b:=S B) f' e'
   have p1:(Txt.partition x " {").1=S A':=by
    have:=Z8 (λ l:List Str=>l[0]?) pe;exact Zj this
   rw [p1];refine .here (r:=S (123::B)) f' e' ⟨B,rfl⟩ ?_
   have hl:x.length=A'.length+1+(S (123::B)).length:=by
    rw [<- aQ,e',Zh,<- aQ (S (123::B))];show A'.length+(B.length+2)=A'.length+1+(B.length+1);omega
   exact nA (A:=A'++[32]) (B:=123::B) (R:=[]) (a:=A'.length+1) (b:=x.length) (by rw [e',Yd,Z5]; rfl) (by rw [Zh]; rfl) (by rw [hl,<- aQ]) rfl (by
    rw [Yy,show (S A').length=A'.length from (aQ (S A')).symm]
    rfl)
  ·refine .late f e q ?_
   rcases Yz x " {" with ⟨h,_⟩ | ⟨i,h,h1,_⟩
   ·rw [h]
    exact z
   ·rw [h]
    obtain ⟨a0,a1⟩:=ats i h1
    have lt:A.length < i:=by
     rcases Nat.lt_trichotomy i A.length with z | z | z
     ·by_cases z2:i+1 < A.length
      ·rw [e,List.getElem?_append_left z2] at a1
       exact absurd (List.mem_of_getElem? a1) f
      ·rw [e,List.getElem?_append_left z] at a0
       exact absurd (by rw [List.getLast?_eq_getElem?,show A.length - 1=i by omega]; exact a0) q
     ·rw [e,List.getElem?_append_right (by omega),show i - A.length=0 by omega] at a0
      exact absurd (Zj a0) (by decide)
     · exact z
    show 123 ∈ (Builtin.Str.strSub x 0 i).cps.toList;rw [X4,Xb,Nat.sub_zero,e,List.take_append,Y4 (by omega),show i - A.length=(i - A.length - 1)+1 by omega];exact Zy _ (by rw [List.take_succ_cons]; exact Zp)
 ·rcases Yz x " {" with ⟨h,_⟩ | ⟨i,h,h1,_⟩
  ·rw [h]
   exact .none z
  · exact absurd (List.mem_of_getElem? (ats i h1).2) z
theorem xv (x:Str):(Txt.partition x " {").1.length<=x.length:=by
 rcases Yz x " {" with ⟨h,_⟩ | ⟨i,h,h1,_⟩
 · rw [h]; exact Zo _
 ·rw [h]
  show (Builtin.Str.strSub x 0 i).length<=_;rw [<- aQ,X4,Xb,Yh,aQ];omega
theorem beyond:Txt.slice x (some ((x.length:Int)+1)) none=⟨#[]⟩:=PyProof.Rows.slice_from_beyond (by omega)
theorem BS (hx:x.length<=50000):CD tT (gU t) gQ (gK t) x:=by
 have ps:=As x;have pl:=xv x;have ep:gi x " {"=[(Txt.partition x " {").1,(Txt.partition x " {").2.1,(Txt.partition x " {").2.2]:=rfl;have key:tT x=(fF (Txt.partition x " {").1&&g8 (Txt.slice x (some (((Txt.partition x " {").1.length:Int)+1)) none)):=rfl;generalize (Txt.partition x " {").1=h at ps pl ep key;generalize (Txt.partition x " {").2.1=p1 at ep;generalize (Txt.partition x " {").2.2=p2 at ep;refine ⟨λ ok=>?_,λ no=>?_⟩
 ·rw [key,Zg] at ok
  cases ps with
  | here f e rb sl=>exact C5 hx e ep sl ok.1 (by rw [<- sl]; exact ok.2)
  | late f e n i=>exact absurd i (uE ok.1)
  | none f=>
   rw [beyond] at ok;exact absurd ok.2 (by decide +kernel)
 ·rw [key] at no
  cases q:fF h with
  | false=>exact C7 hx (by omega) ep q
  | true=>
   rw [q,Zv] at no;exact C6 hx (by omega) ep q no
def Il (h:c ∉ x.cps.toList):Txt.find x ⟨#[c]⟩=-1:=by
 unfold Txt.find;rcases StrLaws.occ_head x ⟨#[c]⟩ 1 (Zo 1) with ⟨e,_⟩ | ⟨i,r,e,a,_⟩
 · rw [e]
 · exact absurd (List.mem_of_getElem? ((StrLaws.subAt_one x c i).mp a)) h
def BC (f:c ∉ A) (e:x.cps.toList=A++c::B):Txt.find x ⟨#[c]⟩=(A.length:Int):=by
 have here:x.cps.toList[A.length]?=some c:=by rw [e,List.getElem?_append_right (Zo _),Nat.sub_self]; rfl
 unfold Txt.find;rcases StrLaws.occ_head x ⟨#[c]⟩ 1 (Zo 1) with ⟨_,n⟩ | ⟨i,r,eo,a,n⟩
 · exact absurd ((StrLaws.subAt_one x c _).mpr here) (n _)
 ·rw [eo]
  have a:=(StrLaws.subAt_one x c i).mp a;rcases Nat.lt_trichotomy i A.length with z | z | z
  ·rw [e,List.getElem?_append_left z] at a
   exact absurd (List.mem_of_getElem? a) f
  · rw [z]
  · exact absurd ((StrLaws.subAt_one x c _).mpr here) (n _ z)
theorem O6:("{":Str)=⟨#[123]⟩:=by decide +kernel
theorem sT:∀ {ps:List Str} {τ:List Sl},i < τ.length->(∀ p ∈ ps,F [.str p]=some (.shr (.bl (ok p))))->(ps.all ok=true->∃ s,ia (λ d τ=>(gN i d τ).bind (sIf (pQ (dT (dFn F (aG (aM i) bR)))) (nD (dC (.bl false))) d6)) (ps.map .str) τ=some (.next (τ.set i s)))/\(ps.all ok=false->ia (λ d τ=>(gN i d τ).bind (sIf (pQ (dT (dFn F (aG (aM i) bR)))) (nD (dC (.bl false))) d6)) (ps.map .str) τ=some (.ret (.shr (.bl false))))
 | [],τ,hi,_=>⟨λ _=>⟨τ[i],by rw [List.set_getElem_self]; rfl⟩,λ z=>nomatch z⟩
 | p::ps,τ,hi,h=>by
  have g:(τ.set i (.shr (.str p)))[i]?=some (.shr (.str p)):=List.getElem?_set_self hi;have st:∀ {r:Option Out},sIf (pQ (dT (dFn F (aG (aM i) bR)))) (nD (dC (.bl false))) d6 (τ.set i (.shr (.str p)))=r->(gN i (.str p) τ).bind (sIf (pQ (dT (dFn F (aG (aM i) bR)))) (nD (dC (.bl false))) d6)=r:=λ z=>z
  have tq:pQ (dT (dFn F (aG (aM i) bR))) (τ.set i (.shr (.str p)))=some (!ok p):=cx (aw (br (ah (ao g) av) (h p (by simp)) rfl));obtain ⟨i1,i2⟩:=sT (F:=F) (ok:=ok) (ps:=ps) (τ:=τ.set i (.shr (.str p))) (by rw [List.length_set]; exact hi) λ q hq=>h q (Za _ hq)
  rw [Y1]
  cases q:ok p with
  | false=>
   rw [q] at tq;exact ⟨(λ z=>nomatch z),λ _=>sJ (st (eK tq (λ _=>aD Uf) λ z=>nomatch z))⟩
  | true=>
   rw [q] at tq;rw [Zv,Zz,uG (st (eK tq (λ z=>nomatch z) λ _=>rfl))];refine ⟨λ a=>?_,i2⟩;obtain ⟨s,e⟩:=i1 a;rw [List.set_set] at e;exact ⟨s,e⟩
def AS (c:Nat):v7 (.str ⟨#[c]⟩) (.str "0123456789")=some (.bl (!dig c)):=by
 show some (D.bl (!occ FIG ⟨#[c]⟩))=_;unfold occ;rw [StrLaws.found_one,LZ]
def Kp (h:f τ=some true):dOr f g τ=some true:=IP h (λ z=>nomatch z) λ _=>rfl
theorem HD (x:Str) (hx:x.length<=50000):gh t [.str x]=some (.shr (.bl (tT x))):=by
 have ps:=As x;have pl:=xv x;have key:tT x=(fF (Txt.partition x " {").1&&g8 (Txt.slice x (some (((Txt.partition x " {").1.length:Int)+1)) none)):=rfl;generalize (Txt.partition x " {").1=h at ps pl key;unfold gh gb; dsimp only
 refine bF ?_
 have fd:∀ {τ:List Sl},τ[0]?=some (.shr (.str x))->dOp KG (aM 0) (dC (.str "{")) τ=some (.int (Txt.find x ⟨#[123]⟩)):=λ e=>ar (ao e) Uf (by rw [O6]; rfl)
 cases ps with
 | none f=>
  rw [key,beyond,show g8 ⟨#[]⟩=false by decide +kernel,X9];rw [Il f] at fd;exact aR (aI (fd rfl)) (aV (Kp (aw (ar e_v Uf rfl))) (aD Uf))
 | @late _ A B f e n i=>
  rw [key,show fF h=false from Xc.mpr λ z=>uE z i,Xr];rw [BC f e] at fd;refine aR (aI (fd rfl)) (aV ?_ (aD Uf))
  match A,e,n with
  | [],e,n=>exact Kp (aw (ar e_v Uf rfl))
  | [a],e,n=>exact Kp (aw (ar e_v Uf rfl))
  | a::b::A,e,n=>
   have l2:(A++123::B).length+2=x.length:=by rw [<- aQ,e]; rfl
   rw [Zh] at l2;obtain ⟨k,ek⟩:∃ k,(a::b::A).getLast?=some k:=⟨_,List.getLast?_eq_some_getLast (Wd _ _)⟩
   have kn:k≠32:=λ z=>n (by rw [ek,z])
   have e2:oIx (.str x) (.int (((a::b::A).length:Int) - 1))=some (.str ⟨#[k]⟩):=by
    rw [List.getLast?_eq_getElem?] at ek;have:=qC (z:=x) (a:=(a::b::A).length - 1) (by omega) (by rw [e,List.getElem?_append_left (by show _+1+1 - 1 < _+1+1; omega)]; exact ek);rw [show (((a::b::A).length - 1:Nat):Int)=((a::b::A).length:Int) - 1 by show ((A.length+1+1 - 1:Nat):Int)=((A.length+1+1:Nat):Int) - 1; omega] at this;exact this
   refine (dU (aw (ar e_v Uf (e9 _ _))) (dU (aw (ar (ar e_v Uf (qC (by omega) (by rw [e]; rfl))) Uf (AS a))) (dU (aw (ar (ar e_v Uf (qC (by omega) (by rw [e]; rfl))) Uf (cB _ _))) (aw (ar (ar e_v (ar e_v Uf (jv _ _)) e2) Uf (cB _ _)))))).trans ?_
   rw [blank,oO k,Zc kn];simp
 | @here _ r f e rb sl=>
  obtain ⟨b,rb⟩:=rb
  have ef:Txt.find x ⟨#[123]⟩=(h.length:Int)+1:=by
   rw [BC (A:=h.cps.toList++[32]) (λ z=>(Z2.mp z).elim f (by decide)) (by rw [e,rb,Z5]; rfl),Zh,aQ];rfl
  rw [ef] at fd;rw [key,sl];have xl:x.length=h.length+(r.length+1):=by rw [<- aQ,e,Zh,Zi,aQ,aQ]
  refine aR (aI (fd rfl)) ?_
  unfold fF
  match ql:h.cps.toList with
  | []=>
   have hl:h.length=0:=by rw [<- aQ,ql]; rfl
   exact aV (Kp (aw ((ar e_v Uf (e9 _ _)).trans (by rw [hl]; rfl)))) (aD Uf)
  | [c]=>
   have hl:h.length=1:=by rw [<- aQ,ql]; rfl
   exact aV (Kp (aw ((ar e_v Uf (e9 _ _)).trans (by rw [hl]; rfl)))) (aD Uf)
  | c :: d::m=>
   have hm:=LP (by omega) ql;show _=some (Out.ret (.shr (.bl ((dig c&&(decide (d=32)&&(pt2 44 (S m)).all kS))&&g8 r))));rw [ql] at e
   have e2:oIx (.str x) (.int ((h.length:Int)+1 - 1))=some (.str ⟨#[32]⟩):=by
    rw [show ((h.length:Int)+1 - 1)=(h.length:Int) by omega];exact qC (by omega) (by rw [e,<- ql,List.getElem?_append_right (by rw [aQ]; exact Zo _),aQ,Nat.sub_self]; rfl)
   have tq:∀ {τ:List Sl},τ[0]?=some (.shr (.str x))->τ[1]?=some (.shr (.int ((h.length:Int)+1)))->dOr (dT (dOp oLt (aM 1) (dC (.int 3)))) (dOr (dT (dOp v7 (dOp oIx (aM 0) (dC (.int 0))) (dC (.str "0123456789")))) (dOr (dT (dOp oNe (dOp oIx (aM 0) (dC (.int 1))) (dC (.str " ")))) (dT (dOp oNe (dOp oIx (aM 0) (dOp E4 (aM 1) (dC (.int 1)))) (dC (.str " ")))))) τ=some (!(dig c&&decide (d=32))):=λ q0 q1=>by
    refine (dU (aw (ar (ao q1) Uf (e9 _ _))) (dU (aw (ar (ar (ao q0) Uf (qC (a:=0) (by omega) (by rw [e]; rfl))) Uf (AS c))) (dU (aw (ar (ar (ao q0) Uf (qC (a:=1) (by omega) (by rw [e]; rfl))) Uf (cB _ _))) (aw (ar (ar (ao q0) (ar (ao q1) Uf (jv _ _)) e2) Uf (cB _ _)))))).trans ?_
    rw [blank,oO,oO,Zc (by omega)];cases dig c <;> cases decide (d=32) <;> rfl
   rw [<- Bool.and_assoc];refine dZ (tq rfl rfl) (λ q=>?_) (λ q=>?_)
   ·rw [Z7] at q
    rw [q];exact aD Uf
   rw [Yb] at q;rw [q,Zv];have s2:Txt.slice x (some 2) (some ((h.length:Int)+1 - 1))=S m:=nA (A:=[c,d]) (b:=h.length) (by rw [e]; rfl) rfl (by rw [hm.2,<- aQ]; show 2+m.length=m.length+2; omega) rfl (by rw [show ((h.length:Int)+1 - 1)=(h.length:Int) by omega]; rfl);have lp:=sT (ps:=pt2 44 (S m)) (τ:=[.shr (.str x),.shr (.int ((h.length:Int)+1)),.no,.no,.no]) (show 2 < 5 by decide) λ p hp=>qW p (Zs (xy hp) (by omega))
   have it:∀ {τ:List Sl},τ[0]?=some (.shr (.str x))->τ[1]?=some (.shr (.int ((h.length:Int)+1)))->D2 (dOp cW (qJ (aM 0) (dP (dC (.int 2))) (dP (dOp E4 (aM 1) (dC (.int 1))))) (dC (.str ", "))) τ=some ((pt2 44 (S m)).map .str):=λ q0 q1=>uC (ar ((fV (ao q0) (be Uf) (be (ar (ao q1) Uf (jv _ _))) (by omega)).trans (by rw [s2])) Uf (by rw [Eg]; exact OO (by omega)))
   cases qa:(pt2 44 (S m)).all kS with
   | false=>exact kQ (nB (it rfl rfl) (lp.2 qa))
   | true=>
    obtain ⟨s2',e3⟩:=lp.1 qa;refine aR (nB (it rfl rfl) e3) ?_
    refine aR (aI ((fV e_v (be e_v) kI (by omega)).trans (by rw [sl]))) ?_
    rw [Zv];unfold g8;refine dZ (aw (ar e_v Uf (cj _ _))) (λ q=>?_) (λ q=>?_)
    ·rw [q]
     exact aD Uf
    rw [q,Bool.false_or];have hr:r.length<=50000:=by omega
    refine dZ (b:=!(Txt.startswith r "{ "&&Txt.endswith r " }")) ((dU (aw (ar (fV e_v kI (be Uf) (by omega)) Uf (cB _ _))) (aw (ar (fV (z:=r) (hi:=none) e_v (be (sO Uf rfl)) kI (by omega)) Uf (cB _ _)))).trans (by rw [Oo,Oq,Bool.not_and])) (λ q=>?_) (λ q=>?_)
    ·rw [Z7] at q
     rw [q];exact aD Uf
    rw [Yb] at q;rw [q,Zv];have sl2:=Ym r (some 2) (some (-2));have lr:=sT (F:=eS t) (ps:=pt2 59 (Txt.slice r (some 2) (some (-2)))) (τ:=[.shr (.str x),.shr (.int ((h.length:Int)+1)),s2',.shr (.str r),.no]) (show 4 < 5 by decide) λ p hp=>FI p (Zs (xy hp) (by omega))
    cases qr:(pt2 59 (Txt.slice r (some 2) (some (-2)))).all ow with
    | false=>exact kQ (nB (sG hr rfl) (lr.2 qr))
    | true=>
     obtain ⟨s4,e4⟩:=lr.1 qr;exact aR (nB (sG hr rfl) e4) (aD Uf)
end N50
end
section
namespace L2
open PySem PySem.Spec PySem.W PySem.Calls PyProof.Rows
def zc {X:Cx} {K:Frag} (hK:X.K=K):eI X (.builtin "isinstance") (λ xs H Q=>∃ (a D p:Addr) (cs:List Addr) (b:Bool),xs=[.ref a,.ref p]/\H p=some (.tup (cs.map V.ref))/\H a=some (.ext (zt a D))/\D7 K D=true/\kitAny K (.ref D) (cs.map Value.ref)=some b/\Q (.bl b) H):=by
 subst hK;intro ac s σ H xs us Q I r h;obtain ⟨a,D,p,cs,b,rfl,hp,hH,ok,e,q⟩:=h;obtain ⟨u,w',rfl,ru,rw'⟩:=vals2 r;cases (show u=Value.ref a from ru);cases (show w'=Value.ref p from rw');obtain ⟨hz,its,vs,⟨oc,od,dt,sl⟩,ho,hcl,n,hd⟩:=I.hok _ _ hp
 have ei:its=cs.map Value.ref:=by
  clear hd ho e hp r hz
  induction cs generalizing its with
  | nil=>cases vs; rfl
  | cons c cs ih=>
   cases vs with
   | cons h t=>cases (show _=Value.ref c from h); rw [ih _ t]; rfl
 subst ei;cases (show oc=Value.type "tuple" from hcl);cases (show dt=_ from hd);exact kia_tup (A8 ok) I.kIn (I.hok _ _ hH).1 ho e (λ z=>nomatch z) λ tk=>⟨.bl b,H,I.tok tk,rfl,q⟩
end L2
end
section
namespace N50
open PySem L2
def Jx {X:Cx} {EX:St->XK} {R S:List D->Option Sl} {RX:List D->Prop} {C:Addr} {sx rx y:Str} {ks kr kx jj:Nat} {p1 p2 p3 q1 q2:Pos}
  (Fs:Go X.prog X.w X.K X.mg X.base ks sx (spF S X.K)) (Fr:Go X.prog X.w X.K X.mg X.base kr rx (spF R X.K)) (Fx:Gx X.prog X.w X.K X.mg X.base kx rx (spR RX C X.K)) (hr:ip jj X.A) (hx:∀ σ,fJ (CX1 X.prog X.w) X σ (EX σ))
  (hy:PE X (.Name y p3) (Od 1)) (h1:ks<=jj:=by decide) (h2:kr<=jj:=by decide) (h3:kx<=jj:=by decide) (hg1:Gl X sx:=by rfl) (hg2:Gl X rx:=by rfl) (d1:Dg sx:=by decide) (d2:Dg rx:=by decide)
  (he1:Se X (.Call (.Name rx p2) [.Name y p3] [] q2) []:=by rfl) (hs1:Sb X q1 []:=by rfl) (he2:Se X (.Name y p3) []:=by rfl) (hs2:Sb X q2 []:=by rfl):PE X (.Call (.Name sx p1) [.Call (.Name rx p2) [.Name y p3] [] q2] [] q1) (λ σ H Q=>∃ x:Str,σ[1]?=some (some (.str x))/\((∃ v z,R [.str x]=some (.shr v)/\S [v]=some (.shr (.str z))/\∀ H',c9 H H'->Q (.str z) H')\/(RX [.str x]/\∀ H',c9 H H'->EX σ (.ref C) none H'))):=by
 obtain ⟨f1,d1',s1,m1,k1,b1,o1⟩:=Fs.go;obtain ⟨f2,d2',s2,m2,k2,b2,o2⟩:=Fr.go;obtain ⟨f3,d3',s3,m3,k3,b3,o3⟩:=Fx.go;intro ac s σ H Q I ⟨x,e,h⟩;rcases h with ⟨v,z,e1,e2,k⟩ | ⟨e1,k⟩
 · exact se o1 (hr.mono h1) hg1 m1 k1 b1 .nil Ar (bH (se o2 (hr.mono h2) hg2 m2 k2 b2 .nil Ar (bH hy d8 he2) d2 he2 hs2) d8 he1) d1 he1 hs1 ac s σ H Q I ⟨_,e,H,[.str x],.shr v,.refl _,.cons (.str x) .nil,e1,λ u Hs' H' g r=>⟨Hs',[v],.shr (.str z),g.sh,.cons r .nil,e2,λ u2 Hs2 H2 g2 r2=>by cases r2; exact k H2 (g.hh.trans g2.hh)⟩⟩
 · exact se o1 (hr.mono h1) hg1 m1 k1 b1 .nil Ar (bH (xt o3 (hr.mono h3) hg2 m3 k3 b3 .nil hx (bH hy d8 he2) d2 he2 hs2) d8 he1) d1 he1 hs1 ac s σ H Q I ⟨_,e,H,[.str x],.refl _,.cons (.str x) .nil,e1,k⟩
def okK (k:Int) (x:Str):Bool:=if k=0 then IZ x else if k=1 then tz x else if k=2 then ow x else if k=3 then kS x else tT x
def fR:List D->Option Sl
 | [.int k,.str x]=>if x.length<=50000 then some (.shr (if okK k x=true then .str x else .non)) else none
 | _=>none
section
variable {P:Program} {w:World} {K:W.Frag} {mg:Str->Option Value} {base:Heap} {t:Adr}
set_option maxHeartbeats 0
theorem uh (T:Txt w K mg t):Go P w K mg base 9 "_law_again" (spF fR K):=by
 obtain ⟨a0,d0,F,m0,bi⟩:=T.uS;have nd:(["_law_kind","_law_text","_law_told","_law_refused","e"]:List Str).Nodup:=by decide +kernel
 refine ⟨⟨a0,d0,_,m0,F.kp,bi,F.ok (N:=["_law_kind","_law_text","_law_told","_law_refused","e"]) ⟨rfl,rfl,rfl,by decide +kernel,rfl,by decide +kernel,by decide +kernel⟩ (λ vs H Q E h=>?_) λ cdv A outer s H vs Q E hr h=>?_⟩⟩
 ·obtain ⟨Hs,ds,sl,sm,r,e,_⟩:=h
  unfold fR at e;split at e
  · exact r.length
  · cases e
 obtain ⟨Hs,ds,sl,sm,r,e,kk⟩:=h
 obtain ⟨k,x,rfl⟩:∃ k x,ds=[.int k,.str x]:=by
  unfold fR at e;split at e
  · exact ⟨_,_,rfl⟩
  · cases e
 have e:(if x.length<=50000 then some (Sl.shr (if okK k x=true then .str x else .non)) else none)=some sl:=e;split at e
 case isFalse=>cases e
 rename_i hl;have e':=Zj e;subst e'
 cases r with
 | cons r1 r=>cases r with
  | cons r2 r=>
 cases r;cases r1;cases r2
 refine ⟨_,fC (g9 (i:=2) nd rfl (Or.inl rfl) Aj) (fC (g9 (i:=3) nd rfl (Or.inl rfl) Kj) (fC (J6 (λ pn E EX hx=>dF (vO (tX (xu (pv 0) tY)) (dF (g9 (i:=2) nd rfl (Or.inl rfl) (Jx (oP T) (oU T) (nZ T) hr hx (pv 1))))
    (dF (vO (tX (xu (pv 0) tY)) (dF (g9 (i:=2) nd rfl (Or.inl rfl) (Jx (mw T) (iB T) (mf T) hr hx (pv 1))))
    (dF (vO (tX (xu (pv 0) tY)) (dF (g9 (i:=2) nd rfl (Or.inl rfl) (Jx (qR T) (lI T) (qK T) hr hx (pv 1))))
    (dF (vO (tX (xu (pv 0) tY)) (dF (g9 (i:=2) nd rfl (Or.inl rfl) (Jx (jJ T) (dQ T) (jG T) hr hx (pv 1))))
    (dF (g9 (i:=2) nd rfl (Or.inl rfl) (Jx (vU T) (vW T) (vv T) hr hx (pv 1))))))))))))
  (OC (i:=4) nd rfl rfl rfl T.mD (λ ea=>by
    apply fC
    · exact g9 (i:=3) nd rfl (Or.inl rfl) (An (nQ (LJ rfl) rfl T.cT (by decide +kernel) (bH (pv 4) (bH (jW rfl T.cv (show RelV (.ref t.aN) (.ref t.aN) from rfl)) d8)))         (Ak (nQ (LJ (K:=K) rfl) rfl T.cT (by decide +kernel) (bH (pv 4) (bH (Am rfl T.sW (by decide +kernel) (show RelV (.ty "ValueError") (.type "ValueError") from rfl)) d8)))))
    ·apply dF
     exact g9 (i:=3) nd rfl (Or.inl rfl) (An (pv 3) (Ak (EW (nQ (zc (K:=K) rfl) rfl T.cT (by decide +kernel) (bH (pv 4) (bH (Ai (bH (jW rfl T.mC (show RelV (.ref t.b7) (.ref t.b7) from rfl)) (bH (jW rfl T.A2 (show RelV (.ref t.gI) (.ref t.gI) from rfl)) (bH (jW rfl T.uv (show RelV (.ref t.du) (.ref t.du) from rfl)) (bH (jW rfl T.uu (show RelV (.ref t.dq) (.ref t.dq) from rfl)) d8))))) d8))))))) Kg) vM rfl rfl)
  (fC (vO (EO (pv 3)) (dF (xm EY)) vM) (dF (xm (pv 2)))))),?_⟩
 have fin:∀ {H1:Hp} {v:V} {d:D},c9 H H1->Rp K Hs v d->(if okK k x=true then D.str x else .non)=d->Q v H1:=λ {H1 v d} g r z=>kk _ Hs H1 ⟨.refl _,sm.trans g,g,λ _ h _=>h⟩ (by rw [z]; exact r)
 have good:okK k x=true->∀ {H1:Hp},c9 H H1->Q (.str x) H1:=λ ok H1 g=>fin g (.str x) (by rw [ok]; rfl)
 have bad:okK k x=false->∀ {H1:Hp},c9 H H1->Q .non H1:=λ ok H1 g=>fin g .non (by rw [ok]; rfl)
 have two:∀ {H1:Hp} {ea p:Addr} {u v:HO},c9 H H1->H1 ea=none->upd H1 ea u p=none->c9 H (upd (upd H1 ea u) p v):=λ {H1 ea p u v} g hn hp b q e=>by
  have q1:=g b q e;have q2:upd H1 ea u b=some q:=by rw [aF (bV q1 hn)]; exact q1
  rw [aF (bV q2 hp)];exact q2
 have key:∀ {ok:Str->Bool} {R S:List D->Option Sl} {RX:List D->Prop} {Qn:Str->Hp->Prop} {En:Hp->Prop},CD ok R S RX x->okK k x=ok x->(okK k x=true->∀ H',c9 H H'->Qn x H')->(okK k x=false->∀ H',c9 H H'->En H')->(∃ v z,R [.str x]=some (.shr v)/\S [v]=some (.shr (.str z))/\∀ H',c9 H H'->Qn z H')\/(RX [.str x]/\∀ H',c9 H H'->En H'):=λ {ok R S RX Qn En} d e h1 h2=>by
  cases q:ok x with
  | true=>
    obtain ⟨v,e1,e2⟩:=d.yes q;exact .inl ⟨v,x,e1,e2,h1 (e.trans q)⟩
  | false=>exact .inr ⟨d.no q,h2 (e.trans q)⟩
 have ka:∀ {j:Int} {a b:Bool},k=j->(if k=j then a else b)=a:=λ e=>if_pos e
 have kb:∀ {j:Int} {a b:Bool},k≠j->(if k=j then a else b)=b:=λ e=>if_neg e
 refine ⟨_,rfl,_,_,rfl,rfl,_,rfl,?_⟩
 by_cases h0:k=0
 · exact DW (Ze h0) ⟨x,rfl,key (sQ hl) (ka h0) (λ ok H1 g=>⟨_,rfl,_,rfl,DZ ⟨_,rfl,good ok g⟩⟩) (λ ok H1 g ea=>⟨true,T.bX,nS ⟨_,rfl,λ hn=>⟨_,rfl,_,_,_,_,rfl,.inr ⟨_,rfl⟩,aC,T.cg,T.cC,_,rfl,nS ⟨_,rfl,_,_,_,_,rfl,.inl ⟨_,rfl⟩,aC,T.cg,T.bW,_,rfl,_,rfl,nS ⟨_,rfl,Zb rfl,λ p hp=>⟨ea,t.aN,p,[t.b7,t.gI,t.du,t.dq],false,rfl,aC,(by rw [aF (bV aC hp)]; exact aC),T.cg,T.kU,_,rfl,_,rfl,_,rfl,nS (bad ok (two g hn hp))⟩⟩⟩⟩⟩⟩)⟩
 refine DY (Zc h0) ⟨_,rfl,_,_,rfl,rfl,_,rfl,?_⟩
 by_cases h1:k=1
 · exact DW (Ze h1) ⟨x,rfl,key (za hl) ((kb h0).trans (ka h1)) (λ ok H1 g=>⟨_,rfl,_,rfl,DZ ⟨_,rfl,good ok g⟩⟩) (λ ok H1 g ea=>⟨true,T.bX,nS ⟨_,rfl,λ hn=>⟨_,rfl,_,_,_,_,rfl,.inr ⟨_,rfl⟩,aC,T.cg,T.cC,_,rfl,nS ⟨_,rfl,_,_,_,_,rfl,.inl ⟨_,rfl⟩,aC,T.cg,T.bW,_,rfl,_,rfl,nS ⟨_,rfl,Zb rfl,λ p hp=>⟨ea,t.aN,p,[t.b7,t.gI,t.du,t.dq],false,rfl,aC,(by rw [aF (bV aC hp)]; exact aC),T.cg,T.kU,_,rfl,_,rfl,_,rfl,nS (bad ok (two g hn hp))⟩⟩⟩⟩⟩⟩)⟩
 refine DY (Zc h1) ⟨_,rfl,_,_,rfl,rfl,_,rfl,?_⟩
 by_cases h2:k=2
 · exact DW (Ze h2) ⟨x,rfl,key (yb hl) ((kb h0).trans ((kb h1).trans (ka h2))) (λ ok H1 g=>⟨_,rfl,_,rfl,DZ ⟨_,rfl,good ok g⟩⟩) (λ ok H1 g ea=>⟨true,T.bX,nS ⟨_,rfl,λ hn=>⟨_,rfl,_,_,_,_,rfl,.inr ⟨_,rfl⟩,aC,T.cg,T.cC,_,rfl,nS ⟨_,rfl,_,_,_,_,rfl,.inl ⟨_,rfl⟩,aC,T.cg,T.bW,_,rfl,_,rfl,nS ⟨_,rfl,Zb rfl,λ p hp=>⟨ea,t.aN,p,[t.b7,t.gI,t.du,t.dq],false,rfl,aC,(by rw [aF (bV aC hp)]; exact aC),T.cg,T.kU,_,rfl,_,rfl,_,rfl,nS (bad ok (two g hn hp))⟩⟩⟩⟩⟩⟩)⟩
 refine DY (Zc h2) ⟨_,rfl,_,_,rfl,rfl,_,rfl,?_⟩
 by_cases h3:k=3
 · exact DW (Ze h3) ⟨x,rfl,key (mL hl) ((kb h0).trans ((kb h1).trans ((kb h2).trans (ka h3)))) (λ ok H1 g=>⟨_,rfl,_,rfl,DZ ⟨_,rfl,good ok g⟩⟩) (λ ok H1 g ea=>⟨true,T.bX,nS ⟨_,rfl,λ hn=>⟨_,rfl,_,_,_,_,rfl,.inr ⟨_,rfl⟩,aC,T.cg,T.cC,_,rfl,nS ⟨_,rfl,_,_,_,_,rfl,.inl ⟨_,rfl⟩,aC,T.cg,T.bW,_,rfl,_,rfl,nS ⟨_,rfl,Zb rfl,λ p hp=>⟨ea,t.aN,p,[t.b7,t.gI,t.du,t.dq],false,rfl,aC,(by rw [aF (bV aC hp)]; exact aC),T.cg,T.kU,_,rfl,_,rfl,_,rfl,nS (bad ok (two g hn hp))⟩⟩⟩⟩⟩⟩)⟩
 exact DY (Zc h3) ⟨x,rfl,key (BS hl) ((kb h0).trans ((kb h1).trans ((kb h2).trans (kb h3)))) (λ ok H1 g=>⟨_,rfl,_,rfl,DZ ⟨_,rfl,good ok g⟩⟩) (λ ok H1 g ea=>⟨true,T.bX,nS ⟨_,rfl,λ hn=>⟨_,rfl,_,_,_,_,rfl,.inr ⟨_,rfl⟩,aC,T.cg,T.cC,_,rfl,nS ⟨_,rfl,_,_,_,_,rfl,.inl ⟨_,rfl⟩,aC,T.cg,T.bW,_,rfl,_,rfl,nS ⟨_,rfl,Zb rfl,λ p hp=>⟨ea,t.aN,p,[t.b7,t.gI,t.du,t.dq],false,rfl,aC,(by rw [aF (bV aC hp)]; exact aC),T.cg,T.kU,_,rfl,_,rfl,_,rfl,nS (bad ok (two g hn hp))⟩⟩⟩⟩⟩⟩)⟩
def QN (k:Int) (x:Str) (hx:x.length<=50000):vj t [.int k,.str x]=some (.shr (.bl (okK k x))):=by
 have kq:∀ {τ:List Sl} (j:Int),τ[0]?=some (.shr (.int k))->dT (dOp oEq (aM 0) (dC (.int j))) τ=some (decide (k=j)):=λ j e=>aw (ar (ao e) Uf (bp _ _))
 unfold okK;refine bF (dZ (kq 0 rfl) (λ h=>?_) (λ h=>?_))
 ·rw [if_pos (Zu h)]
  exact aD (br (ah e_v av) (Lr x hx) rfl)
 rw [if_neg (Z0 h)];refine dZ (kq 1 rfl) (λ h=>?_) (λ h=>?_)
 ·rw [if_pos (Zu h)]
  exact aD (br (ah e_v av) (xG x hx) rfl)
 rw [if_neg (Z0 h)];refine dZ (kq 2 rfl) (λ h=>?_) (λ h=>?_)
 ·rw [if_pos (Zu h)]
  exact aD (br (ah e_v av) (FI x hx) rfl)
 rw [if_neg (Z0 h)];refine dZ (kq 3 rfl) (λ h=>?_) (λ h=>?_)
 ·rw [if_pos (Zu h)]
  exact aD (br (ah e_v av) (qW x hx) rfl)
 rw [if_neg (Z0 h)];exact aD (br (ah e_v av) (HD x hx) rfl)
end
end N50
end
section
namespace N50
open PySem L2
section
variable {P:Program} {w:World} {K:W.Frag} {mg:Str->Option Value} {base:Heap} {t:Adr}
set_option maxHeartbeats 0
def IL (t:Adr):{G:DS // ∀ {P w K mg base a d},Txt w K mg t->Fun K "law" "law" (U2 80) a d->qt P w K mg base CX0 10 a d ["_law_script"] (spF (cD 9 1 G) K)}:=⟨_,λ T F=>oLD ["_law_script","_law_pool_here","_law_k","_law_cell_here","_law_draw","_law_kind","_law_text","_law_j","_law_due"] F λ hr nd=>
 (ae (bK 1 nd (aq (vZ T) hr (bT (aa 0) ai))) (ae (bJ (zg T.dB (aU (ay (fX (aa 0) (ax ai) (ax ai))))) (gr (n:=2) (bO (aW 2 nd) (bO (aW 3 nd) eU))) (ae (bK 4 nd (aq (bU T) hr (bT (aa 3) (aP ai (aa 2))))) (ae (bK 5 nd (bD (aa 4) ai)) (ae (bK 6 nd (aq (uf T) hr (aJ (aa 5) (ik (aa 3) (aq (gC T) hr (bT (aa 0) (aP ai (aa 2)))) (aa 1))))) (ae (bJ (cY T.lC (aU (bD (bc (aa 4) ai) ai))) (aW 7 nd) (ag (bK 6 nd (aq (sk T) hr (ik (aa 6) (aP (aa 3) (aa 2)) (aP ai (lu ai (aa 7)))))))) (ae (bK 8 nd Eo) (ae (au (aH (aq (AK T) hr (bT (aa 5) (aa 6)))) (ag (bK 8 nd (aa 6))) ak) (ag (au (bS (aq (uh T) hr (bT (aa 5) (aa 6))) (aa 8)) (ag (aj bG)) ak))))))))) (ag (aj bG))))⟩
def IM (t:Adr):=cD 9 1 (IL t).1
end
end N50
end
section
namespace N50
open PySem L2 PF
theorem sA {α:Type} {f:α->D} {P:α->Prop}:∀ {ds:List D},(∀ d ∈ ds,∃ a,g d=some (f a)/\P a)->∃ as:List α,vn g ds=some (as.map f)/\as.length=ds.length/\∀ a ∈ as,P a
 | [],_=>⟨[],rfl,rfl,λ a ha=>nomatch ha⟩
 | d::ds,h=>by
  obtain ⟨a,e,p⟩:=h d (by simp);obtain ⟨as,e2,l,p2⟩:=sA (ds:=ds) λ x hx=>h x (Za _ hx)
  exact ⟨a::as,A0 e e2,by rw [Zi,Zi,l],λ x hx=>(Zd.mp hx).elim (λ z=>z ▸ p) (p2 x)⟩
theorem C9 (ht:t < 10 ^ 30) (hb:b < 10 ^ 30):(Rt t b).length<=100:=by
 have:=HG ht hb (y:="") (z:="") (by decide +kernel) (by decide +kernel);rw [U1,U1] at this;omega
theorem C4 (h:NW l pp rs) (h2:pp.length<=2) (h3:rs.length<=3):(RX l pp rs).length<=5000:=by
 have a:(JP pp).length<=(2250+CO.length) * (pp.map PTx).length:=jw _ (all_map λ r hr=>sf (h.po r hr));have b:(JR rs).length<=(130+SE.length) * (rs.map Rw.text).length:=jw _ (all_map λ r hr=>rW (h.ro r hr));rw [Zk,show CO.length=2 from rfl] at a;rw [Zk,show SE.length=2 from rfl] at b
 have c:(BR rs).length<=(JR rs).length+4:=by
  unfold BR;split
  · rw [show Str.length ("{ }":Str)=3 by decide +kernel]; omega
  · rw [U1,U1,show Str.length ("{ ":Str)=2 by decide +kernel,show Str.length (" }":Str)=2 by decide +kernel]; omega
 have tl:=vC h.hl;have b1:=lb;unfold RX HDx;rw [U1,U1,U1,U1];omega
theorem GG {xs:List Str} (hx:∀ x ∈ xs,a7 x=true) (h4:xs.length=4) (k c o:Int):∃ x:Str,jk [.int k,.int c,.int o,.lst (xs.map .str)]=some (.shr (.str x))/\x.length<=5000:=by
 suffices g:∃ d,jk [.int k,.int c,.int o,.lst (xs.map .str)]=some (.shr d)/\∃ x:Str,d=.str x/\x.length<=5000 by
  obtain ⟨d,e,x,rfl,l⟩:=g;exact ⟨x,e,l⟩
 refine qF ?_
 obtain ⟨r,er,r0,r1⟩:=lL c (w:=1) (by decide) (by decide);refine dD (aI (br (ah (ao rfl) (ah Uf av)) er rfl)) ?_
 obtain ⟨ps,ep,lp,hp⟩:=sA (ds:=yC 0 3) (g:=λ d=>dOp oIx (dFn fQ bR) (dOp oMod (dOp oDiv (aM 1) (dOp jE (dC (.int 1)) (dOp DK (dC (.int 13)) (aM 0)))) (dC (.int 13))) [.shr d,.shr (.int r)]) λ d hd=>by
  obtain ⟨j,hj,rfl⟩:=vG hd;obtain ⟨x,ex,hx⟩:=jL (P:=(· ∈ props)) (λ x h=>h) (em0 _ (by decide)) (em1 _ (by decide))
  have sz:Sz (1+13 * (j:Int)):=by
   have:=RB (Zl (show 1+13 * j < 100 by omega) (by decide +kernel));rw [show ((1+13 * j:Nat):Int)=1+13 * (j:Int) by omega] at this;exact this
  exact ⟨x,ar (br av oH rfl) (ar (ar (ao rfl) (ar Uf (ar Uf (ao rfl) (qU (by decide) (by decide))) (a8 _ _)) (bL (by omega) sz)) Uf (aO (by decide))) ex,hx⟩
 refine dD (aI (gq (yN (ah Uf av) (by decide)) (by rw [iw]; decide) ep)) ?_
 obtain ⟨rs,ers,lr,hr⟩:=sA (f:=Rw.D) (P:=Rw.ok) (g:=λ d=>mM (aG (aM 0) (aG (dFn jm (aG (aM 0) (aG (aM 1) (aG (aM 2) (aG (dOp jE (dC (.int 2)) (dOp oMod (aM 3) (dC (.int 5)))) bR))))) (aG (dOp oEq (dOp oMod (dOp oDiv (aM 3) (dC (.int 7))) (dC (.int 2))) (dC (.int 0))) bR))) [.shr d,.shr (.int c),.shr (.int o),.shr (.int r)]) λ d hd=>by
  obtain ⟨p,hpp,rfl⟩:=Xn.mp hd;obtain ⟨nd,en,v,rfl,ok,vp⟩:=Hh (hp p hpp) c o (w:=2+r % 5) (by omega) (by omega);exact ⟨⟨p,v,decide (r / 7 % 2=0)⟩,bf (ah (ao rfl) (ah (br (ah (ao rfl) (ah (ao rfl) (ah (ao rfl) (ah (ar Uf (U3 rfl (aO (by decide))) (a8 _ _)) av)))) en rfl) (ah (ar (ar (U3 rfl (bL (by decide) (by decide +kernel))) Uf (aO (by decide))) Uf (bp _ _)) av))) (Zb rfl),⟨hp p hpp,ok,vp⟩⟩
 rw [iw] at lp;rw [Zk,lp] at lr;refine dD (aI (gq (uC (ao rfl)) (by rw [Zk,lp]; decide) ers)) ?_
 obtain ⟨r1',rs',rfl⟩:∃ a as,rs=a::as:=by
  cases rs with
  | nil=>exact nomatch lr
  | cons a as=>exact ⟨a,as,rfl⟩
 have ok1:=hr r1' (by simp);have kq:∀ {τ:List Sl} (j:Int),τ[0]?=some (.shr (.int k))->dT (dOp oEq (aM 0) (dC (.int j))) τ=some (decide (k=j)):=λ j e=>aw (ar (ao e) Uf (bp _ _))
 refine vk (kq 0 rfl) (λ _=>?_) (λ _=>?_)
 ·have a0:=em0 r (k:=31) (by decide)
  obtain ⟨n,en⟩:=iF a0;obtain ⟨m,em⟩:=iF (x:=1+r / 31 % 12) (by omega);have hn:n < 10 ^ 30:=Zl (show n < 100 by omega) (by decide +kernel);have hm:m < 10 ^ 30:=Zl (show m < 100 by omega) (by decide +kernel);refine mr (br (ah ((U3 rfl (aO (by decide))).trans (by rw [en])) (ah ((ar Uf (ar (U3 rfl (bL (by decide) (by decide +kernel))) Uf (aO (by decide))) (a8 _ _)).trans (by rw [em])) av)) (dY (yv hn) (yv hm)) rfl) ⟨_,rfl,?_⟩;have:=C9 hn hm;omega
 refine vk (kq 1 rfl) (λ _=>?_) (λ _=>?_)
 ·refine mr (br (ah (ar (U3 rfl (cq _ _)) Uf (b5 _ _ _)) av) (mi (CU ok1.ho)) rfl) ⟨_,rfl,?_⟩
  have:=text_len ok1.ho;omega
 refine vk (kq 2 rfl) (λ _=>?_) (λ _=>?_)
 ·refine mr (br (ah (U3 rfl (cq _ _)) av) (qN ok1.hp ok1.ho) rfl) ⟨_,rfl,?_⟩
  have:=rW ok1;exact Zs this (by decide)
 refine vk (kq 3 rfl) (λ _=>?_) (λ _=>?_)
 ·have a0:=em0 r (k:=2) (by decide)
  obtain ⟨pt,ed,ok,ln⟩:=BP hx h4 c (w:=3) (n:=1+r % 2) (m:=3) (by decide) (by decide) (by omega) (by omega) (by decide) (by decide);refine mr (br (ah (br (ah (ao rfl) (ah Uf (ah (ao rfl) (ah (ar Uf (U3 rfl (aO (by decide))) (a8 _ _)) (ah Uf av))))) ed rfl) av) (jI ok.ok) rfl) ⟨_,rfl,?_⟩;have:=sf ⟨ok,by omega⟩;omega
 have c0:=em0 r (k:=10) (by decide)
 obtain ⟨pp,epp,lpp,hpp⟩:=sA (P:=λ ps=>Jd ps/\ps.length<=3) (ds:=yC 0 (1+r / 6 % 2).toNat) (g:=λ d=>dFn jh (aG (aM 1) (aG (dOp jE (dC (.int 4)) (aM 0)) (aG (aM 2) (aG (dOp jE (dC (.int 1)) (dOp oMod (dOp oDiv (aM 3) (dC (.int 3))) (dC (.int 2)))) (aG (dC (.int 3)) bR))))) [.shr d,.shr (.int c),.shr (.lst (xs.map .str)),.shr (.int r)]) λ d hm=>by
  obtain ⟨i,hi,rfl⟩:=vG hm;obtain ⟨ps,ed,ok,ln⟩:=BP hx h4 c (w:=4+(i:Int)) (n:=1+r / 3 % 2) (m:=3) (by omega) (by omega) (by omega) (by omega) (by decide) (by decide);exact ⟨ps,br (ah (ao rfl) (ah (ar Uf (ao rfl) (a8 _ _)) (ah (ao rfl) (ah (ar Uf (ar (U3 rfl (bL (by decide) (by decide +kernel))) Uf (aO (by decide))) (a8 _ _)) (ah Uf av))))) ed rfl,ok,by omega⟩
 rw [iw] at lpp;refine dD (aI (gq (yN (ah (ar Uf (ar (U3 rfl (bL (by decide) (by decide +kernel))) Uf (aO (by decide))) (a8 _ _)) av) (by omega)) (by rw [iw]; omega) epp)) ?_
 obtain ⟨l,el⟩:=iF c0
 obtain ⟨rr,er2,lr2,hr2⟩:∃ rr:List Rw,oSl (.lst ((r1'::rs').map Rw.D)) none (some (r / 12 % 4))=some (.lst (rr.map Rw.D))/\rr.length<=3/\∀ q ∈ rr,q.ok:=by
  refine ⟨((r1'::rs').drop (HT.sIx (r1'::rs').length 0 none)).take (HT.sIx (r1'::rs').length (r1'::rs').length (some (r / 12 % 4)) - HT.sIx (r1'::rs').length 0 none),?_,?_,λ q hq=>hr q (Wb (Y0 hq))⟩
  ·show some (D.lst (cutD ((r1'::rs').map Rw.D) _ _))=_
   unfold cutD;rw [Zk,<- List.map_drop,<- List.map_take]
  ·rw [Yh,Y7,lr]
   omega
 have ok:NW l pp rr:=⟨by omega,(λ z=>by rw [z] at lpp; have lpp:0=(1+r / 6 % 2).toNat:=lpp; omega),by omega,hpp,by omega,hr2⟩
 refine rY (br (ah (bf (ah ((U3 rfl (aO (by decide))).trans (by rw [el])) (ah (aS (ah (ao rfl) av) rfl) (ah (aS (ah (CJ (ao rfl) kI (be (ar (U3 rfl (bL (by decide) (by decide +kernel))) Uf (aO (by decide)))) er2) av) rfl) av))) (Zb rfl)) av) (vE ok) rfl) ⟨_,rfl,C4 ok (by omega) lr2⟩
def TL (f:DE) (τ:List Sl) (n:Nat):Prop:=∃ y:Str,f τ=some (.str y)/\y.length<=n
theorem kK (h1:TL f τ n) (h2:TL g τ m) (h:n+m<=100000):TL (dOp jE f g) τ (n+m):=by
 obtain ⟨y,e1,l1⟩:=h1;obtain ⟨z,e2,l2⟩:=h2;exact ⟨y++z,ar e1 e2 (bu (by omega)),by rw [U1]; omega⟩
def nt {τ:List Sl} {l u:DO} {x:Str} {lo hi:Option Int} (e:τ[0]?=some (.shr (.str x))) (h1:l τ=some lo) (h2:u τ=some hi) (h:x.length<=100000):TL (qJ (aM 0) l u) τ x.length:=⟨_,fV (ao e) h1 h2 h,Ym _ _ _⟩
def Jy {τ:List Sl} {f g:DE} {xs:List Str} {n:Nat} {j:Int} (h1:f τ=some (.lst (xs.map .str))) (h2:g τ=some (.int j)) (j0:0<=j) (j1:j < xs.length) (h:∀ x ∈ xs,x.length<=n):TL (dOp oIx f g) τ n:=by
 obtain ⟨x,e,l⟩:=jL (P:=λ x=>x.length<=n) h j0 j1;exact ⟨x,ar h1 h2 e,l⟩
theorem tI (h:TL f τ n) (hm:n<=m):Ret (λ d=>∃ y:Str,d=.str y/\y.length<=m) (fu (nD f) g τ):=by
 obtain ⟨y,e,l⟩:=h;exact mr e ⟨y,rfl,by omega⟩
theorem C0 {x:Str} (hx:x.length<=16000) (c:Int) {w:Int} (w0:0<=w) (w1:w<=9000):∃ y:Str,eR [.str x,.int c,.int w]=some (.shr (.str y))/\y.length<=3 * x.length+30:=by
 suffices g:∃ d,eR [.str x,.int c,.int w]=some (.shr d)/\∃ y:Str,d=.str y/\y.length<=3 * x.length+30 by
  obtain ⟨d,e,y,rfl,l⟩:=g;exact ⟨y,e,l⟩
 unfold eR gO; dsimp only
 refine qF ?_
 obtain ⟨r,er,r0,r1⟩:=lL c (w:=w) w0 (by omega);obtain ⟨r1',er1,_,_⟩:=lL c (w:=w+1) (by omega) (by omega);obtain ⟨r2',er2,_,_⟩:=lL c (w:=w+2) (by omega) (by omega);obtain ⟨r3',er3,_,_⟩:=lL c (w:=w+3) (by omega) (by omega);have xl:x.length<=100000:=by omega
 have hl:jD [.str x]=some (.int (x.length:Int)):=sE (by omega);refine dD (aI Uf) (dD (aI (U3 rfl (bu (Zb (by decide +kernel))))) ?_);generalize ez:(" !\"#$&'()*+,-./0123456789:;<=>?@ABCDEFGHIJKLMNOPQRSTUVWXYZ[\\]^_`":Str)++("abcdefghijklmnopqrstuvwxyz{|}~\n\t":Str)=z;have z0:0 < z.length/\z.length<=50000:=by rw [<- ez]; decide +kernel
 have ix:∀ {j:Int},0<=j->j < z.length->∃ y:Str,oIx (.str z) (.int j)=some (.str y)/\y.length<=1:=λ {j} j0 j1=>by
  obtain ⟨n,rfl⟩:=iF j0;have hn:n < z.cps.toList.length:=by rw [aQ]; omega
  exact ⟨⟨#[z.cps.toList[n]]⟩,qC (by omega) (List.getElem?_eq_getElem hn),Zo 1⟩
 refine dD (aI (br (ah (ao rfl) (ah (ao rfl) av)) er rfl)) (dD (aI (ar (U3 rfl (bL (by decide) (by decide +kernel))) (ar (aS (ah (ao rfl) av) hl) Uf (a8 _ _)) (aO (by omega)))) ?_);generalize r / 8 % ((x.length:Int)+1)=a;have kq:∀ {τ:List Sl} (j:Int),τ[4]?=some (.shr (.int r))->dT (dOp oEq (dOp oMod (aM 4) (dC (.int 8))) (dC (.int j))) τ=some (decide (r % 8=j)):=λ j e=>aw (ar (ar (ao e) Uf (aO (by decide))) Uf (bp _ _))
 have em:DJ (.str "1") (.int 30)=some (.str (GI "1" 30)):=by unfold DJ; exact if_pos ⟨by decide +kernel,by decide,by decide⟩
 have l3:∀ y ∈ [GI "1" 30,("0":Str),(" ":Str),("/1":Str),("/0":Str),(" !":Str),("/2":Str),(".":Str)],y.length<=30:=by decide +kernel
 refine vk (dU (kq 0 rfl) (kq 1 rfl)) (λ _=>?_) (λ _=>?_)
 · exact tI (kK (nt rfl kI (be (ao rfl)) xl) (nt rfl (be (U3 rfl (a8 _ _))) kI xl) (by omega)) (by omega)
 refine vk (kq 2 rfl) (λ _=>?_) (λ _=>?_)
 · exact tI (kK (kK (nt rfl kI (be (ao rfl)) xl) (nt rfl (be (ao rfl)) (be (U3 rfl (a8 _ _))) xl) (by omega)) (nt rfl (be (ao rfl)) kI xl) (by omega)) (by omega)
 refine vk (kq 3 rfl) (λ _=>?_) (λ _=>?_)
 · exact tI (kK (kK (nt rfl kI (be (ao rfl)) xl) (Jy (n:=30) (xs:=[GI "1" 30,"0"," ","/1","/0"," !","/2","."]) (fb (ah (ar Uf Uf em) (ah Uf (ah Uf (ah Uf (ah Uf (ah Uf (ah Uf (ah Uf av)))))))) (Zb rfl)) (ar (br (ah (ao rfl) (ah (U3 rfl (a8 _ _)) av)) er1 rfl) Uf (aO (by decide))) (em0 _ (by decide)) (em1 _ (by decide)) l3) (by omega)) (nt rfl (be (ao rfl)) kI xl) (by omega)) (by omega)
 refine vk (kq 4 rfl) (λ _=>?_) (λ _=>?_)
 · exact tI (kK (kK (nt rfl kI (be (ao rfl)) xl) (nt rfl (be (aS (ah Uf (ah (U3 rfl (jv _ _)) av)) rfl)) (be (ao rfl)) xl) (by omega)) (nt rfl (be (ao rfl)) kI xl) (by omega)) (by omega)
 refine vk (kq 5 rfl) (λ _=>?_) (λ _=>?_)
 ·have s1:=Ym x none (some a)
  have l1:Str.length ("0":Str)=1:=by decide +kernel
  have l2:Str.length (" >":Str)=2:=by decide +kernel
  have l4:Str.length ("+ ":Str)=2:=by decide +kernel
  have l5:Str.length (" !":Str)=2:=by decide +kernel
  refine tI (n:=x.length+2) (Jy (xs:=[("":Str),Txt.slice x none (some a),x++(" >":Str),("+ ":Str)++x,x++(" !":Str),("0":Str)++x]) (fb (ah Uf (ah (fV (ao rfl) kI (be (ao rfl)) xl) (ah (U3 rfl (bu (by omega))) (ah (ar Uf (ao rfl) (bu (by omega))) (ah (U3 rfl (bu (by omega))) (ah (ar Uf (ao rfl) (bu (by omega))) av)))))) (Zb rfl)) (ar (br (ah (ao rfl) (ah (U3 rfl (a8 _ _)) av)) er3 rfl) Uf (aO (by decide))) (em0 _ (by decide)) (em1 _ (by decide)) λ y hy=>?_) (by omega);simp only [Zd,Zq,Z9] at hy;rcases hy with rfl | rfl | rfl | rfl | rfl | rfl
  · rw [show Str.length ("":Str)=0 by decide +kernel]; omega
  · omega
  · rw [U1]; omega
  · rw [U1]; omega
  · rw [U1]; omega
  · rw [U1]; omega
 obtain ⟨y,ey,ly⟩:=ix (em0 r2' (k:=(z.length:Int)) (by omega)) (em1 r2' (k:=(z.length:Int)) (by omega));obtain ⟨v,ev,lv⟩:=kK (kK (nt (τ:=[.shr (.str x),.shr (.int c),.shr (.int w),.shr (.str z),.shr (.int r),.shr (.int a)]) (l:=uX) (u:=dP (aM 5)) rfl kI (be (ao rfl)) xl) (n:=x.length) (m:=1) (g:=dOp oIx (aM 3) (dOp oMod (dFn jC (aG (aM 1) (aG (dOp jE (aM 2) (dC (.int 2))) bR))) (ej jD (aG (aM 3) bR)))) ⟨y,ar (ao rfl) (ar (br (ah (ao rfl) (ah (U3 rfl (a8 _ _)) av)) er2 rfl) (aS (ah (ao rfl) av) (sE z0.2)) (aO (by omega))) ey,ly⟩ (by omega)) (nt (l:=dP (dOp jE (aM 5) (dOp oMod (aM 4) (dC (.int 2))))) (u:=uX) rfl (be (ar (ao rfl) (U3 rfl (aO (by decide))) (a8 _ _))) kI xl) (by omega);exact rY ev ⟨v,rfl,by omega⟩
def D9 {cs:List Int} {j:Nat} {d:D} (h:(c7 (cs.map .int))[j]?=some d):∃ c:Int,d=.tup [.int (j:Int),.int c]/\j < cs.length:=by
 obtain ⟨a,ea,rfl⟩:=wH h;rw [List.getElem?_map] at ea;obtain ⟨c,hc,rfl⟩:=Zm ea;exact ⟨c,rfl,(List.getElem?_eq_some_iff.mp hc).1⟩
theorem JM (ns:List Int):∃ cs:List Int,oSl (scr ns) (some 2) (some 18)=some (.lst (cs.map .int))/\cs.length<=16:=by
 refine ⟨(ns.drop (HT.sIx ns.length 0 (some 2))).take (HT.sIx ns.length ns.length (some 18) - HT.sIx ns.length 0 (some 2)),?_,?_⟩
 ·show some (D.lst (cutD (ns.map .int) _ _))=_
  unfold cutD;rw [Zk,<- List.map_drop,<- List.map_take]
 ·have e1:=HT.vD ns.length 0 2
  have e2:=HT.vD ns.length ns.length 18;rw [show ((2:Nat):Int)=2 from rfl] at e1;rw [show ((18:Nat):Int)=18 from rfl] at e2;rw [e1,e2,Yh];omega
def IJ (k:Int) (hx:x.length<=50000):fR [.int k,.str x]=some (.shr (if okK k x=true then .str x else .non)):=if_pos hx
theorem DQ (t:Adr) (ns:List Int) (h63:ns.length<=63):IM t [.fz (ns.map .int)]=some (.shr (.bl true)):=by
 obtain ⟨na,nb,nc,nd,ep,ha,hb,hc,hd⟩:=Kb ns
 obtain ⟨xs,ex,hx,h4⟩:∃ xs:List Str,D.lst [.str na,.str nb,.str nc,.str nd]=.lst (xs.map .str)/\(∀ x ∈ xs,a7 x=true)/\xs.length=4:=⟨[na,nb,nc,nd],rfl,λ x m=>by
  simp only [Zd,Zq,Z9] at m;rcases m with rfl | rfl | rfl | rfl
  · exact ha
  · exact hb
  · exact hc
  · exact hd,rfl⟩
 rw [ex] at ep;have step:∀ {Q:List Sl->Prop} {f g:DS} {τ:List Sl} (R:List Sl->Prop),Nx R (f τ)->(∀ τ',R τ'->Nx Q (g τ'))->Nx Q (fu f g τ):=λ R ⟨τ',e,p⟩ k=>j5 e (k τ' p)
 have g:∃ d,IM t [scr ns]=some (.shr d)/\d=.bl true:=by
  unfold IM IL; dsimp only
  refine qF ?_
  refine dD (aI (br (ah (ao rfl) (ah Uf av)) ep rfl)) ?_
  obtain ⟨cs,es,lc⟩:=JM ns;refine CG (R:=λ _=>True) ?_ (λ τ _=>rY Uf rfl)
  refine sy (ds:=c7 (cs.map .int)) (λ _ τ=>∃ x2 x3 x4 x5 x6 x7 x8:Sl,τ=[.shr (scr ns),.shr (.lst (xs.map .str)),x2,x3,x4,x5,x6,x7,x8]) ?_ ⟨_,_,_,_,_,_,_,rfl⟩ (λ j d τ hd ⟨x2,x3,x4,x5,x6,x7,x8,hτ⟩=>?_) (λ _ _=>trivial)
  ·unfold FQ
   rw [ah (CJ (ao rfl) (be Uf) (be Uf) es) av];rfl
  subst hτ;obtain ⟨c,rfl,jl⟩:=D9 hd;refine ⟨[.shr (scr ns),.shr (.lst (xs.map .str)),.shr (.int (j:Int)),.shr (.int c),x4,x5,x6,x7,x8],rfl,?_⟩;obtain ⟨r,er,_,_⟩:=lL c (w:=90+(j:Int)) (by omega) (by omega);obtain ⟨c2,ec⟩:=Ce ns (k:=1+(j:Int)) (by omega);refine j5 (aI (br (ah (ao rfl) (ah (ar Uf (ao rfl) (a8 _ _)) av)) er rfl)) ?_
  refine j5 (aI (U3 rfl (aO (by decide)))) ?_
  generalize r % 5=k;obtain ⟨x,exx,lx⟩:=GG hx h4 k c c2;refine j5 (aI (br (ah (ao rfl) (ah (ao rfl) (ah (br (ah (ao rfl) (ah (ar Uf (ao rfl) (a8 _ _)) av)) ec rfl) (ah (ao rfl) av)))) exx rfl)) ?_
  have m0:=em0 (r / 5) (k:=3) (by decide);have m1:=em1 (r / 5) (k:=3) (by decide);refine step (λ τ=>∃ (y:Str) (y7:Sl),y.length<=50000/\τ=[.shr (scr ns),.shr (.lst (xs.map .str)),.shr (.int (j:Int)),.shr (.int c),.shr (.int r),.shr (.int k),.shr (.str y),y7,x8]) (sy (λ i τ=>∃ (y:Str) (y7:Sl),y.length<=(if i=0 then 5000 else if i=1 then 15030 else 45120)/\τ=[.shr (scr ns),.shr (.lst (xs.map .str)),.shr (.int (j:Int)),.shr (.int c),.shr (.int r),.shr (.int k),.shr (.str y),y7,x8]) (yN (j:=r / 5 % 3) (ah (ar (U3 rfl (bL (by decide) (by decide +kernel))) Uf (aO (by decide))) av) (by omega)) ⟨x,_,lx,rfl⟩ ?_ λ τ' ⟨y,y7,l,e⟩=>⟨y,y7,?_,e⟩) ?_
  ·rintro i d τ ed ⟨y,y7,ly,rfl⟩
   obtain ⟨rfl,il⟩:=rX ed;have i2:i < 2:=by omega
   rw [Int.zero_add]
   have l16:y.length<=16000:=by
    split at ly
    · omega
    · split at ly <;> omega
   obtain ⟨y',ey,ly'⟩:=C0 l16 (c+(j:Int)) (w:=95+7 * (i:Int)) (by omega) (by omega);refine ⟨[.shr (scr ns),.shr (.lst (xs.map .str)),.shr (.int (j:Int)),.shr (.int c),.shr (.int r),.shr (.int k),.shr (.str y),.shr (.int (i:Int)),x8],rfl,xF (aI (br (ah (ao rfl) (ah (ar (ao rfl) (ao rfl) (a8 _ _)) (ah (ar Uf (ar Uf (ao rfl) (qU (by decide) (by decide))) (a8 _ _)) av))) ey rfl)) ⟨y',_,?_,rfl⟩⟩;rw [if_neg (by omega)];split at ly
   ·rw [if_pos (by omega)]
    omega
   · split at ly <;> split <;> omega
  ·split at l
   · omega
   · split at l <;> omega
  rintro τ ⟨y,y7,ly,rfl⟩
  refine j5 (aI Uf) ?_
  refine step (λ τ=>τ=[.shr (scr ns),.shr (.lst (xs.map .str)),.shr (.int (j:Int)),.shr (.int c),.shr (.int r),.shr (.int k),.shr (.str y),y7,.shr (if okK k y=true then .str y else .non)]) (E7 (b:=okK k y) (aw (br (ah (ao rfl) (ah (ao rfl) av)) (QN k y ly) rfl)) (λ q=>xF (aI (ao rfl)) (by rw [if_pos q]; rfl)) (λ q=>qV (by rw [if_neg (by rw [q]; decide)]; rfl))) ?_
  rintro τ rfl
  refine xF (eK (b:=false) (aw (ar (br (ah (ao rfl) (ah (ao rfl) av)) (IJ k ly) rfl) (ao rfl) ?_)) (λ z=>nomatch z) (λ _=>rfl)) ⟨_,_,_,_,_,_,_,rfl⟩;split
  · rw [cB,Ze rfl]; rfl
  · rfl
 obtain ⟨d,e,rfl⟩:=g;exact e
end N50
end
namespace N50
open PySem L2
def EF (K:W.Frag):Sp:=λ vs H Q _=>∃ (a:Addr) (ns:List Int),vs=[.ref a]/\SqL K H a (ns.map V.int)/\ns.length<=63/\∀ H',Q (.bl true) H'
def Hb {P:Program} {w:World} {K:W.Frag} {mg:Str->Option Value} {base:Heap} {t:Adr} {a d} (T:Txt w K mg t) (F:Fun K "law" "law" (U2 80) a d):qt P w K mg base CX0 10 a d ["_law_script"] (EF K):=
 ((IL t).2 T F).imp λ vs H Q E ⟨a,ns,e,hS,h63,k⟩=>by
   subst e;refine ⟨H,[.fz (ns.map .int)],_,.refl H,.cons (.fz hS (Rps.ints ns)) .nil,DQ t ns h63,λ v Hs' H' g r=>?_⟩;cases (show Rp K Hs' v (.bl true) from r);exact k H'
def u0 {P:List Value->Prop} (k:P []):∀ us,us.length=0->P us
 | [],_=>k
def u1 {P:List Value->Prop} (k:∀ x0,P [x0]):∀ us,us.length=1->P us
 | [x0],_=>k x0
def u2 {P:List Value->Prop} (k:∀ x0 x1,P [x0,x1]):∀ us,us.length=2->P us
 | [x0,x1],_=>k x0 x1
def u3 {P:List Value->Prop} (k:∀ x0 x1 x2,P [x0,x1,x2]):∀ us,us.length=3->P us
 | [x0,x1,x2],_=>k x0 x1 x2
def u4 {P:List Value->Prop} (k:∀ x0 x1 x2 x3,P [x0,x1,x2,x3]):∀ us,us.length=4->P us
 | [x0,x1,x2,x3],_=>k x0 x1 x2 x3
def u5 {P:List Value->Prop} (k:∀ x0 x1 x2 x3 x4,P [x0,x1,x2,x3,x4]):∀ us,us.length=5->P us
 | [x0,x1,x2,x3,x4],_=>k x0 x1 x2 x3 x4
def Ju {w:World} {K:W.Frag} {mg:Str->Option Value} {c0 c1 c2 c3 c4 c5 c6:Addr} (h:Txt w K mg ⟨c0,c1,c2,c3,c4,c5,c6⟩):∃ t,Txt w K mg t:=⟨_,h⟩
theorem DV {w:World} {K:W.Frag} {mg:Str->Option Value} {g:Addr} {t0 t1 t2 t3 t4:Tok} {a0 a1 a2 a3 a4:Addr} {ep:Nat} (m:mg "WORDS"=some (.ref g)) (L:K.lookup g=some ⟨.type "dict",none,.dict #[⟨PyData.keyHash w.params "wide",.str "wide" t0,.ref a0⟩,⟨PyData.keyHash w.params "most",.str "most" t1,.ref a1⟩,⟨PyData.keyHash w.params "flow",.str "flow" t2,.ref a2⟩,⟨PyData.keyHash w.params "spread",.str "spread" t3,.ref a3⟩,⟨PyData.keyHash w.params "stand",.str "stand" t4,.ref a4⟩] ep,#[]⟩) {o0:Option Addr} {s0:Array (Option Value)} {u0_0:Tok} {n0:Nat} (L0:K.lookup a0=some ⟨.type "tuple",o0,.seq #[.str "auto" u0_0] n0,s0⟩) {o1:Option Addr} {s1:Array (Option Value)} {u1_0:Tok} {n1:Nat} (L1:K.lookup a1=some ⟨.type "tuple",o1,.seq #[.str "none" u1_0] n1,s1⟩) {o2:Option Addr} {s2:Array (Option Value)} {u2_0 u2_1 u2_2 u2_3:Tok} {n2:Nat} (L2:K.lookup a2=some ⟨.type "tuple",o2,.seq #[.str "stack" u2_0,.str "row" u2_1,.str "wrap" u2_2,.str "fair" u2_3] n2,s2⟩) {o3:Option Addr} {s3:Array (Option Value)} {u3_0 u3_1 u3_2 u3_3:Tok} {n3:Nat} (L3:K.lookup a3=some ⟨.type "tuple",o3,.seq #[.str "left" u3_0,.str "middle" u3_1,.str "right" u3_2,.str "apart" u3_3] n3,s3⟩) {o4:Option Addr} {s4:Array (Option Value)} {u4_0 u4_1 u4_2 u4_3:Tok} {n4:Nat} (L4:K.lookup a4=some ⟨.type "tuple",o4,.seq #[.str "top" u4_0,.str "middle" u4_1,.str "bottom" u4_2,.str "full" u4_3] n4,s4⟩) (Zn:(g == sysModules)=false):Kd2 w K mg "WORDS" g jq:=⟨m,⟨QS (es:=[⟨PyData.keyHash w.params "wide",.str "wide" t0,.ref a0⟩,⟨PyData.keyHash w.params "most",.str "most" t1,.ref a1⟩,⟨PyData.keyHash w.params "flow",.str "flow" t2,.ref a2⟩,⟨PyData.keyHash w.params "spread",.str "spread" t3,.ref a3⟩,⟨PyData.keyHash w.params "stand",.str "stand" t4,.ref a4⟩]) L (by decide +kernel) (.cons (v:=.ref a0) rfl rfl (λ H=>.tup (xs:=[.str "auto"]) (.inr ⟨_,_,_,L0,rfl,rfl,by show 1<=sizeLine; decide,(.cons ⟨_,rfl⟩ .nil)⟩) (.cons (.str _) .nil)) (.cons (v:=.ref a1) rfl rfl (λ H=>.tup (xs:=[.str "none"]) (.inr ⟨_,_,_,L1,rfl,rfl,by show 1<=sizeLine; decide,(.cons ⟨_,rfl⟩ .nil)⟩) (.cons (.str _) .nil)) (.cons (v:=.ref a2) rfl rfl (λ H=>.tup (xs:=[.str "stack",.str "row",.str "wrap",.str "fair"]) (.inr ⟨_,_,_,L2,rfl,rfl,by show 4<=sizeLine; decide,(.cons ⟨_,rfl⟩ (.cons ⟨_,rfl⟩ (.cons ⟨_,rfl⟩ (.cons ⟨_,rfl⟩ .nil))))⟩) (.cons (.str _) (.cons (.str _) (.cons (.str _) (.cons (.str _) .nil))))) (.cons (v:=.ref a3) rfl rfl (λ H=>.tup (xs:=[.str "left",.str "middle",.str "right",.str "apart"]) (.inr ⟨_,_,_,L3,rfl,rfl,by show 4<=sizeLine; decide,(.cons ⟨_,rfl⟩ (.cons ⟨_,rfl⟩ (.cons ⟨_,rfl⟩ (.cons ⟨_,rfl⟩ .nil))))⟩) (.cons (.str _) (.cons (.str _) (.cons (.str _) (.cons (.str _) .nil))))) (.cons (v:=.ref a4) rfl rfl (λ H=>.tup (xs:=[.str "top",.str "middle",.str "bottom",.str "full"]) (.inr ⟨_,_,_,L4,rfl,rfl,by show 4<=sizeLine; decide,(.cons ⟨_,rfl⟩ (.cons ⟨_,rfl⟩ (.cons ⟨_,rfl⟩ (.cons ⟨_,rfl⟩ .nil))))⟩) (.cons (.str _) (.cons (.str _) (.cons (.str _) (.cons (.str _) .nil))))) .nil))))),Zn,⟨_,L,rfl⟩⟩⟩
end N50
open PySem PySem.W PyProof.Rows
set_option maxRecDepth 100000 in
set_option maxHeartbeats 0 in
theorem PySem.Challenge.cw_stylehouse_k50_texts_refused_holds : PySem.Challenge.rw_stylehouse_k50_texts_refused.Holds := by
 refine PySem.W.holds_law HD50.LU fun said=>?_
 refine HD50.LX said ?hw (by rfl) (by rfl) (by rfl) ?hc
 case hw=>w_witness2
 k_fill
 refine L2.CS (fun P=>rfl) ?_
 refine L2.CQ (l:=zHl) (n:=63) (k:=10) (x:="_law_script") (CX:=L2.CX0) (sp:=N50.EF) rfl (by decide) rfl ⟨rfl,by decide,by decide⟩ (fun w h Y=>Y) ?F ?S ?C
 case F=>
  intro w mg fa h KX G hmg
  have T:∃ t,N50.Txt w (L2.KOf KX) mg t:=by
   dsimp only [L2.KOf]
   refine' N50.Ju ?h
   case h=>
   constructor
   case mD=>exact PySem.W.mg_of KX G (by k_is)
   case cv=>exact PySem.W.mg_of KX G (by k_is)
   case mC=>exact PySem.W.mg_of KX G (by k_is)
   case A2=>exact PySem.W.mg_of KX G (by k_is)
   case uv=>exact PySem.W.mg_of KX G (by k_is)
   case uu=>exact PySem.W.mg_of KX G (by k_is)
   exact L2.Fn0.df ⟨_,_,_,_,_,_,_,_,_,by k_is,by k_is,by k_is,by k_is⟩ KX G fun _ _ _ _ _ _=>N50.u0 rfl
   iterate 35 (exact L2.Fn0.df ⟨_,_,_,_,_,_,_,_,_,by k_is,by k_is,by k_is,by k_is⟩ KX G fun _ _ _ _ _ _=>N50.u1 fun _=>rfl)
   exact L2.QO ⟨_,_,_,_,_,_,_,_,_,by k_is,by k_is,by k_is,by k_is⟩ KX G (fun _ _ _ _ _ _ s v=>.of_eq rfl)
   iterate 17 (exact L2.Fn0.df ⟨_,_,_,_,_,_,_,_,_,by k_is,by k_is,by k_is,by k_is⟩ KX G fun _ _ _ _ _ _=>N50.u2 fun _ _=>rfl)
   exact L2.Fn0.df ⟨_,_,_,_,_,_,_,_,_,by k_is,by k_is,by k_is,by k_is⟩ KX G fun _ _ _ _ _ _=>N50.u3 fun _ _ _=>rfl
   iterate 3 (exact L2.Fn0.df ⟨_,_,_,_,_,_,_,_,_,by k_is,by k_is,by k_is,by k_is⟩ KX G fun _ _ _ _ _ _=>N50.u4 fun _ _ _ _=>rfl)
   exact L2.Fn0.df ⟨_,_,_,_,_,_,_,_,_,by k_is,by k_is,by k_is,by k_is⟩ KX G fun _ _ _ _ _ _=>N50.u5 fun _ _ _ _ _=>rfl
   iterate 13 (exact PySem.W.mg_none_of KX G (by k_is))
   exact ⟨_,PySem.W.mg_of KX G (by k_is)⟩
   exact ⟨_,PySem.W.mg_of KX G (by k_is),fun H=>.tup (xs:=[.str "ink",.str "size",.str "wide",.str "least",.str "most",.str "grow",.str "shrink",.str "gap",.str "pad",.str "tall",.str "flow",.str "spread",.str "stand"]) (.inr ⟨_,_,_,(by k_is),rfl,rfl,by show 13<=PySem.sizeLine; decide,(.cons ⟨_,rfl⟩ (.cons ⟨_,rfl⟩ (.cons ⟨_,rfl⟩ (.cons ⟨_,rfl⟩ (.cons ⟨_,rfl⟩ (.cons ⟨_,rfl⟩ (.cons ⟨_,rfl⟩ (.cons ⟨_,rfl⟩ (.cons ⟨_,rfl⟩ (.cons ⟨_,rfl⟩ (.cons ⟨_,rfl⟩ (.cons ⟨_,rfl⟩ (.cons ⟨_,rfl⟩ .nil)))))))))))))⟩) (.cons (.str _) (.cons (.str _) (.cons (.str _) (.cons (.str _) (.cons (.str _) (.cons (.str _) (.cons (.str _) (.cons (.str _) (.cons (.str _) (.cons (.str _) (.cons (.str _) (.cons (.str _) (.cons (.str _) .nil)))))))))))))⟩
   exact ⟨_,PySem.W.mg_of KX G (by k_is),fun H=>.tup (xs:=[.str "size",.str "wide",.str "least",.str "most",.str "grow",.str "shrink",.str "gap",.str "pad",.str "tall"]) (.inr ⟨_,_,_,(by k_is),rfl,rfl,by show 9<=PySem.sizeLine; decide,(.cons ⟨_,rfl⟩ (.cons ⟨_,rfl⟩ (.cons ⟨_,rfl⟩ (.cons ⟨_,rfl⟩ (.cons ⟨_,rfl⟩ (.cons ⟨_,rfl⟩ (.cons ⟨_,rfl⟩ (.cons ⟨_,rfl⟩ (.cons ⟨_,rfl⟩ .nil)))))))))⟩) (.cons (.str _) (.cons (.str _) (.cons (.str _) (.cons (.str _) (.cons (.str _) (.cons (.str _) (.cons (.str _) (.cons (.str _) (.cons (.str _) .nil)))))))))⟩
   exact ⟨_,PySem.W.mg_of KX G (by k_is),fun H=>.tup (xs:=[.str "wide",.str "least",.str "most"]) (.inr ⟨_,_,_,(by k_is),rfl,rfl,by show 3<=PySem.sizeLine; decide,(.cons ⟨_,rfl⟩ (.cons ⟨_,rfl⟩ (.cons ⟨_,rfl⟩ .nil)))⟩) (.cons (.str _) (.cons (.str _) (.cons (.str _) .nil)))⟩
   exact ⟨_,PySem.W.mg_of KX G (by k_is)⟩
   exact ⟨_,PySem.W.mg_of KX G (by k_is),fun H=>.tup (xs:=[.str ".",.str "!",.str "@",.str "^"]) (.inr ⟨_,_,_,(by k_is),rfl,rfl,by show 4<=PySem.sizeLine; decide,(.cons ⟨_,rfl⟩ (.cons ⟨_,rfl⟩ (.cons ⟨_,rfl⟩ (.cons ⟨_,rfl⟩ .nil))))⟩) (.cons (.str _) (.cons (.str _) (.cons (.str _) (.cons (.str _) .nil))))⟩
   exact ⟨_,PySem.W.mg_of KX G (by k_is),fun H=>.tup (xs:=[.str ">",.str "+",.str "~"]) (.inr ⟨_,_,_,(by k_is),rfl,rfl,by show 3<=PySem.sizeLine; decide,(.cons ⟨_,rfl⟩ (.cons ⟨_,rfl⟩ (.cons ⟨_,rfl⟩ .nil)))⟩) (.cons (.str _) (.cons (.str _) (.cons (.str _) .nil)))⟩
   iterate 6 (kernel_rfl)
   refine' N50.DV (PySem.W.mg_of KX G ?m0) ?m1 ?m2 ?m3 ?m4 ?m5 ?m6 ?m7
   (case m0=>k_is)
   (case m1=>k_is)
   (case m2=>k_is)
   (case m3=>k_is)
   (case m4=>k_is)
   (case m5=>k_is)
   (case m6=>k_is)
   (case m7=>rfl)
  obtain ⟨t,T⟩:=T
  obtain ⟨a,d,Fl,ml,bl⟩:=T.Q7
  have e0:=hmg.symm.trans ml
  cases e0
  exact ⟨d,bl,fun base kb nb=>N50.Hb T Fl⟩
 case S=>exact fun K H a ns hl hO hS=>⟨a,ns,rfl,hS,hl,fun _=>rfl⟩
 case C=>exact fun H s e s' z=>z
