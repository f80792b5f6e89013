import PyProof.Rows.All
import Wide.All
import OpenK.AllK
import Wide.FinOn
import Lean
import PyProof.EqAt
import PyProof.EqKinds
import PyProof.TupleCall
import PyProof.ZipIter
import PyProof.Rows.ZipGen
import PyProof.EnumIter
import PyProof.EnumFor
import PyProof.EnumMake
import PyProof.EnumStmt
import PyProof.SliceStr2
import PyProof.StrBlockI
import PyProof.MinMaxWalk
import PyProof.Rows.CallKwBuiltin
import PyProof.Rows.Range3
import KE.KRevIter
import PyProof.AttrMissHeap
import KE.KDictOf
import PyProof.FactsAll.range_2
import PyProof.P3Eq
import PyProof.DictWalks
import PyProof.Rows.SeqMore2
import PyProof.Rows.SortStr
import PySem.Challenge.RW_stylehouse_k36_lined_by_levels
set_option Elab.async false
set_option linter.all false
set_option maxRecDepth 100000
def Zj {α:Type _} {a b:α} (h:some a=some b):a=b:=Option.some.inj h
def Zb {a b:Nat} (h:Nat.ble a b=true):a<=b:=Nat.le_of_ble_eq_true h
def Zf:false≠true:=Bool.false_ne_true
def Zm {α:Type _} {β:Type _} {f:α->β} {x:Option α} {b:β} (h:x.map f=some b):∃ a,x=some a/\f a=b:=Option.map_eq_some_iff.mp h
def Za:=@decide_eq_false
def Zc:=@Nat.le_trans
def Zd:=@List.length_map
def Ze:=@Nat.le_refl
def Zg:=@List.mem_cons_of_mem
def Zh:=@decide_eq_true
def Zi:=@PySem.wpAny_bind
def Zk:=@Rat.num_divInt_den
def Zl:=@List.mem_cons
def Zn:=@Nat.mul_le_mul_right
def Zo:=@List.mem_cons_self
def Zp:=@List.size_toArray
def Zr:=@List.mem_append_right
def Zs:=@Nat.zero_le
def Zt:=@PySem.Heap.lt_size
def Zu:=@List.length_append
def Zv:=@Bool.false_eq_true
def Zw:=@List.length_cons
def Zx:=@of_decide_eq_true
def Zy:=@Int.emod_lt_of_pos
def Zz:=@Nat.lt_of_lt_of_le
def Z0:=@PySem.wpAny_pure
def Z1:=@List.getElem_mem
def Z2:=@Nat.ne_of_lt
def Z3:=@Int.ne_of_gt
def Z4:=@Int.emod_nonneg
def Z5:=@Int.mul_comm
def Z6:=@List.mem_filter
def Z7:=@Option.bind_some
def Z8:=@List.map_cons
def Z9:=@Int.natAbs_mul
def Yb:=@Nat.dvd_mul_right
def Yc:=@Nat.pow_le_pow_right
def Yd:=@PySem.W.Fast.te14364793385576792824
def Ye:=@Int.mul_assoc
def Yg:=@Nat.dvd_trans
def Yh:=@Rat.le_refl
def Yi:=@List.append_nil
def Yj:=@List.mem_singleton
def Yk:=@Rat.divInt_mul_divInt
def Yl:=@List.drop_eq_getElem_cons
def Ym:=@List.take_length
def Yn:=@Nat.dvd_mul_left
def Yo:=@PyProof.Rows.callWith_type1
def Yp:=@if_false
def Yq:=@Bool.and_eq_true
def Yr:=@Int.toNat_natCast
def Ys:=@List.mem_append_left
def Yt:=@PySem.wpAny_mono
def Yu:=@List.map_map
def Yv:=@Nat.lt_of_le_of_lt
def Yw:=@List.mem_map
def Yy:=@PySem.W.kia_one
def Yz:=@Option.isSome_iff_exists
def Y0:=@PySem.mem_of_lookup
def Y1:=@Nat.mul_le_mul_left
def Y2:=@PySem.lookup_relabel_local
def Y3:=@of_decide_eq_false
def Y4:=@PySem.W.Fast.te10110043849684766642
def Y5:=@List.mem_append
def Y6:=@Rat.le_of_lt
def Y7:=@Int.natAbs_natCast
def Y8:=@Int.mul_pos
def Y9:=@Nat.lt_irrefl
def Xa:=@Rat.intCast_lt_intCast
def Xb:=@Rat.num_nonneg
def Xc:=@Classical.choose_spec
def Xd:=@Rat.mul_le_mul_of_nonneg_right
def Xe:=@decide_eq_decide
def Xf:=@List.filter_cons
def Xg:=@PySem.wpAny_comprehension_free
def Xh:=@Int.mul_fdiv_cancel_left
def Xi:=@Nat.mul_pos
def Xj:=@Rat.mul_le_mul_of_nonneg_left
def Xk:=@PySem.wpAny_newObj_type
def Xm:=@List.length_nil
def Xn:=@Option.map_some
def Xo:=@Int.natCast_mul
def Xp:=@beq_eq_false_iff_ne
def Xq:=@Nat.le_of_lt
def Xr:=@Nat.zero_add
def Xs:=@Int.dvd_trans
def Xu:=@List.length_take
def Xv:=@List.not_mem_nil
def Xw:=@List.mem_range
def Xx:=@PySem.wpAny_Call_Name_kw
def Xy:=@List.drop_zero
def Xz:=@Rat.divInt_add_divInt
def X2:=@PySem.wpAny_passesOwn
def X3:=@List.length_set
def X4:=@congrArg
def X5:=@Int.le_of_lt
def X6:=@List.append_assoc
def X7:=@List.length_range
def X8:=@List.flatten_cons
def X9:=@List.length_pos_iff
def Wa:=@List.drop_length
def Wb:=@Int.mul_le_mul_of_nonneg_left
def Wc:=@List.set_cons_zero
def We:=@List.set_cons_succ
def Wf:=@Rat.le_trans
def Wg:=@Rat.intCast_add
def Wh:=@Rat.intCast_mul
def Wj:=@List.any_cons
def Wk:=@Nat.le_of_dvd
def Wl:=@Int.natAbs_dvd_natAbs
def Wm:=@Int.gcd_dvd_right
def Wn:=@List.take_add_one
def Wo:=@PySem.F.args_list_append_2
def Wp:=@Nat.pow_lt_pow_right
def Wq:=@Rat.mul_nonneg
def Ws:=@Rat.div_def
def Wt:=@Nat.lt_succ_self
def Wu:=@List.length_drop
def Wv:=@List.map_nil
def Ww:=@Nat.dvd_refl
def Wx:=@PySem.F.entry_list_append
def Wy:=@PySem.wpAny_standAt
def Wz:=@List.map_append
def W0:=@Rat.not_lt
section
namespace L2
open PySem PySem.Spec PyProof.Rows
abbrev Key:=Sum Int Str
def tI:Key->Value->Bool
 | .inl k,v=>Value.isInt k v
 | .inr x,v=>Value.isStrOf x v
def Oj (w:World):Key->Int
 | .inl k=>hashInt k
 | .inr x=>hashStr w x
def cj:∀ {k:Key} {v:Value},tI k v=true->(∃ i t,k=Sum.inl i/\v=Value.int i t)\/(∃ x t,k=Sum.inr x/\v=Value.str x t)
 | .inl i,v,h=>by
  obtain ⟨t,e⟩:=Value.isInt_shape (k:=i) (v:=v) h;exact .inl ⟨i,t,rfl,e⟩
 | .inr x,v,h=>by
  obtain ⟨t,e⟩:=Value.isStrOf_shape (x:=x) (v:=v) h;exact .inr ⟨x,t,rfl,e⟩
def vP (i:Int) (t:Tok):tI (.inl i) (.int i t)=true:=by simp [tI,Value.isInt]
def vO (x:Str) (t:Tok):tI (.inr x) (.str x t)=true:=by simp [tI,Value.isStrOf]
def Hg (a b:Int):decide ((Sum.inl a:Key)=Sum.inl b)=(a == b):=by
 by_cases e:a=b
 · subst e; simp
 ·have h:¬ (Sum.inl a:Key)=Sum.inl b:=λ q=>e (Sum.inl.inj q)
  rw [Za h];exact (Xp.mpr e).symm
def Hd (a b:Str):decide ((Sum.inr a:Key)=Sum.inr b)=decide (a=b):=by
 by_cases e:a=b
 · subst e; simp
 ·have h:¬ (Sum.inr a:Key)=Sum.inr b:=λ q=>e (Sum.inr.inj q)
  rw [Za h,Za e]
def Hf (a:Int) (b:Str):decide ((Sum.inl a:Key)=Sum.inr b)=false:=Za (λ q=>nomatch q)
def He (a:Str) (b:Int):decide ((Sum.inr a:Key)=Sum.inl b)=false:=Za (λ q=>nomatch q)
def cv (prog:Program) (w:World):PySem.KeyKind prog w Key where
 is:=tI
 hash:=Oj w
 inj:=λ v a b ha hb=>by
  rcases cj ha with ⟨i,t,rfl,rfl⟩ | ⟨x,t,rfl,rfl⟩
  ·rcases cj hb with ⟨j,u,rfl,e⟩ | ⟨y,u,rfl,e⟩
   · injection e with e1 _; rw [e1]
   · exact nomatch e
  ·rcases cj hb with ⟨j,u,rfl,e⟩ | ⟨y,u,rfl,e⟩
   · exact nomatch e
   · injection e with e1 _; rw [e1]
 byValue:=λ k v h=>by
  rcases cj h with ⟨i,t,rfl,rfl⟩ | ⟨x,t,rfl,rfl⟩ <;> rfl
 pyHash:=λ hv h=>by
  rcases cj hv with ⟨i,t,rfl,rfl⟩ | ⟨x,t,rfl,rfl⟩
  · exact wpAny_pyHash_int h
  · exact wpAny_pyHash_str h
 eqBool:=λ hu hv h=>by
  rcases cj hu with ⟨i,t,rfl,rfl⟩ | ⟨x,t,rfl,rfl⟩
  ·rcases cj hv with ⟨j,u,rfl,rfl⟩ | ⟨y,u,rfl,rfl⟩
   · rw [Hg] at h; exact wpAny_eqBool_int h
   · rw [Hf] at h; exact SeqAt.EqAt.int_str i t y u _ _ _ _ h
  ·rcases cj hv with ⟨j,u,rfl,rfl⟩ | ⟨y,u,rfl,rfl⟩
   · rw [He] at h; exact SeqAt.EqAt.str_int x t j u _ _ _ _ h
   · rw [Hd] at h; exact wpAny_eqBool_str h
 «strs»:=λ k x t v h=>by
  rcases cj h with ⟨i,u,rfl,e⟩ | ⟨y,u,rfl,e⟩
  · exact nomatch e
  ·injection e with e1 _
   subst e1;cases v <;> rfl
def qe (prog:Program) (w:World) (i:Int) (t:Tok):(cv prog w).is (.inl i) (.int i t)=true:=vP i t
def p9 (prog:Program) (w:World) (x:Str) (t:Tok):(cv prog w).is (.inr x) (.str x t)=true:=vO x t
end L2
namespace L2
open PySem PySem.Spec PyProof.Rows
inductive V where
 | non | bl (b:Bool) | int (i:Int) | str (x:Str) | byt (b:Array UInt8) | flt (b:UInt64) | ref (a:Addr) | ty (n:String)
 deriving DecidableEq
def RelV:V->Value->Prop
 | .non,u=>u=Value.none
 | .bl b,u=>u=Value.bool b
 | .int i,u=>∃ t,u=Value.int i t
 | .str x,u=>∃ t,u=Value.str x t
 | .byt b,u=>∃ t,u=Value.bytes b t
 | .flt b,u=>∃ t,u=Value.float b t
 | .ref a,u=>u=Value.ref a
 | .ty n,u=>u=Value.type n
abbrev cK:List V->List Value->Prop:=Paired RelV
def cK.length (r:cK xs us):xs.length=us.length:=Paired.length r
def cK.get:∀ {xs:List V} {us:List Value} {i:Nat} {x:V},cK xs us->xs[i]?=some x->∃ u,us[i]?=some u/\RelV x u
 | _,_,_,_,.nil,e=>by simp at e
 | _,_,0,_,.cons r _,e=>by simp at e; subst e; exact ⟨_,rfl,r⟩
 | _,_,i+1,x,.cons _ t,e=>by
  obtain ⟨u,h1,h2⟩:=cK.get (i:=i) (x:=x) t (by simpa using e);exact ⟨u,by simpa using h1,h2⟩
def cK.set (r:RelV x u):∀ {xs:List V} {us:List Value} (i:Nat),cK xs us->cK (xs.set i x) (us.set i u)
 | _,_,_,.nil=>.nil
 | _,_,0,.cons _ t=>.cons r t
 | _,_,i+1,.cons q t=>.cons q (cK.set r i t)
def cK.append:∀ {xs ys:List V} {us ws:List Value},cK xs us->cK ys ws->cK (xs++ys) (us++ws)
 | _,_,_,_,.nil,s=>s
 | _,_,_,_,.cons r t,s=>.cons r (cK.append t s)
def cK.take:∀ {xs:List V} {us:List Value} (n:Nat),cK xs us->cK (xs.take n) (us.take n)
 | _,_,0,_=>.nil
 | _,_,_+1,.nil=>.nil
 | _,_,n+1,.cons r t=>.cons r (cK.take n t)
def cK.drop:∀ {xs:List V} {us:List Value} (n:Nat),cK xs us->cK (xs.drop n) (us.drop n)
 | _,_,0,r=>r
 | _,_,_+1,.nil=>.nil
 | _,_,n+1,.cons _ t=>cK.drop n t
def pK:Option V->Option Value->Prop
 | some v,some u=>RelV v u
 | none,none=>True
 | _,_=>False
def KV {κ:Type}:List (κ×V)->List (κ×Value)->Prop:=Paired λ (p:κ×V) (q:κ×Value)=>p.1=q.1/\RelV p.2 q.2
def kV:Key->V
 | .inl i=>.int i
 | .inr x=>.str x
inductive HO where
 | lst (xs:List V)
 | tup (xs:List V)
 | dK (kvs:List (Key×V)) | dT (kvs:List (List Key×V))
 | set (S:Int->Bool) (n:Nat)
 | ins (C dx:Addr) (fs:List (Str×V))
 | own (x:Addr)
 | xd (fs:List (Str×V))
 | met (f x:Addr)
 | rng (lo hi:Int)
 | frz (o:Obj) (u:HO)
 | tbl (ps:Array Value)
 | ext (φ:Heap->Prop)
abbrev Hp:=Addr->Option HO
def upd (H:Hp) (a:Addr) (o:HO):Hp:=λ b=>if b=a then some o else H b
def aO:upd H a o a=some o:=by unfold upd; rw [if_pos rfl]
def aH (h:b≠a):upd H a o b=H b:=by unfold upd; rw [if_neg h]
def BF:upd (upd H a o) a u=upd H a u:=by
 funext b; unfold upd; split <;> rfl
def LH {H:Hp} {a b:Addr} {o u:HO} (h:H a=some o) (h':H b=some u) (d:o≠u):a≠b:=by
 intro e; subst e; rw [h] at h'; exact d (Zj h')
def d9 {H:Hp} {a b:Addr} {o:HO} (h:H a=some o) (h':H b=none):a≠b:=by
 intro e; subst e; rw [h] at h'; cases h'
section
variable (P:Program) (w:World)
def dZ (H:Hp) (h:Heap) (a:Addr):HO->Prop
 | .lst xs=>xs.length<=sizeLine/\∃ (its:List Value) (n:Nat),cK xs its/\h.get? a=some { cls:=.type "list",data:=.seq its.toArray n }
 | .tup xs=>xs.length<=sizeLine/\∃ its:List Value,cK xs its/\IsTup h a its.toArray
 | .dK kvs=>kvs.length<=sizeLine/\(a == sysModules)=false/\∃ vs,KV kvs vs/\h.DictOf (cv P w) a vs
 | .dT kvs=>kvs.length<=sizeLine/\(a == sysModules)=false/\∃ xs:List (List Key×Addr×Value),
  Paired (λ (p:List Key×V) (q:List Key×Addr×Value)=>p.1=q.1/\H q.2.1=some (.tup (p.1.map kV))/\RelV p.2 q.2.2) kvs xs /\
  ∃ o es ep,h.get? a=some o/\o.ExactDict/\o.data=.dict es ep/\es.toList=xs.map (entryOfKey (tupleKind (cv P w)))/\(xs.map (·.1)).Nodup
 | .set S n=>h.SetOf (intKind P w) a S n
 | .ins C dx fs=>H dx=some (.own a)/\fs.length<=1000/\dx≠a/\h.get? a=some (PySem.W.instObj C dx) /\
  ∃ mA,h.Ns1 dx mA/\(∀ f,pK (fs.lookup f) (mA f))/\PySem.Within mA (fs.map (·.1))
 | .own _=>∃ o,h.get? a=some o
 | .xd fs=>∃ mA,h.Ns1 a mA/\∀ f,pK (fs.lookup f) (mA f)
 | .rng lo hi=>∃ t u v,h.get? a=some { cls:=.type "range",data:=.fields #[.int lo t,.int hi u,.int 1 v] }
 | .frz o u=>h.get? a=some o/\dZ H h a u
 | .tbl ps=>h.get? a=some { cls:=.none,data:=.fields ps }
 | .met f x=>h.get? a=some (PySem.W.methodObj (.ref f) (.ref x))
 | .ext φ=>φ h/\(∃ o,h.get? a=some o)/\∀ h1 h2:Heap,φ h1->(∀ o,h1.get? a=some o->h2.get? a=some o)->φ h2
def HOk (H:Hp) (h:Heap):Prop:=∀ a o,H a=some o->dZ P w H h a o
end
section
variable {P:Program} {w:World} {H H':Hp} {h h':Heap} {a:Addr} {o:HO}
def dZ.lt (x:dZ P w H h a o):a < h.objs.size:=by
 cases o with
 | lst xs=>obtain ⟨_,_,_,_,e⟩:=x; exact Zt e
 | tup xs=>obtain ⟨_,_,_,p⟩:=x; exact p.lt
 | dK kvs=>obtain ⟨_,_,_,_,o,_,_,e,_⟩:=x; exact Zt e
 | dT kvs=>obtain ⟨_,_,_,_,o,_,_,e,_⟩:=x; exact Zt e
 | set S n=>obtain ⟨o,_,_,_,e,_⟩:=x; exact Zt e
 | ins C dx fs=>obtain ⟨_,_,_,e,_⟩:=x; exact Zt e
 | own y=>obtain ⟨_,e⟩:=x; exact Zt e
 | xd fs=>obtain ⟨_,⟨_,_,_,e,_⟩,_⟩:=x; exact Zt e
 | rng lo hi=>obtain ⟨_,_,_,e⟩:=x; exact Zt e
 | frz ob u=>obtain ⟨e,_⟩:=x; exact Zt e
 | tbl ps=>exact Zt (show h.get? a=some _ from x)
 | met f y=>exact Zt (show h.get? a=some _ from x)
 | ext φ=>obtain ⟨_,⟨_,e⟩,_⟩:=x; exact Zt e
def Paired.LR {α β:Type} {F G:α->β->Prop}:∀ {l₁:List α} {l₂:List β},Paired F l₁ l₂->(∀ a b,F a b->G a b)->Paired G l₁ l₂
 | _,_,.nil,_=>.nil
 | _,_,.cons r t,f=>.cons (f _ _ r) (Paired.LR t f)
def dZ.sU (x:dZ P w H h a o) (k:∀ b u,(b=a\/H b=some (.own a))->h.get? b=some u->h'.get? b=some u)
  (ho:∀ b,H b=some (.own a)->H' b=some (.own a)) (ht:∀ b xs,H b=some (.tup xs)->H' b=some (.tup xs)):dZ P w H' h' a o:=by
 induction o with
 | lst xs=>obtain ⟨z,its,n,r,e⟩:=x; exact ⟨z,its,n,r,k _ _ (.inl rfl) e⟩
 | tup xs=>obtain ⟨z,its,r,ob,e,c⟩:=x; exact ⟨z,its,r,ob,k _ _ (.inl rfl) e,c⟩
 | dK kvs=>obtain ⟨z,y,vs,r,ob,es,ep,e,c⟩:=x; exact ⟨z,y,vs,r,ob,es,ep,k _ _ (.inl rfl) e,c⟩
 | dT kvs =>
  obtain ⟨z,y,xs,r,ob,es,ep,e,c⟩:=x;exact ⟨z,y,xs,Paired.LR r λ p q z=>⟨z.1,ht _ _ z.2.1,z.2.2⟩,ob,es,ep,k _ _ (.inl rfl) e,c⟩
 | set S n=>obtain ⟨ob,es,ep,t,e,c⟩:=x; exact ⟨ob,es,ep,t,k _ _ (.inl rfl) e,c⟩
 | ins C dx fs =>
  obtain ⟨d,z,ne,e,mA,⟨od,es,ep,e2,c⟩,r⟩:=x;exact ⟨ho _ d,z,ne,k _ _ (.inl rfl) e,mA,⟨od,es,ep,k _ _ (.inr d) e2,c⟩,r⟩
 | own y=>obtain ⟨ob,e⟩:=x; exact ⟨ob,k _ _ (.inl rfl) e⟩
 | xd fs=>obtain ⟨mA,⟨od,es,ep,e,c⟩,r⟩:=x; exact ⟨mA,⟨od,es,ep,k _ _ (.inl rfl) e,c⟩,r⟩
 | rng lo hi=>obtain ⟨t,u,v,e⟩:=x; exact ⟨t,u,v,k _ _ (.inl rfl) e⟩
 | frz ob u ih=>obtain ⟨e,q⟩:=x; exact ⟨k _ _ (.inl rfl) e,ih q⟩
 | tbl ps =>
  have e:h.get? a=some { cls:=.none,data:=.fields ps }:=x;show h'.get? a=some { cls:=.none,data:=.fields ps };exact k a _ (.inl rfl) e
 | met f y =>
  have e:h.get? a=some (PySem.W.methodObj (.ref f) (.ref y)):=x;show h'.get? a=some (PySem.W.methodObj (.ref f) (.ref y));exact k a _ (.inl rfl) e
 | ext φ=>obtain ⟨p,⟨o,e⟩,st⟩:=x; exact ⟨st _ _ p λ o q=>k _ _ (.inl rfl) q,⟨o,k _ _ (.inl rfl) e⟩,st⟩
def HOk.lt (x:HOk P w H h) (e:H a=some o):a < h.objs.size:=(x a o e).lt
def HOk.fresh (x:HOk P w H h) (e:h.objs.size<=a):H a=none:=by
 cases q:H a with
 | none=>rfl
 | some u=>exact absurd (Zz (x.lt q) e) (Y9 _)
def HOk.kept (x:HOk P w H h) (k:∀ b u,h.get? b=some u->h'.get? b=some u):HOk P w H h':=λ a o e =>
 (x a o e).sU (λ b u _ q=>k b u q) (λ _ q=>q) λ _ _ q=>q
def HOk.laid (x:HOk P w H h) (k:∀ b u,h.get? b=some u->h'.get? b=some u) (hp:h.objs.size<=a) (new:dZ P w (upd H a o) h' a o):HOk P w (upd H a o) h':=λ b u e=>by
 have hn:=x.fresh hp
 by_cases hb:b=a
 · subst hb; rw [aO] at e; cases e; exact new
 ·rw [aH hb] at e
  exact (x b u e).sU (λ c v _ q=>k c v q) (λ c q=>by rw [aH (d9 q hn)]; exact q) λ c xs q=>by rw [aH (d9 q hn)]; exact q
end
def Rd (H:Hp) (a:Addr) (u:HO):Prop:=H a=some u\/∃ o,H a=some (.frz o u)
def Rd.ok (r:Rd H a u) (x:HOk P w H h):dZ P w H h a u:=by
 rcases r with r | ⟨o,r⟩
 · exact x a u r
 ·obtain ⟨_,q⟩:=x a _ r
  exact q
def Mut:Option HO->Prop
 | some (.lst _)=>True
 | some (.dK _)=>True
 | some (.dT _)=>True
 | some (.set _ _)=>True
 | some (.ins _ _ _)=>True
 | some (.ext _)=>True
 | _=>False
section
variable {P:Program} {w:World} {H:Hp} {h h':Heap} {x e:Addr} {o':HO}
def HOk.write (ok:HOk P w H h) (mu:Mut (H x)) (he:e=x\/H e=some (.own x)) (k:∀ b u,b≠e->h.get? b=some u->h'.get? b=some u) (heo:∃ u,h'.get? e=some u)
  (new:dZ P w (upd H x o') h' x o'):HOk P w (upd H x o') h':=λ b u q=>by
 have nown:∀ c y,H c=some (.own y)->c≠x:=λ c y r z=>by subst z; rw [r] at mu; exact mu
 have ntup:∀ c xs,H c=some (.tup xs)->c≠x:=λ c xs r z=>by subst z; rw [r] at mu; exact mu
 by_cases hb:b=x
 · subst hb; rw [aO] at q; cases q; exact new
 ·rw [aH hb] at q
  by_cases hbe:b=e
  ·have q':H b=some (.own x):=by
    rcases he with z | z
    · exact absurd (hbe.trans z) hb
    · rw [hbe]; exact z
   rw [q] at q'; cases q'
   obtain ⟨v,hv⟩:=heo;exact ⟨v,by rw [hbe]; exact hv⟩
  ·refine (ok b u q).sU (λ c v hc r=>k c v ?_ r) (λ c r=>by rw [aH (nown c b r)]; exact r) λ c xs r=>by rw [aH (ntup c xs r)]; exact r
   rcases hc with rfl | hc
   · exact hbe
   ·rintro rfl
    rcases he with z | z
    · exact nown c b hc z
    · rw [hc] at z; cases z; exact hb rfl
end
structure Un (fs ex:List Addr) (H H':Hp) (h h':Heap):Prop where
 keep:∀ b o,h.get? b=some o->H b=none->b ∉ fs->b ∉ ex->h'.get? b=some o
 slot:∀ b o,h.get? b=some o->H b=none->b ∈ fs->b ∉ ex->∃ sl,h'.get? b=some { o with slots:=sl }
 free:∀ b o,h.get? b=some o->H b=none->b ∉ ex->H' b=none
 there:∀ b o,h.get? b=some o->b ∉ ex->∃ o',h'.get? b=some o'
 uk:∀ b xs,H b=some (.tup xs)->H' b=some (.tup xs)
 t9:∀ b o u,H b=some (.frz o u)->H' b=some (.frz o u)
 uo:∀ b ps,H b=some (.tbl ps)->∃ more,H' b=some (.tbl (ps++more))
section
variable {fs fs' ex ex':List Addr} {H H1 H2:Hp} {h h1 h2 h':Heap} {a x e:Addr} {o:HO}
def Un.any (u:Un fs ex H H1 h h1) (q:h.get? b=some ob) (n:H b=none) (hx:b ∉ ex):∃ sl,h1.get? b=some { ob with slots:=sl }:=by
 by_cases hb:b ∈ fs
 · exact u.slot b ob q n hb hx
 · exact ⟨ob.slots,u.keep b ob q n hb hx⟩
def Un.kept (k:∀ b u,h.get? b=some u->h'.get? b=some u):Un fs ex H H h h' :=
 ⟨λ b ob q _ _ _=>k b ob q,λ b ob q _ _ _=>⟨ob.slots,k b ob q⟩,λ _ _ _ n _=>n,λ b ob q _=>⟨ob,k b ob q⟩,λ _ _ q=>q,λ _ _ _ q=>q,λ _ ps q=>⟨#[],by rw [q]; simp⟩⟩
def Un.refl:Un fs ex H H h h:=Un.kept λ _ _ q=>q
def Un.laid (k:∀ b u,h.get? b=some u->h'.get? b=some u) (hp:h.objs.size<=a) (hn:H a=none):Un fs ex H (upd H a o) h h' where
 keep:=λ b u q _ _ _=>k b u q
 slot:=λ b u q _ _ _=>⟨u.slots,k b u q⟩
 free:=λ b u q n _=>by rw [aH (Z2 (Zz (Zt q) hp))]; exact n
 there:=λ b u q _=>⟨u,k b u q⟩
 uk:=λ b xs q=>by rw [aH (d9 q hn)]; exact q
 t9:=λ b u xs q=>by rw [aH (d9 q hn)]; exact q
 uo:=λ b ps q=>⟨#[],by rw [aH (d9 q hn),q]; simp⟩
def Un.write (mu:Mut (H x)) (he:e=x\/H e=some (.own x)) (k:∀ b u,b≠e->h.get? b=some u->h'.get? b=some u) (heo:∃ u,h'.get? e=some u):Un fs ex H (upd H x o) h h':=by
 have hx:∀ b,H b=none->b≠x:=λ b n z=>by subst z; rw [n] at mu; exact mu
 have hb:∀ b,H b=none->b≠e:=λ b n z=>by
  subst z;rcases he with r | r
  · exact hx b n r
  · rw [n] at r; cases r
 have hm:∀ b u,H b=some u->¬ Mut (some u)->b≠x:=λ b u q nm z=>by subst z; rw [q] at mu; exact nm mu
 refine ⟨λ b u q n _ _=>k b u (hb b n) q,λ b u q n _ _=>⟨u.slots,k b u (hb b n) q⟩,λ b u q n _=>by rw [aH (hx b n)]; exact n,λ b u q _=>?_,
  λ b xs q=>by rw [aH (hm b _ q λ z=>z)]; exact q,λ b u xs q=>by rw [aH (hm b _ q λ z=>z)]; exact q,λ b ps q=>⟨#[],by rw [aH (hm b _ q λ z=>z),q]; simp⟩⟩
 by_cases hbe:b=e
 · subst hbe; exact heo
 · exact ⟨u,k b u hbe q⟩
end
def trk (h:Heap) (H:Hp):List Addr:=(List.range h.objs.size).filter λ a=>(H a).isSome
def zD (h:Heap) (H:Hp):Heap:=PySem.W.hideAll h (trk h H)
def wg (h:Heap) (H:Hp):(zD h H).objs.size=h.objs.size:=PySem.W.hideAll_size _ _
def zC (e:h.get? b=some o) (n:H b=none):(zD h H).get? b=some o :=
 PySem.W.hideAll_get _ e λ hm=>by
  have q:(H b).isSome=true:=(Z6.mp hm).2;rw [n] at q; simp at q
def C5 (e:(zD h H).get? b=some o):h.get? b=some o/\H b=none:=by
 have e':h.get? b=some o:=PySem.W.of_hideAll (trk h H) e;refine ⟨e',?_⟩
 cases q:H b with
 | none=>rfl
 | some x =>
  have hm:b ∈ trk h H:=Z6.mpr ⟨Xw.mpr (Zt e'),by simp [q]⟩;have z:(zD h H).get? b=none:=PySem.W.hideAll_none (trk h H) hm;rw [z] at e; cases e
end L2
namespace L2
open PySem PySem.Spec PyProof.Rows
structure Mod (K:W.Frag) (mg:Str->Option Value) (base:Heap):Prop where
 kin:K.In base
 glob:base.Ns mainGlobals mg
 blt:∃ mb,base.Ns builtinsNs mb/\∀ x:Str,x≠"__name__"->mb x=bootBuiltins x
 nolimit:base.NoLimit
structure Cx where
 prog:Program
 w:World
 K:W.Frag
 mg:Str->Option Value
 base:Heap
 A:Around
 N:List Str
 s₀:Shared
 H₀:Hp
 env:Env
 outer:List Env
 stack:List Env
 ex:List Addr
 fn:Str->Bool
 calm:Bool
 pn:List (Addr×Obj)
 xe:Value->Shared->Prop
def frs (l:List Env):List Addr:=l.filterMap (·.frame)
abbrev Cx.fs (X:Cx):List Addr:=frs X.outer
def Vis (sc:Scope) (x:Str):Prop:=sc.names.lookup x=some .local\/sc.names.lookup x=some .cell\/sc.names.lookup x=some .free
def Loc (sc:Scope) (x:Str):Prop:=sc.names.lookup x=some .local\/sc.names.lookup x=some .cell
def Look (env:Env) (h:Heap) (m:Str->Option Value) (x:Str) (u:Value):Prop :=
 (env.kindOf x=some .local/\m x=some u)\/((env.kindOf x=some .cell\/env.kindOf x=some .free)/\∃ c,env.cells.lookup x=some c/\h.IsCell c (some u))
structure Cx.Ok (X:Cx):Prop where
 mod:Mod X.K X.mg X.base
 kind:X.env.scope.kind=.function
 glob:X.env.globals=mainGlobals
 blt:X.env.builtins=builtinsNs
 above:X.s₀.heap.objs.size<=X.env.locals
 inj:∀ x y c,X.env.cells.lookup x=some c->X.env.cells.lookup y=some c->x=y
 has:∀ x,(X.env.kindOf x=some .cell\/X.env.kindOf x=some .free)->∃ c,X.env.cells.lookup x=some c
 cab:∀ x c,X.fn x=true->X.env.cells.lookup x=some c->X.s₀.heap.objs.size<=c
 hd:X.calm=true->X.A.handled=none
 frames:X.A.frames=some X.stack
 stk:X.stack=X.outer\/(X.stack=X.env::X.outer/\X.env.frame=some X.env.locals)
 exf:∀ b ∈ X.ex,b≠X.env.locals/\∀ x c,X.env.cells.lookup x=some c->c≠b
 bs:∀ b o,X.base.get? b=some o->X.s₀.heap.get? b=some o/\X.H₀ b=none
 bsz:X.base.objs.size<=X.s₀.heap.objs.size
 EG:∀ b o,X.base.get? b=some o->b ∉ X.ex
 JI:∀ b ∈ X.ex,b ∉ X.fs
 t8:X.s₀.heap.FunFrames X.base X.outer
 frf:∀ b ∈ X.fs,X.H₀ b=none
structure Inv (X:Cx) (pins:List (Addr×Obj)) (σ:List (Option V)) (H:Hp) (s:Shared):Prop where
 ok:X.Ok
 os:s.os=X.s₀.os
 bare:AllBare s.gens
 base:Un X.fs X.ex X.H₀ H X.s₀.heap s.heap
 loc:∃ m,s.heap.Ns X.env.locals m/\∀ (i:Nat) (x:Str) (v:V),X.N[i]?=some x->σ[i]?=some (some v)->Vis X.env.scope x->∃ u,RelV v u/\Look X.env s.heap m x u
 cell:∀ x c,X.env.cells.lookup x=some c->∃ v,s.heap.IsCell c v
 free:H X.env.locals=none
 k9:∀ x c,X.env.cells.lookup x=some c->H c=none
 pin:∀ p ∈ X.pn++pins,s.heap.get? p.1=some p.2/\H p.1=none/\p.1≠X.env.locals/\p.1 ∉ X.fs/\∀ v,p.2.data≠.cell v
 hok:HOk X.prog X.w H s.heap
 len:σ.length=X.N.length
section
variable {X:Cx} {pins:List (Addr×Obj)} {σ:List (Option V)} {H H':Hp} {s:Shared} {h':Heap}
def Cx.Ok.NH (ok:X.Ok) (e:X.base.get? b=some o):b ∉ X.fs:=λ hb=>by
 have:=(ok.t8.mem hb).1;rw [e] at this; cases this
def Inv.bs (I:Inv X pins σ H s):∀ b o,X.base.get? b=some o->s.heap.get? b=some o/\H b=none:=λ b o e =>
 ⟨I.base.keep b o (I.ok.bs b o e).1 (I.ok.bs b o e).2 (I.ok.NH e) (I.ok.EG b o e),I.base.free b o (I.ok.bs b o e).1 (I.ok.bs b o e).2 (I.ok.EG b o e)⟩
def Inv.bk (I:Inv X pins σ H s):∀ b o,X.base.get? b=some o->s.heap.get? b=some o:=λ b o e=>(I.bs b o e).1
def Inv.mod (I:Inv X pins σ H s):Mod X.K X.mg X.base:=I.ok.mod
def Inv.kIn (I:Inv X pins σ H s):X.K.In s.heap:=I.ok.mod.kin.keeps I.bk
def Inv.lt (I:Inv X pins σ H s):X.env.locals < s.heap.objs.size:=let ⟨_,hn,_⟩:=I.loc; hn.lt
def Inv.sz (I:Inv X pins σ H s):X.s₀.heap.objs.size<=s.heap.objs.size:=Zc I.ok.above (Xq I.lt)
def Inv.NG (I:Inv X pins σ H s) (h:s.heap.objs.size<=a):a ∉ X.fs:=λ hb=>by
 obtain ⟨_,o,ho,_⟩:=I.ok.t8.mem hb;exact absurd (Zz (Zt ho) (Zc I.sz h)) (Y9 _)
def Inv.cne (I:Inv X pins σ H s):∀ x c,X.env.cells.lookup x=some c->c≠X.env.locals:=λ x c e z=>by
 obtain ⟨v,o,ho,hd⟩:=I.cell x c e;obtain ⟨m,⟨o',es,ep,ho',hd',_⟩,_⟩:=I.loc;rw [z,ho'] at ho; cases ho; rw [hd'] at hd; cases hd
def Inv.t8 (I:Inv X pins σ H s):s.heap.FunFrames X.base X.outer:=by
 have all:∀ (l:List Env),(∀ b ∈ frs l,b ∈ X.fs)->X.s₀.heap.FunFrames X.base l->s.heap.FunFrames X.base l:=by
  intro l
  induction l with
  | nil=>intro _ _; trivial
  | cons env r ih =>
   intro hs hl;obtain ⟨hk,⟨L,o,hf,hn,ho,hd⟩,hr⟩:=hl;have hL:L ∈ X.fs:=hs L (by unfold frs; rw [List.filterMap_cons,hf]; exact Zo);obtain ⟨sl,e⟩:=I.base.slot L o ho (I.ok.frf L hL) hL λ z=>I.ok.JI L z hL
   exact ⟨hk,⟨L,_,hf,hn,e,hd⟩,ih (λ b hb=>hs b (by unfold frs; rw [List.filterMap_cons,hf]; exact Zg _ hb)) hr⟩
 exact all X.outer (λ _ hb=>hb) I.ok.t8
def Inv.stack (I:Inv X pins σ H s):s.heap.FunFrames X.base X.stack:=by
 rcases I.ok.stk with e | ⟨e,hf⟩
 · rw [e]; exact I.t8
 ·rw [e]
  obtain ⟨m,hn,_⟩:=I.loc;refine .cons (by rw [I.ok.kind]; decide) hf hn ?_ I.t8;exact Heap.get?_none_of_le (Zc I.ok.bsz I.ok.above)
def Inv.kB (I:Inv X pins σ H s):∀ b ∈ frs X.stack,b ∈ X.env.locals::X.fs:=λ b hb=>by
 rcases I.ok.stk with e | ⟨e,hf⟩
 · rw [e] at hb; exact Zg _ hb
 ·rw [e] at hb
  unfold frs at hb;rw [List.filterMap_cons,hf] at hb;exact hb
def Inv.pM (I:Inv X pins σ H s):∀ b ∈ frs X.stack,H b=none:=λ b hb=>by
 rcases Zl.mp (I.kB b hb) with e | hb
 · rw [e]; exact I.free
 ·obtain ⟨_,o,ho,_⟩:=I.ok.t8.mem hb
  exact I.base.free b o ho (I.ok.frf b hb) λ z=>I.ok.JI b z hb
def Inv.step {g':Array GenState} {t':Nat} {d':Drawn} {ch:List Addr} (I:Inv X pins σ H s)
  (hch:∀ b ∈ ch,(b ∈ X.ex\/X.s₀.heap.objs.size<=b)/\b≠X.env.locals/\(∀ x c,X.env.cells.lookup x=some c->c≠b)/\∀ p ∈ X.pn++pins,p.1≠b)
  (keep:∀ b o,b≠X.env.locals->b ∉ X.fs->b ∉ ch->s.heap.get? b=some o->H b=none->h'.get? b=some o)
  (slot:∀ b o,b≠X.env.locals->b ∈ X.fs->b ∉ ch->s.heap.get? b=some o->H b=none->∃ sl,h'.get? b=some { o with slots:=sl }) (free:∀ b o,b ∉ ch->s.heap.get? b=some o->H b=none->H' b=none)
  (there:∀ b o,b ∉ ch->s.heap.get? b=some o->∃ o',h'.get? b=some o')
  (uk:∀ b xs,H b=some (.tup xs)->H' b=some (.tup xs)) (t9:∀ b o u,H b=some (.frz o u)->H' b=some (.frz o u)) (uo:∀ b ps,H b=some (.tbl ps)->∃ more,H' b=some (.tbl (ps++more)))
  (ns:∀ m,s.heap.Ns X.env.locals m->h'.Ns X.env.locals m) (hok:HOk X.prog X.w H' h') (hg:AllBare g') :
  Inv X pins σ H' { s with heap:=h',gens:=g',drawn:=d',toks:=t' }:=by
 have neL:∀ b o,X.s₀.heap.get? b=some o->b≠X.env.locals:=λ b o e=>Z2 (Zz (Zt e) I.ok.above)
 have neC:∀ b o,X.s₀.heap.get? b=some o->b ∉ X.ex->b ∉ ch:=λ b o e hx hb=>by
  rcases (hch b hb).1 with z | z
  · exact hx z
  · exact absurd (Zz (Zt e) z) (Y9 _)
 have cellK:∀ x c,X.env.cells.lookup x=some c->∀ v,s.heap.IsCell c v->h'.IsCell c v:=λ x c e v ⟨o,ho,hd⟩=>by
  have nch:c ∉ ch:=λ z=>(hch c z).2.2.1 x c e rfl
  by_cases hc:c ∈ X.fs
  ·obtain ⟨sl,q⟩:=slot c o (I.cne x c e) hc nch ho (I.k9 x c e)
   exact ⟨_,q,hd⟩
  · exact ⟨o,keep c o (I.cne x c e) hc nch ho (I.k9 x c e),hd⟩
 refine ⟨I.ok,I.os,hg,⟨λ b o e n hb hx=>?_,λ b o e n hb hx=>?_,λ b o e n hx=>?_,λ b o e hx=>?_,λ b xs e=>uk b xs (I.base.uk b xs e),λ b o xs e=>t9 b o xs (I.base.t9 b o xs e),λ b ps e=>?_⟩,?_,λ x c e=>?_,?_,λ x c e=>?_,λ p hp=>?_,hok,I.len⟩
 · exact keep b o (neL b o e) hb (neC b o e hx) (I.base.keep b o e n hb hx) (I.base.free b o e n hx)
 ·obtain ⟨sl,e1⟩:=I.base.slot b o e n hb hx
  obtain ⟨sl',e2⟩:=slot b _ (neL b o e) hb (neC b o e hx) e1 (I.base.free b o e n hx);exact ⟨sl',e2⟩
 ·obtain ⟨o',e1⟩:=I.base.there b o e hx
  exact free b o' (neC b o e hx) e1 (I.base.free b o e n hx)
 ·obtain ⟨o',e1⟩:=I.base.there b o e hx
  exact there b o' (neC b o e hx) e1
 ·obtain ⟨m1,e1⟩:=I.base.uo b ps e
  obtain ⟨m2,e2⟩:=uo b _ e1;exact ⟨m1++m2,by rw [e2,Array.append_assoc]⟩
 ·obtain ⟨m,hn,hl⟩:=I.loc
  refine ⟨m,ns m hn,λ i x v e1 e2 e3=>?_⟩;obtain ⟨u,r,l⟩:=hl i x v e1 e2 e3;refine ⟨u,r,?_⟩;rcases l with l | ⟨k,c,e,z⟩
  · exact .inl l
  · exact .inr ⟨k,c,e,cellK x c e _ z⟩
 ·obtain ⟨v,z⟩:=I.cell x c e
  exact ⟨v,cellK x c e v z⟩
 ·obtain ⟨m,⟨o,_,_,ho,_⟩,_⟩:=I.loc
  exact free _ o (λ z=>(hch _ z).2.1 rfl) ho I.free
 ·obtain ⟨v,o,ho,hd⟩:=I.cell x c e
  exact free c o (λ z=>(hch c z).2.2.1 x c e rfl) ho (I.k9 x c e)
 ·obtain ⟨e,n,ne,nf,d⟩:=I.pin p hp
  have nch:p.1 ∉ ch:=λ z=>(hch p.1 z).2.2.2 p hp rfl
  exact ⟨keep p.1 p.2 ne nf nch e n,free p.1 p.2 nch e n,ne,nf,d⟩
def Inv.un {t':Nat} (I:Inv X pins σ H s) (u:Un X.fs [] H H' s.heap h') (hok:HOk X.prog X.w H' h'):Inv X pins σ H' { s with heap:=h',toks:=t' }:=by
 obtain ⟨m,⟨o,es,ep,ho,r⟩,_⟩:=id I.loc;obtain ⟨sl,hL⟩:=u.any ho I.free (by simp)
 exact I.step (g':=s.gens) (d':=s.drawn) (ch:=[]) (λ _ z=>nomatch z) (λ b o _ hb _ e n=>u.keep b o e n hb (by simp)) (λ b o _ hb _ e n=>u.slot b o e n hb (by simp)) (λ b o _ e n=>u.free b o e n (by simp)) (λ b o _ e=>u.there b o e (by simp)) u.uk u.t9 u.uo (λ m' hm=>by
  obtain ⟨o',es',ep',ho',r'⟩:=hm;rw [ho] at ho'; cases ho'
  exact ⟨_,es',ep',hL,r'⟩) hok I.bare
def Inv.call {g':Array GenState} {t':Nat} {d':Drawn} {ch:List Addr} (I:Inv X pins σ H s) (u:Un (frs X.stack) ch H H' s.heap h') (hok:HOk X.prog X.w H' h') (hg:AllBare g')
  (hch:∀ b ∈ ch,(b ∈ X.ex\/X.s₀.heap.objs.size<=b)/\b≠X.env.locals/\(∀ x c,X.env.cells.lookup x=some c->c≠b)/\∀ p ∈ X.pn++pins,p.1≠b) :
  Inv X pins σ H' { s with heap:=h',gens:=g',drawn:=d',toks:=t' }:=by
 obtain ⟨m,⟨o,es,ep,ho,r⟩,_⟩:=id I.loc;obtain ⟨sl,hL⟩:=u.any ho I.free λ z=>(hch _ z).2.1 rfl
 exact I.step (ch:=ch) hch (λ b o hL hb hc e n=>u.keep b o e n (λ z=>(Zl.mp (I.kB b z)).elim hL hb) hc) (λ b o _ _ hc e n=>u.any e n hc) (λ b o hc e n=>u.free b o e n hc) (λ b o hc e=>u.there b o e hc) u.uk u.t9 u.uo (λ m' hm=>by
  obtain ⟨o',es',ep',ho',r'⟩:=hm;rw [ho] at ho'; cases ho'
  exact ⟨_,es',ep',hL,r'⟩) hok hg
def Inv.turned {t':Nat} {it:Addr} (I:Inv X pins σ H s) (k:∀ b o,b≠it->s.heap.get? b=some o->h'.get? b=some o) (hn:H it=none) (hL:it≠X.env.locals)
  (h1:it ∈ X.ex\/X.s₀.heap.objs.size<=it) (h2:∀ x c,X.env.cells.lookup x=some c->c≠it) (h3:∀ p ∈ X.pn++pins,p.1≠it):Inv X pins σ H { s with heap:=h',toks:=t' }:=by
 have nit:∀ b u,H b=some u->b≠it:=λ b u e z=>by rw [z,hn] at e; cases e
 refine I.step (g':=s.gens) (d':=s.drawn) (ch:=[it]) (λ b hb=>?_) (λ b o _ _ hc e _=>k b o (λ z=>hc (by simp [z])) e) (λ b o _ _ hc e _=>⟨o.slots,k b o (λ z=>hc (by simp [z])) e⟩) (λ _ _ _ _ n=>n)
  (λ b o hc e=>⟨o,k b o (λ z=>hc (by simp [z])) e⟩) (λ _ _ e=>e) (λ _ _ _ e=>e) (λ b ps e=>⟨#[],by rw [e]; simp⟩) (λ m hm=>?_) (λ b u e=>?_) I.bare
 ·have e:b=it:=by simpa using hb
  subst e;exact ⟨h1,hL,h2,h3⟩
 ·obtain ⟨o,es,ep,ho,r⟩:=hm
  exact ⟨o,es,ep,k _ o (Ne.symm hL) ho,r⟩
 ·refine (I.hok b u e).sU (λ c v hc q=>k c v ?_ q) (λ _ q=>q) λ _ _ q=>q
  rcases hc with z | z
  · rw [z]; exact nit b u e
  · exact nit c _ z
def Inv.tok (I:Inv X pins σ H s) (t:Nat):Inv X pins σ H { s with toks:=t }:=I.un (h':=s.heap) (t':=t) Un.refl I.hok
def Inv.kept (I:Inv X pins σ H s) (k:∀ b u,s.heap.get? b=some u->h'.get? b=some u):Inv X pins σ H { s with heap:=h',toks:=t' }:=I.un (Un.kept k) (I.hok.kept k)
def Inv.laid (I:Inv X pins σ H s) (k:∀ b u,s.heap.get? b=some u->h'.get? b=some u) (hp:s.heap.objs.size<=a) (new:dZ X.prog X.w (upd H a o) h' a o) :
 Inv X pins σ (upd H a o) { s with heap:=h',toks:=t' }:=I.un (Un.laid k hp (I.hok.fresh hp)) (I.hok.laid k hp new)
def Inv.write (I:Inv X pins σ H s) (mu:Mut (H x)) (he:e=x\/H e=some (.own x)) (k:∀ b u,b≠e->s.heap.get? b=some u->h'.get? b=some u) (heo:∃ u,h'.get? e=some u)
 (new:dZ X.prog X.w (upd H x o) h' x o):Inv X pins σ (upd H x o) { s with heap:=h',toks:=t' }:=I.un (Un.write mu he k heo) (I.hok.write mu he k heo new)
def Inv.fH (I:Inv X pins σ H s) (h:∀ p ∈ pins',s.heap.get? p.1=some p.2/\H p.1=none/\p.1≠X.env.locals/\p.1 ∉ X.fs/\∀ v,p.2.data≠.cell v):Inv X pins' σ H s :=
 ⟨I.ok,I.os,I.bare,I.base,I.loc,I.cell,I.free,I.k9,λ p hp=>(Y5.mp hp).elim (λ z=>I.pin p (Ys _ z)) (h p),I.hok,I.len⟩
def rK {N:List Str} (hN:N.Nodup) {i j:Nat} {x:Str} (a:N[i]?=some x) (b:N[j]?=some x):i=j:=by
 obtain ⟨h1,e1⟩:=List.getElem?_eq_some_iff.mp a;obtain ⟨h2,e2⟩:=List.getElem?_eq_some_iff.mp b;exact (List.getElem_inj hN).mp (e1.trans e2.symm)
def iZ {M:Model} {A:Around} {E:Value->Shared->Prop} {i:Nat} {x:Str} {v:V} {u:Value} {Q:Unit->Shared->Prop} (I:Inv X pins σ H s) (hN:X.N.Nodup) (hi:X.N[i]?=some x) (hx:Loc X.env.scope x) (r:RelV v u)
  (h:∀ s',Inv X pins (σ.set i (some v)) H s'->(∃ a,Heap.SameBut a s.heap s'.heap/\(a=X.env.locals\/X.env.cells.lookup x=some a))->Q () s') (hf:X.fn x=true\/X.env.scope.names.lookup x=some .local:=by first | exact .inl rfl | exact .inr rfl | assumption):wpAny M A (storeName X.env x u) Q E s:=by
 obtain ⟨m,hn,hl⟩:=id I.loc;have hcls:(X.env.scope.kind == .class||(X.env.scope.kind == .module&&X.env.locals != X.env.globals))=false:=by rw [I.ok.kind]; rfl
 have hiσ:i < σ.length:=by rw [I.len]; exact (List.getElem?_eq_some_iff.mp hi).1
 have cne:=I.cne
 have tracked:∀ {a:Addr} {h':Heap},(∃ o,s.heap.get? a=some o/\H a=none)->Heap.SameBut a s.heap h'->HOk X.prog X.w H h':=λ {a h'} ha hs b ob e=>by
  obtain ⟨_,_,hfree⟩:=ha;refine (I.hok b ob e).sU (λ c w' hc q=>(hs.2 c ?_).trans q) (λ _ q=>q) λ _ _ q=>q
  rintro rfl
  rcases hc with rfl | hc
  · rw [hfree] at e; cases e
  · rw [hfree] at hc; cases hc
 rcases hx with hk | hk
 ·refine wpAny_storeName_local hk hn (λ h' hn' hs=>?_) hcls
  obtain ⟨oL,_,_,hoL,_⟩:=id hn;refine h _ ⟨I.ok,I.os,I.bare,⟨λ b o e n hb hx=>?_,λ b o e n hb hx=>?_,I.base.free,λ b o e hx=>?_,I.base.uk,I.base.t9,I.base.uo⟩,⟨_,hn',λ j y v' e1 e2 e3=>?_⟩,λ y c e=>?_,I.free,I.k9,λ p hp=>?_,tracked ⟨oL,hoL,I.free⟩ hs,by simpa using I.len⟩ ⟨_,hs,.inl rfl⟩
  · exact (hs.2 b (Z2 (Zz (Zt e) I.ok.above))).trans (I.base.keep b o e n hb hx)
  ·obtain ⟨sl,e1⟩:=I.base.slot b o e n hb hx
   exact ⟨sl,(hs.2 b (Z2 (Zz (Zt e) I.ok.above))).trans e1⟩
  ·obtain ⟨o',e1⟩:=I.base.there b o e hx
   exact ⟨o',(hs.2 b (Z2 (Zz (Zt e) I.ok.above))).trans e1⟩
  ·by_cases hj:j=i
   ·subst hj
    rw [hi] at e1; cases e1
    rw [List.getElem?_set_self hiσ] at e2;cases e2;exact ⟨u,r,.inl ⟨hk,by simp⟩⟩
   ·rw [List.getElem?_set_ne (Ne.symm hj)] at e2
    obtain ⟨u',r',q⟩:=hl j y v' e1 e2 e3;refine ⟨u',r',?_⟩;rcases q with ⟨k,e⟩ | ⟨k,c,e,z⟩
    ·refine .inl ⟨k,?_⟩
     have:y≠x:=λ e=>hj (rK hN e1 (e ▸ hi))
     simp [this,e]
    · exact .inr ⟨k,c,e,z.sameBut hs (cne y c e)⟩
  ·obtain ⟨w',z⟩:=I.cell y c e
   exact ⟨w',z.sameBut hs (cne y c e)⟩
  ·obtain ⟨e,n,ne,nf,d⟩:=I.pin p hp
   exact ⟨(hs.2 p.1 ne).trans e,n,ne,nf,d⟩
 ·have hfn:X.fn x=true:=by
   rcases hf with z | z
   · exact z
   · rw [z] at hk; cases hk
  obtain ⟨c,hc⟩:=I.ok.has x (.inl hk);obtain ⟨w',z⟩:=I.cell x c hc;refine wpAny_storeName_cell I.ok.kind hk hc z (λ h' hc' hs=>?_);obtain ⟨oc,hoc,hocd⟩:=id z;refine h { s with heap:=h' } ⟨I.ok,I.os,I.bare,⟨λ b o e n hb hx=>?_,λ b o e n hb hx=>?_,I.base.free,λ b o e hx=>?_,I.base.uk,I.base.t9,I.base.uo⟩,⟨m,hn.sameBut hs (Ne.symm (cne x c hc)),λ j y v' e1 e2 e3=>?_⟩,λ y c' e=>?_,I.free,I.k9,λ p hp=>?_,tracked ⟨oc,hoc,I.k9 x c hc⟩ hs,by simpa using I.len⟩ ⟨c,hs,.inr hc⟩
  · exact (hs.2 b (Z2 (Zz (Zt e) (I.ok.cab x c hfn hc)))).trans (I.base.keep b o e n hb hx)
  ·obtain ⟨sl,e1⟩:=I.base.slot b o e n hb hx
   exact ⟨sl,(hs.2 b (Z2 (Zz (Zt e) (I.ok.cab x c hfn hc)))).trans e1⟩
  ·obtain ⟨o',e1⟩:=I.base.there b o e hx
   exact ⟨o',(hs.2 b (Z2 (Zz (Zt e) (I.ok.cab x c hfn hc)))).trans e1⟩
  ·by_cases hj:j=i
   ·subst hj
    rw [hi] at e1; cases e1
    rw [List.getElem?_set_self hiσ] at e2;cases e2;exact ⟨u,r,.inr ⟨.inl hk,c,hc,hc'⟩⟩
   ·rw [List.getElem?_set_ne (Ne.symm hj)] at e2
    obtain ⟨u',r',q⟩:=hl j y v' e1 e2 e3;refine ⟨u',r',?_⟩;rcases q with q | ⟨k,c',e,z'⟩
    · exact .inl q
    ·refine .inr ⟨k,c',e,z'.sameBut hs ?_⟩
     rintro rfl
     exact hj (rK hN e1 (I.ok.inj _ _ _ e hc ▸ hi))
  ·by_cases hcc:c'=c
   · subst hcc; exact ⟨_,hc'⟩
   ·obtain ⟨w2,z2⟩:=I.cell y c' e
    exact ⟨w2,z2.sameBut hs hcc⟩
  ·obtain ⟨e,n,ne,nf,d⟩:=I.pin p hp
   refine ⟨(hs.2 p.1 ?_).trans e,n,ne,nf,d⟩;intro q;rw [q,hoc] at e;have q':oc=p.2:=Zj e;exact d w' (by rw [<- q']; exact hocd)
def mF (I:Inv X pins σ H s) (hN:X.N.Nodup) (hi:X.N[i]?=some x) (hx:Loc X.env.scope x) (r:RelV v u)
  (h:∀ s',Inv X pins (σ.set i (some v)) H s'->Q () s') (hf:X.fn x=true\/X.env.scope.names.lookup x=some .local:=by first | exact .inl rfl | exact .inr rfl | assumption):wpAny M A (storeName X.env x u) Q E s :=
 iZ I hN hi hx r (λ s' I' _=>h s' I') hf
def Inv.Em (I:Inv X pins σ H s) (ho:s'.os=s.os) (u:Un (frs X.stack) ch H H' s.heap s'.heap) (hok:HOk X.prog X.w H' s'.heap) (hg:AllBare s'.gens)
  (hch:∀ b ∈ ch,(b ∈ X.ex\/X.s₀.heap.objs.size<=b)/\b≠X.env.locals/\(∀ x c,X.env.cells.lookup x=some c->c≠b)/\∀ p ∈ X.pn++pins,p.1≠b):Inv X pins σ H' s':=by
 obtain ⟨h',g',d',t',o'⟩:=s';have e:o'=s.os:=ho;subst e;exact I.call (g':=g') (t':=t') (d':=d') u hok hg hch
end
abbrev XK:=Value->Option Addr->Hp->Prop
abbrev St:=List (Option V)
abbrev VK:=V->Hp->Prop
abbrev TE:=St->Hp->VK->Prop
abbrev TT:=St->Hp->(Bool->Hp->Prop)->Prop
abbrev TA:=St->Hp->(List V->Hp->Prop)->Prop
structure Ends where
 nx:St->Hp->Prop
 rt:VK
 bk:St->Hp->Prop:=λ _ _=>False
 ct:St->Hp->Prop:=λ _ _=>False
abbrev TS:=Ends->St->Hp->Prop
def EP (X:Cx) (pins:List (Addr×Obj)) (σ:St) (Q:VK) (u:Value) (s':Shared):Prop:=∃ v H',Inv X pins σ H' s'/\RelV v u/\Q v H'
def TP (X:Cx) (pins:List (Addr×Obj)) (σ:St) (Q:Bool->Hp->Prop) (b:Bool) (s':Shared):Prop:=∃ H',Inv X pins σ H' s'/\Q b H'
def AP (X:Cx) (pins:List (Addr×Obj)) (σ:St) (Q:List V->Hp->Prop) (us:List Value) (s':Shared):Prop:=∃ vs H',Inv X pins σ H' s'/\cK vs us/\Q vs H'
def SP (X:Cx) (pins:List (Addr×Obj)) (D:Ends) (f:Flow) (s':Shared):Prop :=
 match f with
 | .next=>∃ σ' H',Inv X pins σ' H' s'/\D.nx σ' H'
 | .brk=>∃ σ' H',Inv X pins σ' H' s'/\D.bk σ' H'
 | .cont=>∃ σ' H',Inv X pins σ' H' s'/\D.ct σ' H'
 | .ret u=>∃ v σ' H',Inv X pins σ' H' s'/\RelV v u/\D.rt v H'
def PE (X:Cx) (e:Expr) (t:TE):Prop :=
 ∀ (pins:List (Addr×Obj)) (s:Shared) (σ:St) (H:Hp) (Q:VK),Inv X pins σ H s->t σ H Q->wpAny (model X.prog X.w) X.A (eval e X.env) (EP X pins σ Q) X.xe s
def PT (X:Cx) (e:Expr) (t:TT):Prop :=
 ∀ (pins:List (Addr×Obj)) (s:Shared) (σ:St) (H:Hp) (Q:Bool->Hp->Prop),Inv X pins σ H s->t σ H Q->wpAny (model X.prog X.w) X.A (isTrue e X.env (eval e X.env)) (TP X pins σ Q) X.xe s
def PW (X:Cx) (e:Expr) (t:TT):Prop :=
 ∀ (whole:Sem Value) (pins:List (Addr×Obj)) (s:Shared) (σ:St) (H:Hp) (Q:Bool->Hp->Prop),Inv X pins σ H s->t σ H Q->wpAny (model X.prog X.w) X.A (isTrue e X.env whole) (TP X pins σ Q) X.xe s
def PW.pt (h:PW X e t):PT X e t:=h _
def PA (X:Cx) (es:List Expr) (t:TA):Prop :=
 ∀ (pos:Pos) (pins:List (Addr×Obj)) (s:Shared) (σ:St) (H:Hp) (Q:List V->Hp->Prop),Inv X pins σ H s->t σ H Q->wpAny (model X.prog X.w) X.A (spliced (backTo pos (starEach es X.env))) (AP X pins σ Q) X.xe s
def PS (X:Cx) (st:Stmt) (t:TS):Prop :=
 ∀ (pins:List (Addr×Obj)) (s:Shared) (σ:St) (H:Hp) (D:Ends),Inv X pins σ H s->t D σ H->wpAny (model X.prog X.w) X.A (exec st X.env) (SP X pins D) X.xe s
def PSs (X:Cx) (st:List Stmt) (t:TS):Prop :=
 ∀ (pins:List (Addr×Obj)) (s:Shared) (σ:St) (H:Hp) (D:Ends),Inv X pins σ H s->t D σ H->wpAny (model X.prog X.w) X.A (execs st X.env) (SP X pins D) X.xe s
def thn {α:Type} {t:Sem α} {Q Q':α->Shared->Prop} (h:wpAny M A t Q E s) (hQ:∀ a s,Q a s->Q' a s):wpAny M A t Q' E s:=Yt h hQ λ _ _ x=>x
end L2
namespace L2
open PySem PySem.Spec PyProof.Rows
section
variable {X:Cx}
def Mr (i:Nat):TE:=λ σ H Q=>∃ v,σ[i]?=some (some v)/\Q v H
def tC (v:V):TE:=λ _ H Q=>Q v H
def jR (hN:X.N[i]?=some x) (hv:Vis X.env.scope x) (hd:(x == ("__debug__":Str))=false:=by decide) (hcd:(x == ("__classdict__":Str))=false:=by decide):PE X (.Name x pos) (Mr i):=by
 intro pins s σ H Q I h;obtain ⟨v,e,h⟩:=h;obtain ⟨m,hn,hl⟩:=I.loc;obtain ⟨u,r,l⟩:=hl i x v hN e hv;have fin:EP X pins σ Q u s:=⟨v,H,I,r,h⟩
 rcases l with ⟨hk,hm⟩ | ⟨hk,c,hc,hcell⟩
 · exact wpAny_Name (wpAny_loadName_local I.ok.kind hk hn hm fin) hd
 ·rcases hk with hk | hk
  · exact wpAny_Name (wpAny_loadName_cell I.ok.kind hk hc hcell fin) hd
  · exact wpAny_Name (wpAny_loadName_free I.ok.kind hk hc hcell fin hcd) hd
def FK {i j pos}:PE X (.Constant (.int i) j pos) (tC (.int i)):=λ _ _ _ H _ I h=>wpAny_Constant_int ⟨.int i,H,I.tok _,⟨_,rfl⟩,h⟩
def Ki {b j pos}:PE X (.Constant (.bool b) j pos) (tC (.bl b)):=λ _ _ _ H _ I h=>Constant_bool ⟨.bl b,H,I,rfl,h⟩
def FI {j pos}:PE X (.Constant .none j pos) (tC .non):=λ _ _ _ H _ I h=>Constant_none ⟨.non,H,I,rfl,h⟩
def FF {x j pos}:PE X (.Constant (.str x) j pos) (tC (.str x)):=λ _ _ _ H _ I h=>Calls.Constant_str ⟨.str x,H,I.tok _,⟨_,rfl⟩,h⟩
def Gl (X:Cx) (x:Str):Prop:=X.env.kindOf x=some .globalImplicit
def qf (I:Inv X pins σ H s) (hg:Gl X x) (hm:X.mg x=some u) (h:Q u s)
  (hd:(x == ("__debug__":Str))=false:=by decide):wpAny (model X.prog X.w) X.A (eval (.Name x pos) X.env) Q E s :=
 Calls.Name_function_global I.ok.kind hg (Calls.loadGlobal_global (by rw [I.ok.glob]; exact I.mod.glob.keeps I.bk) hm h) hd
def je (I:Inv X pins σ H s) (hg:Gl X x) (hm:X.mg x=none) (hv:bootBuiltins x=some u) (h:Q u s)
  (hn:x≠"__name__":=by decide) (hd:(x == ("__debug__":Str))=false:=by decide):wpAny (model X.prog X.w) X.A (eval (.Name x pos) X.env) Q E s:=by
 obtain ⟨mb,h1,h2⟩:=I.mod.blt;exact Calls.Name_function_global I.ok.kind hg (Calls.loadGlobal_builtin (by rw [I.ok.glob]; exact I.mod.glob.keeps I.bk) hm (by rw [I.ok.blt]; exact h1.keeps I.bk) ((h2 x hn).trans hv) h) hd
def CJ (hg:Gl X x) (hm:X.mg x=some u) (r:RelV v u) (hd:(x == ("__debug__":Str))=false:=by decide):PE X (.Name x pos) (tC v) :=
 λ _ _ _ H _ I h=>qf I hg hm ⟨v,H,I,r,h⟩ hd
def CO (hg:Gl X x) (hm:X.mg x=none) (hv:bootBuiltins x=some u) (r:RelV v u) (hn:x≠"__name__":=by decide) (hd:(x == ("__debug__":Str))=false:=by decide):PE X (.Name x pos) (tC v) :=
 λ _ _ _ H _ I h=>je I hg hm hv ⟨v,H,I,r,h⟩ hn hd
variable {a b:Expr} {ta tb:TE} {pos:Pos}
def tB (t:TE):TT:=λ σ H Q=>t σ H λ x H1=>∃ c,x=.bl c/\Q c H1
def Fm (h:PE X e t) (he:∀ whole,isTrue e X.env whole=(do let v <- whole; standAt e.pos; holding [v] (truthy v)):=by intro _; rfl):PT X e (tB t):=by
 intro pins s σ H Q I hw;refine isTrue_plain (thn (h pins s σ H _ I hw) λ v s1 ⟨x,H1,I1,r1,q1⟩=>?_) (he _);obtain ⟨d,rfl,q⟩:=q1;cases r1;exact wpAny_truthy_bool ⟨H1,I1,q⟩
variable {tA tB':TT} {rest:List Expr}
def Ng (t u:TT):TT:=λ σ H Q=>t σ H λ c H1=>if c=true then u σ H1 Q else Q false H1
def tOr (t u:TT):TT:=λ σ H Q=>t σ H λ c H1=>if c=true then Q true H1 else u σ H1 Q
def M7 (t:TT):TT:=λ σ H Q=>t σ H λ c H1=>Q (!c) H1
def pw_and1 (ha:PT X a tA):PW X (.BoolOp .And [a] pos) tA:=by
 intro wh pins s σ H Q I h;refine isTrue_and (thn (ha pins s σ H Q I h) λ c s1 e=>?_)
 cases c with
 | true=>exact isTrue_and_nil e
 | false=>exact e
def pw_or1 (ha:PT X a tA):PW X (.BoolOp .Or [a] pos) tA:=by
 intro wh pins s σ H Q I h;refine isTrue_or (thn (ha pins s σ H Q I h) λ c s1 e=>?_)
 cases c with
 | false=>exact isTrue_or_nil e
 | true=>exact e
def pw_and (ha:PT X a tA) (hb:PW X (.BoolOp .And (b::rest) pos) tB'):PW X (.BoolOp .And (a::b::rest) pos) (Ng tA tB'):=by
 intro wh pins s σ H Q I h;refine isTrue_and (thn (ha pins s σ H _ I h) λ c s1 ⟨H1,I1,q1⟩=>?_)
 cases c with
 | true=>exact hb wh pins s1 σ H1 Q I1 q1
 | false=>exact ⟨H1,I1,q1⟩
def pw_or (ha:PT X a tA) (hb:PW X (.BoolOp .Or (b::rest) pos) tB'):PW X (.BoolOp .Or (a::b::rest) pos) (tOr tA tB'):=by
 intro wh pins s σ H Q I h;refine isTrue_or (thn (ha pins s σ H _ I h) λ c s1 ⟨H1,I1,q1⟩=>?_)
 cases c with
 | true=>exact ⟨H1,I1,q1⟩
 | false=>exact hb wh pins s1 σ H1 Q I1 q1
def Fn (ha:PT X a tA):PT X (.UnaryOp .Not a pos) (M7 tA):=by
 intro pins s σ H Q I h;exact isTrue_not (ha pins s σ H (λ c H1=>Q (!c) H1) I h)
def J0 (ta tb:TE):TE:=λ σ H Q=>ta σ H λ x H1=>∃ c,x=.bl c/\if c=true then tb σ H1 Q else Q (.bl false) H1
def JT (ta:TE):TE:=λ σ H Q=>ta σ H λ x H1=>∃ c,x=.bl c/\Q (.bl (!c)) H1
def FG {op} (h:PE X a t):PE X (.BoolOp op [a] pos) t:=λ pins s σ H Q I hw=>BoolOp_one (h pins s σ H Q I hw)
def FO (ha:PE X a ta) (hb:PE X (.BoolOp .And (b::rest) pos) tb):PE X (.BoolOp .And (a::b::rest) pos) (J0 ta tb):=by
 intro pins s σ H Q I h;refine BoolOp_and (thn (ha pins s σ H _ I h) λ v s1 ⟨x,H1,I1,r1,q1⟩=>?_);obtain ⟨c,rfl,q1⟩:=q1;cases r1;refine wpAny_truthy_bool ?_
 cases c with
 | true=>exact hb pins s1 σ H1 Q I1 q1
 | false=>exact ⟨.bl false,H1,I1,rfl,q1⟩
def FH (ha:PE X a ta):PE X (.UnaryOp .Not a pos) (JT ta):=by
 intro pins s σ H Q I h;refine UnaryOp_ (thn (ha pins s σ H _ I h) λ v s1 ⟨x,H1,I1,r1,q1⟩=>?_);obtain ⟨c,rfl,q1⟩:=q1;cases r1;exact not_of (wpAny_truthy_bool ⟨.bl (!c),H1,I1,rfl,q1⟩)
def tIf (t:TT) (ta tb:TE):TE:=λ σ H Q=>t σ H λ c H1=>if c=true then ta σ H1 Q else tb σ H1 Q
def yJ (hc:PT X c tA) (ha:PE X a ta) (hb:PE X b tb):PE X (.IfExp c a b pos) (tIf tA ta tb):=by
 intro pins s σ H Q I h;refine wpAny_IfExp (thn (hc pins s σ H _ I h) λ d s1 ⟨H1,I1,q1⟩=>?_)
 cases d with
 | true=>exact ha pins s1 σ H1 Q I1 q1
 | false=>exact hb pins s1 σ H1 Q I1 q1
end
end L2
namespace L2
open PySem PySem.Spec PyProof.Rows
def SqL (K:W.Frag) (H:Hp) (a:Addr) (xs:List V):Prop :=
 Rd H a (.lst xs) \/
  ∃ (o:Obj) (its:Array Value) (n:Nat),K.lookup a=some o/\o.cls=.type "list"/\o.dict=none/\o.data=.seq its n/\its.size<=sizeLine/\cK xs its.toList
def SqT (K:W.Frag) (H:Hp) (a:Addr) (xs:List V):Prop :=
 Rd H a (.tup xs) \/
  ∃ (o:Obj) (its:Array Value) (n:Nat),K.lookup a=some o/\o.cls=.type "tuple"/\o.data=.seq its n/\its.size<=sizeLine/\cK xs its.toList
def OD:Value->Option V
 | .none=>some .non
 | .bool b=>some (.bl b)
 | .int i _=>some (.int i)
 | .str x _=>some (.str x)
 | .bytes b _=>some (.byt b)
 | .float b _=>some (.flt b)
 | .ref a=>some (.ref a)
 | .type n=>some (.ty n)
 | _=>none
def RelV.abs (r:RelV x u):OD u=some x:=by
 cases x with
 | non=>cases r; rfl
 | bl _=>cases r; rfl
 | int _=>obtain ⟨t,rfl⟩:=r; rfl
 | str _=>obtain ⟨t,rfl⟩:=r; rfl
 | byt _=>obtain ⟨t,rfl⟩:=r; rfl
 | flt _=>obtain ⟨t,rfl⟩:=r; rfl
 | ref _=>cases r; rfl
 | ty _=>cases r; rfl
def RelV.inj (r:RelV x u) (q:RelV y u):x=y:=Zj (r.abs.symm.trans q.abs)
def cK.inj:∀ {xs ys:List V} {us:List Value},cK xs us->cK ys us->xs=ys
 | _,_,_,.nil,.nil=>rfl
 | _,_,_,.cons r t,.cons r' t'=>by rw [r.inj r',cK.inj t t']
section
variable {X:Cx} {pins:List (Addr×Obj)} {σ:St} {H:Hp} {s:Shared} {a:Addr} {xs ys:List V}
def SqL.of {K:W.Frag} (h:H a=some (.lst xs)):SqL K H a xs:=.inl (.inl h)
def SqT.of {K:W.Frag} (h:H a=some (.tup xs)):SqT K H a xs:=.inl (.inl h)
def Inv.list (I:Inv X pins σ H s) (h:SqL X.K H a xs):∃ its:List Value,cK xs its/\PlainL s.heap a its.toArray/\xs.length<=sizeLine:=by
 rcases h with h | ⟨o,its,n,hk,hc,hd,hs,hz,r⟩
 ·obtain ⟨z,its,n,r,e⟩:=h.ok I.hok
  exact ⟨its,r,⟨_,n,e,rfl,rfl,rfl⟩,z⟩
 ·refine ⟨its.toList,r,⟨o,n,I.kIn a o hk,hc,hd,by simpa using hs⟩,?_⟩
  have e:=r.length;simp only [Array.length_toList] at e;omega
def Inv.tuple (I:Inv X pins σ H s) (h:SqT X.K H a xs):∃ its:List Value,cK xs its/\IsTup s.heap a its.toArray/\xs.length<=sizeLine:=by
 rcases h with h | ⟨o,its,n,hk,hc,hs,hz,r⟩
 ·obtain ⟨z,its,r,p⟩:=h.ok I.hok
  exact ⟨its,r,p,z⟩
 ·refine ⟨its.toList,r,⟨o,I.kIn a o hk,hc,n,by simpa using hs⟩,?_⟩
  have e:=r.length;simp only [Array.length_toList] at e;omega
def Inv.mT (I:Inv X pins σ H s) (h:SqL X.K H a xs) (h':SqL X.K H a ys):xs=ys:=by
 obtain ⟨its,r,⟨o,n,e,_,_,d⟩,_⟩:=I.list h;obtain ⟨its',r',⟨o',n',e',_,_,d'⟩,_⟩:=I.list h';rw [e] at e'; cases e'
 rw [d] at d';injection d' with d1 _
 have:its=its':=by simpa using X4 Array.toList d1
 subst this;exact r.inj r'
def Inv.um (I:Inv X pins σ H s) (h:SqT X.K H a xs) (h':SqT X.K H a ys):xs=ys:=by
 obtain ⟨its,r,⟨o,e,_,n,d⟩,_⟩:=I.tuple h;obtain ⟨its',r',⟨o',e',_,n',d'⟩,_⟩:=I.tuple h';rw [e] at e'; cases e'
 rw [d] at d';injection d' with d1 _
 have:its=its':=by simpa using X4 Array.toList d1
 subst this;exact r.inj r'
end
abbrev Cx.xM (X:Cx) (E:Value->Shared->Prop):Cx:={ X with xe:=E }
abbrev Cx.nox (X:Cx):Cx:=X.xM λ _ _=>False
def Cx.Ok.xM {X:Cx} (ok:X.Ok) (E:Value->Shared->Prop):(X.xM E).Ok :=
 ⟨ok.mod,ok.kind,ok.glob,ok.blt,ok.above,ok.inj,ok.has,ok.cab,ok.hd,ok.frames,ok.stk,ok.exf,ok.bs,ok.bsz,ok.EG,ok.JI,ok.t8,ok.frf⟩
def Cx.Ok.jQ {X:Cx} {E:Value->Shared->Prop} (ok:(X.xM E).Ok):X.Ok :=
 ⟨ok.mod,ok.kind,ok.glob,ok.blt,ok.above,ok.inj,ok.has,ok.cab,ok.hd,ok.frames,ok.stk,ok.exf,ok.bs,ok.bsz,ok.EG,ok.JI,ok.t8,ok.frf⟩
section
variable {X:Cx} {pins:List (Addr×Obj)} {σ:St} {H:Hp} {s:Shared} {E:Value->Shared->Prop}
def Inv.xM (I:Inv X pins σ H s) (E:Value->Shared->Prop):Inv (X.xM E) pins σ H s:=⟨I.ok.xM E,I.os,I.bare,I.base,I.loc,I.cell,I.free,I.k9,I.pin,I.hok,I.len⟩
def Inv.jQ (I:Inv (X.xM E) pins σ H s):Inv X pins σ H s:=⟨I.ok.jQ,I.os,I.bare,I.base,I.loc,I.cell,I.free,I.k9,I.pin,I.hok,I.len⟩
def SP.jQ (h:SP (X.xM E) pins D f s'):SP X pins D f s':=by
 cases f with
 | next=>obtain ⟨σ',H',I,q⟩:=h; exact ⟨σ',H',I.jQ,q⟩
 | brk=>obtain ⟨σ',H',I,q⟩:=h; exact ⟨σ',H',I.jQ,q⟩
 | cont=>obtain ⟨σ',H',I,q⟩:=h; exact ⟨σ',H',I.jQ,q⟩
 | ret u=>obtain ⟨v,σ',H',I,r,q⟩:=h; exact ⟨v,σ',H',I.jQ,r,q⟩
def PSs.nox {st:List Stmt} {t:TS} (h:PSs X.nox st t):PSs X st t:=λ pins s σ H D I hw =>
 Yt (h pins s σ H D (I.xM _) hw) (λ _ _ q=>q.jQ) λ _ _ z=>False.elim z
end
section
variable {X:Cx} {st:Stmt} {rest:List Stmt} {t u:TS} {e:Expr} {te:TE} {pos:Pos}
def JU:TS:=λ D σ H=>D.nx σ H
def M5 (t u:TS):TS:=λ D σ H=>t { D with nx:=u D } σ H
def Ca:PSs X [] JU:=λ _ _ σ H _ I h=>wpAny_execs_nil ⟨σ,H,I,h⟩
def yp (h1:PS X st t) (h2:PSs X rest u):PSs X (st::rest) (M5 t u):=by
 intro pins s σ H D I h;refine wpAny_execs_cons (thn (h1 pins s σ H { D with nx:=u D } I h) λ f s1 q=>?_)
 cases f with
 | next =>
  obtain ⟨σ',H',I',q⟩:=q;exact h2 pins s1 σ' H' D I' q
 | ret v=>exact q
 | brk=>exact q
 | cont=>exact q
def uO (h1:PS X st t):PSs X [st] t:=by
 intro pins s σ H D I h;refine wpAny_execs_cons (thn (h1 pins s σ H D I h) λ f s1 q=>?_)
 cases f with
 | next=>exact wpAny_execs_nil q
 | ret v=>exact q
 | brk=>exact q
 | cont=>exact q
def E3:TS:=λ D σ H=>D.bk σ H
def yz:PS X (.Break pos) E3:=λ _ _ σ H _ I h=>wpAny_Break ⟨σ,H,I,h⟩
def Inv.quiet (I:Inv X pins σ H s):interactive X.env=false:=by simp [interactive,I.ok.kind]
def JW (te:TE):TS:=λ D σ H=>te σ H λ _ H1=>D.nx σ H1
def uV (he:PE X e te) (hs:swapsWith e none pos.line X.env=pure false:=by rfl):PS X (.Expr e pos) (JW te):=by
 intro pins s σ H D I h;exact wpAny_Expr_any (thn (he pins s σ H _ I h) λ v s1 ⟨x,H1,I1,r1,q1⟩=>⟨σ,H1,I1,q1⟩) I.quiet hs
def M6 (te:TE):TS:=λ D σ H=>te σ H D.rt
def uU (he:PE X e te):PS X (.Return (some e) pos) (M6 te):=by
 intro pins s σ H D I h;exact wpAny_Return_some (thn (he pins s σ H _ I h) λ v s1 ⟨x,H1,I1,r1,q1⟩=>⟨x,σ,H1,I1,r1,q1⟩)
def Nb (c:TT) (t u:TS):TS:=λ D σ H=>c σ H λ b H1=>if b=true then t D σ H1 else u D σ H1
def Kb (hc:PT X c tc) (ha:PSs X a t) (hb:PSs X b u):PS X (.If c a b pos) (Nb tc t u):=by
 intro pins s σ H D I h;refine wpAny_If (thn (hc pins s σ H _ I h) λ d s1 ⟨H1,I1,q1⟩=>?_)
 cases d with
 | true=>exact ha pins s1 σ H1 D I1 q1
 | false=>exact hb pins s1 σ H1 D I1 q1
end
abbrev TG:=V->St->Hp->(St->Hp->Prop)->Prop
abbrev TGs:=List V->St->Hp->(St->Hp->Prop)->Prop
def PG (X:Cx) (target:Expr) (t:TG):Prop :=
  ∀ (pins:List (Addr×Obj)) (s:Shared) (σ:St) (H:Hp) (v:V) (u:Value) (Q:St->Hp->Prop),Inv X pins σ H s->RelV v u->t v σ H Q ->
    wpAny (model X.prog X.w) X.A (assign target X.env u) (λ _ s'=>∃ σ' H',Inv X pins σ' H' s'/\Q σ' H') X.xe s
def PGs (X:Cx) (ts:List Expr) (t:TGs):Prop :=
  ∀ (pins:List (Addr×Obj)) (s:Shared) (σ:St) (H:Hp) (vs:List V) (us:List Value) (Q:St->Hp->Prop),Inv X pins σ H s->cK vs us->t vs σ H Q ->
    wpAny (model X.prog X.w) X.A (assignInOrder ((assignEach ts X.env).map (·.2)) us) (λ _ s'=>∃ σ' H',Inv X pins σ' H' s'/\Q σ' H') X.xe s
abbrev MZ:=V->V->V->Hp->(Hp->Prop)->Prop
def M0 (X:Cx) (t:MZ):Prop :=
  ∀ (pins:List (Addr×Obj)) (s:Shared) (σ:St) (H:Hp) (o i v:V) (ov iv u:Value) (Q:Hp->Prop),Inv X pins σ H s->RelV o ov->RelV i iv->RelV v u->t o i v H Q ->
    wpAny (model X.prog X.w) X.A (setItem ov iv u) (λ _ s'=>∃ H',Inv X pins σ H' s'/\Q H') X.xe s
abbrev TIp:=V->V->Hp->VK->Prop
def PIp (X:Cx) (op:Operator) (t:TIp):Prop :=
  ∀ (pins:List (Addr×Obj)) (s:Shared) (σ:St) (H:Hp) (x y:V) (v u:Value) (Q:VK),Inv X pins σ H s->RelV x v->RelV y u->t x y H Q ->
    wpAny (model X.prog X.w) X.A (inplaceOp op v u) (EP X pins σ Q) X.xe s
section
variable {X:Cx} {pos:Pos}
def jh (i:Nat):TG:=λ v σ H Q=>Q (σ.set i (some v)) H
def kJ (hN:X.N.Nodup) (hi:X.N[i]?=some x) (hx:Loc X.env.scope x) (hf:X.fn x=true\/X.env.scope.names.lookup x=some .local:=by first | exact .inl rfl | exact .inr rfl | assumption):PG X (.Name x pos) (jh i):=by
 intro pins s σ H v u Q I r h;exact wpAny_assign_Name (mF I hN hi hx r (λ s' I'=>⟨_,H,I',h⟩) hf)
def MS:TGs:=λ vs σ H Q=>vs=[]/\Q σ H
def DQ (t:TG) (u:TGs):TGs:=λ vs σ H Q=>∃ v r,vs=v::r/\t v σ H λ σ' H'=>u r σ' H' Q
def u0:PGs X [] MS:=by
 intro pins s σ H vs us Q I r h;obtain ⟨e,h⟩:=h;subst e;cases r;exact assignInOrder_nil ⟨σ,H,I,h⟩
def mJ (h1:PG X e t) (h2:PGs X es u)
  (hs:(assignEach (e::es) X.env).map (·.2)=assign e X.env::(assignEach es X.env).map (·.2):=by rfl):PGs X (e::es) (DQ t u):=by
 intro pins s σ H vs us Q I r h;obtain ⟨v,vr,e1,h⟩:=h;subst e1
 cases r with
 | cons r rr =>
  rw [hs];refine assignInOrder_cons (thn (h1 pins s σ H _ _ _ I r h) λ _ s1 ⟨σ1,H1,I1,q1⟩=>?_);exact h2 pins s1 σ1 H1 _ _ Q I1 rr q1
def MR (K:W.Frag) (n:Nat) (t:TGs):TG:=λ v σ H Q=>∃ a xs,v=.ref a/\SqT K H a xs/\xs.length=n/\t xs σ H Q
def Ao (hc:X.calm=true) (h:PGs X es t)
  (hn:(assignEach es X.env).length=n:=by rfl) (hst:(assignEach es X.env).findIdx? (·.1)=none:=by rfl):PG X (.Tuple es k pos) (MR X.K n t):=by
 intro pins s σ H v u Q I r hw;obtain ⟨a,xs,e1,hq,hl,hw⟩:=hw;subst e1;cases r;obtain ⟨its,rv,ht,hz⟩:=I.tuple hq;refine assign_Tuple_tuple (I.ok.hd hc) ht (by simp [hn,<- hl,rv.length]) hst λ h' hx=>?_
 have I1:Inv X pins σ H { s with heap:=h' }:=I.kept (t':=s.toks) λ b o e=>hx b o (Z2 (Zt e)) e
 exact h pins _ σ H xs _ Q I1 (by simpa using rv) hw
def Ox (to ti:TE) (t:MZ):TG:=λ v σ H Q=>to σ H λ o H1=>ti σ H1 λ i H2=>t o i v H2 λ H3=>Q σ H3
def FA (ho:PE X o to) (hi:PE X i ti) (hs:M0 X t)
  (ha:∀ v,assign (.Subscript o i pos) X.env v=(do
    let ov <- holding [v] (eval o X.env)
    let iv <- holding [v,ov] (eval i X.env)
    standAt pos
    holding [v,ov,iv] (setItem ov iv v)
    release [v,ov,iv] []):=by intro _; rfl):PG X (.Subscript o i pos) (Ox to ti t):=by
 intro pins s σ H v u Q I r h;rw [ha];refine Zi (wpAny_holding (thn (ho pins s σ H _ I h) λ ov s1 ⟨x,H1,I1,r1,q1⟩=>?_));refine Zi (wpAny_holding (thn (hi pins s1 σ H1 _ I1 q1) λ iv s2 ⟨y,H2,I2,r2,q2⟩=>?_));refine Zi (Wy (Zi (wpAny_holding (thn (hs pins s2 σ H2 x y v ov iv u _ I2 r1 r2 r q2) λ _ s3 ⟨H3,I3,q3⟩=>?_))));exact wpAny_release ⟨σ,H3,I3,q3⟩
def E4 (te:TE) (g:TG):TS:=λ D σ H=>te σ H λ x H1=>g x σ H1 D.nx
def An (he:PE X e te) (hg:PG X tg g) (hs:swapsWithSole [tg] e pos.line X.env=pure false:=by rfl) (hw:swappedStores [tg] e X.env=pure none:=by rfl)
  (h1:(assignEach [tg] X.env).map (·.2)=[assign tg X.env]:=by rfl):PS X (.Assign [tg] e pos) (E4 te g):=by
 intro pins s σ H D I h;refine wpAny_Assign_stores (thn (he pins s σ H _ I h) λ v s1 ⟨x,H1,I1,r1,q1⟩=>?_) hs hw;rw [h1];exact thn (hg pins s1 σ H1 x v _ I1 r1 q1) λ _ s2 q=>q
def uT {i:Nat} {x:Str} {e:Expr} {te:TE} {pos':Pos} (hN:X.N.Nodup) (hi:X.N[i]?=some x) (hx:Loc X.env.scope x) (he:PE X e te) (hs:swapsWith e (some (.Name x pos')) pos.line X.env=pure false:=by rfl) (hf:X.fn x=true\/X.env.scope.names.lookup x=some .local:=by first | exact .inl rfl | exact .inr rfl | assumption) :
  PS X (.Assign [.Name x pos'] e pos) (E4 te (jh i)):=by
 intro pins s σ H D I h;refine wpAny_Assign_Name (thn (he pins s σ H _ I h) λ v s1 ⟨y,H1,I1,r1,q1⟩=>?_) hs;exact mF I1 hN hi hx r1 (λ s2 I2=>⟨_,H1,I2,q1⟩) hf
def Nf (i:Nat) (te:TE) (ti:TIp):TS:=λ D σ H=>∃ x,σ[i]?=some (some x)/\te σ H λ y H1=>ti x y H1 λ z H2=>D.nx (σ.set i (some z)) H2
def Fu (hN:X.N.Nodup) (hi:X.N[i]?=some x) (hx:Loc X.env.scope x) (he:PE X e te) (ho:PIp X op ti) (hf:X.fn x=true\/X.env.scope.names.lookup x=some .local:=by first | exact .inl rfl | exact .inr rfl | assumption) :
  PS X (.AugAssign (.Name x pos') op e pos) (Nf i te ti):=by
 intro pins s σ H D I h;obtain ⟨v,e1,h⟩:=h;obtain ⟨m,hn,hl⟩:=I.loc;have vis:Vis X.env.scope x:=by rcases hx with k | k; exact .inl k; exact .inr (.inl k)
 obtain ⟨u,r,l⟩:=hl i x v hi e1 vis;refine wpAny_AugAssign_Name ?_
 have go:wpAny (model X.prog X.w) X.A (eval e X.env) (λ w s₂=>wpAny (model X.prog X.w) X.A (inplaceOp op u w) (λ r s₃=>wpAny (model X.prog X.w) X.A (storeName X.env x r) (λ _=>SP X pins D .next) X.xe s₃) X.xe s₂) X.xe s:=by
  refine thn (he pins s σ H _ I h) λ w s1 ⟨y,H1,I1,r1,q1⟩=>?_
  refine thn (ho pins s1 σ H1 v y u w _ I1 r r1 q1) λ z s2 ⟨zv,H2,I2,r2,q2⟩=>?_
  exact mF I2 hN hi hx r2 (λ s3 I3=>⟨_,H2,I3,q2⟩) hf
 rcases l with ⟨hk,hm⟩ | ⟨hk,c,hc,hcell⟩
 · exact wpAny_loadName_local I.ok.kind hk hn hm go
 ·rcases hk with hk | hk
  · exact wpAny_loadName_cell I.ok.kind hk hc hcell go
  ·rcases hx with k | k
   ·have:X.env.scope.names.lookup x=some .free:=hk
    rw [k] at this; cases this
   ·have:X.env.scope.names.lookup x=some .free:=hk
    rw [k] at this; cases this
def ipI (f:Int->Int->Int):TIp:=λ x y H Q=>∃ i j,x=.int i/\y=.int j/\Q (.int (f i j)) H
def ox:PIp X .Add (ipI λ i j=>i+j):=by
 intro pins s σ H x y v u Q I r1 r2 h;obtain ⟨i,j,e1,e2,q⟩:=h;subst e1; subst e2
 obtain ⟨t,rfl⟩:=r1;obtain ⟨t',rfl⟩:=r2;exact iadd_int ⟨.int _,H,I.tok _,⟨_,rfl⟩,q⟩
def A4:PIp X .Sub (ipI λ i j=>i - j):=by
 intro pins s σ H x y v u Q I r1 r2 h;obtain ⟨i,j,e1,e2,q⟩:=h;subst e1; subst e2
 obtain ⟨t,rfl⟩:=r1;obtain ⟨t',rfl⟩:=r2;exact isub_int ⟨.int _,H,I.tok _,⟨_,rfl⟩,q⟩
end
section
variable {X:Cx} {pos:Pos}
def EY (c:TT) (tb:TS):TS:=λ D σ H=>∃ W:Nat->St->Hp->Prop,(∃ m,W m σ H)/\∀ m σ H,W m σ H ->
 c σ H λ b H1=>if b=true then ∃ N:St->Hp->Prop,(∀ σ' H',N σ' H'->∃ m',m' < m/\W m' σ' H')/\tb { D with nx:=N,ct:=N,bk:=D.nx } σ H1 else D.nx σ H1
def yx (hp:PassesOwn (model X.prog X.w) X.A X.env X.xe) (hc:PT X c tc) (hb:PSs X body tb):PS X (.While c body [] pos) (EY tc tb):=by
 intro pins s σ H D I h;obtain ⟨W,⟨m0,w0⟩,turn⟩:=h;refine wpAny_While (codeAny_whileLoop (λ n s'=>∃ σ' H',Inv X pins σ' H' s'/\W n σ' H') ?_ m0 ⟨σ,H,I,w0⟩)
 rintro n s1 ⟨σ1,H1,I1,w1⟩
 refine X2 hp (thn (hc pins s1 σ1 H1 _ I1 (turn n σ1 H1 w1)) λ b s2 ⟨H2,I2,q2⟩=>?_)
 cases b with
 | true =>
  obtain ⟨N,hN,q2⟩:=q2;rw [if_pos rfl];refine X2 hp (thn (hb pins s2 σ1 H2 _ I2 q2) λ f s3 q3=>?_)
  cases f with
  | next =>
   obtain ⟨σ3,H3,I3,n3⟩:=q3;obtain ⟨m',hm,w3⟩:=hN σ3 H3 n3;exact ⟨m',hm,σ3,H3,I3,w3⟩
  | cont =>
   obtain ⟨σ3,H3,I3,n3⟩:=q3;obtain ⟨m',hm,w3⟩:=hN σ3 H3 n3;exact ⟨m',hm,σ3,H3,I3,w3⟩
  | brk=>exact q3
  | ret v=>exact q3
 | false =>
  rw [if_neg Zf];exact wpAny_execs_nil ⟨σ1,H2,I2,q2⟩
end
structure It where
 go:Nat->Hp->Prop
 yld:Nat->Hp->V->Hp->Prop
 stop:Nat->Hp->Prop
def pD (X:Cx) (pins:List (Addr×Obj)) (H:Hp) (b:Addr):Prop :=
 H b=none/\b≠X.env.locals/\b ∉ X.fs/\(b ∈ X.ex\/X.s₀.heap.objs.size<=b)/\(∀ x c,X.env.cells.lookup x=some c->c≠b)/\∀ p ∈ X.pn++pins,p.1≠b
def Inv.sj (I:Inv X pins σ H s) (hb:s.heap.objs.size<=b) (hn:H' b=none):pD X pins H' b:=by
 refine ⟨hn,Nat.ne_of_gt (Zz I.lt hb),I.NG hb,.inr (Zc I.sz hb),λ x c e z=>?_,λ p hp z=>?_⟩
 ·obtain ⟨v,q⟩:=I.cell x c e
  exact absurd (Zz q.lt (by rw [z]; exact hb)) (Y9 _)
 · exact absurd (Zz (Zt (I.pin p hp).1) (by rw [z]; exact hb)) (Y9 _)
structure Turn (P:Program) (w:World) (K:W.Frag) (tg:Expr) (J:It) (fp:List Addr) (it:Addr) (tn:Nat->Heap->Prop):Prop where
 mem:it ∈ fp
 obj:∀ i h,tn i h->∀ b ∈ fp,∃ o,h.get? b=some o/\∀ v,o.data≠.cell v
 keep:∀ i h h',tn i h->(∀ b ∈ fp,∀ o,h.get? b=some o->h'.get? b=some o)->tn i h'
 item:∀ (X:Cx),X.prog=P->X.w=w->X.K=K->X.calm=true->∀ (i:Nat) (pins:List (Addr×Obj)) (s:Shared) (σ:St) (H:Hp) (E:Value->Shared->Prop),Inv X pins σ H s->(∀ b ∈ fp,pD X pins H b)->tn i s.heap->J.go i H ->
  wpAny (model P w) X.A (pyNext (.ref it)) (λ r s1=>∃ u,r=some u /\
   wpAny (model P w) X.A (letOwnedTupleGo tg (.ref it) u) (λ _ s2=>∃ x H',Inv X pins σ H' s2/\RelV x u/\J.yld i H x H'/\tn (i+1) s2.heap/\∀ b ∈ fp,H' b=none) E s1) E s
 done:∀ (X:Cx),X.prog=P->X.w=w->X.K=K->X.calm=true->∀ (i:Nat) (pins:List (Addr×Obj)) (s:Shared) (σ:St) (H:Hp) (E:Value->Shared->Prop),Inv X pins σ H s->(∀ b ∈ fp,pD X pins H b)->tn i s.heap->J.stop i H ->
  wpAny (model P w) X.A (pyNext (.ref it)) (λ r s1=>r=none/\Inv X pins σ H s1) E s
 self:∀ (A:Around) (i:Nat) (s:Shared) (Q:Value->Shared->Prop) (E:Value->Shared->Prop),tn i s.heap->Q (.ref it) s->wpAny (model P w) A (pyIter (.ref it)) Q E s
abbrev TI:=St->Hp->(It->Hp->Prop)->Prop
def PIE (X:Cx) (pins:List (Addr×Obj)) (σ:St) (tg:Expr) (R:It->Hp->Prop) (itv:Value) (s2:Shared):Prop :=
 ∃ (it:Addr) (fp:List Addr) (tn:Nat->Heap->Prop) (J:It) (H':Hp),itv=.ref it/\Inv X pins σ H' s2/\Turn X.prog X.w X.K tg J fp it tn/\tn 0 s2.heap/\(∀ b ∈ fp,pD X pins H' b)/\R J H'
def PI (X:Cx) (tg iter:Expr) (wi:TI):Prop :=
  ∀ (pins:List (Addr×Obj)) (s:Shared) (σ:St) (H:Hp) (R:It->Hp->Prop),Inv X pins σ H s->wi σ H R ->
    wpAny (model X.prog X.w) X.A (eval iter X.env) (λ v s1=>wpAny (model X.prog X.w) X.A (pyIter v) (PIE X pins σ tg R) X.xe s1) X.xe s
def zE (ho:s.heap.get? it=some o) (hc:o.cls=.type n) (hd:o.data=.fields vs)
    (hn:["enumerate","zip","dict_itemiterator","dict_reverseitemiterator","odict_iterator","itertools.zip_longest","itertools.pairwise"].contains n=false) (hQ:Q () s):wpAny M A (letOwnedTupleGo tg (.ref it) u) Q E s:=by
  unfold letOwnedTupleGo
  cases tg <;> first
    | exact Z0 hQ
    | (cases u <;> first
        | exact Z0 hQ
        | (refine Zi (wpAny_load ho ?_)
           rw [hc,hd];show wpAny M A (if (["enumerate","zip","dict_itemiterator","dict_reverseitemiterator","odict_iterator","itertools.zip_longest","itertools.pairwise"].contains n&&vs[0]? == some (rawInt _))=true then _ else _) Q E s;rw [if_neg (by intro h; rw [hn,Bool.false_and] at h; cases h)]
           exact Z0 hQ))
def Itl (K:W.Frag) (a:Addr):It :=
 ⟨λ i H=>∃ xs x,SqL K H a xs/\xs[i]?=some x,λ i H x H'=>H'=H/\∀ xs,SqL K H a xs->xs[i]?=some x,λ i H=>∃ xs,SqL K H a xs/\xs.length<=i⟩
def Itt (K:W.Frag) (a:Addr):It :=
 ⟨λ i H=>∃ xs x,SqT K H a xs/\xs[i]?=some x,λ i H x H'=>H'=H/\∀ xs,SqT K H a xs->xs[i]?=some x,λ i H=>∃ xs,SqT K H a xs/\xs.length<=i⟩
def Itr (lo:Int) (n:Nat):It:=⟨λ i _=>i < n,λ i H x H'=>H'=H/\x=.int (lo+i),λ i _=>n<=i⟩
def uj {P:Program} {w:World} {K:W.Frag} {tg:Expr} (a it:Addr):Turn P w K tg (Itl K a) [it] it (λ i h=>h.IsListIter it a i) where
 mem:=by simp
 obj:=λ i h st b hb=>by
  have e:b=it:=by simpa using hb
  subst e;obtain ⟨o,e,c,d⟩:=st;exact ⟨o,e,λ v z=>by rw [d] at z; cases z⟩
 keep:=λ i h h' st k=>st.at λ o e=>k it (by simp) o e
 item:=by
  intro X hP hw hK hc i pins s σ H E I hf st hg;subst hP hw hK;obtain ⟨xs,x,hq,hx⟩:=hg;obtain ⟨its,rv,p,hz⟩:=I.list hq;obtain ⟨u,hu,ru⟩:=rv.get hx;obtain ⟨f0,f1,f2,f3,f4,f5⟩:=hf it (by simp);refine wpAny_pyNext_list_item st p.isList (x:=u) (by simpa using hu) λ h' st' sb=>?_
  have I1:Inv X pins σ H { s with heap:=h' }:=I.turned (t':=s.toks) (λ b o hb e=>(sb.2 b hb).trans e) f0 f1 f3 f4 f5;obtain ⟨o,e,c,d⟩:=id st';exact ⟨u,rfl,zE (s:={ s with heap:=h' }) e c d (by decide) ⟨x,H,I1,ru,⟨rfl,λ ys hy=>by rw [I.mT hy hq]; exact hx⟩,st',λ b hb=>(hf b hb).1⟩⟩
 done:=by
  intro X hP hw hK hc i pins s σ H E I hf st hg;subst hP hw hK;obtain ⟨xs,hq,hx⟩:=hg;obtain ⟨its,rv,p,hz⟩:=I.list hq;obtain ⟨f0,f1,f2,f3,f4,f5⟩:=hf it (by simp);have hl:=rv.length;exact wpAny_pyNext_list_end (I.ok.hd hc) st p.isList (by simp; omega) λ h' eb=>⟨rfl,I.turned (t':=s.toks) (λ b o hb e=>eb b o hb e) f0 f1 f3 f4 f5⟩
 self:=λ _ _ _ _ _ st h=>wpAny_pyIter_listiter st h
def sS {P:Program} {w:World} {K:W.Frag} {tg:Expr} (a it:Addr):Turn P w K tg (Itt K a) [it] it (λ i h=>h.IsTupleIter it a i) where
 mem:=by simp
 obj:=λ i h st b hb=>by
  have e:b=it:=by simpa using hb
  subst e;obtain ⟨o,e,c,d⟩:=st;exact ⟨o,e,λ v z=>by rw [d] at z; cases z⟩
 keep:=λ i h h' st k=>st.at λ o e=>k it (by simp) o e
 item:=by
  intro X hP hw hK hc i pins s σ H E I hf st hg;subst hP hw hK;obtain ⟨xs,x,hq,hx⟩:=hg;obtain ⟨its,rv,p,hz⟩:=I.tuple hq;obtain ⟨u,hu,ru⟩:=rv.get hx;obtain ⟨f0,f1,f2,f3,f4,f5⟩:=hf it (by simp);refine wpAny_pyNext_tuple_item st (show s.heap.IsTuple a its.toArray from p) (x:=u) (by simpa using hu) λ h' st' sb=>?_
  have I1:Inv X pins σ H { s with heap:=h' }:=I.turned (t':=s.toks) (λ b o hb e=>(sb.2 b hb).trans e) f0 f1 f3 f4 f5;obtain ⟨o,e,c,d⟩:=id st';exact ⟨u,rfl,zE (s:={ s with heap:=h' }) e c d (by decide) ⟨x,H,I1,ru,⟨rfl,λ ys hy=>by rw [I.um hy hq]; exact hx⟩,st',λ b hb=>(hf b hb).1⟩⟩
 done:=by
  intro X hP hw hK hc i pins s σ H E I hf st hg;subst hP hw hK;obtain ⟨xs,hq,hx⟩:=hg;obtain ⟨its,rv,p,hz⟩:=I.tuple hq;obtain ⟨f0,f1,f2,f3,f4,f5⟩:=hf it (by simp);have hl:=rv.length;exact wpAny_pyNext_tuple_end (I.ok.hd hc) st (show s.heap.IsTuple a its.toArray from p) (by simp; omega) λ h' eb=>⟨rfl,I.turned (t':=s.toks) (λ b o hb e=>eb b o hb e) f0 f1 f3 f4 f5⟩
 self:=λ _ _ _ _ _ st h=>wpAny_pyIter_tupleiter st h
def sT {P:Program} {w:World} {K:W.Frag} {tg:Expr} (it:Addr) (lo:Int) (n:Nat):Turn P w K tg (Itr lo n) [it] it (λ i h=>IsRangeIter h it (lo+(i:Nat) * 1) ((n:Int) - (i:Nat)) 1) where
 mem:=by simp
 obj:=λ i h st b hb=>by
  have e:b=it:=by simpa using hb
  subst e
  exact ⟨_,st,λ v z=>by
   have z':Data.fields _=Data.cell v:=z
   cases z'⟩
 keep:=λ i h h' st k=>k it (by simp) _ st
 item:=by
  intro X hP hw hK hc i pins s σ H E I hf st hg;subst hP hw hK;obtain ⟨f0,f1,f2,f3,f4,f5⟩:=hf it (by simp);have W:=Walks.range (prog:=X.prog) (w:=X.w) (I.ok.hd hc) it lo 1 n;refine W.item i s _ _ hg st λ v h' tk hv st' kk=>?_
  obtain ⟨t,rfl⟩:=hv;have I1:Inv X pins σ H { s with heap:=h',toks:=tk }:=I.turned (λ b o hb e=>kk b o (by simpa using hb) e) f0 f1 f3 f4 f5;refine ⟨_,rfl,zE (s:={ s with heap:=h',toks:=tk }) (n:="range_iterator") st' rfl rfl (by decide) ⟨.int (lo+i),H,I1,⟨t,?_⟩,⟨rfl,rfl⟩,st',λ b hb=>(hf b hb).1⟩⟩;rw [Int.mul_one]
 done:=by
  intro X hP hw hK hc i pins s σ H E I hf st hg;subst hP hw hK;obtain ⟨f0,f1,f2,f3,f4,f5⟩:=hf it (by simp);exact wpAny_pyNext_range_end (I.ok.hd hc) st (by have:n<=i:=hg; omega) λ h' eb=>⟨rfl,I.turned (t':=s.toks) (λ b o hb e=>eb b o hb e) f0 f1 f3 f4 f5⟩
 self:=λ _ _ _ _ _ st h=>wpAny_pyIter_rangeiter st h
end L2
namespace L2
open PySem PySem.Spec PyProof.Rows
section
variable {X:Cx} {tg:Expr}
def L4 (K:W.Frag) (tl:TE):TI:=λ σ H R=>tl σ H λ x H1=>∃ a,x=.ref a/\(∃ xs,SqL K H1 a xs)/\R (Itl K a) H1
def Om (K:W.Frag) (tl:TE):TI:=λ σ H R=>tl σ H λ x H1=>∃ a,x=.ref a/\(∃ xs,SqT K H1 a xs)/\R (Itt K a) H1
def CD {l:Expr} {tl:TE} (hl:PE X l tl):PI X tg l (L4 X.K tl):=by
 intro pins s σ H R I h;refine thn (hl pins s σ H _ I h) λ v s1 ⟨x,H1,I1,r1,q1⟩=>?_
 obtain ⟨a,e,⟨xs,hq⟩,q⟩:=q1;subst e;cases r1;obtain ⟨its,rv,p,hz⟩:=I1.list hq;refine wpAny_pyIter_list p.isList ?_
 refine ⟨s1.heap.objs.size,[s1.heap.objs.size],_,_,H1,rfl,I1.kept (t':=s1.toks) λ b o e=>Heap.get?_push_of_some _ e,uj a _,⟨_,Heap.get?_push_size _ rfl,rfl,rfl⟩,λ b hb=>?_,q⟩;have e:b=s1.heap.objs.size:=by simpa using hb
 subst e;exact I1.sj (Ze _) (I1.hok.fresh (Ze _))
def Fy {l:Expr} {tl:TE} (hl:PE X l tl):PI X tg l (Om X.K tl):=by
 intro pins s σ H R I h;refine thn (hl pins s σ H _ I h) λ v s1 ⟨x,H1,I1,r1,q1⟩=>?_
 obtain ⟨a,e,⟨xs,hq⟩,q⟩:=q1;subst e;cases r1;obtain ⟨its,rv,p,hz⟩:=I1.tuple hq;refine wpAny_pyIter_tuple (show s1.heap.IsTuple a its.toArray from p) ?_
 refine ⟨s1.heap.objs.size,[s1.heap.objs.size],_,_,H1,rfl,I1.kept (t':=s1.toks) λ b o e=>Heap.get?_push_of_some _ e,sS a _,⟨_,Heap.get?_push_size _ rfl,rfl,rfl⟩,λ b hb=>?_,q⟩;have e:b=s1.heap.objs.size:=by simpa using hb
 subst e;exact I1.sj (Ze _) (I1.hok.fresh (Ze _))
def rn {pins:List (Addr×Obj)} {σ:St} {H:Hp} {s:Shared} {R:It->Hp->Prop} {E:Value->Shared->Prop} {lo hi:Int} {t u v:Tok} {tk:Nat} (I:Inv X pins σ H s) (h1:-(2 ^ 62)<=lo) (h2:lo < 2 ^ 62) (h3:-(2 ^ 62)<=hi) (h4:hi < 2 ^ 62)
  (q:R (Itr lo (hi - lo).toNat) H):wpAny (model X.prog X.w) X.A (pyIter (.ref s.heap.objs.size)) (PIE X pins σ tg R) E { s with heap:=s.heap.push { cls:=.type "range",data:=.fields #[.int lo t,.int hi u,.int 1 v] },toks:=tk }:=by
 refine wpAny_pyIter_range (IsRange.new ..) (small_one h1 h2 h3 h4) ?_
 have I1:Inv X pins σ H { s with heap:=s.heap.push { cls:=.type "range",data:=.fields #[.int lo t,.int hi u,.int 1 v] },toks:=tk }:=I.kept λ b o e=>Heap.get?_push_of_some _ e
 refine ⟨(s.heap.push { cls:=.type "range",data:=.fields #[.int lo t,.int hi u,.int 1 v] }).objs.size,[(s.heap.push { cls:=.type "range",data:=.fields #[.int lo t,.int hi u,.int 1 v] }).objs.size],_,_,H,rfl,
  I1.kept (t':=tk) λ b o e=>Heap.get?_push_of_some _ e,sT _ lo (hi - lo).toNat,?_,λ b hb=>?_,q⟩
 ·have e1:lo+((0:Nat):Int) * 1=lo:=by simp
  have e2:(((hi - lo).toNat:Nat):Int) - ((0:Nat):Int)=Builtin.Range.rangeSize lo hi 1:=by rw [rangeSize_one]; split <;> omega
  show IsRangeIter _ _ (lo+((0:Nat):Int) * 1) ((((hi - lo).toNat:Nat):Int) - ((0:Nat):Int)) 1;rw [e1,e2];exact Heap.get?_push_size _ rfl
 ·have e:b=(s.heap.push { cls:=.type "range",data:=.fields #[.int lo t,.int hi u,.int 1 v] }).objs.size:=by simpa using hb
  subst e;exact I1.sj (Ze _) (I1.hok.fresh (Ze _))
def L3 (ta:TA):TI:=λ σ H R=>ta σ H λ vs H1=>∃ j:Int,vs=[.int j]/\-(2 ^ 62)<=j/\j < 2 ^ 62/\R (Itr 0 j.toNat) H1
def L1 (ta:TA):TI:=λ σ H R=>ta σ H λ vs H1=>∃ i j:Int,vs=[.int i,.int j]/\(-(2 ^ 62)<=i/\i < 2 ^ 62/\-(2 ^ 62)<=j/\j < 2 ^ 62)/\R (Itr i (j - i).toNat) H1
def uY {a:Expr} {ta:TA} {p pos:Pos} (hg:Gl X "range") (hm:X.mg "range"=none) (ha:PA X [a] ta) (hs:starEach [a] X.env=[(false,eval a X.env)]:=by rfl):PI X tg (.Call (.Name "range" p) [a] [] pos) (L3 ta):=by
 intro pins s σ H R I h;refine Call_ (je I hg hm boot_range (Yo (thn (ha pos pins s σ H _ I h) λ us s1 ⟨vs,H1,I1,r1,q1⟩=>?_) hs rfl));obtain ⟨j,e,q1,q2,q⟩:=q1;subst e
 cases r1 with
 | cons r rr =>
  cases rr;obtain ⟨t,rfl⟩:=r;exact call_range_1 (rn I1 (by omega) (by omega) q1 q2 (by simpa using q))
def uX (hg:Gl X "range") (hm:X.mg "range"=none) (ha:PA X [a,b] ta) (hs:starEach [a,b] X.env=[(false,eval a X.env),(false,eval b X.env)]:=by rfl) (hs2:starEach [b] X.env=[(false,eval b X.env)]:=by rfl) :
  PI X tg (.Call (.Name "range" p) [a,b] [] pos) (L1 ta):=by
 intro pins s σ H R I h;refine Call_ (je I hg hm boot_range (Yo (thn (ha pos pins s σ H _ I h) λ us s1 ⟨vs,H1,I1,r1,q1⟩=>?_) (by rw [hs,hs2]) (by rw [hs2]; rfl)));obtain ⟨i,j,e,⟨q1,q2,q3,q4⟩,q⟩:=q1;subst e
 cases r1 with
 | cons r rr =>
  cases rr with
  | cons r' rr =>
   cases rr;obtain ⟨t,rfl⟩:=r;obtain ⟨t',rfl⟩:=r';exact call_range_2 (rn I1 q1 q2 q3 q4 q)
def Nc (wi:TI) (g:TG) (tb:TS):TS:=λ D σ H=>wi σ H λ J H1=>∃ W:Nat->Nat->St->Hp->Prop,(∃ m,W 0 m σ H1)/\∀ i m σ H,W i m σ H ->
 (J.stop i H/\D.nx σ H)\/(J.go i H/\∃ N:St->Hp->Prop,(∀ σ' H',N σ' H'->∃ m',m' < m/\W (i+1) m' σ' H')/\∀ x H',J.yld i H x H'->g x σ H' λ σ2 H2=>tb { D with nx:=N,ct:=N,bk:=D.nx } σ2 H2)
def rA (fp:List Addr) (h:Heap):List (Addr×Obj):=fp.filterMap λ b=>(h.get? b).map λ o=>(b,o)
def eD (hb:b ∈ fp) (e:h.get? b=some o):(b,o) ∈ rA fp h:=List.mem_filterMap.mpr ⟨b,hb,by rw [e]; rfl⟩
def ve (hp:p ∈ rA fp h):p.1 ∈ fp/\h.get? p.1=some p.2:=by
 obtain ⟨b,hb,e⟩:=List.mem_filterMap.mp hp
 cases q:h.get? b with
 | none=>rw [q] at e; cases e
 | some o =>
  rw [q] at e;have e':(b,o)=p:=Zj e;subst e';exact ⟨hb,q⟩
def Inv.pinned (I:Inv X pins σ H s) (hf:∀ b ∈ fp,pD X pins H b) (ho:∀ b ∈ fp,∃ o,s.heap.get? b=some o/\∀ v,o.data≠.cell v):Inv X (pins++rA fp s.heap) σ H s :=
 I.fH λ p hp=>(Y5.mp hp).elim (λ z=>I.pin p (Zr _ z)) λ z=>by
  obtain ⟨hb,e⟩:=ve z;obtain ⟨f0,f1,f2,_⟩:=hf p.1 hb;obtain ⟨o,e',d⟩:=ho p.1 hb;rw [e] at e'; cases e'
  exact ⟨e,f0,f1,f2,d⟩
def Inv.mB (I:Inv X (pins++pl) σ H s):Inv X pins σ H s:=I.fH λ p hp=>I.pin p (Zr _ (Ys _ hp))
def Fq (hp:PassesOwn (model X.prog X.w) X.A X.env X.xe) (hc:X.calm=true) (hi:PI X tg iter wi) (hg:PG X tg g) (hb:PSs X body tb)
  (hs:∀ x,foldedSetIterable iter X.env x=pure x:=by intro _; rfl):PS X (.For tg iter body [] pos) (Nc wi g tb):=by
 intro pins s σ H D I h;refine wpAny_For (thn (hi pins s σ H _ I h) λ v s1 h1=>thn h1 λ itv s2 h2=>?_) hs;obtain ⟨it,fp,tn,J,H2,e,I2,T,st2,f2,W,⟨m0,w0⟩,turn⟩:=h2;subst e;have stat:∀ {H':Hp},(∀ b ∈ fp,H' b=none)->∀ b ∈ fp,pD X pins H' b:=λ hn b hb=>⟨hn b hb,(f2 b hb).2⟩
 refine codeAny_forLoop_any (λ n s'=>∃ i σ' H',Inv X pins σ' H' s'/\tn i s'.heap/\(∀ b ∈ fp,H' b=none)/\W i n σ' H') ?_ m0 ⟨0,σ,H2,I2,st2,λ b hb=>(f2 b hb).1,w0⟩
 rintro n s3 ⟨i,σ3,H3,I3,st3,fr3,w3⟩
 rcases turn i n σ3 H3 w3 with ⟨stop,qn⟩ | ⟨go,N,hN,step⟩
 ·refine X2 hp (thn (T.done X rfl rfl rfl hc i pins s3 σ3 H3 X.xe I3 (stat fr3) st3 stop) λ r s4 ⟨hr,I4⟩=>?_)
  subst hr;exact wpAny_execs_nil ⟨σ3,H3,I4,qn⟩
 ·refine X2 hp (thn (T.item X rfl rfl rfl hc i pins s3 σ3 H3 X.xe I3 (stat fr3) st3 go) λ r s4 ⟨u,hr,h4⟩=>?_)
  subst hr;refine X2 hp (thn h4 λ _ s5 ⟨x,H5,I5,r5,y5,st5,fr5⟩=>?_);have I5':=I5.pinned (stat fr5) (T.obj _ _ st5);refine X2 hp (thn (hg _ s5 σ3 H5 x u _ I5' r5 (step x H5 y5)) λ _ s6 ⟨σ6,H6,I6,q6⟩=>?_);refine X2 hp (thn (hb _ s6 σ6 H6 _ I6 q6) λ f s7 q7=>?_)
  have again:∀ {σ7:St} {H7:Hp},Inv X (pins++rA fp s5.heap) σ7 H7 s7->N σ7 H7->∃ m,m < n/\∃ i σ' H',Inv X pins σ' H' s7/\tn i s7.heap/\(∀ b ∈ fp,H' b=none)/\W i m σ' H':=λ {σ7 H7} I7 n7=>by
   obtain ⟨m',hm,w7⟩:=hN σ7 H7 n7;refine ⟨m',hm,i+1,σ7,H7,I7.mB,T.keep _ _ _ st5 λ b hb o e=>(I7.pin (b,o) (Zr _ (Zr _ (eD hb e)))).1,λ b hb=>?_,w7⟩;obtain ⟨o,e,d⟩:=T.obj _ _ st5 b hb;exact (I7.pin (b,o) (Zr _ (Zr _ (eD hb e)))).2.1
  cases f with
  | next=>obtain ⟨σ7,H7,I7,n7⟩:=q7; exact again I7 n7
  | cont=>obtain ⟨σ7,H7,I7,n7⟩:=q7; exact again I7 n7
  | brk=>obtain ⟨σ7,H7,I7,q7⟩:=q7; exact ⟨σ7,H7,I7.mB,q7⟩
  | ret v=>obtain ⟨x7,σ7,H7,I7,r7,q7⟩:=q7; exact ⟨x7,σ7,H7,I7.mB,r7,q7⟩
end
end L2
namespace L2
open PySem PySem.Spec PyProof.Rows
abbrev R2:=V->V->Hp->VK->Prop
def OpR (X:Cx) (f:Value->Value->Sem Value) (r:R2):Prop :=
  ∀ (pins:List (Addr×Obj)) (s:Shared) (σ:St) (H:Hp) (x y:V) (v u:Value) (Q:VK),Inv X pins σ H s->RelV x v->RelV y u->r x y H Q ->
    wpAny (model X.prog X.w) X.A (f v u) (EP X pins σ Q) X.xe s
def UnR (X:Cx) (f:Value->Sem Value) (r:V->Hp->VK->Prop):Prop :=
  ∀ (pins:List (Addr×Obj)) (s:Shared) (σ:St) (H:Hp) (x:V) (v:Value) (Q:VK),Inv X pins σ H s->RelV x v->r x H Q ->
    wpAny (model X.prog X.w) X.A (f v) (EP X pins σ Q) X.xe s
def ij (X:Cx) (f:Value) (r:List V->Hp->VK->Prop):Prop :=
  ∀ (pins:List (Addr×Obj)) (s:Shared) (σ:St) (H:Hp) (xs:List V) (us:List Value) (Q:VK),Inv X pins σ H s->cK xs us->r xs H Q ->
    wpAny (model X.prog X.w) X.A (call f us) (EP X pins σ Q) X.xe s
def tOp (r:R2) (ta tb:TE):TE:=λ σ H Q=>ta σ H λ x H1=>tb σ H1 λ y H2=>r x y H2 Q
def tUn (r:V->Hp->VK->Prop) (ta:TE):TE:=λ σ H Q=>ta σ H λ x H1=>r x H1 Q
def rI (C:Int->Int->Prop) (g:Int->Int->V):R2:=λ x y H Q=>∃ i j,x=.int i/\y=.int j/\C i j/\Q (g i j) H
def rI0 (g:Int->Int->V):R2:=λ x y H Q=>∃ i j,x=.int i/\y=.int j/\Q (g i j) H
def rU (g:Int->V):V->Hp->VK->Prop:=λ x H Q=>∃ i,x=.int i/\Q (g i) H
section
variable {X:Cx} {a b c:Expr} {ta tb tc:TE} {pos:Pos}
def Mo (ha:PE X a ta) (hb:PE X b tb) {pins:List (Addr×Obj)} {s:Shared} {σ:St} {H:Hp} {R:V->V->Hp->Prop} (I:Inv X pins σ H s)
  (h:ta σ H λ x H1=>tb σ H1 λ y H2=>R x y H2) {Q:Value->Shared->Prop} {f:Value->Value->Sem Value}
  (hf:∀ v u s2 x y H2,Inv X pins σ H2 s2->RelV x v->RelV y u->R x y H2->wpAny (model X.prog X.w) X.A (f v u) Q X.xe s2) :
  wpAny (model X.prog X.w) X.A (eval a X.env) (λ v s₁=>wpAny (model X.prog X.w) X.A (eval b X.env) (λ u s₂=>wpAny (model X.prog X.w) X.A (f v u) Q X.xe s₂) X.xe s₁) X.xe s:=by
 refine thn (ha pins s σ H _ I h) λ v s1 ⟨x,H1,I1,r1,q1⟩=>?_
 refine thn (hb pins s1 σ H1 _ I1 q1) λ u s2 ⟨y,H2,I2,r2,q2⟩=>?_
 exact hf v u s2 x y H2 I2 r1 r2 q2
def Kg {op:Operator} {r:R2} (ho:OpR X (binaryOp op) r) (ha:PE X a ta) (hb:PE X b tb):PE X (.BinOp a op b pos) (tOp r ta tb):=by
 intro pins s σ H Q I h;exact wpAny_BinOp (Mo ha hb I h λ v u s2 x y H2 I2 rx ry q=>ho pins s2 σ H2 x y v u Q I2 rx ry q)
def Kf (ho:UnR X (unaryOp op) r) (ha:PE X a ta):PE X (.UnaryOp op a pos) (tUn r ta):=by
 intro pins s σ H Q I h;exact UnaryOp_ (thn (ha pins s σ H _ I h) λ v s1 ⟨x,H1,I1,r1,q1⟩=>ho pins s1 σ H1 x v Q I1 r1 q1)
def opI {f:Value->Value->Sem Value} {C:Int->Int->Prop} {g:Int->Int->Int}
  (rule:∀ (i j:Int) (t u:Tok) (s:Shared) (Q:Value->Shared->Prop) (E:Value->Shared->Prop),C i j->Q (.int (g i j) s.toks) { s with toks:=s.toks+1 }->wpAny (model X.prog X.w) X.A (f (.int i t) (.int j u)) Q E s) :
  OpR X f (rI C λ i j=>.int (g i j)):=by
 intro pins s σ H x y v u Q I rx ry h;obtain ⟨i,j,rfl,rfl,hc,q⟩:=h;obtain ⟨t,rfl⟩:=rx;obtain ⟨t',rfl⟩:=ry;exact rule i j t t' s _ _ hc ⟨.int (g i j),H,I.tok _,⟨_,rfl⟩,q⟩
def Mu {f:Value->Value->Sem Value} {g:Int->Int->Int}
  (rule:∀ (i j:Int) (t u:Tok) (s:Shared) (Q:Value->Shared->Prop) (E:Value->Shared->Prop),Q (.int (g i j) s.toks) { s with toks:=s.toks+1 }->wpAny (model X.prog X.w) X.A (f (.int i t) (.int j u)) Q E s) :
  OpR X f (rI0 λ i j=>.int (g i j)):=by
 intro pins s σ H x y v u Q I rx ry h;obtain ⟨i,j,rfl,rfl,q⟩:=h;obtain ⟨t,rfl⟩:=rx;obtain ⟨t',rfl⟩:=ry;exact rule i j t t' s _ _ ⟨.int (g i j),H,I.tok _,⟨_,rfl⟩,q⟩
def Ku {f:Value->Value->Sem Value} {g:Int->Int->Bool}
  (rule:∀ (i j:Int) (t u:Tok) (s:Shared) (Q:Value->Shared->Prop) (E:Value->Shared->Prop),Q (.bool (g i j)) s->wpAny (model X.prog X.w) X.A (f (.int i t) (.int j u)) Q E s) :
  OpR X f (rI0 λ i j=>.bl (g i j)):=by
 intro pins s σ H x y v u Q I rx ry h;obtain ⟨i,j,rfl,rfl,q⟩:=h;obtain ⟨t,rfl⟩:=rx;obtain ⟨t',rfl⟩:=ry;exact rule i j t t' s _ _ ⟨.bl (g i j),H,I,rfl,q⟩
def Ib (i j:Int):Prop:=0<=j/\j<=1000000/\i.natAbs < 2 ^ 64
def By (i j:Int):Prop:=(-(2 ^ 64) < i/\i < 2 ^ 64)\/(-(2 ^ 64) < j/\j < 2 ^ 64)
def By.ok (h:By i j):IntMulOk i j:=by
 rcases h with ⟨h1,h2⟩ | ⟨h1,h2⟩
 · exact .of_left (intBits_le_64 h1 h2)
 · exact .of_right (intBits_le_64 h1 h2)
def F9:OpR X (binaryOp .Add) (rI0 λ i j=>.int (i+j)):=Mu λ _ _ _ _ _ _ _ q=>add_int q
def F3:OpR X (binaryOp .Sub) (rI0 λ i j=>.int (i - j)):=Mu λ _ _ _ _ _ _ _ q=>sub_int q
def C0:OpR X (binaryOp .Mod) (rI (λ _ j=>j≠0) λ i j=>.int (i.fmod j)):=opI λ _ _ _ _ _ _ _ hc q=>mod_int' hc q
def F4:OpR X (binaryOp .Pow) (rI Ib λ i j=>.int (i ^ j.toNat)):=opI λ _ _ _ _ _ _ _ hc q=>pow_int_small hc.1 hc.2.1 hc.2.2 q
def unI {f:Value->Sem Value} {g:Int->Int}
  (rule:∀ (i:Int) (t:Tok) (s:Shared) (Q:Value->Shared->Prop) (E:Value->Shared->Prop),Q (.int (g i) s.toks) { s with toks:=s.toks+1 }->wpAny (model X.prog X.w) X.A (f (.int i t)) Q E s) :
  UnR X f (rU λ i=>.int (g i)):=by
 intro pins s σ H x v Q I rx h;obtain ⟨i,rfl,q⟩:=h;obtain ⟨t,rfl⟩:=rx;exact rule i t s _ _ ⟨.int (g i),H,I.tok _,⟨_,rfl⟩,q⟩
def EV:UnR X (unaryOp .USub) (rU λ i=>.int (-i)):=unI λ _ _ _ _ _ q=>neg_int q
end
def J3:V->V->Bool
 | .non,.non=>true | .non,.int _=>true | .int _,.non=>true | .non,.bl _=>true | .bl _,.non=>true | .non,.str _=>true | .str _,.non=>true
 | .int _,.int _=>true | .bl _,.bl _=>true | .str _,.str _=>true | .byt _,.byt _=>true
 | .int _,.str _=>true | .str _,.int _=>true | .bl _,.str _=>true | .str _,.bl _=>true
 | _,_=>false
def rEq:R2:=λ x y H Q=>J3 x y=true/\Q (.bl (decide (x=y))) H
def rNe:R2:=λ x y H Q=>J3 x y=true/\Q (.bl (!decide (x=y))) H
def wX:decide (V.int i=V.int j)=(i == j):=by
 rw [Bool.eq_iff_iff];simp
def Bg:decide (V.bl i=V.bl j)=(i == j):=by
 rw [Bool.eq_iff_iff];simp
def wW:decide (V.str i=V.str j)=(i == j):=by
 rw [Bool.eq_iff_iff];simp
def wY:decide (V.byt i=V.byt j)=(i.toList == j.toList):=by
 rw [Bool.eq_iff_iff];cases i;cases j;simp
section
variable {X:Cx} {a b c:Expr} {ta tb tc:TE} {pos:Pos}
def bK (I:Inv X pins σ H s) (q:Q (.bl k) H) (e:k=k'):EP X pins σ Q (.bool k') s:=by
 subst e;exact ⟨.bl k,H,I,rfl,q⟩
def Kt:OpR X (compareOp .Eq) rEq:=by
 intro pins s σ H x y v u Q I rx ry h;obtain ⟨hs,q⟩:=h
 cases x with
 | non =>
  cases rx
  cases y with
  | non=>cases ry; exact PySem.EqNone.eq_none_none (bK I q (by simp))
  | bl j=>cases ry; exact PySem.EqNone.eq_none_bool (bK I q (by simp))
  | int j=>obtain ⟨t',rfl⟩:=ry; exact PySem.EqNone.eq_none_int (bK I q (by simp))
  | str j=>obtain ⟨t',rfl⟩:=ry; exact PySem.EqNone.eq_none_str (bK I q (by simp))
  | _=>exact absurd (show false=true from hs) Zf
 | bl i =>
  cases rx
  cases y with
  | non=>cases ry; exact PySem.EqNone.eq_bool_none (bK I q (by simp))
  | bl j=>cases ry; exact eq_bool (bK I q Bg)
  | str j=>obtain ⟨t',rfl⟩:=ry; exact PySem.EqMixed.eq_bool_str (bK I q (by simp))
  | _=>exact absurd (show false=true from hs) Zf
 | int i =>
  obtain ⟨t,rfl⟩:=rx
  cases y with
  | non=>cases ry; exact PySem.EqNone.eq_int_none (bK I q (by simp))
  | int j=>obtain ⟨t',rfl⟩:=ry; exact eq_int (bK I q wX)
  | str j=>obtain ⟨t',rfl⟩:=ry; exact PySem.EqMixed.eq_int_str (bK I q (by simp))
  | _=>exact absurd (show false=true from hs) Zf
 | str i =>
  obtain ⟨t,rfl⟩:=rx
  cases y with
  | non=>cases ry; exact PySem.EqNone.eq_str_none (bK I q (by simp))
  | bl j=>cases ry; exact PySem.EqMixed.eq_str_bool (bK I q (by simp))
  | int j=>obtain ⟨t',rfl⟩:=ry; exact PySem.EqMixed.eq_str_int (bK I q (by simp))
  | str j=>obtain ⟨t',rfl⟩:=ry; exact eq_str (bK I q wW)
  | _=>exact absurd (show false=true from hs) Zf
 | byt i =>
  obtain ⟨t,rfl⟩:=rx
  cases y with
  | byt j=>obtain ⟨t',rfl⟩:=ry; exact PySem.W.eq_bytes (bK I q wY)
  | _=>exact absurd (show false=true from hs) Zf
 | _=>cases y <;> exact absurd (show false=true from hs) Zf
def Kp:OpR X (compareOp .NotEq) rNe:=by
 intro pins s σ H x y v u Q I rx ry h;obtain ⟨hs,q⟩:=h
 cases x with
 | non =>
  cases rx
  cases y with
  | non=>cases ry; exact PySem.EqNone.ne_none_none (bK I q (by simp))
  | bl j=>cases ry; exact PySem.EqNone.ne_none_bool (bK I q (by simp))
  | int j=>obtain ⟨t',rfl⟩:=ry; exact PySem.EqNone.ne_none_int (bK I q (by simp))
  | str j=>obtain ⟨t',rfl⟩:=ry; exact PySem.EqNone.ne_none_str (bK I q (by simp))
  | _=>exact absurd (show false=true from hs) Zf
 | bl i =>
  cases rx
  cases y with
  | non=>cases ry; exact PySem.EqNone.ne_bool_none (bK I q (by simp))
  | bl j=>cases ry; exact ne_bool (bK I q (X4 not Bg))
  | str j=>obtain ⟨t',rfl⟩:=ry; exact PySem.EqMixed.ne_bool_str (bK I q (by simp))
  | _=>exact absurd (show false=true from hs) Zf
 | int i =>
  obtain ⟨t,rfl⟩:=rx
  cases y with
  | non=>cases ry; exact PySem.EqNone.ne_int_none (bK I q (by simp))
  | int j=>obtain ⟨t',rfl⟩:=ry; exact ne_int (bK I q (X4 not wX))
  | str j=>obtain ⟨t',rfl⟩:=ry; exact PySem.EqMixed.ne_int_str (bK I q (by simp))
  | _=>exact absurd (show false=true from hs) Zf
 | str i =>
  obtain ⟨t,rfl⟩:=rx
  cases y with
  | non=>cases ry; exact PySem.EqNone.ne_str_none (bK I q (by simp))
  | bl j=>cases ry; exact PySem.EqMixed.ne_str_bool (bK I q (by simp))
  | int j=>obtain ⟨t',rfl⟩:=ry; exact PySem.EqMixed.ne_str_int (bK I q (by simp))
  | str j=>obtain ⟨t',rfl⟩:=ry; exact ne_str (bK I q (X4 not wW))
  | _=>exact absurd (show false=true from hs) Zf
 | byt i =>
  obtain ⟨t,rfl⟩:=rx
  cases y with
  | byt j=>obtain ⟨t',rfl⟩:=ry; exact PySem.W.ne_bytes (bK I q (X4 not wY))
  | _=>exact absurd (show false=true from hs) Zf
 | _=>cases y <;> exact absurd (show false=true from hs) Zf
def Kq:OpR X (compareOp .Lt) (rI0 λ i j=>.bl (decide (i < j))):=Ku λ _ _ _ _ _ _ _ q=>lt_int q
def Kr:OpR X (compareOp .LtE) (rI0 λ i j=>.bl (decide (i<=j))):=Ku λ _ _ _ _ _ _ _ q=>le_int q
def Ks:OpR X (compareOp .Gt) (rI0 λ i j=>.bl (decide (j < i))):=Ku λ _ _ _ _ _ _ _ q=>gt_int q
def u5:OpR X (compareOp .Lt) (λ x y H Q=>∃ i j,x=.str i/\y=.str j/\Q (.bl (decide (i.cps.toList < j.cps.toList))) H):=by
 intro pins s σ H x y v u Q I rx ry h;obtain ⟨i,j,rfl,rfl,q⟩:=h;obtain ⟨t,rfl⟩:=rx;obtain ⟨t',rfl⟩:=ry;exact lt_str (bK I q rfl)
def F6:OpR X (compareOp .Is) (λ x y H Q=>y=.non/\Q (.bl (decide (x=.non))) H):=by
 intro pins s σ H x y v u Q I rx ry h;obtain ⟨rfl,q⟩:=h;cases ry;refine is_none_gen (bK I q ?_)
 cases x <;> first
  | (cases rx; rfl)
  | (obtain ⟨t,rfl⟩:=rx; rfl)
def CY:OpR X (compareOp .IsNot) (λ x y H Q=>y=.non/\Q (.bl (!decide (x=.non))) H):=by
 intro pins s σ H x y v u Q I rx ry h;obtain ⟨rfl,q⟩:=h;cases ry;refine isnot_none_gen (bK I q ?_)
 cases x <;> first
  | (cases rx; rfl)
  | (obtain ⟨t,rfl⟩:=rx; rfl)
def OpR.or (h:OpR X f r) (h':OpR X f r'):OpR X f (λ x y H Q=>r x y H Q\/r' x y H Q):=by
 intro pins s σ H x y v u Q I rx ry q;rcases q with q | q
 · exact h pins s σ H x y v u Q I rx ry q
 · exact h' pins s σ H x y v u Q I rx ry q
def As (b:Expr) (h:op≠.In:=by decide) (h2:op≠.NotIn:=by decide):behindInMarks op b=false:=by
 have e1:(op == CmpOp.In)=false:=by cases op <;> first | rfl | exact absurd rfl h
 have e2:(op == CmpOp.NotIn)=false:=by cases op <;> first | rfl | exact absurd rfl h2
 cases b <;> simp [behindInMarks,e1,e2]
def CN (ho:OpR X (compareOp op) r) (ha:PE X a ta) (hb:PE X b tb) (hm:behindInMarks op b=false):PE X (.Compare a [op] [b] pos) (tOp r ta tb):=by
 intro pins s σ H Q I h;exact wpAny_Compare1 (Mo ha hb I h λ v u s2 x y H2 I2 rx ry q=>ho pins s2 σ H2 x y v u Q I2 rx ry q) hm
def JR (t:TE):TT:=λ σ H Q=>t σ H λ x H'=>∃ k,x=.bl k/\Q k H'
def B9 (ho:OpR X (compareOp op) r) (ha:PE X a ta) (hb:PE X b tb) (hm:behindInMarks op b=false):PT X (.Compare a [op] [b] pos) (JR (tOp r ta tb)):=by
 intro pins s σ H Q I h
 refine wpAny_isTrue_Compare1 (thn (ha pins s σ H _ I h) λ v s1 ⟨x,H1,I1,r1,q1⟩=>thn (hb pins s1 σ H1 _ I1 q1) λ u s2 ⟨y,H2,I2,r2,q2⟩ =>
  thn (ho pins s2 σ H2 x y v u _ I2 r1 r2 q2) λ c s3 ⟨z,H3,I3,r3,k,e,q3⟩=>?_) hm
 subst e;cases r3;exact wpAny_truthy_bool ⟨H3,I3,q3⟩
def om:(sizeLine:Nat) < 2 ^ 63:=by rw [sizeLine_eq]; decide
def tq:OpR X (binaryOp .Add) (λ x y H Q=>∃ i j,x=.str i/\y=.str j/\i.length+j.length<=sizeLine/\Q (.str (i++j)) H):=by
 intro pins s σ H x y v u Q I rx ry h;obtain ⟨i,j,rfl,rfl,hz,q⟩:=h;obtain ⟨t,rfl⟩:=rx;obtain ⟨t',rfl⟩:=ry;exact add_str (λ t' tk=>⟨.str (i++j),H,I.tok _,⟨_,rfl⟩,q⟩) hz
def vals1 (r:cK [x] us):∃ u,us=[u]/\RelV x u:=by
 cases r with
 | cons r1 r2=>cases r2; exact ⟨_,rfl,r1⟩
def vals2 (r:cK [x,y] us):∃ u w',us=[u,w']/\RelV x u/\RelV y w':=by
 cases r with
 | cons r1 r2 =>
  cases r2 with
  | cons r3 r4=>cases r4; exact ⟨_,_,rfl,r1,r3⟩
def z5:ij X (.builtin "abs") (λ xs H Q=>∃ i,xs=[.int i]/\Q (.int (if i < 0 then -i else i)) H):=by
 intro pins s σ H xs us Q I r h;obtain ⟨i,rfl,q⟩:=h;obtain ⟨u,rfl,t,rfl⟩:=vals1 r;exact call_abs_int λ u tk=>⟨.int (if i < 0 then -i else i),H,I.tok _,⟨_,rfl⟩,q⟩
def xn (hc:X.calm=true):ij X (.builtin "max") (λ xs H Q=>∃ i j,xs=[.int i,.int j]/\Q (.int (if j > i then j else i)) H):=by
 intro pins s σ H xs us Q I r h;obtain ⟨i,j,rfl,q⟩:=h;obtain ⟨u,w',rfl,⟨t,rfl⟩,⟨t',rfl⟩⟩:=vals2 r;refine max_two_ints (I.ok.hd hc) λ h' tk k=>⟨_,H,I.kept k,?_,q⟩
 by_cases hj:j > i
 · rw [if_pos hj,if_pos hj]; exact ⟨_,rfl⟩
 · rw [if_neg hj,if_neg hj]; exact ⟨_,rfl⟩
def OF (K:W.Frag) (x:V) (H:Hp) (n:Nat):Prop :=
 match x with
 | .str y=>y.length<=sizeLine/\n=y.length
 | .byt y=>y.size<=sizeLine/\n=y.size
 | .ref p=>(∃ xs,SqL K H p xs/\n=xs.length)\/∃ xs,SqT K H p xs/\n=xs.length
 | _=>False
def zZ:ij X (.builtin "len") (λ xs H Q=>∃ x n,xs=[x]/\OF X.K x H n/\Q (.int n) H):=by
 intro pins s σ H xs us Q I r h;obtain ⟨x,n,rfl,e,q⟩:=h;obtain ⟨u,rfl,rx⟩:=vals1 r;have hl:=om;have hs:sizeLine=16777216:=sizeLine_eq
 cases x with
 | str y =>
  obtain ⟨t,rfl⟩:=rx;obtain ⟨hy,e'⟩:y.length<=sizeLine/\n=y.length:=e;subst e';exact len_str (by omega) ⟨.int _,H,I.tok _,⟨_,rfl⟩,q⟩
 | byt y =>
  obtain ⟨t,rfl⟩:=rx;obtain ⟨hy,e'⟩:y.size<=sizeLine/\n=y.size:=e;subst e';exact PySem.W.len_bytes (by omega) ⟨.int _,H,I.tok _,⟨_,rfl⟩,q⟩
 | ref p =>
  cases rx;have e':(∃ xs,SqL X.K H p xs/\n=xs.length)\/∃ xs,SqT X.K H p xs/\n=xs.length:=e
  rcases e' with ⟨xs,hx,e'⟩ | ⟨xs,hx,e'⟩
  ·subst e'
   obtain ⟨its,r',pl,hz⟩:=I.list hx;have hlen:=r'.length;exact Calls.call_len_list pl.isList (by simp only [Zp]; omega) ⟨.int xs.length,H,I.tok _,⟨_,by simp only [Zp]; rw [hlen]⟩,q⟩
  ·subst e'
   obtain ⟨its,r',pl,hz⟩:=I.tuple hx;have hlen:=r'.length;exact len_tuple pl (by simp only [Zp]; omega) ⟨.int xs.length,H,I.tok _,⟨_,by simp only [Zp]; rw [hlen]⟩,q⟩
 | _=>exact (show False from e).elim
end
end L2
namespace L2
open PySem PySem.Spec PyProof.Rows
structure Ew (h:Heap) (x dx C:Addr) (mA:Str->Option Value):Prop where
 obj:h.get? x=some (PySem.W.instObj C dx)
 ns:h.Ns1 dx mA
 ne:dx≠x
def vH {h:Heap} {dx:Addr} {mA:Str->Option Value} (n:h.Ns1 dx mA):∃ od,h.get? dx=some od/\∀ name,PySem.W.lookIn name od=some (mA name):=by
 obtain ⟨o,es,ep,ho,hd,hk,_,hm⟩:=n;refine ⟨o,ho,λ name=>?_⟩;have e:=hm name;unfold nsFind findBy at e;rw [<- Array.find?_toList] at e;unfold PySem.W.lookIn;rw [hd];dsimp only;split
 ·rename_i y q
  rw [q] at e;exact X4 some e
 ·rename_i q
  rw [q] at e
  have a:es.toList.any (·.refKey)=false:=by
   rw [List.any_eq_false];intro y hy;obtain ⟨z,t,hkey⟩:=hk y (Array.mem_toList_iff.mp hy);simp [DictEntry.refKey,hkey]
  have a':¬ es.toList.any (·.refKey)=true:=by rw [a]; exact Zf
  rw [if_neg a'];exact X4 some e
def Ew.look (I:Ew h x dx C mA):∃ od,PySem.W.InstAt h x (PySem.W.instObj C dx) C (some od)/\∀ name,PySem.W.lookIn name od=some (mA name) :=
 let ⟨od,ho,hl⟩:=vH I.ns
 ⟨od,⟨I.obj,rfl,rfl,ho⟩,hl⟩
section
variable {prog:Program} {w:World} {A:Around} {E:Value->Shared->Prop} {s:Shared} {K:W.Frag} {x dx C f:Addr} {mA:Str->Option Value} {name:Str} {v:Value}
def get_map (X:K.In s.heap) (I:Ew s.heap x dx C mA) (hg:PySem.W.plainGet K C name=true) (hh:PySem.W.hasDictIn K C=true)
  (ha:W.findIn K (.ref C) name=some none) (hv:mA name=some v) (hv':PySem.W.handedIn v=true) (h:Q v { s with toks:=s.toks+1 }) :
  wpAny (model prog w) A (getAttr (.ref x) name expr) Q E s:=by
 obtain ⟨od,J,hl⟩:=I.look;exact PySem.W.get_value X J (PySem.W.plainGet_of hg).1 (PySem.W.findObj_own hh ha rfl (by rw [hl,hv])) hv' h
def zF (X:K.In s.heap) (I:Ew s.heap x dx C mA) (hg:PySem.W.plainGet K C name=true)
  (hf:W.findIn K (.ref C) name=some (some (.ref f))) (ht:PySem.W.isFn K (.ref f)=true) (hv:mA name=none) (h:Q (.ref f,[.ref x]) s) :
  wpAny (model prog w) A (getMethod (.ref x) name pl) Q E s:=by
 obtain ⟨od,J,hl⟩:=I.look;exact PySem.W.method_fn X J (PySem.W.plainGet_of hg).1 (PySem.W.plainGet_of hg).2 hf (beq_iff_eq.mp ht) (by show (PySem.W.lookIn name od).map (·.isSome)=some false; rw [hl,hv]; rfl) h
def BV (X:K.In s.heap) (I:Ew s.heap x dx C mA)
  (hs:W.findIn K (.ref C) "__setattr__"=some (some (.builtin "object.__setattr__"))) (hp:PySem.W.plainOver K C=true) (ht:PySem.W.takerIn K C name=some none) (hh:PySem.W.hasDictIn K C=true)
  (hw:PySem.Within mA ns) (hsz:ns.length<=sizeLine)
  (h:∀ h',Ew h' x dx C (λ y=>if y=name then some v else mA y)->Heap.SameBut dx s.heap h'->Q () { s with heap:=h',toks:=s.toks+2 }) :
  wpAny (model prog w) A (setAttr (.ref x) name v) Q E s:=by
 obtain ⟨od,J,hl⟩:=I.look;refine PySem.W.set_plain X J hs (PySem.W.osa_open (s:={ s with toks:=s.toks+1 }) (r:=none) X J hp ht λ b=>?_);obtain ⟨cd,hc,hd'⟩:=PySem.W.any_some hh;have hx:s.heap.get? x=some ⟨.ref C,some dx,.plain,#[]⟩:=I.obj;refine Zi (Z0 (Zi (Zi (wpAny_loadPart hx (Zi (PySem.W.Looks.here (s:={ s with toks:=s.toks+1 }) (PySem.W.looks_clsIn X hc) ?_))))));rw [hd'];refine Z0 (a:=some dx) (Zi (Z0 (Zi ?_)));refine wpAny_nsSet1 (s:={ s with toks:=s.toks+1 }) I.ns λ h' hn2 hs2=>?_
 obtain ⟨oD,esD,epD,hoD,hdD,hcD⟩:=hn2.count (PySem.Within.cons name v hw);refine Zi (wpAny_lookBehind hoD (by rw [hdD]; exact pastItsLine_dict (Zc hcD (by rw [Zw]; omega))) ?_);exact Z0 (h _ ⟨(hs2.2 _ (Ne.symm I.ne)).trans I.obj,hn2,I.ne⟩ hs2)
def yV (X:K.In s.heap) (hm:PySem.W.makesIn K C=true)
  (hi:W.findIn K (.ref C) "__init__"=some (some (.ref f))) (hf:PySem.W.typeIn K (.ref f)=some (.type "function"))
  (h : codeAny (model prog w) (A.under (.builtin "type.__call__" ⟨.ref C::vs,kw⟩)) (.call (.ref f) ⟨.ref (s.heap.objs.size+1)::vs,kw⟩) (PySem.W.InitBack (s.heap.objs.size+1) R)
    { s with heap:=(s.heap.push PySem.W.emptyDict).push (PySem.W.instObj C s.heap.objs.size) }) :
  codeAny (model prog w) A (.call (.ref C) ⟨vs,kw⟩) R s:=by
 obtain ⟨hh,g,d,t,os⟩:=s;exact PySem.W.make_core (PySem.W.makes_of X hm) (PySem.W.looks_findIn X hi) (λ self=>PySem.W.bind_fn X self hf) (.inl rfl) h
end
def pG (f:Str) (v:V):List (Str×V)->List (Str×V)
 | []=>[(f,v)]
 | (g,x)::r=>if g=f then (g,v)::r else (g,x)::pG f v r
def kT (f g:Str) (v:V):∀ fs:List (Str×V),(pG f v fs).lookup g=if g=f then some v else fs.lookup g
 | []=>by
  show List.lookup g [(f,v)]=_
  by_cases h:g=f
  ·have hb:(g == f)=true:=beq_iff_eq.mpr h
   simp only [List.lookup,hb,if_pos h]
  ·have hb:(g == f)=false:=Xp.mpr h
   simp only [List.lookup,hb,if_neg h]
 | (k,x)::r=>by
  have ih:=kT f g v r;rw [show pG f v ((k,x)::r)=(if k=f then (k,v)::r else (k,x)::pG f v r) from rfl]
  by_cases hk:k=f
  ·rw [if_pos hk]
   by_cases h:g=k
   ·have hb:(g == k)=true:=beq_iff_eq.mpr h
    simp only [List.lookup,hb,if_pos (h.trans hk)]
   ·have hb:(g == k)=false:=Xp.mpr h
    simp only [List.lookup,hb,if_neg (λ e:g=f=>h (e.trans hk.symm))]
  ·rw [if_neg hk]
   by_cases h:g=k
   ·have hb:(g == k)=true:=beq_iff_eq.mpr h
    simp only [List.lookup,hb,if_neg (λ e:g=f=>hk (h.symm.trans e))]
   ·have hb:(g == k)=false:=Xp.mpr h
    simp only [List.lookup,hb];exact ih
def kW (f:Str) (v:V):∀ fs:List (Str×V),f ∈ (pG f v fs).map (·.1)/\∀ g,g ∈ fs.map (·.1)->g ∈ (pG f v fs).map (·.1)
 | []=>⟨by simp [pG],λ g h=>by simp at h⟩
 | (k,x)::r=>by
  obtain ⟨i1,i2⟩:=kW f v r;rw [show pG f v ((k,x)::r)=(if k=f then (k,v)::r else (k,x)::pG f v r) from rfl]
  by_cases hk:k=f
  ·rw [if_pos hk]
   subst hk;exact ⟨by simp,λ g h=>by simpa using h⟩
  ·rw [if_neg hk]
   refine ⟨?_,λ g h=>?_⟩
   ·rw [Z8]
    exact Zg _ i1
   ·rw [Z8] at h ⊢
    rcases Zl.mp h with e | e
    · exact Zl.mpr (.inl e)
    · exact Zg _ (i2 g e)
def kU (f:Str) (v:V):∀ fs:List (Str×V),(pG f v fs).length<=fs.length+1
 | []=>by simp [pG]
 | (k,x)::r=>by
  have ih:=kU f v r;rw [show pG f v ((k,x)::r)=(if k=f then (k,v)::r else (k,x)::pG f v r) from rfl]
  by_cases hk:k=f
  · rw [if_pos hk,Zw,Zw]; omega
  · rw [if_neg hk,Zw,Zw]; omega
def pK.some_of (r:pK (some v) o):∃ u,o=some u/\RelV v u:=by
 cases o with
 | none=>exact (show False from r).elim
 | some u=>exact ⟨u,rfl,r⟩
def pK.none_of (r:pK none o):o=none:=by
 cases o with
 | none=>rfl
 | some u=>exact (show False from r).elim
def wk (r:RelV v u):PySem.W.handedIn u=true:=by
 cases v with
 | non=>cases (show u=Value.none from r); rfl
 | bl b=>cases (show u=Value.bool b from r); rfl
 | int i=>obtain ⟨t,e⟩:=(show ∃ t,u=Value.int i t from r); cases e; rfl
 | str x=>obtain ⟨t,e⟩:=(show ∃ t,u=Value.str x t from r); cases e; rfl
 | byt b=>obtain ⟨t,e⟩:=(show ∃ t,u=Value.bytes b t from r); cases e; rfl
 | flt b=>obtain ⟨t,e⟩:=(show ∃ t,u=Value.float b t from r); cases e; rfl
 | ref a=>cases (show u=Value.ref a from r); rfl
 | ty n=>cases (show u=Value.type n from r); rfl
section
variable {P:Program} {w:World} {H H':Hp} {h h':Heap} {a C dx:Addr} {fs fs':List (Str×V)}
def mX (hok:HOk P w H h) (e:H a=some (.ins C dx fs)):∃ mA,Ew h a dx C mA/\(∀ f,pK (fs.lookup f) (mA f))/\PySem.Within mA (fs.map (·.1))/\fs.length<=1000/\H dx=some (.own a):=by
 obtain ⟨d,z,ne,ob,mA,n,r,q⟩:=(show dZ P w H h a (.ins C dx fs) from hok a _ e)
 exact ⟨mA,⟨ob,n,ne⟩,r,q,z,d⟩
end
structure Cls (K:W.Frag) (C:Addr):Prop where
 pg:PySem.W.plainGet K C Str.empty=true
 hd:PySem.W.hasDictIn K C=true
 po:PySem.W.plainOver K C=true
 sa:W.findIn K (.ref C) "__setattr__"=some (some (.builtin "object.__setattr__"))
def Cls.get {K:W.Frag} {C:Addr} (c:Cls K C) (f:Str):PySem.W.plainGet K C f=true:=c.pg
def jr (K:W.Frag) (C:Addr) (f:Str):Prop:=W.findIn K (.ref C) f=some none
def jr.JQ {K:W.Frag} {C:Addr} {f:Str} (n:jr K C f):PySem.W.takerIn K C f=some none:=by
 unfold PySem.W.takerIn;rw [show W.findIn K (.ref C) f=some none from n];rfl
structure HY (K:W.Frag) (C:Addr) (m:Str) (f:Addr):Prop where
 at_:W.findIn K (.ref C) m=some (some (.ref f))
 fn:PySem.W.isFn K (.ref f)=true
 kp:W.keepIn K (.ref f)=true
section
variable {X:Cx} {pins:List (Addr×Obj)} {σ:St} {H:Hp} {s:Shared} {a C dx:Addr} {fs:List (Str×V)} {f:Str} {v:V} {A:Around} {E:Value->Shared->Prop}
def tM (I:Inv X pins σ H s) (e:H a=some (.ins C dx fs)) (c:Cls X.K C) (n:jr X.K C f) (l:fs.lookup f=some v)
  (h:∀ u s',Inv X pins σ H s'->RelV v u->Q u s'):wpAny (model X.prog X.w) A (getAttr (.ref a) f b) Q E s:=by
 obtain ⟨mA,O,r,_,_,_⟩:=mX I.hok e;obtain ⟨u,hu,ru⟩:=pK.some_of (v:=v) (o:=mA f) (by rw [<- l]; exact r f);exact get_map I.kIn O (c.get f) c.hd n hu (wk ru) (h u _ (I.tok _) ru)
def tK (I:Inv X pins σ H s) (e:H a=some (.ins C dx fs)) (c:Cls X.K C) (k:HY X.K C m g) (l:fs.lookup m=none)
  (h:Q (.ref g,[.ref a]) s):wpAny (model X.prog X.w) A (getMethod (.ref a) m pl) Q E s:=by
 obtain ⟨mA,O,r,_,_,_⟩:=mX I.hok e;have hn:mA m=none:=pK.none_of (by rw [<- l]; exact r m);exact zF I.kIn O (c.get m) k.at_ k.fn hn h
def sV (I:Inv X pins σ H s) (e:H a=some (.ins C dx fs)) (c:Cls X.K C) (n:jr X.K C f) (hl:fs.length < 1000) (ry:RelV y u)
  (h:∀ s',Inv X pins σ (upd H a (.ins C dx (pG f y fs))) s'->Q () s'):wpAny (model X.prog X.w) A (setAttr (.ref a) f u) Q E s:=by
 obtain ⟨mA,O,r,wi,_,ho⟩:=mX I.hok e;have hz:(fs.map (·.1)).length<=sizeLine:=by rw [Zd,sizeLine_eq]; omega
 refine BV I.kIn O c.sa c.po n.JQ c.hd wi hz λ h' O' sb=>h _ ?_
 have hd:∃ o,h'.get? dx=some o:=let ⟨o,_,_,e',_⟩:=O'.ns; ⟨o,e'⟩
 refine I.write (x:=a) (e:=dx) (by rw [e]; exact True.intro) (.inr ho) (λ b q hb z=>(sb.2 b hb).trans z) hd ?_
 refine ⟨by rw [aH O.ne]; exact ho,?_,O.ne,O'.obj,_,O'.ns,λ g=>?_,λ g hg=>?_⟩
 · have:=kU f y fs; omega
 ·show pK ((pG f y fs).lookup g) (if g=f then some u else mA g)
  rw [kT]
  by_cases q:g=f
  · rw [if_pos q,if_pos q]; exact ry
  · rw [if_neg q,if_neg q]; exact r g
 ·by_cases q:g=f
  · rw [q]; exact (kW f y fs).1
  ·refine (kW f y fs).2 g (wi g λ z=>hg ?_)
   show (if g=f then some u else mA g)=none;rw [if_neg q]; exact z
def Inv.made (I:Inv X pins σ H s):Inv X pins σ (upd (upd H s.heap.objs.size (.own (s.heap.objs.size+1))) (s.heap.objs.size+1) (.ins C s.heap.objs.size []))
  { s with heap:=(s.heap.push PySem.W.emptyDict).push (PySem.W.instObj C s.heap.objs.size) }:=by
 have e1:(s.heap.push PySem.W.emptyDict).get? s.heap.objs.size=some PySem.W.emptyDict:=Heap.get?_push_size s.heap rfl
 have e2:((s.heap.push PySem.W.emptyDict).push (PySem.W.instObj C s.heap.objs.size)).get? (s.heap.objs.size+1)=some (PySem.W.instObj C s.heap.objs.size):=by
  have:=Heap.get?_push_size (s.heap.push PySem.W.emptyDict) (o:=PySem.W.instObj C s.heap.objs.size) rfl
  rwa [Heap.size_push] at this
 have e3:(s.heap.push PySem.W.emptyDict).Ns s.heap.objs.size (λ _=>none):=⟨PySem.W.emptyDict,#[],_,e1,rfl,(λ e he=>absurd he (by simp)),λ _=>rfl⟩
 have I1:=I.laid (a:=s.heap.objs.size) (o:=.own (s.heap.objs.size+1)) (h':=s.heap.push PySem.W.emptyDict) (t':=s.toks) (λ b u q=>Heap.get?_push_of_some _ q) (Ze _) ⟨_,e1⟩;refine I1.laid (a:=s.heap.objs.size+1) (o:=.ins C s.heap.objs.size []) (t':=s.toks) (λ b u q=>Heap.get?_push_of_some _ q) (Nat.le_of_eq (Heap.size_push _ _)) ?_
 have ne:s.heap.objs.size≠s.heap.objs.size+1:=Z2 (Wt _);refine ⟨by rw [aH ne,aO],Zs _,ne,e2,λ _=>none,(Heap.Ns1.of_empty e3).at λ o q=>Heap.get?_push_of_some _ q,λ _=>True.intro,λ y hy=>absurd rfl hy⟩
def Er (hb:attributeBase e f env (eval e env)=eval e env)
  (h:wpAny (model prog w) A (eval e env) (λ o s₁=>wpAny (model prog w) A (getAttr o f true) Q E s₁) E s):wpAny (model prog w) A (eval (.Attribute e f pos) env) Q E s :=
 Attribute_any_ h (by rw [arm_eval_Attribute,hb])
end
def Nd (K:W.Frag) (ta:TE) (f:Str):TE:=λ σ H Q=>ta σ H λ x H1=>∃ a C dx fs v,x=.ref a/\H1 a=some (.ins C dx fs)/\Cls K C/\jr K C f/\fs.lookup f=some v/\Q v H1
def Np (K:W.Frag) (ta tv:TE) (f:Str):TS:=λ D σ H=>tv σ H λ y H1=>ta σ H1 λ x H2=>∃ a C dx fs,x=.ref a/\H2 a=some (.ins C dx fs)/\Cls K C/\jr K C f/\fs.length < 1000 /\
 D.nx σ (upd H2 a (.ins C dx (pG f y fs)))
section
variable {X:Cx} {o e value:Expr} {f:Str} {pos pos' tpos:Pos} {ta tv:TE}
def FL (he:PE X e ta) (hb:attributeBase e f X.env (eval e X.env)=eval e X.env):PE X (.Attribute e f pos) (Nd X.K ta f):=by
 intro pins s σ H Q I h;refine Er hb (thn (he pins s σ H _ I h) λ u s1 ⟨x,H1,I1,rx,a,C,dx,fs,v,ex,ea,c,n,l,q⟩=>?_);subst ex;obtain rfl:u=Value.ref a:=rx;exact tM I1 ea c n l λ u' s2 I2 ru=>⟨v,H1,I2,ru,q⟩
def Ft (ha:PE X o ta) (hv:PE X value tv) (hs:swapsWith value (some (.Attribute o f pos')) pos.line X.env=pure false):PS X (.Assign [.Attribute o f pos'] value pos) (Np X.K ta tv f):=by
 intro pins s σ H D I h;refine plainObj_wpAny_Assign_Attribute (thn (hv pins s σ H _ I h) λ u s1 ⟨y,H1,I1,ry,q⟩=>thn (ha pins s1 σ H1 _ I1 q) λ ov s2 ⟨x,H2,I2,rx,a,C,dx,fs,ex,ea,c,n,l,q2⟩=>?_) hs;subst ex;obtain rfl:ov=Value.ref a:=rx;exact sV I2 ea c n l ry λ s3 I3=>⟨σ,_,I3,q2⟩
end
section
variable {X:Cx} {pins:List (Addr×Obj)} {σ:St} {H:Hp} {s:Shared} {A:Around} {E:Value->Shared->Prop} {Q:Value->Shared->Prop} {c:Value} {b:Bool}
inductive t4 (K:W.Frag) (H:Hp):V->Value->Prop where
 | non:t4 K H .non (.type "NoneType")
 | bl (x:Bool):t4 K H (.bl x) (.type "bool")
 | int (i:Int):t4 K H (.int i) (.type "int")
 | str (x:Str):t4 K H (.str x) (.type "str")
 | flt (x:UInt64):t4 K H (.flt x) (.type "float")
 | lst {a:Addr} {xs:List V} (e:H a=some (.lst xs)):t4 K H (.ref a) (.type "list")
 | frz {a:Addr} {o:Obj} {xs:List V} (e:H a=some (.frz o (.lst xs))):t4 K H (.ref a) (.type "list")
 | tup {a:Addr} {xs:List V} (e:H a=some (.tup xs)):t4 K H (.ref a) (.type "tuple")
 | dK {a:Addr} {kvs:List (Key×V)} (e:H a=some (.dK kvs)):t4 K H (.ref a) (.type "dict")
 | dT {a:Addr} {kvs:List (List Key×V)} (e:H a=some (.dT kvs)):t4 K H (.ref a) (.type "dict")
 | ins {a C dx:Addr} {fs:List (Str×V)} (e:H a=some (.ins C dx fs)) (cl:Cls K C) (ha:W.findIn K (.ref C) "__class__"=some (some (.builtin "object.__class__")))
  (hn:PySem.W.specialIn K (.builtin "object.__class__") "__get__"=some (some (.builtin "getset_descriptor.__get__"))) (htk:PySem.W.takesIn K (.builtin "object.__class__")=some true)
  (hm:PySem.W.mroIn K C (.type "object")=some true):t4 K H (.ref a) (.ref C)
def vU (I:Inv X pins σ H s) (rx:RelV x u) (ty:t4 X.K H x t) (e:PySem.W.kitOne X.K t c=some b) (h:∀ tk,Q (.bool b) { s with toks:=tk }) :
  wpAny (model X.prog X.w) A (call (.builtin "isinstance") [u,c]) Q E s:=by
 cases ty with
 | non=>cases (show u=Value.none from rx); exact Yy PySem.W.kitx_none I.kIn True.intro e (λ z=>nomatch z) h
 | bl y=>cases (show u=Value.bool y from rx); exact Yy PySem.W.kitx_bool I.kIn True.intro e (λ z=>nomatch z) h
 | int i=>obtain ⟨t,q⟩:=(show ∃ t,u=Value.int i t from rx); cases q; exact Yy PySem.W.kitx_int I.kIn True.intro e (λ z=>nomatch z) h
 | str y=>obtain ⟨t,q⟩:=(show ∃ t,u=Value.str y t from rx); cases q; exact Yy PySem.W.kitx_str I.kIn True.intro e (λ z=>nomatch z) h
 | flt y=>obtain ⟨t,q⟩:=(show ∃ t,u=Value.float y t from rx); cases q; exact Yy PySem.W.kitx_float I.kIn True.intro e (λ z=>nomatch z) h
 | @lst a xs ea =>
  cases (show u=Value.ref a from rx);obtain ⟨_,_,n,_,h1⟩:=(show dZ X.prog X.w H s.heap a (.lst xs) from I.hok a _ ea)
  exact Yy PySem.W.kitx_list I.kIn ⟨_,h1,rfl⟩ e (λ z=>nomatch z) h
 | @frz a ob xs ea =>
  cases (show u=Value.ref a from rx);obtain ⟨_,_,_,n,_,h1⟩:=(show dZ X.prog X.w H s.heap a (.frz ob (.lst xs)) from I.hok a _ ea)
  exact Yy PySem.W.kitx_list I.kIn ⟨_,h1,rfl⟩ e (λ z=>nomatch z) h
 | @tup a xs ea =>
  cases (show u=Value.ref a from rx);obtain ⟨_,_,_,p⟩:=(show dZ X.prog X.w H s.heap a (.tup xs) from I.hok a _ ea)
  obtain ⟨o,h1,h2,_⟩:=p;exact Yy PySem.W.kitx_tuple I.kIn ⟨o,h1,h2⟩ e (λ z=>nomatch z) h
 | @dK a kvs ea =>
  cases (show u=Value.ref a from rx);obtain ⟨_,_,vs,_,p⟩:=(show dZ X.prog X.w H s.heap a (.dK kvs) from I.hok a _ ea)
  obtain ⟨o,es,ep,h1,h2,_⟩:=p;exact Yy PySem.W.kitx_dict I.kIn ⟨o,h1,h2.1⟩ e (λ z=>nomatch z) h
 | @dT a kvs ea =>
  cases (show u=Value.ref a from rx);obtain ⟨_,_,xs,_,o,es,ep,h1,h2,_⟩:=(show dZ X.prog X.w H s.heap a (.dT kvs) from I.hok a _ ea)
  exact Yy PySem.W.kitx_dict I.kIn ⟨o,h1,h2.1⟩ e (λ z=>nomatch z) h
 | @ins a C dx fs ea cl ha hn htk hm =>
  cases (show u=Value.ref a from rx);obtain ⟨mA,O,_⟩:=mX I.hok ea;obtain ⟨od,J,_⟩:=O.look;exact Yy (PySem.W.kitx_own (cl.get _) cl.hd ha hn htk hm) I.kIn J e (λ z=>nomatch z) h
end
end L2
namespace L2
open PySem PySem.Spec PyProof.Rows
structure gj (k:Nat) (A:Around):Prop where
 hd:A.handled=none
 dp:A.depth+3 * k+5 < recursionLimit
 un:A.units+16 * k+200 < cLine
def gj.mono (r:gj k A) (h:j<=k):gj j A:=⟨r.hd,by have:=r.dp; omega,by have:=r.un; omega⟩
def gj.deeper (r:gj (k+1) A) (env:Env):gj k (A.deeper env) :=
 ⟨r.hd,by have:=r.dp; show A.depth+1+3 * k+5 < _; omega,by have:=r.un; show A.units+3+16 * k+200 < _; omega⟩
def tF {A:Around} {C:Addr} {us:List Value} {kw:List (Str×Value)}:(A.under (.builtin "type.__call__" ⟨.ref C::us,kw⟩)).depth=A.depth+1:=by
 first | rfl | simp [Around.under,Code.weight,Code.isCreation,Code.isGuard,Code.isCaller,Code.frames,Code.isFrame,guardIds]
def tE {A:Around} {C:Addr} {us:List Value} {kw:List (Str×Value)}:(A.under (.builtin "type.__call__" ⟨.ref C::us,kw⟩)).units=A.units+1:=by
 first | rfl | simp [Around.under,Code.cUnits,Code.frames,Code.isFrame]
def gj.make (r:gj (k+1) A) (C:Addr) (us:List Value) (kw:List (Str×Value)):gj k (A.under (.builtin "type.__call__" ⟨.ref C::us,kw⟩)) :=
 ⟨r.hd,by have:=r.dp; rw [tF]; omega,by have:=r.un; rw [tE]; omega⟩
def gj.depth (r:gj k A):A.depth < recursionLimit:=by have:=r.dp; omega
def gj.units (r:gj k A):A.units+64 < cLine:=by have:=r.un; omega
def M8:TA:=λ _ H Q=>Q [] H
def JZ (ta:TE) (tr:TA):TA:=λ σ H Q=>ta σ H λ x H1=>tr σ H1 λ xs H2=>Q (x::xs) H2
section
variable {X:Cx} {e:Expr} {es:List Expr} {te:TE} {t:TA} {pos:Pos}
def u4:PA X [] M8:=λ _ _ _ _ H Q I h=>Calls.spliced_nil ⟨[],H,I,.nil,h⟩
def pQ (ha:PE X e te) (hr:PA X es t) (hs:starEach (e::es) X.env=(false,eval e X.env)::starEach es X.env:=by rfl):PA X (e::es) (JZ te t):=by
 intro pos pins s σ H Q I h;rw [hs];show wpAny _ _ (spliced ((false,eval e X.env)::backTo pos (starEach es X.env))) _ _ s;refine Calls.spliced_cons (thn (ha pins s σ H _ I h) λ u s1 ⟨x,H1,I1,r1,q1⟩=>?_);exact thn (hr pos pins s1 σ H1 _ I1 q1) λ us s2 ⟨xs,H2,I2,r2,q2⟩=>⟨x::xs,H2,I2,.cons r1 r2,q2⟩
def M4 (t:TA):TE:=λ σ H Q=>t σ H λ xs H1=>xs.length<=sizeLine/\∀ p,H1 p=none->Q (.ref p) (upd H1 p (.tup xs))
def M9 (t:TA):TE:=λ σ H Q=>t σ H λ xs H1=>xs.length<=sizeLine/\∀ p,H1 p=none->Q (.ref p) (upd H1 p (.lst xs))
def FE {x1} (h:PA X es t):PE X (.Tuple es x1 pos) (M4 t):=by
 intro pins s σ H Q I hq;refine wpAny_Tuple_spliced (thn (h pos pins s σ H _ I hq) λ us s1 ⟨xs,H1,I1,r,z,q⟩=>⟨by rw [<- r.length]; exact z,?_⟩);have hf:H1 s1.heap.objs.size=none:=I1.hok.fresh (Ze _);refine ⟨.ref s1.heap.objs.size,upd H1 s1.heap.objs.size (.tup xs),I1.laid (t':=s1.toks) (λ b u e=>Heap.get?_push_of_some _ e) (Ze _) ?_,rfl,q _ hf⟩;exact ⟨z,us,r,⟨_,Heap.get?_push_size _ rfl,rfl,_,rfl⟩⟩
def FJ (h:PA X es t):PE X (.List es pos) (M9 t):=by
 intro pins s σ H Q I hq;refine wpAny_List_spliced (thn (h pos pins s σ H _ I hq) λ us s1 ⟨xs,H1,I1,r,z,q⟩=>⟨by rw [<- r.length]; exact z,?_⟩);have hf:H1 s1.heap.objs.size=none:=I1.hok.fresh (Ze _);refine ⟨.ref s1.heap.objs.size,upd H1 s1.heap.objs.size (.lst xs),I1.laid (t':=s1.toks) (λ b u e=>Heap.get?_push_of_some _ e) (Ze _) ?_,rfl,q _ hf⟩;exact ⟨z,us,0,r,Heap.get?_push_size _ rfl⟩
end
abbrev Sp:=List V->Hp->VK->XK->Prop
abbrev CXT:=List Env->Hp->Shared->XK->Value->Shared->Prop
structure EB (P:Program) (w:World) (K:W.Frag) (mg:Str->Option Value) (base:Heap) (A:Around) (outer:List Env) (s:Shared) (H:Hp):Prop where
 frames:A.frames=some outer
 mod:Mod K mg base
 bs:∀ b o,base.get? b=some o->s.heap.get? b=some o/\H b=none
 bsz:base.objs.size<=s.heap.objs.size
 t8:s.heap.FunFrames base outer
 frf:∀ b ∈ frs outer,H b=none
 hok:HOk P w H s.heap
 bare:AllBare s.gens
def CE (outer:List Env) (P:Program) (w:World) (H:Hp) (s:Shared) (Q:VK) (u:Value) (s':Shared):Prop :=
 ∃ v H',s'.os=s.os/\AllBare s'.gens/\Un (frs outer) [] H H' s.heap s'.heap/\HOk P w H' s'.heap/\RelV v u/\Q v H'
def CR (CX:CXT) (outer:List Env) (P:Program) (w:World) (H:Hp) (s:Shared) (Q:VK) (E:XK) (r:Result) (s':Shared):Prop :=
 match r with
 | .ok (.ret u)=>CE outer P w H s Q u s'
 | .ok _=>False
 | .error e=>CX outer H s E e s'
structure ko (P:Program) (w:World) (K:W.Frag) (mg:Str->Option Value) (base:Heap) (CX:CXT) (k:Nat) (f:Addr) (fd:FuncData) (ps:List Str) (sp:Sp):Prop where
 len:∀ vs H Q E,sp vs H Q E->vs.length=ps.length
 run:∀ (A:Around) (outer:List Env) (s:Shared) (H:Hp) (args:Args) (us:List Value) (vs:List V) (Q:VK) (E:XK),gj k A->EB P w K mg base A outer s H->BindsTo s fd args (ps.zip us)->cK vs us->sp vs H Q E ->
  codeAny (model P w) A (.call (.ref f) args) (CR CX outer P w H s Q E) s
def ko.imp {P:Program} {w:World} {K:W.Frag} {mg:Str->Option Value} {base:Heap} {CX:CXT} {k:Nat} {f:Addr} {fd:FuncData} {ps:List Str} {sp sp':Sp} (F:ko P w K mg base CX k f fd ps sp)
  (h:∀ vs H Q E,sp' vs H Q E->sp vs H Q E):ko P w K mg base CX k f fd ps sp' :=
 ⟨λ vs H Q E q=>F.len vs H Q E (h _ _ _ _ q),λ A outer s H args us vs Q E hr he hb hv hs=>F.run A outer s H args us vs Q E hr he hb hv (h _ _ _ _ hs)⟩
def EB.make {P:Program} {w:World} {K:W.Frag} {mg:Str->Option Value} {base:Heap} {A:Around} {outer:List Env} {s:Shared} {H:Hp} (e:EB P w K mg base A outer s H) (C:Addr) (us:List Value) (kw:List (Str×Value)) :
 EB P w K mg base (A.under (.builtin "type.__call__" ⟨.ref C::us,kw⟩)) outer s H:=⟨by first | exact e.frames | (simpa [Around.under,Code.envs,Code.isFrame,pushEnvs] using e.frames),e.mod,e.bs,e.bsz,e.t8,e.frf,e.hok,e.bare⟩
section
variable {X:Cx} {pins:List (Addr×Obj)} {σ:St} {H:Hp} {s s':Shared}
def Inv.MX (I:Inv X pins σ H s):EB X.prog X.w X.K X.mg X.base X.A X.stack s H :=
 ⟨I.ok.frames,I.ok.mod,I.bs,Zc I.ok.bsz I.sz,I.stack,I.pM,I.hok,I.bare⟩
def Inv.after (I:Inv X pins σ H s) (h:CE X.stack X.prog X.w H s Q u s'):EP X pins σ Q u s':=by
 obtain ⟨v,H',os,bare,un,hok,r,q⟩:=h;obtain ⟨hh,g,d,t,os'⟩:=s';obtain rfl:os'=s.os:=os;exact ⟨v,H',I.call (h':=hh) (g':=g) (d':=d) (t':=t) (ch:=[]) un hok bare (λ b z=>absurd z (by simp)),r,q⟩
end
def BM (sp:Sp) (dvs:List V) (E:XK) (t:TA):TE:=λ σ H Q=>t σ H λ vs H1=>sp (vs++dvs) H1 Q E
def EZ (C:Addr) (m:Str) (sp:Sp) (dvs:List V) (E:XK) (ta:TE) (t:TA):TE:=λ σ H Q=>ta σ H λ x H1=>∃ a dx fs,x=.ref a/\H1 a=some (.ins C dx fs)/\fs.lookup m=none /\
 t σ H1 λ vs H2=>sp (x::(vs++dvs)) H2 Q E
def JV (C:Addr) (sp:Sp) (dvs:List V) (E:XK) (t:TA):TE:=λ σ H Q=>t σ H λ vs H1=>∀ x dx,H1 x=none->H1 dx=none->dx≠x ->
 sp (.ref x::(vs++dvs)) (upd (upd H1 dx (.own x)) x (.ins C dx [])) (λ v H2=>v=.non/\Q (.ref x) H2) E
def Binds (K:W.Frag) (fd:FuncData) (ps:List Str) (ds:List Value):Prop :=
 ∀ (s:Shared) (us:List Value),K.In s.heap->(us++ds).length=ps.length->BindsTo s fd ⟨us,[]⟩ (ps.zip (us++ds))
def Binds.all {K:W.Frag} {fd:FuncData} {ps:List Str} (h:∀ us:List Value,us.length=ps.length->bindArgs fd ⟨us,[]⟩=pure (ps.zip us)):Binds K fd ps []:=λ s us _ hl=>by
 rw [Yi] at hl ⊢;exact .of_eq (h us hl)
def mr (CX:CXT) (X:Cx) (E:XK):Prop:=∀ (pins:List (Addr×Obj)) (σ:St) (H:Hp) (s:Shared) (e:Value) (s':Shared),Inv X pins σ H s->CX X.stack H s E e s'->X.xe e s'
section
variable {X:Cx} {CX:CXT} {k:Nat} {f C:Addr} {fd:FuncData} {ps:List Str} {sp:Sp} {dvs:List V} {ds:List Value} {E:XK} {x m:Str} {p pos apos:Pos} {e o:Expr} {es:List Expr} {ta:TE} {t:TA}
def Am (F:ko X.prog X.w X.K X.mg X.base CX k f fd ps sp) (hr:gj k X.A) (hb:Binds X.K fd ps ds) (hd:cK dvs ds) (hx:mr CX X E)
  (I:Inv X pins σ H s) (r:cK vs us) (h:sp (vs++dvs) H Q E):wpAny (model X.prog X.w) X.A (call (.ref f) us) (EP X pins σ Q) X.xe s:=by
 have r2:cK (vs++dvs) (us++ds):=r.append hd;have hl:(us++ds).length=ps.length:=by rw [<- r2.length]; exact F.len _ _ _ _ h
 refine wpAny_call (codeAny_mono (F.run X.A X.stack s H ⟨us,[]⟩ (us++ds) (vs++dvs) Q E hr I.MX (hb s us I.kIn hl) r2 h) λ r s' hq=>?_)
 cases r with
 | error e=>exact hx pins σ H s e s' I hq
 | ok fl =>
  cases fl with
  | ret u=>exact I.after hq
  | next=>exact False.elim hq
  | brk=>exact False.elim hq
  | cont=>exact False.elim hq
def u3 (F:ko X.prog X.w X.K X.mg X.base CX k f fd ps sp) (hr:gj k X.A) (hg:Gl X x) (hm:X.mg x=some (.ref f)) (hk:W.keepIn X.K (.ref f)=true) (hb:Binds X.K fd ps ds) (hd:cK dvs ds) (hx:mr CX X E)
  (ha:PA X (e::es) t) (hdb:(x == ("__debug__":Str))=false:=by decide) (he:starEach (e::es) X.env=(false,eval e X.env)::starEach es X.env:=by rfl) (hpl:(backTo pos (starEach es X.env)).any (·.1)=false:=by rfl) :
  PE X (.Call (.Name x p) (e::es) [] pos) (BM sp dvs E t):=by
 intro pins s σ H Q I h;refine Xx (qf I hg hm ?_ hdb);refine PySem.W.callWith_K (h₀:=X.base) I.ok.mod.kin hk (thn (ha pos pins s σ H _ I h) λ us s1 ⟨vs,H1,I1,r,q⟩=>⟨I1.kIn,?_⟩) he hpl;exact Am F hr hb hd hx I1 r q
def CH (he:PE X o ta) (c:Cls X.K C) (hm:HY X.K C m f) (F:ko X.prog X.w X.K X.mg X.base CX k f fd ps sp) (hr:gj k X.A) (hb:Binds X.K fd ps ds) (hd:cK dvs ds) (hx:mr CX X E) (ha:PA X (e::es) t)
  (hst:starEach (e::es) X.env=(false,eval e X.env)::starEach es X.env:=by rfl) (hpl:(backTo pos (starEach es X.env)).any (·.1)=false:=by rfl)
  (ht:eval (.Call (.Attribute o m apos) (e::es) [] pos) X.env=(do
    let ov <- eval o X.env
    standAt apos.atName
    let (f,first) <- holding [ov] (getMethod ov m pl)
    callWith pos f first (backTo pos (starEach (e::es) X.env)) (backToKw pos (keywordEach [] X.env))):=by rfl) :
  PE X (.Call (.Attribute o m apos) (e::es) [] pos) (EZ C m sp dvs E ta t):=by
 intro pins s σ H Q I h;refine PySem.W.methodCall_KW (pl:=pl) (thn (he pins s σ H _ I h) λ u s1 ⟨x,H1,I1,rx,a,dx,fs,ex,ea,l,q⟩=>?_) ht;subst ex;obtain rfl:u=Value.ref a:=rx;refine tK I1 ea c hm l ?_
 refine PySem.W.callWith_K (first:=[.ref a]) (h₀:=X.base) I.ok.mod.kin hm.kp (thn (ha pos pins s1 σ H1 _ I1 q) λ us s2 ⟨vs,H2,I2,r,q2⟩=>⟨I2.kIn,?_⟩) hst hpl;exact Am (us:=.ref a::us) (vs:=.ref a::vs) F hr hb hd hx I2 (.cons rfl r) q2
structure Mk (K:W.Frag) (C f:Addr):Prop where
 makes:PySem.W.makesIn K C=true
 init:W.findIn K (.ref C) "__init__"=some (some (.ref f))
 fn:PySem.W.isFn K (.ref f)=true
 kp:W.keepIn K (.ref C)=true
def yh (M:Mk X.K C f) (F:ko X.prog X.w X.K X.mg X.base CX k f fd ps sp) (hr:gj (k+1) X.A) (hb:Binds X.K fd ps ds) (hd:cK dvs ds)
  (hx:mr CX X E) (I:Inv X pins σ H s) (r:cK vs us)
  (h:∀ x dx,H x=none->H dx=none->dx≠x->sp (.ref x::(vs++dvs)) (upd (upd H dx (.own x)) x (.ins C dx [])) (λ v H2=>v=.non/\Q (.ref x) H2) E) :
  wpAny (model X.prog X.w) X.A (call (.ref C) us) (EP X pins σ Q) X.xe s:=by
 have hq:=h (s.heap.objs.size+1) s.heap.objs.size (I.hok.fresh (Nat.le_succ _)) (I.hok.fresh (Ze _)) (Z2 (Wt _));have I2:=Inv.made (C:=C) I;have r2:cK (V.ref (s.heap.objs.size+1)::(vs++dvs)) (Value.ref (s.heap.objs.size+1)::(us++ds)):=.cons rfl (r.append hd)
 have hl:(Value.ref (s.heap.objs.size+1)::us++ds).length=ps.length:=by
  have e:=r2.length;rw [F.len _ _ _ _ hq] at e;exact e.symm
 refine wpAny_call (yV (f:=f) I.kIn M.makes M.init (beq_iff_eq.mp M.fn) (codeAny_mono (F.run _ X.stack _ _ ⟨Value.ref (s.heap.objs.size+1)::us,[]⟩ (Value.ref (s.heap.objs.size+1)::(us++ds)) _ _ E (hr.make C us [])
  (I2.MX.make C us []) (hb _ (Value.ref (s.heap.objs.size+1)::us) I2.kIn hl) r2 hq) λ r s' hq'=>?_))
 cases r with
 | error e=>exact hx pins σ _ _ e s' I2 hq'
 | ok fl =>
  cases fl with
  | ret u =>
   obtain ⟨v,H',I3,rv,ev,q3⟩:=I2.after hq';subst ev;exact ⟨rv,⟨V.ref (s.heap.objs.size+1),H',I3,rfl,q3⟩⟩
  | next=>exact False.elim hq'
  | brk=>exact False.elim hq'
  | cont=>exact False.elim hq'
def CI (M:Mk X.K C f) (F:ko X.prog X.w X.K X.mg X.base CX k f fd ps sp) (hr:gj (k+1) X.A) (hg:Gl X x) (hm:X.mg x=some (.ref C)) (hb:Binds X.K fd ps ds) (hd:cK dvs ds) (hx:mr CX X E)
  (ha:PA X (e::es) t) (hdb:(x == ("__debug__":Str))=false:=by decide) (he:starEach (e::es) X.env=(false,eval e X.env)::starEach es X.env:=by rfl) (hpl:(backTo pos (starEach es X.env)).any (·.1)=false:=by rfl) :
  PE X (.Call (.Name x p) (e::es) [] pos) (JV C sp dvs E t):=by
 intro pins s σ H Q I h;refine Xx (qf I hg hm ?_ hdb);refine PySem.W.callWith_K (h₀:=X.base) I.ok.mod.kin M.kp (thn (ha pos pins s σ H _ I h) λ us s1 ⟨vs,H1,I1,r,q⟩=>⟨I1.kIn,?_⟩) he hpl;exact yh M F hr hb hd hx I1 r q
end
structure iQ (N P:List Str) (sc:Scope):Prop where
 kind:sc.kind=.function
 co:sc.isCoroutine=false
 gen:sc.isGenerator=false
 nd:N.Nodup
 pre:N.take P.length=P
 par:∀ x ∈ P,sc.names.lookup x=some .local\/sc.names.lookup x=some .cell
 GQ:∀ y ∈ sc.names,y.2≠.free
def pf {kindOf:Str->Option NameKind} {x:Str}:∀ {binds:List (Str×Value)} {m:Str->Option Value},(∀ v,(x,v) ∉ binds)->bindL kindOf binds m x=m x
 | [],_,_=>rfl
 | (n,v)::r,m,h=>by
  unfold bindL;rw [pf λ w hw=>h w (Zg _ hw)];split
  ·have:x≠n:=by rintro rfl; exact h v Zo
   simp [this]
  · rfl
def pj {kindOf:Str->Option NameKind} {x:Str}:∀ {binds:List (Str×Value)} {m:Str->Option Value},(∀ v,(x,v) ∉ binds)->bindC kindOf binds m x=m x
 | [],_,_=>rfl
 | (n,v)::r,m,h=>by
  unfold bindC;rw [pj λ w hw=>h w (Zg _ hw)];split
  · rfl
  ·have:x≠n:=by rintro rfl; exact h v Zo
   simp [this]
def ph {kindOf:Str->Option NameKind} {x:Str} {v:Value}:∀ {P:List Str} {vs:List Value} {i:Nat} {m:Str->Option Value},P.Nodup->P[i]?=some x->vs[i]?=some v->kindOf x=some .local ->
  bindL kindOf (P.zip vs) m x=some v
 | [],_,_,_,_,h,_,_=>by simp at h
 | _::_,[],_,_,_,_,h,_=>by simp at h
 | p::P,w::vs,0,m,nd,h1,h2,hk=>by
  simp at h1 h2; subst h1; subst h2
  show bindL kindOf ((p,w)::P.zip vs) m p=_;unfold bindL;rw [pf λ v hv=>(List.nodup_cons.mp nd).1 (List.of_mem_zip hv).1,if_pos hk];simp
 | p::P,w::vs,i+1,m,nd,h1,h2,hk=>by
  show bindL kindOf ((p,w)::P.zip vs) m x=_;unfold bindL;exact ph (i:=i) (List.nodup_cons.mp nd).2 (by simpa using h1) (by simpa using h2) hk
def pq {kindOf:Str->Option NameKind} {x:Str} {v:Value}:∀ {P:List Str} {vs:List Value} {i:Nat} {m:Str->Option Value},P.Nodup->P[i]?=some x->vs[i]?=some v->kindOf x≠some .local ->
  bindC kindOf (P.zip vs) m x=some v
 | [],_,_,_,_,h,_,_=>by simp at h
 | _::_,[],_,_,_,_,h,_=>by simp at h
 | p::P,w::vs,0,m,nd,h1,h2,hk=>by
  simp at h1 h2; subst h1; subst h2
  show bindC kindOf ((p,w)::P.zip vs) m p=_;unfold bindC;rw [pj λ v hv=>(List.nodup_cons.mp nd).1 (List.of_mem_zip hv).1,if_neg hk];simp
 | p::P,w::vs,i+1,m,nd,h1,h2,hk=>by
  show bindC kindOf ((p,w)::P.zip vs) m x=_;unfold bindC;exact pq (i:=i) (List.nodup_cons.mp nd).2 (by simpa using h1) (by simpa using h2) hk
def start (N:List Str) (vs:List V):St:=vs.map some++List.replicate (N.length - vs.length) none
def Bh (CX:CXT) (P:Program) (w:World) (K:W.Frag) (mg:Str->Option Value) (base:Heap) (N:List Str) (qual:Str) (scope:Scope) (f:Addr) (cd:Value) (A:Around) (outer:List Env) (s:Shared) (H:Hp) (E:XK):Cx where
 prog:=P
 w:=w
 K:=K
 mg:=mg
 base:=base
 A:=A.deeper (envOfC qual scope s.heap.objs.size f cd)
 N:=N
 s₀:=s
 H₀:=H
 env:=envOfC qual scope s.heap.objs.size f cd
 outer:=outer
 stack:=envOfC qual scope s.heap.objs.size f cd::outer
 ex:=[]
 calm:=true
 fn:=λ _=>true
 pn:=[]
 xe:=λ e s'=>wpAny (model P w) (A.deeper (envOfC qual scope s.heap.objs.size f cd)) (leaving (envOfC qual scope s.heap.objs.size f cd) e) (λ _ s''=>CX outer H s E e s'') (λ e' s''=>CX outer H s E e' s'') s'
def sN {sc:Scope} {n:Nat} {x:Str} (h:sc.names.lookup x=some .cell):∃ c,(cellsFrom n sc.names []).lookup x=some c:=by
 have q:=PySem.W.cellsFrom_some sc.names n [] (.inl h);exact Yz.mp q
def vZ {CX:CXT} {P:Program} {w:World} {K:W.Frag} {mg:Str->Option Value} {base:Heap} {N ps:List Str} {qual:Str} {scope:Scope} {f:Addr} {cd:Value} {A:Around} {outer:List Env} {s s1:Shared} {H:Hp} {E:XK} {us:List Value} {vs:List V}
  (S:iQ N ps scope) (hd:A.handled=none) (e0:EB P w K mg base A outer s H) (hl:vs.length=ps.length) (r:cK vs us)
  (x:InCallC s s.heap.objs.size (bindL (envOfC qual scope s.heap.objs.size f cd).kindOf (ps.zip us) λ _=>none) (cellsFrom (s.heap.objs.size+1) scope.names []) (bindC (envOfC qual scope s.heap.objs.size f cd).kindOf (ps.zip us) λ _=>none) s1) :
  Inv (Bh CX P w K mg base N qual scope f cd A outer s H E) [] (start N vs) H s1:=by
 have hpl:ps.length<=N.length:=by have:=X4 List.length S.pre; rw [Xu] at this; omega
 obtain ⟨h1,tk,rfl,hk⟩:=x.done;have noA:∀ b:Addr,b ∉ (Bh CX P w K mg base N qual scope f cd A outer s H E).ex:=λ b z=>absurd (show b ∈ ([]:List Addr) from z) (by simp)
 refine ⟨⟨e0.mod,S.kind,rfl,rfl,Ze _,λ y z c h1 h2=>?_,λ y hy=>?_,λ y c _ h=>?_,λ _=>hd,Around.frames_deeper e0.frames,.inr ⟨rfl,rfl⟩,λ b z=>absurd z (noA b),e0.bs,e0.bsz,λ b _ _=>noA b,λ b z=>absurd z (noA b),e0.t8,e0.frf⟩,
  rfl,e0.bare,Un.kept hk,⟨_,x.toInCall.ns,λ i y v h1 h2 h3=>?_⟩,λ y c h=>⟨_,x.cell y c h⟩,e0.hok.fresh (Ze _),λ y c h=>?_,λ p hp=>absurd (show p ∈ ([]:List (Addr×Obj)) from hp) (by simp),e0.hok.kept hk,?_⟩
 · exact name_of_addr x.apart (Y0 h1) (Y0 h2)
 ·have hy:scope.names.lookup y=some .cell\/scope.names.lookup y=some .free:=hy
  rcases hy with hy | hy
  · exact sN hy
  · exact absurd rfl (S.GQ _ (Y0 hy))
 · exact Xq (x.above y c (Y0 h))
 ·have hi:i < vs.length:=by
   unfold start at h2
   by_cases hi:i < vs.length
   · exact hi
   ·rw [List.getElem?_append_right (by simpa using hi)] at h2
    rw [List.getElem?_replicate] at h2;split at h2 <;> cases h2
  have ha:vs[i]?=some v:=by
   unfold start at h2;rw [List.getElem?_append_left (by simpa using hi),List.getElem?_map] at h2
   cases e:vs[i]? with
   | none=>rw [e] at h2; cases h2
   | some a=>rw [e] at h2; cases h2; rfl
  obtain ⟨u,hu,rv⟩:=r.get ha
  have hp:ps[i]?=some y:=by
   rw [<- S.pre,List.getElem?_take_of_lt (by omega)]; exact h1
  have ndP:ps.Nodup:=by rw [<- S.pre]; exact S.nd.sublist (List.take_sublist _ _)
  refine ⟨u,rv,?_⟩;rcases S.par y (List.mem_of_getElem? hp) with k | k
  · exact .inl ⟨k,ph ndP hp hu k⟩
  ·obtain ⟨c,e⟩:=sN (n:=s.heap.objs.size+1) k
   refine .inr ⟨.inl k,c,e,?_⟩;have q:=x.cell y c e;rw [pq ndP hp hu (by show scope.names.lookup y≠_; rw [k]; decide)] at q;exact q
 · exact e0.hok.fresh (Xq (x.above y c (Y0 h)))
 ·unfold start
  show _=N.length;rw [Zu,Zd,List.length_replicate];omega
def Ma {CX:CXT} {P:Program} {w:World} {K:W.Frag} {mg:Str->Option Value} {base:Heap} {k:Nat} {f:Addr} {name qual:Str} {params:Arguments} {body:List Stmt} {scope:Scope} {dV kV doc pm cdv ct oc:Value} {an od:Option Addr}
  {osl:Array (Option Value)} {N ps:List Str} {sp:Sp} (lk:K.lookup f=some ⟨oc,od,.func (PySem.W.fnOf name qual params body scope dV kV doc pm an cdv ct),osl⟩) (hcd:PySem.W.codeIn K cdv qual=true) (S:iQ N ps scope)
  (len:∀ vs H Q E,sp vs H Q E->vs.length=ps.length)
  (hbody:∀ (A:Around) (outer:List Env) (s:Shared) (H:Hp) (vs:List V) (Q:VK) (E:XK),gj k (A.deeper (envOfC qual scope s.heap.objs.size f cdv))->sp vs H Q E ->
    ∃ t,PSs (Bh CX P w K mg base N qual scope f cdv A outer s H E) body t/\t { nx:=λ _ H'=>Q .non H',rt:=Q } (start N vs) H) :
  ko P w K mg base CX (k+1) f (PySem.W.fnOf name qual params body scope dV kV doc pm an cdv ct) ps sp:=by
 refine ⟨len,λ A outer s H args us vs Q E hr e0 hb r hsp=>?_⟩;have hl:=len _ _ _ _ hsp;have KX:K.In s.heap:=e0.mod.kin.keeps λ b o e=>(e0.bs b o e).1
 have lim:s.heap.NoLimit:=e0.mod.nolimit.keeps λ b o e=>(e0.bs b o e).1
 have hkind:∀ y ∈ ps.zip us,scope.names.lookup y.1=some .local\/(scope.names.lookup y.1=some .cell/\((cellsFrom (s.heap.objs.size+1) scope.names []).lookup y.1).isSome=true):=λ ⟨n,v⟩ hy=>by
  rcases S.par n (List.of_mem_zip hy).1 with q | q
  · exact .inl q
  · exact .inr ⟨q,PySem.W.cellsFrom_some _ _ _ (.inl q)⟩
 refine codeAny_call_function hr.depth (KX _ _ lk) rfl S.co S.gen rfl (PySem.W.codeRec_of KX hcd) (hb _ _ _ _ ?_);refine wpAny_newFunctionEnv_cells S.kind hkind λ env he s1 x=>?_
 subst he;refine ⟨lim.keeps x.toInCall.keep,codeAny_func ?_⟩;obtain ⟨t,ht,hq⟩:=hbody A outer s H vs Q E (hr.deeper _) hsp;have I:Inv (Bh CX P w K mg base N qual scope f cdv A outer s H E) [] (start N vs) H s1:=vZ S hr.hd e0 hl r x;refine Yt (ht [] s1 (start N vs) H _ I hq) (λ fl s' hs=>?_) λ e s' hs=>hs
 have fin:∀ {σ':St} {H':Hp} {v:V} {u:Value},Inv (Bh CX P w K mg base N qual scope f cdv A outer s H E) [] σ' H' s'->RelV v u->Q v H'->CE outer P w H s Q u s' :=
  λ {σ' H' v u} J rv q=>⟨v,H',J.os,J.bare,J.base,J.hok,rv,q⟩
 cases fl with
 | ret u =>
  obtain ⟨v,σ',H',J,rv,q⟩:=hs;exact fin J rv q
 | next =>
  obtain ⟨σ',H',J,q⟩:=hs;exact fin (v:=V.non) (u:=Value.none) J rfl q
 | brk =>
  obtain ⟨_,_,_,q⟩:=hs;exact False.elim q
 | cont =>
  obtain ⟨_,_,_,q⟩:=hs;exact False.elim q
end L2
namespace L2
open PySem PySem.Spec PyProof.Rows
section
variable {X:Cx} {x:Str} {p pos:Pos} {e:Expr} {es:List Expr} {t:TA} {id T:String} {r:List V->Hp->VK->Prop}
def tCB (r:List V->Hp->VK->Prop) (t:TA):TE:=λ σ H Q=>t σ H λ vs H1=>r vs H1 Q
def yM (hc:ij X (.builtin id) r) (hg:Gl X x) (hm:X.mg x=none) (hv:bootBuiltins x=some (.builtin id)) (ha:PA X (e::es) t) (hn:x≠"__name__":=by decide) (hdb:(x == ("__debug__":Str))=false:=by decide)
  (he:starEach (e::es) X.env=(false,eval e X.env)::starEach es X.env:=by rfl) (hpl:(backTo pos (starEach es X.env)).any (·.1)=false:=by rfl):PE X (.Call (.Name x p) (e::es) [] pos) (tCB r t):=by
 intro pins s σ H Q I h;refine Xx (je I hg hm hv ?_ hn hdb);exact PyProof.Rows.callWith_builtin1 (thn (ha pos pins s σ H _ I h) λ us s1 ⟨vs,H1,I1,r1,q1⟩=>hc pins s1 σ H1 vs us Q I1 r1 q1) he hpl
def nU (hc:ij X (.type T) r) (hg:Gl X x) (hm:X.mg x=none) (hv:bootBuiltins x=some (.type T)) (ha:PA X (e::es) t) (hn:x≠"__name__":=by decide) (hdb:(x == ("__debug__":Str))=false:=by decide)
  (he:starEach (e::es) X.env=(false,eval e X.env)::starEach es X.env:=by rfl) (hpl:(backTo pos (starEach es X.env)).any (·.1)=false:=by rfl):PE X (.Call (.Name x p) (e::es) [] pos) (tCB r t):=by
 intro pins s σ H Q I h;refine Xx (je I hg hm hv ?_ hn hdb);exact Yo (thn (ha pos pins s σ H _ I h) λ us s1 ⟨vs,H1,I1,r1,q1⟩=>hc pins s1 σ H1 vs us Q I1 r1 q1) he hpl
end
end L2
namespace HT
open PySem PyProof.Rows
section
variable {prog:Program} {w:World} {A:Around} {E:Value->Shared->Prop} {s:Shared}
def El (ht:IsTup s.heap t vs.toArray) (hb:IsTup s.heap b ws.toArray) (hv:vs≠[])
  (h1:ws=[]->Q (.ref t) s) (h2:ws≠[]->Q (.ref s.heap.objs.size) { s with heap:=s.heap.push { cls:=.type "tuple",data:=.seq (vs++ws).toArray } })
  (hsz:vs.length+ws.length<=sizeLine):wpAny (model prog w) A (binaryOp .Add (.ref t) (.ref b)) Q E s:=by
 obtain ⟨⟨cls,dd,data,sl⟩,ho,hc,n,hd⟩:=id ht;obtain ⟨⟨cls2,dd2,data2,sl2⟩,ho2,hc2,n2,hd2⟩:=id hb;simp only at hc hd hc2 hd2;subst hc hd hc2 hd2;have e:vs.toArray++ws.toArray=(vs++ws).toArray:=by simp
 by_cases hw:ws=[]
 ·exact concat_meets ⟨_,ho,rfl⟩ ⟨_,ho2,rfl⟩ noFill_tuple_add seq_tuple_add PySem.F.slot_tuple_add PySem.F.entry_tuple_add (PySem.F.args_tuple_add_2 _ _)
   (tuple_addW1 t b vs.toArray ws.toArray n n2 dd dd2 sl sl2 (by simpa using hv) (by simp [hw])) ⟨ho,ho2,h1 hw⟩
 ·refine concat_meets ⟨_,ho,rfl⟩ ⟨_,ho2,rfl⟩ noFill_tuple_add seq_tuple_add PySem.F.slot_tuple_add PySem.F.entry_tuple_add (PySem.F.args_tuple_add_2 _ _)
   (tuple_addW2 t b vs.toArray ws.toArray n n2 dd dd2 sl sl2 (by simpa using hv) (by simpa using hw) (by rw [Zp,Zp]; exact hsz)) ⟨ho,ho2,?_⟩
  rw [e];exact h2 hw
def sIx (n d:Nat):Option Int->Nat
 | none=>d
 | some v=>if v < 0 then (v+(n:Int)).toNat else min v.toNat n
def uJ (n d k:Nat):sIx n d (some (k:Int))=min k n:=by
 show (if (k:Int) < 0 then ((k:Int)+(n:Int)).toNat else min (k:Int).toNat n)=min k n;rw [if_neg (by omega),Yr]
def Ff (n d:Nat) (hd:d<=n) (o:Option Int):sIx n d o<=n:=by
 cases o with
 | none=>exact hd
 | some v =>
  show (if v < 0 then (v+(n:Int)).toNat else min v.toNat n)<=n
  by_cases hv:v < 0
  · rw [if_pos hv]; omega
  · rw [if_neg hv]; exact Nat.min_le_right _ _
def xh (v:Int) (n d:Nat):(if v < 0 then max (v+(n:Int)) 0 else min v (n:Int))=((sIx n d (some v):Nat):Int):=by
 show (if v < 0 then max (v+(n:Int)) 0 else min v (n:Int))=(((if v < 0 then (v+(n:Int)).toNat else min v.toNat n):Nat):Int)
 by_cases hv:v < 0
 · simp only [if_pos hv]; omega
 · simp only [if_neg hv]; omega
def tY (lo hi:Option Int) (n:Nat):Builtin.Slice.sliceAdjust lo hi 1 (n:Int)=(((sIx n 0 lo:Nat):Int),((sIx n n hi:Nat):Int)):=by
 have h1:¬ ((1:Int) < 0):=by omega
 unfold Builtin.Slice.sliceAdjust;simp only [h1,Yp];refine Prod.ext ?_ ?_
 ·cases lo with
  | none=>rfl
  | some v=>exact xh v n 0
 ·cases hi with
  | none=>rfl
  | some v=>exact xh v n n
def tf (i j:Nat):Builtin.Slice.slicePlaces (i:Int) (j:Int) 1=j - i:=by
 unfold Builtin.Slice.slicePlaces;have h1:(1:Int) > 0:=by omega
 simp only [h1,if_true,Int.ediv_one];split <;> omega
def md (p:IsPart v o) (h:Q o s):wpAny (model prog w) A (Builtin.Slice.slicePartIndex v) Q E s:=by
 cases p with
 | none=>exact slicePart_none h
 | int i t=>exact slicePart_int h
def j6 {sl:Addr} {vl vu:Value} {lo hi:Option Int} {n:Nat} {Q:Int×Int×Nat->Shared->Prop} (hs:s.heap.IsSliceOf sl vl vu .none) (pl:IsPart vl lo) (pu:IsPart vu hi)
  (h:Q (((sIx n 0 lo:Nat):Int),1,sIx n n hi - sIx n 0 lo) s):wpAny (model prog w) A (Builtin.Slice.sliceApplied (.ref sl) (pure (n:Int))) Q E s:=by
 obtain ⟨os,hos,hcs,hds⟩:=id hs;unfold Builtin.Slice.sliceApplied Builtin.Slice.sliceFields;refine Zi (Zi (wpAny_field hos hds (x:=vl) rfl (Zi (wpAny_field hos hds (x:=vu) rfl (Zi (wpAny_field hos hds (x:=.none) rfl (Z0 ?_)))))));refine Zi (slicePart_none ?_);show wpAny _ _ (if ((1:Int) == 0)=true then _ else _) _ _ s;rw [if_neg (by decide)];refine Zi (md pl (Zi (md pu (Zi (Z0 ?_)))));show wpAny _ _ (match Builtin.Slice.sliceAdjust lo hi 1 (n:Int) with | (lo,hi)=>pure (lo,(1:Int),Builtin.Slice.slicePlaces lo hi 1)) _ _ s;rw [tY lo hi n];show wpAny _ _ (pure (((sIx n 0 lo:Nat):Int),(1:Int),Builtin.Slice.slicePlaces ((sIx n 0 lo:Nat):Int) ((sIx n n hi:Nat):Int) 1)) _ _ s;rw [tf];exact Z0 h
def yG (xs:Array Value) (i k:Nat):((List.range k).filterMap λ (m:Nat)=>xs[((i:Int)+(m:Int) * 1).toNat]?).toArray=((xs.toList.drop i).take k).toArray:=by
 have e:(λ (m:Nat)=>xs[((i:Int)+(m:Int) * 1).toNat]?)=λ m=>xs[i+m]?:=by
  funext m
  have:((i:Int)+(m:Int) * 1).toNat=i+m:=by omega
  rw [this]
 rw [e];have:=pick_run xs i k;rw [List.filterMap_map] at this;have e2:((λ x=>xs[x]?) ∘ λ x=>i+x)=λ m=>xs[i+m]?:=rfl
 rw [e2] at this;rw [this]
def jD {t sl:Addr} {items:Array Value} {vl vu:Value} {lo hi:Option Int} {Q:Value->Shared->Prop} (ht:IsTup s.heap t items) (hs:s.heap.IsSliceOf sl vl vu .none) (pl:IsPart vl lo) (pu:IsPart vu hi)
  (hw:¬ (sIx items.size 0 lo=0/\sIx items.size items.size hi=items.size))
  (h:Q (.ref s.heap.objs.size) { s with heap:=s.heap.push { cls:=.type "tuple",data:=.seq ((items.toList.drop (sIx items.size 0 lo)).take (sIx items.size items.size hi - sIx items.size 0 lo)).toArray } })
  (hsz:items.size<=sizeLine):wpAny (model prog w) A (getItem (.ref t) (.ref sl)) Q E s:=by
 have htake:sizeOk (.seq ((items.toList.drop (sIx items.size 0 lo)).take (sIx items.size items.size hi - sIx items.size 0 lo)).toArray):=by
  show ((items.toList.drop (sIx items.size 0 lo)).take (sIx items.size items.size hi - sIx items.size 0 lo)).toArray.size<=sizeLine;rw [Zp,Xu,Wu,Array.length_toList];omega
 have hj:sIx items.size items.size hi<=items.size:=Ff _ _ (Ze _) hi;obtain ⟨os,hos,hcs,hds⟩:=id hs;have hTs:s.TypeIs (.ref sl) "slice":=⟨os,hos,hcs⟩
 unfold getItem;try with_reducible refine wpAny_holding ?_
 first | refine Zi (Z0 ?_) | skip
 refine Zi (wpAny_sequenceKey ht.typeIs (by decide) ?_)
 refine Zi (wpAny_callSpecial?_slot (name:=Str.ofString "__getitem__") ht.typeIs PyProof.Rows.slot_tuple_getitem
  (wpAny_call_entry PyProof.Rows.slot_tuple_getitem ht.typeIs entry_tuple_getitem ?_ (args_tuple_getitem _ _)))
 show wpAny _ _ (Builtin.Tuple.tupleItemsOf (.ref t) >>= _) _ _ s;refine Zi (tupleItemsOf_ ht ?_);refine Zi (wpAny_typeOf hTs ?_);rw [if_pos (by decide)];refine Zi (j6 hs pl pu ?_)
 have hno:¬ ((((sIx items.size 0 lo:Nat):Int) == 0&&(1:Int) == 1&&(sIx items.size items.size hi - sIx items.size 0 lo) == items.size)=true):=by
  intro q;rw [Yq,Yq] at q;have q1:((sIx items.size 0 lo:Nat):Int)=0:=eq_of_beq q.1.1;have q2:sIx items.size items.size hi - sIx items.size 0 lo=items.size:=eq_of_beq q.2;exact hw ⟨by omega,by omega⟩
 show wpAny _ _ (if (((sIx items.size 0 lo:Nat):Int) == 0&&(1:Int) == 1&&(sIx items.size items.size hi - sIx items.size 0 lo) == items.size)=true then _ else _) _ _ s;rw [if_neg hno,yG]
 first
  | exact Zi (m:=Builtin.Tuple.tupleExact _) (Xk (Z0 ⟨_,rfl,Z0 h⟩) htake)
  | exact Zi (m:=Builtin.Tuple.tupleExact _) (Xk (Zi (Z0 (Z0 ⟨_,rfl,Z0 h⟩))) htake)
  | exact Zi (Zi (m:=Builtin.Tuple.tupleExact _) (Xk (Z0 (Z0 ⟨_,rfl,Z0 h⟩)) htake))
  | exact Zi (Zi (m:=Builtin.Tuple.tupleExact _) (Xk (Z0 ⟨_,rfl,Z0 h⟩) htake))
end
end HT
namespace L2
open PySem PySem.Spec PyProof.Rows
abbrev TO:=St->Hp->(Option Int->Hp->Prop)->Prop
def PO (X:Cx) (e:Option Expr) (t:TO):Prop :=
  ∀ (pins:List (Addr×Obj)) (s:Shared) (σ:St) (H:Hp) (Q:Option Int->Hp->Prop),Inv X pins σ H s->t σ H Q ->
    wpAny (model X.prog X.w) X.A (evalPart e X.env) (λ u s'=>∃ o H',Inv X pins σ H' s'/\IsPart u o/\Q o H') X.xe s
def BI:TO:=λ _ H Q=>Q none H
def JS (t:TE):TO:=λ σ H Q=>t σ H λ x H1=>∃ i,x=.int i/\Q (some i) H1
section
variable {X:Cx} {e:Expr} {te:TE} {lo hi:Option Expr} {tl th:TO} {pos p2:Pos}
def Cr:PO X none BI:=by
 intro pins s σ H Q I h;rw [evalPart_none];exact Z0 ⟨none,H,I,.none,h⟩
def Cq (h:PE X e te):PO X (some e) (JS te):=by
 intro pins s σ H Q I hw;rw [evalPart_some];refine thn (h pins s σ H _ I hw) λ u s1 ⟨x,H1,I1,r1,q1⟩=>?_
 obtain ⟨i,rfl,q⟩:=q1;obtain ⟨t,rfl⟩:=r1;exact ⟨some i,H1,I1,.int i t,q⟩
def SlR (X:Cx) (r:V->Option Int->Option Int->Hp->VK->Prop):Prop :=
  ∀ (pins:List (Addr×Obj)) (s:Shared) (σ:St) (H:Hp) (x:V) (v vl vu:Value) (lo hi:Option Int) (sl:Addr) (Q:VK),Inv X pins σ H s->RelV x v->s.heap.IsSliceOf sl vl vu .none->IsPart vl lo->IsPart vu hi->r x lo hi H Q ->
    ∃ T id,typeLookup (.type T) "__getitem__"=pure (some (.builtin id))/\s.TypeIs v T/\wpAny (model X.prog X.w) X.A (getItem v (.ref sl)) (EP X pins σ Q) X.xe s
def tSl (r:V->Option Int->Option Int->Hp->VK->Prop) (te:TE) (tl th:TO):TE:=λ σ H Q=>te σ H λ x H1=>tl σ H1 λ l H2=>th σ H2 λ u H3=>r x l u H3 Q
def rB (hr:SlR X r) (he:PE X e te) (hl:PO X lo tl) (hu:PO X hi th):PE X (.Subscript e (.Slice lo hi none p2) pos) (tSl r te tl th):=by
 intro pins s σ H Q I h;refine Subscript_ (thn (he pins s σ H _ I h) λ v s1 ⟨x,H1,I1,r1,q1⟩=>?_);refine wpAny_Slice (thn (hl pins s1 σ H1 _ I1 q1) λ vl s2 ⟨l,H2,I2,pl,q2⟩=>thn (hu pins s2 σ H2 _ I2 q2) λ vu s3 ⟨u,H3,I3,pu,q3⟩=>?_);rw [evalPart_none];refine Z0 ?_
 have I4:Inv X pins σ H3 { s3 with heap:=s3.heap.push { cls:=.type "slice",data:=.fields #[vl,vu,.none] } }:=I3.kept (t':=s3.toks) λ b ob q=>Heap.get?_push_of_some _ q
 obtain ⟨T,id,hT,ht,hg⟩:=hr pins { s3 with heap:=s3.heap.push { cls:=.type "slice",data:=.fields #[vl,vu,.none] } } σ H3 x v vl vu l u s3.heap.objs.size Q I4 r1 (Heap.IsSliceOf.new ..) pl pu q3;show wpAny (model X.prog X.w) X.A (subscriptTail e (.Slice lo hi none p2) v (.ref s3.heap.objs.size)) (EP X pins σ Q) X.xe { s3 with heap:=s3.heap.push { cls:=.type "slice",data:=.fields #[vl,vu,.none] } };exact tail_any (ops:=[.ref s3.heap.objs.size,v]) ht hT hg (by with_unfolding_all rfl)
def zY (xs:List V) (lo hi:Option Int):List V:=(xs.drop (HT.sIx xs.length 0 lo)).take (HT.sIx xs.length xs.length hi - HT.sIx xs.length 0 lo)
def ls (xs:List V) (lo hi:Option Int):(zY xs lo hi).length<=xs.length:=by
 unfold zY;rw [Xu,Wu];omega
def Nr (K:W.Frag):V->Option Int->Option Int->Hp->VK->Prop:=λ x lo hi H Q=>∃ a xs,x=.ref a/\SqT K H a xs /\
 ¬ (HT.sIx xs.length 0 lo=0/\HT.sIx xs.length xs.length hi=xs.length)/\∀ p,H p=none->Q (.ref p) (upd H p (.tup (zY xs lo hi)))
def E7:SlR X (Nr X.K):=by
 intro pins s σ H x v vl vu lo hi sl Q I rx hs pl pu h;obtain ⟨a,xs,rfl,hx,hw,q⟩:=h;cases rx;obtain ⟨its,r,ht,hz⟩:=I.tuple hx;have hlen:its.toArray.size=xs.length:=by rw [Zp]; exact r.length.symm
 refine ⟨"tuple",_,PyProof.Rows.slot_tuple_getitem.lookup,ht.typeIs,?_⟩;refine HT.jD ht hs pl pu (by rw [hlen]; exact hw) ?_ (by rw [hlen]; exact hz)
 rw [hlen];refine ⟨.ref s.heap.objs.size,_,I.laid (t':=s.toks) (o:=.tup (zY xs lo hi)) (λ b ob q=>Heap.get?_push_of_some _ q) (Ze _) ?_,rfl,q _ (I.hok.fresh (Ze _))⟩;exact ⟨Zc (ls xs lo hi) hz,_,(r.drop (HT.sIx xs.length 0 lo)).take (HT.sIx xs.length xs.length hi - HT.sIx xs.length 0 lo),IsTup.new _ _⟩
def Ka (K:W.Frag):R2:=λ x y H Q=>∃ a b xs ys,x=.ref a/\y=.ref b/\SqT K H a xs/\SqT K H b ys/\xs≠[]/\xs.length+ys.length<=sizeLine /\
 (ys=[]->Q (.ref a) H)/\(ys≠[]->∀ p,H p=none->Q (.ref p) (upd H p (.tup (xs++ys))))
def cK.p7 (r:cK xs us):us=[]↔xs=[]:=by
 cases r with
 | nil=>simp
 | cons _ _=>simp
def C2:OpR X (binaryOp .Add) (Ka X.K):=by
 intro pins s σ H x y v u Q I rx ry h;obtain ⟨a,b,xs,ys,rfl,rfl,ha,hb,hx,hz,q1,q2⟩:=h;cases rx;cases ry;obtain ⟨its,r1,p1,_⟩:=I.tuple ha;obtain ⟨its2,r2,p2,_⟩:=I.tuple hb;refine HT.El p1 p2 (λ z=>hx (r1.p7.mp z)) (λ z=>⟨.ref a,H,I,rfl,q1 (r2.p7.mp z)⟩) (λ z=>?_) (by rw [<- r1.length,<- r2.length]; exact hz);refine ⟨.ref s.heap.objs.size,_,I.laid (t':=s.toks) (o:=.tup (xs++ys)) (λ b ob q=>Heap.get?_push_of_some _ q) (Ze _) ?_,rfl,q2 (λ w=>z (r2.p7.mpr w)) _ (I.hok.fresh (Ze _))⟩;exact ⟨by rw [Zu]; exact hz,_,r1.append r2,IsTup.new _ _⟩
end
end L2
namespace L2
open PySem PySem.Spec PyProof.Rows
def ixN (n:Nat) (i:Int):Option Nat:=if 0<=i then (if i < n then some i.toNat else none) else if -(n:Int)<=i then some (i+n).toNat else none
def atI {α:Type} (xs:List α) (i:Int):Option α:=(ixN xs.length i).bind λ j=>xs[j]?
def vT (h:ixN n i=some j):seqIndex? i n=some j/\j < n/\-(n:Int)<=i/\i < n:=by
 unfold ixN at h
 by_cases h0:0<=i
 ·rw [if_pos h0] at h
  by_cases h1:i < n
  ·rw [if_pos h1] at h
   have e:i.toNat=j:=Zj h;exact ⟨by rw [seqIndex_of h0 h1,e],by omega,by omega,h1⟩
  · rw [if_neg h1] at h; cases h
 ·rw [if_neg h0] at h
  by_cases h1:-(n:Int)<=i
  ·rw [if_pos h1] at h
   have e:(i+n).toNat=j:=Zj h;exact ⟨by rw [seqIndex_neg (by omega) h1,e],by omega,h1,by omega⟩
  · rw [if_neg h1] at h; cases h
def qP {α:Type} {xs:List α} {v:α} (h:atI xs i=some v):∃ j,seqIndex? i xs.length=some j/\xs[j]?=some v/\j < xs.length/\-(xs.length:Int)<=i/\i < xs.length:=by
 unfold atI at h
 cases e:ixN xs.length i with
 | none=>rw [e] at h; cases h
 | some j =>
  rw [e] at h;obtain ⟨h1,h2,h3,h4⟩:=vT e;exact ⟨j,h1,h,h2,h3,h4⟩
def fS {α:Type} {xs:List α} {j:Nat} {v:α} (h:xs[j]?=some v):atI xs (j:Int)=some v:=by
 have hj:j < xs.length:=(List.getElem?_eq_some_iff.mp h).1
 have e:ixN xs.length (j:Int)=some j:=by
  unfold ixN;rw [if_pos (by omega),if_pos (by omega)]; simp
 unfold atI; rw [e]; exact h
def qR (b:Expr):Prop:=∀ o i,subscripted b false o i=operate [o,i] (getItem o i)
def IxR (X:Cx) (r:R2):Prop :=
  ∀ (value slice:Expr) (pins:List (Addr×Obj)) (s:Shared) (σ:St) (H:Hp) (x y:V) (v u:Value) (Q:VK),Inv X pins σ H s->RelV x v->RelV y u->r x y H Q ->
    subscripted slice false v u=operate [v,u] (getItem v u)->wpAny (model X.prog X.w) X.A (subscriptTail value slice v u) (EP X pins σ Q) X.xe s
def MtR (X:Cx) (id:String) (r:V->List V->Hp->VK->Prop):Prop :=
  ∀ (pins:List (Addr×Obj)) (s:Shared) (σ:St) (H:Hp) (x:V) (xs:List V) (v:Value) (us:List Value) (Q:VK),Inv X pins σ H s->RelV x v->cK xs us->r x xs H Q ->
    wpAny (model X.prog X.w) X.A (call (.builtin id) (v::us)) (EP X pins σ Q) X.xe s
section
variable {X:Cx} {a b:Expr} {ta tb:TE} {pos:Pos}
def IxR.or (h:IxR X r) (h':IxR X r'):IxR X (λ x y H Q=>r x y H Q\/r' x y H Q):=by
 intro value slice pins s σ H x y v u Q I rx ry q hs;rcases q with q | q
 · exact h value slice pins s σ H x y v u Q I rx ry q hs
 · exact h' value slice pins s σ H x y v u Q I rx ry q hs
def Kh (hr:IxR X r) (ha:PE X a ta) (hb:PE X b tb) (hs:qR b):PE X (.Subscript a b pos) (tOp r ta tb):=by
 intro pins s σ H Q I h;exact Subscript_ (Mo ha hb I h λ v u s2 x y H2 I2 rx ry q=>hr a b pins s2 σ H2 x y v u Q I2 rx ry q (hs _ _))
def Nx (K:W.Frag):R2:=λ x y H Q=>∃ p xs i v,x=.ref p/\y=.int i/\SqL K H p xs/\atI xs i=some v/\Q v H
def Nv (K:W.Frag):R2:=λ x y H Q=>∃ p xs i v,x=.ref p/\y=.int i/\SqT K H p xs/\atI xs i=some v/\Q v H
def Nw:R2:=λ x y H Q=>∃ z i c,x=.str z/\y=.int i/\z.length<=sizeLine/\atI z.cps.toList i=some c/\Q (.str ⟨#[c]⟩) H
def Dy:IxR X (Nx X.K):=by
 intro value slice pins s σ H x y v u Q I rx ry h hs;obtain ⟨p,xs,i,z,rfl,rfl,hq,he,q⟩:=h;cases rx;obtain ⟨t,rfl⟩:=ry;obtain ⟨its,r,pl,hz⟩:=I.list hq;obtain ⟨j,h1,h2,h3,h4,h5⟩:=qP he;obtain ⟨w,ew,rw'⟩:=r.get h2;have hl:=r.length;have hn:=om;have fin:EP X pins σ Q w s:=⟨z,H,I,rw',q⟩
 by_cases h0:0<=i
 ·have hj:i.toNat=j:=by
   rw [seqIndex_of h0 h5] at h1;exact Zj h1
  exact item_listR pl.isList h0 (by omega) (by rw [hj]; simpa using ew) fin hs
 ·have hj:(i+(its.toArray.size:Int)).toNat=j:=by
   rw [seqIndex_neg (by omega) h4] at h1;rw [Zp,<- hl];exact Zj h1
  exact subscriptTail_builtinR (x:=w) pl.isList.typeIs slot_list_getitem.lookup
   (wpAny_getItem_list_neg (Q:=λ r s'=>r=w/\EP X pins σ Q r s') pl.isList (by omega) (by rw [Zp] <;> omega) (by omega) (by rw [hj]; simpa using ew) ⟨rfl,fin⟩) hs
def Hh:IxR X (Nv X.K):=by
 intro value slice pins s σ H x y v u Q I rx ry h hs;obtain ⟨p,xs,i,z,rfl,rfl,hq,he,q⟩:=h;cases rx;obtain ⟨t,rfl⟩:=ry;obtain ⟨its,r,pl,hz⟩:=I.tuple hq;obtain ⟨j,h1,h2,h3,h4,h5⟩:=qP he;obtain ⟨w,ew,rw'⟩:=r.get h2;have hl:=r.length;have hn:=om;have fin:EP X pins σ Q w s:=⟨z,H,I,rw',q⟩
 exact subscriptTail_builtinR (x:=w) pl.typeIs slot_tuple_getitem.lookup
  (getItem_tuple (j:=j) (Q:=λ r s'=>r=w/\EP X pins σ Q r s') pl (by omega) (by omega) (by rw [Zp,<- hl]; exact h1) (by simpa using ew) ⟨rfl,fin⟩) hs
def Hi:IxR X Nw:=by
 intro value slice pins s σ H x y v u Q I rx ry h hs;obtain ⟨z,i,c,rfl,rfl,hz,he,q⟩:=h;obtain ⟨t,rfl⟩:=rx;obtain ⟨t',rfl⟩:=ry;obtain ⟨j,h1,h2,h3,h4,h5⟩:=qP he;have hl:z.cps.toList.length=z.length:=by simp [Str.length]
 rw [hl] at h1 h4 h5;have hn:=om
 exact tail_any (typeIs_str s z t) slot_str_getitem.lookup (getItem_str (c:=c) (by
  have e1:decide (i < -(2 ^ 63:Int))=false:=Za (by omega);have e2:decide (i ≥ 2 ^ 63)=false:=Za (by omega)
  rw [e1,e2,Bool.or_false]) (by rw [h1]; simpa using h2) ⟨.str ⟨#[c]⟩,H,I.tok _,⟨_,rfl⟩,q⟩) hs
def tD (its:List Value) (n j:Nat) (u:Value):Obj.mapSeq (·.setIfInBounds j u) { cls:=.type "list",data:=.seq its.toArray n }={ cls:=.type "list",data:=.seq (its.set j u).toArray n }:=by
 simp [Obj.mapSeq]
def Inv.lst (I:Inv X pins σ H s) (h:H p=some (.lst xs)) :
  ∃ (its:List Value) (n:Nat),cK xs its/\s.heap.get? p=some { cls:=.type "list",data:=.seq its.toArray n }/\xs.length<=sizeLine:=by
 obtain ⟨z,its,n,r,e⟩:=I.hok p _ h;exact ⟨its,n,r,e,z⟩
def Inv.G2 {pins:List (Addr×Obj)} {σ:St} {H:Hp} {s:Shared} {p:Addr} {xs ys:List V} {its its':List Value} {n n':Nat} {f:Obj->Obj} (I:Inv X pins σ H s) (h:H p=some (.lst xs))
  (ho:s.heap.get? p=some { cls:=.type "list",data:=.seq its.toArray n }) (hf:f { cls:=.type "list",data:=.seq its.toArray n }={ cls:=.type "list",data:=.seq its'.toArray n' }) (r:cK ys its') (hz:ys.length<=sizeLine) (t:Nat) :
  Inv X pins σ (upd H p (.lst ys)) { s with heap:=s.heap.update p f,toks:=t }:=by
 have e:(s.heap.update p f).get? p=some { cls:=.type "list",data:=.seq its'.toArray n' }:=by
  rw [Heap.get?_update_self f ho (by rw [hf] <;> rfl),hf]
 refine I.write (x:=p) (e:=p) (by rw [h]; trivial) (.inl rfl) (λ b u hb q=>(Heap.get?_update_other _ _ (Ne.symm hb)).trans q) ⟨_,e⟩ ?_
 exact ⟨hz,its',n',r,e⟩
def J8:V->V->V->Hp->(Hp->Prop)->Prop:=λ o i v H Q=>∃ p xs k j,o=.ref p/\i=.int k/\H p=some (.lst xs)/\ixN xs.length k=some j/\Q (upd H p (.lst (xs.set j v)))
def set_list:M0 X J8:=by
 intro pins s σ H o i v ov iv u Q I ro ri rv h;obtain ⟨p,xs,k,j,rfl,rfl,hp,hj,q⟩:=h;cases ro;obtain ⟨t,rfl⟩:=ri;obtain ⟨its,n,r,ho,hz⟩:=I.lst hp;obtain ⟨h1,h2,h3,h4⟩:=vT hj;have hl:=r.length;have hn:=om
 have I':Inv X pins σ (upd H p (.lst (xs.set j v))) { s with heap:=s.heap.update p (Obj.mapSeq (·.setIfInBounds j u)) } :=
  I.G2 hp ho (tD its n j u) (r.set rv j) (by rw [X3]; exact hz) s.toks
 by_cases h0:0<=k
 ·have hk:k.toNat=j:=by
   rw [seqIndex_of h0 h4] at h1;exact Zj h1
  exact PySem.W.ki_setAt ho h0 (by omega) (by rw [Zp,<- hl]; exact h4) (by rw [hk]; exact ⟨_,I',q⟩)
 ·have hk:(k+(its.toArray.size:Int)).toNat=j:=by
   rw [seqIndex_neg (by omega) h3] at h1;rw [Zp,<- hl];exact Zj h1
  exact PySem.W.ki_setBack ho (by omega) (by rw [Zp,<- hl]; exact h3) (by omega) (by rw [hk]; exact ⟨_,I',q⟩)
def nP (lo hi:Option Int) (n:Nat):(sliceBounds lo hi none n).1=((HT.sIx n 0 lo:Nat):Int)/\(sliceBounds lo hi none n).2.1=((HT.sIx n n hi:Nat):Int)/\(sliceBounds lo hi none n).2.2=1:=by
 refine ⟨?_,?_,rfl⟩
 ·cases lo with
  | none=>simp [sliceBounds,HT.sIx]
  | some i =>
   simp only [sliceBounds,HT.sIx,Option.getD_none,show (1:Int) > 0 by decide,if_true]
   by_cases h:i < 0
   · simp only [h,if_true] <;> omega
   · simp only [h,Yp] <;> omega
 ·cases hi with
  | none=>simp [sliceBounds,HT.sIx]
  | some i =>
   simp only [sliceBounds,HT.sIx,Option.getD_none,show (1:Int) > 0 by decide,if_true]
   by_cases h:i < 0
   · simp only [h,if_true] <;> omega
   · simp only [h,Yp] <;> omega
def mG (its:List Value) (lo hi:Option Int):slicePick its.toArray lo hi none=((its.drop (HT.sIx its.length 0 lo)).take (HT.sIx its.length its.length hi - HT.sIx its.length 0 lo)).toArray:=by
 obtain ⟨h1,h2,h3⟩:=nP lo hi its.toArray.size;unfold slicePick;rw [h1,h2,h3];simp only [sliceRange_one,pick_run,Zp] <;> rfl
def Nt (K:W.Frag):V->Option Int->Option Int->Hp->VK->Prop:=λ x lo hi H Q=>∃ a xs,x=.ref a/\SqL K H a xs/\∀ p,H p=none->Q (.ref p) (upd H p (.lst (zY xs lo hi)))
def BS:SlR X (Nt X.K):=by
 intro pins s σ H x v vl vu lo hi sl Q I rx hs pl pu h;obtain ⟨a,xs,rfl,hx,q⟩:=h;cases rx;obtain ⟨its,r,ht,hz⟩:=I.list hx;have hlen:=r.length;refine ⟨"list",_,slot_list_getitem.lookup,ht.isList.typeIs,?_⟩;refine wpAny_getItem_list_slice ht.isList hs pl pu .none (by simp) ?_ (by rw [Zp] <;> omega)
 rw [mG,<- hlen];refine ⟨.ref s.heap.objs.size,_,I.laid (t':=s.toks) (o:=.lst (zY xs lo hi)) (λ b ob q=>Heap.get?_push_of_some _ q) (Ze _) ?_,rfl,q _ (I.hok.fresh (Ze _))⟩;exact ⟨Zc (ls xs lo hi) hz,_,0,(r.drop (HT.sIx xs.length 0 lo)).take (HT.sIx xs.length xs.length hi - HT.sIx xs.length 0 lo),Heap.get?_push_size _ rfl⟩
def l7:V->Bool
 | .non=>true
 | .bl _=>true
 | .int _=>true
 | .str _=>true
 | _=>false
def eqV:V->V->Bool
 | .non,.non=>true
 | .bl a,.bl b=>a == b
 | .bl a,.int b=>(if a then 1 else 0) == b
 | .int a,.bl b=>a == (if b then 1 else 0)
 | .int a,.int b=>a == b
 | .str a,.str b=>a == b
 | _,_=>false
def HF (ry:RelV y u) (rx:RelV x v) (fy:l7 y=true) (fx:l7 x=true):SeqAt.EqAt A s u v (eqV y x):=by
 cases y with
 | non =>
  cases ry
  cases x with
  | non=>cases rx; exact SeqAt.EqAt.same _
  | bl b=>cases rx; exact SeqAt.EqAt.none_bool b
  | int b=>obtain ⟨t,rfl⟩:=rx; exact SeqAt.EqAt.none_int b t
  | str b=>obtain ⟨t,rfl⟩:=rx; exact SeqAt.EqAt.none_str b t
  | _=>exact absurd (show false=true from fx) Zf
 | bl a =>
  cases ry
  cases x with
  | non=>cases rx; exact SeqAt.EqAt.bool_none a
  | bl b=>cases rx; exact SeqAt.EqAt.bool_bool a b
  | int b=>obtain ⟨t,rfl⟩:=rx; exact SeqAt.EqAt.bool_int a b t
  | str b=>obtain ⟨t,rfl⟩:=rx; exact SeqAt.EqAt.bool_str a b t
  | _=>exact absurd (show false=true from fx) Zf
 | int a =>
  obtain ⟨t',rfl⟩:=ry
  cases x with
  | non=>cases rx; exact SeqAt.EqAt.int_none a t'
  | bl b=>cases rx; exact SeqAt.EqAt.int_bool a t' b
  | int b=>obtain ⟨t,rfl⟩:=rx; exact SeqAt.EqAt.int_int a t' b t
  | str b=>obtain ⟨t,rfl⟩:=rx; exact SeqAt.EqAt.int_str a t' b t
  | _=>exact absurd (show false=true from fx) Zf
 | str a =>
  obtain ⟨t',rfl⟩:=ry
  cases x with
  | non=>cases rx; exact SeqAt.EqAt.str_none a t'
  | bl b=>cases rx; exact SeqAt.EqAt.str_bool a t' b
  | int b=>obtain ⟨t,rfl⟩:=rx; exact SeqAt.EqAt.str_int a t' b t
  | str b=>obtain ⟨t,rfl⟩:=rx; exact SeqAt.EqAt.str_str a t' b t
  | _=>exact absurd (show false=true from fx) Zf
 | _=>exact absurd (show false=true from fy) Zf
def eqU (x:V) (u:Value):Bool:=match u with
 | .none=>eqV .non x
 | .bool b=>eqV (.bl b) x
 | .int i _=>eqV (.int i) x
 | .str z _=>eqV (.str z) x
 | _=>false
def Bc (r:RelV y u) (f:l7 y=true):eqU x u=eqV y x:=by
 cases y with
 | non=>cases r; rfl
 | bl b=>cases r; rfl
 | int i=>obtain ⟨t,rfl⟩:=r; rfl
 | str z=>obtain ⟨t,rfl⟩:=r; rfl
 | _=>exact absurd (show false=true from f) Zf
def qQ:∀ {xs:List V} {us:List Value},cK xs us->xs.all l7=true->us.any (eqU x)=xs.any λ y=>eqV y x
 | _,_,.nil,_=>rfl
 | y::xs,u::us,.cons r t,f=>by
  rw [List.all_cons,Yq] at f;rw [Wj,Wj,Bc r f.1,qQ t f.2]
def mR (rx:RelV x v) (fx:l7 x=true):∀ {xs:List V} {us:List Value},cK xs us->xs.all l7=true->∀ u ∈ us,SeqAt.EqAt A s u v (eqU x u)
 | _,_,.nil,_=>λ u hu=>by cases hu
 | y::xs,u::us,.cons r t,f=>λ u' hu=>by
  rw [List.all_cons,Yq] at f;rcases Zl.mp hu with rfl | hu
  · rw [Bc r f.1]; exact HF r rx f.1 fx
  · exact mR rx fx t f.2 u' hu
def inV (x:V) (xs:List V):Bool:=xs.any λ y=>eqV y x
def rIn (K:W.Frag) (neg:Bool):R2:=λ x y H Q=>∃ p xs,y=.ref p/\(SqL K H p xs\/SqT K H p xs)/\l7 x=true/\xs.all l7=true/\Q (.bl (if neg then !inV x xs else inV x xs)) H
def nV:OpR X (compareOp .NotIn) (rIn X.K true):=by
 intro pins s σ H x y v u Q I rx ry h;obtain ⟨p,xs,rfl,hq,fx,fs,q⟩:=h;cases ry;rcases hq with hq | hq
 ·obtain ⟨its,r,pl,hz⟩:=I.list hq
  refine SeqAt.notIn_listAt (eqU x) pl.isList (λ w hw=>mR rx fx r fs w (by simpa using hw)) ⟨.bl _,H,I,rfl,?_⟩;rw [show its.toArray.any (eqU x)=its.any (eqU x) by simp,qQ r fs];exact q
 ·obtain ⟨its,r,pl,hz⟩:=I.tuple hq
  refine SeqAt.notIn_tupleAt (eqU x) pl (λ w hw=>mR rx fx r fs w (by simpa using hw)) ⟨.bl _,H,I,rfl,?_⟩;rw [show its.toArray.any (eqU x)=its.any (eqU x) by simp,qQ r fs];exact q
def oY:ij X (.type "list") (λ xs H Q=>∃ p ys,xs=[.ref p]/\(SqL X.K H p ys\/SqT X.K H p ys)/\∀ l,H l=none->Q (.ref l) (upd H l (.lst ys))):=by
 intro pins s σ H xs us Q I r h;obtain ⟨p,ys,rfl,hq,q⟩:=h;obtain ⟨u,rfl,rx⟩:=vals1 r;cases rx
 have fin:∀ (its:List Value),cK ys its->ys.length<=sizeLine->∀ (h':Heap) (c':Nat),(∀ b o',s.heap.get? b=some o'->h'.get? b=some o') ->
   h'.get? s.heap.objs.size=some { cls:=.type "list",dict:=none,data:=.seq its.toArray c',slots:=#[] }->EP X pins σ Q (.ref s.heap.objs.size) { s with heap:=h' }:=λ its r' hz h' c' kp e =>
  ⟨.ref s.heap.objs.size,_,I.laid (t':=s.toks) kp (Ze _) (show dZ X.prog X.w _ h' _ (.lst ys) from ⟨hz,its,c',r',e⟩),rfl,q _ (I.hok.fresh (Ze _))⟩
 rcases hq with hq | hq
 ·obtain ⟨its,r',pl,hz⟩:=I.list hq
  have hlen:=r'.length;obtain ⟨o,ho,hc,n,hd⟩:=pl.isList;exact call_list_seq p (.inl rfl) ho hc hd (λ h' c' kp e=>fin its r' hz h' c' kp e) (by simp only [Zp] <;> omega)
 ·obtain ⟨its,r',pl,hz⟩:=I.tuple hq
  have hlen:=r'.length;obtain ⟨o,ho,hc,n,hd⟩:=pl;exact call_list_seq p (.inr rfl) ho hc hd (λ h' c' kp e=>fin its r' hz h' c' kp e) (by simp only [Zp] <;> omega)
def tyV (K:W.Frag) (T:String) (x:V) (H:Hp):Prop:=match x with
 | .str _=>T="str"
 | .int _=>T="int"
 | .ref p=>(T="list"/\∃ xs,SqL K H p xs)\/(T="tuple"/\∃ o,K.lookup p=some o/\o.cls=.type "tuple"/\o.dict=none) \/
  (T="dict"/\((∃ kvs,H p=some (.dK kvs))\/∃ kvs,H p=some (.dT kvs)))\/(T="set"/\∃ S n,H p=some (.set S n))
 | _=>False
def EW (I:Inv X pins σ H s) (r:RelV x v) (ty:tyV X.K T x H) :
  s.TypeIs v T/\∀ a,v=.ref a->∃ ob,s.heap.get? a=some ob/\ob.dict=none:=by
 cases x with
 | str z =>
  obtain ⟨t,rfl⟩:=r;cases (show T="str" from ty);exact ⟨typeIs_str s z t,λ _ e=>nomatch e⟩
 | int i =>
  obtain ⟨t,rfl⟩:=r;cases (show T="int" from ty);exact ⟨typeIs_int s i t,λ _ e=>nomatch e⟩
 | ref p =>
  cases r;rcases ty with ⟨rfl,xs,hq⟩ | ⟨rfl,o,hk,hc,hd⟩ | ⟨rfl,hk⟩ | ⟨rfl,S,n,hk⟩
  ·obtain ⟨its,_,pl,_⟩:=I.list hq
   refine ⟨pl.isList.typeIs,λ a e=>?_⟩;cases e;obtain ⟨o,n,e,c,hd,_⟩:=pl;exact ⟨o,e,hd⟩
  ·refine ⟨⟨o,I.kIn p o hk,hc⟩,λ a e=>?_⟩
   cases e;exact ⟨o,I.kIn _ o hk,hd⟩
  ·have z:∃ o,s.heap.get? p=some o/\o.ExactDict:=by
    rcases hk with ⟨kvs,hk⟩ | ⟨kvs,hk⟩
    ·obtain ⟨_,_,_,_,o,_,_,e,ex,_⟩:=I.hok p _ hk
     exact ⟨o,e,ex⟩
    ·obtain ⟨_,_,_,_,o,_,_,e,ex,_⟩:=I.hok p _ hk
     exact ⟨o,e,ex⟩
   obtain ⟨o,e,ex⟩:=z;refine ⟨⟨o,e,ex.1⟩,λ a e2=>?_⟩;cases e2;exact ⟨o,e,ex.2.1⟩
  ·obtain ⟨o,_,_,_,e,ex,_⟩:=I.hok p _ hk
   refine ⟨⟨o,e,ex.1⟩,λ a e2=>?_⟩;cases e2;exact ⟨o,e,ex.2.1⟩
 | _=>exact False.elim ty
def tBM (K:W.Frag) (T:String) (r:V->List V->Hp->VK->Prop) (to:TE) (t:TA):TE:=λ σ H Q=>to σ H λ x H1=>tyV K T x H1/\t σ H1 λ xs H2=>r x xs H2 Q
variable {o e:Expr} {es:List Expr} {to:TE} {t:TA} {name:Str} {apos cpos:Pos} {T id:String} {r:V->List V->Hp->VK->Prop}
def FN (pa:PlainAttrs T) (slot:Slot T name id) (hty:typeOf (.builtin id)=pure (.type "method_descriptor")) (hm:MtR X id r) (ho:PE X o to) (ha:PA X (e::es) t)
  (hbase:attributeBase o name X.env (eval o X.env)=eval o X.env:=by rfl)
  (hfew:((backTo cpos (starEach (e::es) X.env)).all (λ x=>!x.1)&&(backToKw cpos (keywordEach [] X.env)).all (λ x=>x.1.isSome)
    && decide ((e::es).length+([]:List Keyword).length+(if ([]:List Keyword).isEmpty then 0 else 1) < 30))=true:=by rfl)
  (hline:(apos.endLine == cpos.line)=true:=by rfl) (hs:starEach (e::es) X.env=(false,eval e X.env)::starEach es X.env:=by rfl) (hplain:(backTo cpos (starEach es X.env)).any (·.1)=false:=by rfl) :
  PE X (.Call (.Attribute o name apos) (e::es) [] cpos) (tBM X.K T r to t):=by
 intro pins s σ H Q I h;refine wpAny_Call_method_late hbase hfew hline rfl (thn (ho pins s σ H _ I h) λ v s1 ⟨x,H1,I1,r1,ty,q1⟩=>?_);obtain ⟨h1,h2⟩:=EW I1 r1 ty;refine ⟨T,id,pa,slot,hty,h1,h2,?_⟩;have hA:=ha cpos pins s1 σ H1 _ I1 q1;rw [hs] at hA ⊢;refine Calls.callWith_builtin (by show (false||(backTo cpos (starEach es X.env)).any (·.1))=false; rw [hplain] <;> rfl) (Calls.evalArgs_plain ?_);exact thn hA λ us s2 ⟨vs,H2,I2,r2,q2⟩=>hm pins s2 σ H2 x vs v us Q I2 r1 r2 q2
/- xs.append(e),list.index on a module's tuple .. are MtR facts of 06m -/
end
end L2
namespace L2
open PySem PySem.Spec PyProof.Rows
def MtM (X:Cx) (id:String) (r:V->List V->Hp->VK->Prop):Prop :=
  ∀ (pins:List (Addr×Obj)) (s:Shared) (σ:St) (H:Hp) (x:V) (xs:List V) (v:Value) (us:List Value) (Q:VK),Inv X pins σ H s->RelV x v->cK xs us->r x xs H Q ->
    wpAny (model X.prog X.w) X.A (call (.builtin id) (v::us)) (EP X pins σ Q) X.xe s
def cK.one:∀ {x:V} {us:List Value},cK [x] us->∃ u,us=[u]/\RelV x u
 | _,_,.cons r .nil=>⟨_,rfl,r⟩
section
variable {X:Cx} {pins:List (Addr×Obj)} {σ:St} {H:Hp} {s:Shared} {l b:Addr} {xs ys zs:List V}
def Inv.MO {its its':List Value} {n:Nat} {f:Array Value->Array Value} {t':Nat} (I:Inv X pins σ H s) (hH:H l=some (.lst xs))
  (e:s.heap.get? l=some { cls:=.type "list",data:=.seq its.toArray n }) (hf:f its.toArray=its'.toArray) (hv:cK ys its') (hz:ys.length<=sizeLine) :
  Inv X pins σ (upd H l (.lst ys)) { s with heap:=s.heap.update l (Obj.mapSeq f),toks:=t' }:=by
 have q:=PySem.IsL.update e f;rw [hf] at q;refine I.write (x:=l) (e:=l) (by rw [hH]; exact trivial) (.inl rfl) (λ b' u hb hu=>(Heap.get?_update_other s.heap (Obj.mapSeq f) (Ne.symm hb)).trans hu) ⟨_,q⟩ ?_
 exact ⟨hz,its',_,hv,q⟩
def Inv.Oi (I:Inv X pins σ H s) (hv:cK ys its) (hz:ys.length<=sizeLine) :
  Inv X pins σ (upd H s.heap.objs.size (.lst ys)) { s with heap:=s.heap.push { cls:=.type "list",data:=.seq its.toArray },toks:=t' } :=
 I.laid (λ _ _ q=>Heap.get?_push_of_some _ q) (Ze _) ⟨hz,its,0,hv,Heap.get?_push_size _ rfl⟩
def Inv.fresh (I:Inv X pins σ H s):H s.heap.objs.size=none:=I.hok.fresh (Ze _)
def Inv.G3 (I:Inv X pins σ H s) (hH:H l=some (.lst xs)):xs.length<=sizeLine/\∃ (its:List Value) (n:Nat),cK xs its/\xs.length=its.length/\s.heap.get? l=some { cls:=.type "list",data:=.seq its.toArray n }:=by
 obtain ⟨z,its,n,r,e⟩:=I.hok l _ hH;exact ⟨z,its,n,r,r.length,e⟩
def yT (h:n<=sizeLine):Builtin.List.listTooLong n=false:=by
 unfold Builtin.List.listTooLong;exact Za (by omega)
end
section
variable {X:Cx}
def B0:V->List V->Hp->VK->Prop:=λ x vs H Q=>∃ l xs y,x=.ref l/\vs=[y]/\H l=some (.lst xs)/\xs.length < sizeLine/\Q .non (upd H l (.lst (xs++[y])))
def vD:MtM X "list.append" B0:=by
 intro pins s σ H x vs v us Q I rx rv h;obtain ⟨l,xs,y,rfl,rfl,hH,hz,q⟩:=h;cases rx;obtain ⟨u,rfl,ru⟩:=rv.one;obtain ⟨z,its,n,r,hl,e⟩:=I.G3 hH;refine call_meets F.slot_list_append ⟨_,e,rfl⟩ Wx (Wo _ _) (PySem.list_append l its.toArray n u (by rw [Zp]; omega)) ⟨e,?_⟩;refine ⟨.non,_,I.MO (its':=its++[u]) hH e (by simp) (r.append (.cons ru .nil)) ?_,rfl,q⟩;rw [Zu,List.length_singleton];omega
def BZ:V->List V->Hp->VK->Prop:=λ x vs H Q=>∃ l b xs zs,x=.ref l/\vs=[.ref b]/\H l=some (.lst xs)/\H b=some (.lst zs)/\xs.length+zs.length<=sizeLine/\Q .non (upd H l (.lst (xs++zs)))
def vC:MtM X "list.extend" BZ:=by
 intro pins s σ H x vs v us Q I rx rv h;obtain ⟨l,b,xs,zs,rfl,rfl,hH,hB,hz,q⟩:=h;cases rx;obtain ⟨u,rfl,ru⟩:=rv.one;cases ru;obtain ⟨z,its,n,r,hl,e⟩:=I.G3 hH;obtain ⟨z2,its2,n2,r2,hl2,e2⟩:=I.G3 hB;have hsz:its.toArray.size+its2.toArray.size<=sizeLine:=by rw [Zp,Zp]; omega
 have hlong:¬ (!its.toArray.isEmpty&&Builtin.List.listTooLong (its.toArray.size+its2.toArray.size))=true:=by
  rw [yT hsz,Bool.and_false];exact Zf
 refine call_meets F.slot_list_extend ⟨_,e,rfl⟩ F.entry_list_extend (F.args_list_extend_2 _ _)
  (AutoSeq1.list_extend_list_list_0 l its.toArray n b its2.toArray n2 hlong (by rw [Zp]; omega) (by omega)) ⟨e,e2,?_⟩
 refine ⟨.non,_,I.MO (its':=its++its2) hH e (by simp) (r.append r2) ?_,rfl,q⟩;rw [Zu];omega
def Nz:R2:=λ x y H Q=>∃ l b xs zs,x=.ref l/\y=.ref b/\H l=some (.lst xs)/\H b=some (.lst zs)/\xs.length+zs.length<=sizeLine/\∀ p,H p=none->Q (.ref p) (upd H p (.lst (xs++zs)))
def F8:OpR X (binaryOp .Add) Nz:=by
 intro pins s σ H x y v u Q I rx ry h;obtain ⟨l,b,xs,zs,rfl,rfl,hH,hB,hz,q⟩:=h;cases rx;cases ry;obtain ⟨z,its,n,r,hl,e⟩:=I.G3 hH;obtain ⟨z2,its2,n2,r2,hl2,e2⟩:=I.G3 hB;refine PySem.P.add_list e e2 ?_ (by rw [Zp,Zp]; omega)
 have ea:its.toArray++its2.toArray=(its++its2).toArray:=by simp
 rw [ea];exact ⟨.ref _,_,I.Oi (t':=s.toks) (r.append r2) (by rw [Zu]; omega),rfl,q _ I.fresh⟩
end
end L2
namespace Att
open PySem PySem.W PySem.Calls PyProof.Rows
def kY:∀ (ns:List Int) (vs:List Value),WellAll P h vs (ns.map WData.int)->IntsAre vs ns:=by
 intro ns
 induction ns with
 | nil =>
  intro vs w;rw [Wv] at w;cases w;exact .nil
 | cons n ns ih =>
  intro vs w;rw [Z8] at w
  cases w with
  | cons a b =>
   cases a;exact .cons _ _ (ih _ b)
def uE {l:OpenLaw} {n:Nat} (hn:l.most=some n) {P:Params} {h:Heap} {args:List WData} {vals:List Value}
  (hpre:l.row.toRowW.claim.pre args=true) (hwl:WellAll P h vals args) :
  ∃ a vs ns,vals=[Value.ref a]/\args=[WData.list (ns.map WData.int)]/\h.get? a=some { cls:=.type "list",data:=.seq vs.toArray }/\IntsAre vs ns/\ns.length<=n:=by
 have hsh:WShape.hasAll [] args [.list .int]=true:=(pre_splitW hpre).1;have hc:l.pre.holds [] { args:=args }=true:=(pre_splitW hpre).2;obtain ⟨d,r,rfl,h1,h2⟩:=hasAllW_cons hsh;obtain rfl:=hasAllW_nil h2;obtain ⟨xs,rfl,h3⟩:=hasW_list h1;obtain ⟨ns,rfl⟩:=items_int h3
 have hlen:ns.length<=n:=by
  unfold OpenLaw.pre at hc
  have h4:(WTm.not (.lt (.lit (.int (n:Int))) (.len (.arg 0)))).holds [] { args:=[.list (ns.map .int)] }=true:=by
   have h4:=(holds_andW hc).1;rw [hn] at h4;exact h4
  have h5:=condW_of h4 (w_not (w_lt w_lit (w_len_list (w_arg rfl))));rw [Zd] at h5;refine Nat.le_of_not_lt λ q=>?_
  have q':(n:Int) < ((ns.length:Nat):Int):=by omega
  first
   | (rw [Zh q'] at h5; exact absurd h5 (by decide))
   | (simp at h5; omega)
 cases hwl with
 | cons w1 w2 =>
  cases w2
  cases w1 with
  | list ho hall=>exact ⟨_,_,ns,rfl,rfl,ho,kY ns _ hall,hlen⟩
def uW (l:OpenLaw) (args:List WData):l.row.toRowW.claim.post args (.bool true) args=true :=
 postW_of (r:=l.row.toRowW) (X:=(true == true))
  (show WShape.has [] (.bool true) .bool=true by first | rfl | decide | simp [WShape.has,WShape.arms,WShape.armsAll])
  (show (WTm.eq .res (.lit (.bool true))).value [] { args:=args,res:=some (.bool true),after:=args }=some (.bool (true == true)) from w_eq_bool (w_res rfl) w_lit) rfl
def qM {l:OpenLaw} {n:Nat} {q:Program} {loose:List Str} {XP:(Str->Option Value)->Heap->Prop} {YP:World->Heap->Prop} {d:DefRec}
  (hn:l.most=some n) (hdf:d.params.defaults=[])
  (call:∀ (w:World) (s₀ s₁:Shared) (mg mb:Str->Option Value) (fa:Addr) (o:Obj) (pm cd doc:Value) (a:Addr) (vs:List Value) (ns:List Int),
    Ground q loose [] XP w s₀ mg mb s₁.heap->YP w s₁.heap ->
    s₁.heap.get? fa=some o->o.data=.func (docDef d.name d.params d.body d.scope pm cd doc)->s₁.heap.CodeRec cd d.name->mg d.name=some (.ref fa) ->
    s₁.heap.get? a=some { cls:=.type "list",data:=.seq vs.toArray }->IntsAre vs ns->ns.length<=n->s₁.gens=#[] ->
    codeAny (model l.prog w) callerA (.call (.ref fa) ⟨[.ref a],[]⟩) (λ r s'=>r=.ok (.ret (.bool true))/\OldK s₁.heap s'.heap/\s'.os=s₁.os/\AllBare s'.gens) s₁) :
  WalkO q loose XP YP l.row.toRowW d [] (λ f vs=>PySem.call f vs):=by
 intro w s₀ s₁ mg mb G Y fa o pm cd doc dV kV ho hd hcd hD hmg hg args vals as hpre hlay hrd hwl hlo;obtain rfl:dV=.none:=Dflts.none hD hdf;obtain rfl:kV=.none:=Dflts.noKw hD;obtain ⟨a,vs,ns,rfl,rfl,hobj,hints,hlen⟩:=uE hn hpre hwl;refine enter_call (codeAny_mono (call w s₀ s₁ mg mb fa o pm cd doc a vs ns G Y ho (fd_plain hd) hcd hmg hobj hints hlen hg) λ r s' hq=>?_);obtain ⟨rfl,h2,h3,h4⟩:=hq;exact ⟨.inl ⟨.bool true,.bool true,[],rfl,λ _=>rfl,.bool true,uW l _,λ _=>⟨List.Pairwise.nil,λ _ hm=>(nomatch hm)⟩⟩,h2,h3,h4⟩
end Att
namespace L2
open PySem PySem.Spec PyProof.Rows
def nI:∀ {vs:List Value} {ns:List Int},IntsAre vs ns->cK (ns.map V.int) vs
 | _,_,.nil=>.nil
 | _,_,.cons n t h=>.cons ⟨t,rfl⟩ (nI h)
def JK (H:Hp):Prop:=∀ b,H b=none\/∃ o xs,H b=some (.frz o (.lst xs))
def za {P:Program} {w:World} {K:W.Frag} {mg mb:Str->Option Value} {CX:CXT} {k:Nat} {fa a:Addr} {fd:FuncData} {x:Str} {sp:Sp} {s₁:Shared} {vs:List Value} {ns:List Int}
  (KX:K.In s₁.heap) (hns:s₁.heap.Ns mainGlobals mg) (hb:s₁.heap.Ns builtinsNs mb) (hbb:∀ x:Str,x≠"__name__"->mb x=bootBuiltins x) (hlim:s₁.heap.NoLimit) (hg:s₁.gens=#[])
  (ha:s₁.heap.get? a=some { cls:=.type "list",data:=.seq vs.toArray }) (hi:IntsAre vs ns) (hl:ns.length<=sizeLine) (hr:gj k callerA)
  (F:∀ base:Heap,K.In base->base.Ns mainGlobals mg->ko P w K mg base CX k fa fd [x] sp) (hbind:∀ (s:Shared) (u:Value),BindsTo s fd ⟨[u],[]⟩ [(x,u)])
  (hsp:∀ H:Hp,JK H->SqL K H a (ns.map V.int)->sp [.ref a] H (λ v _=>v=.bl true) λ _ _ _=>False)
  (hCX:∀ H e s',CX [] H s₁ (λ _ _ _=>False) e s'->False) :
  codeAny (model P w) callerA (.call (.ref fa) ⟨[.ref a],[]⟩) (λ r s'=>r=.ok (.ret (.bool true))/\OldK s₁.heap s'.heap/\s'.os=s₁.os/\AllBare s'.gens) s₁:=by
 have rv:=nI hi;have lenV:=hi.length
 have core:∀ H:Hp,JK H->SqL K H a (ns.map V.int)->HOk P w H s₁.heap->(∀ b,H b≠none->b=a)->(H a≠none->K.lookup a=none) ->
   codeAny (model P w) callerA (.call (.ref fa) ⟨[.ref a],[]⟩) (λ r s'=>r=.ok (.ret (.bool true))/\OldK s₁.heap s'.heap/\s'.os=s₁.os/\AllBare s'.gens) s₁:=by
  intro H hO hS hok hA hK;have base_of:∀ {b:Addr} {o:Obj},s₁.heap.get? b=some o->H b=none->(zD s₁.heap H).get? b=some o:=λ e n=>zC e n
  have noA:∀ {b:Addr} {o:Obj} {es:Array DictEntry} {ep:Nat},s₁.heap.get? b=some o->o.data=.dict es ep->H b=none:=λ {b o es ep} e d=>by
   cases q:H b with
   | none=>rfl
   | some u =>
    have e':b=a:=hA b (by rw [q]; simp);subst e';rw [ha] at e; cases e
    have d':Data.seq vs.toArray _=Data.dict es ep:=d;cases d'
  have nsK:∀ {b:Addr} {m:Str->Option Value},s₁.heap.Ns b m->(zD s₁.heap H).Ns b m:=λ {b m} ⟨o,es,ep,e,d,r⟩=>⟨o,es,ep,base_of e (noA e d),d,r⟩
  have hKb:K.In (zD s₁.heap H):=λ b o e=>base_of (KX b o e) (by
   cases q:H b with
   | none=>rfl
   | some u =>
    have e':b=a:=hA b (by rw [q]; simp);subst e'
    rw [hK (by rw [q]; simp)] at e; cases e)
  have hM:Mod K mg (zD s₁.heap H):=⟨hKb,nsK hns,⟨mb,nsK hb,hbb⟩,let ⟨mc,h1,h2⟩:=hlim; ⟨mc,nsK h1,h2⟩⟩
  have e0:EB P w K mg (zD s₁.heap H) callerA [] s₁ H:=⟨rfl,hM,λ b o e=>C5 e,Nat.le_of_eq (wg _ _),trivial,λ b hb=>absurd (show b ∈ ([]:List Addr) from hb) (by simp),hok,.of_eq hg⟩
  refine codeAny_mono ((F _ hKb (nsK hns)).run callerA [] s₁ H ⟨[.ref a],[]⟩ [.ref a] [.ref a] _ _ hr e0 (hbind s₁ (.ref a)) (.cons rfl .nil) (hsp H hO hS)) λ r s' h=>?_
  cases r with
  | error e=>exact (hCX H e s' h).elim
  | ok fl =>
   cases fl with
   | next=>exact False.elim h
   | brk=>exact False.elim h
   | cont=>exact False.elim h
   | ret u =>
    obtain ⟨v,H',os,bare,un,hok',r',q⟩:=h;have q':v=.bl true:=q;subst q';obtain rfl:u=Value.bool true:=r';refine ⟨rfl,OldK.of_keep λ b o e=>?_,os,bare⟩
    cases q:H b with
    | none=>exact un.keep b o e q (by intro z; exact absurd (show b ∈ ([]:List Addr) from z) (by simp)) (by simp)
    | some u =>
     rcases hO b with z | ⟨ob,xs,z⟩
     · rw [q] at z; cases z
     ·have z2:=un.t9 b ob _ z
      obtain ⟨e1,_⟩:=hok b _ z;obtain ⟨e2,_⟩:=hok' b _ z2;rw [e] at e1; cases e1
      exact e2
 cases hk:K.lookup a with
 | some o =>
  have e:=KX a o hk;rw [ha] at e;cases e;refine core (λ _=>none) (λ _=>.inl rfl) (.inr ⟨_,vs.toArray,_,hk,rfl,rfl,rfl,by rw [Zp,lenV]; exact hl,by simpa using rv⟩) (λ b u z=>by have z':(none:Option HO)=some u:=z; cases z') (λ b z=>absurd rfl z) λ z=>absurd rfl z
 | none =>
  refine core (λ b=>if b=a then some (.frz { cls:=.type "list",data:=.seq vs.toArray } (.lst (ns.map V.int))) else none) (λ b=>?_) (.inl (.inr ⟨{ cls:=.type "list",data:=.seq vs.toArray },if_pos rfl⟩)) (λ b u z=>?_) (λ b z=>?_) λ _=>hk
  ·by_cases hb:b=a
   · exact .inr ⟨_,_,if_pos hb⟩
   · exact .inl (if_neg hb)
  ·by_cases hb:b=a
   ·have z':=(if_pos hb).symm.trans z
    cases z';subst hb;exact ⟨ha,by rw [Zd]; exact hl,vs,_,rv,ha⟩
   ·have z':=(if_neg hb).symm.trans z
    cases z'
  ·by_cases hb:b=a
   · exact hb
   · exact absurd (if_neg hb) z
end L2
namespace L2
open PySem PySem.Spec PyProof.Rows
abbrev KOf {K:W.Frag} {h:Heap} (_:K.In h):W.Frag:=K
def BC {l:PySem.W.OpenLaw} {n k:Nat} {q:Program} {loose:List Str} {XP:(Str->Option Value)->Heap->Prop} {YP:World->Heap->Prop} {d:DefRec} {K:Params->W.Frag} {CX:World->CXT} {sp:World->Sp} {x:Str}
    (hn:l.most=some n) (hn2:n<=sizeLine) (hdf:d.params.defaults=[]) (hr:gj k callerA)
    (hY:∀ (w:World) (h:Heap),YP w h->(K w.params).In h)
    (F : ∀ (w:World) (mg:Str->Option Value) (fa:Addr) (h:Heap),(K w.params).In h->h.Ns mainGlobals mg->mg d.name=some (.ref fa) ->
      ∃ fd:FuncData,(∀ (s:Shared) (u:Value),BindsTo s fd ⟨[u],[]⟩ [(x,u)]) /\
        ∀ base:Heap,(K w.params).In base->base.Ns mainGlobals mg->ko l.prog w (K w.params) mg base (CX w) k fa fd [x] (sp w))
    (hsp:∀ (w:World) (H:Hp) (a:Addr) (ns:List Int),ns.length<=n->JK H->SqL (K w.params) H a (ns.map V.int)->sp w [.ref a] H (λ v _=>v=.bl true) λ _ _ _=>False)
    (hCX:∀ (w:World) (H:Hp) (s:Shared) (e:Value) (s':Shared),CX w [] H s (λ _ _ _=>False) e s'->False) :
    PySem.W.WalkO q loose XP YP l.row.toRowW d [] (λ f vs=>PySem.call f vs):=by
  refine Att.qM hn hdf λ w s₀ s₁ mg mb fa o pm cd doc a vs ns G Y ho hd hcd hmg hobj hints hlen hg=>?_
  have KX:=hY w _ Y;obtain ⟨fd,hb,hF⟩:=F w mg fa _ KX G.T.g hmg;exact za KX G.T.g G.T.b G.T.builtins G.T.nolimit hg hobj hints (Zc hlen hn2) hr hF hb (λ H hO hS=>hsp w H a ns hlen hO hS) λ H e s'=>hCX w H s₁ e s'
def xT {l:PySem.W.OpenLaw} {n k:Nat} {q:Program} {loose:List Str} {XP:(Str->Option Value)->Heap->Prop} {YP:World->Heap->Prop} {d:DefRec} {K:Params->W.Frag} {CX:CXT} {sp:W.Frag->Sp} {x:Str}
    (hn:l.most=some n) (hn2:n<=sizeLine) (hdf:d.params.defaults=[]) (hr:gj k callerA)
    (hY:∀ (w:World) (h:Heap),YP w h->(K w.params).In h)
    (F : ∀ (w:World) (mg:Str->Option Value) (fa:Addr) (h:Heap),(K w.params).In h->h.Ns mainGlobals mg->mg d.name=some (.ref fa) ->
      ∃ fd:FuncData,(∀ (s:Shared) (u:Value),BindsTo s fd ⟨[u],[]⟩ [(x,u)]) /\
        ∀ base:Heap,(K w.params).In base->base.Ns mainGlobals mg->ko l.prog w (K w.params) mg base CX k fa fd [x] (sp (K w.params)))
    (hsp:∀ (K:W.Frag) (H:Hp) (a:Addr) (ns:List Int),ns.length<=n->JK H->SqL K H a (ns.map V.int)->sp K [.ref a] H (λ v _=>v=.bl true) λ _ _ _=>False)
    (hCX:∀ (H:Hp) (s:Shared) (e:Value) (s':Shared),CX [] H s (λ _ _ _=>False) e s'->False) :
    PySem.W.WalkO q loose XP YP l.row.toRowW d [] (λ f vs=>PySem.call f vs) :=
  BC (K:=K) (CX:=λ _=>CX) (sp:=λ w=>sp (K w.params)) hn hn2 hdf hr hY F (λ w H a ns h1 h2 h3=>hsp (K w.params) H a ns h1 h2 h3) λ _ H s e s'=>hCX H s e s'
end L2
/- THE LAST THEOREM (shape; LID,My.* are yours):
   My.Adr: a structure of the addresses that your layer names (classes,functions); My.Txt K t: a structure (Prop) of the equations over K;
   My.txt_mk:{K} {implicit addresses ..} (e1:nsIn K mainGlobals "law"=some (some (.ref f))) (e2:K.lookup f=some ⟨oc,od,.func (fnOf "law" "law" params body scope dV kV doc pm an cdv ct),sl⟩) (e3:codeIn K cdv "law"=true) ..:∃ t,My.Txt K t
(the tactic k_is has no namespace: write k_is) -/
namespace L2
open PySem PySem.Spec PyProof.Rows
def inClass (s:Stmt) (j:Nat):Stmt:=match s with
 | .ClassDef _ _ _ body _ _ _ _ _ _ _=>body.getD j (.Pass ⟨0,0,0,0⟩)
 | _=>.Pass ⟨0,0,0,0⟩
def cX (s:Stmt):Arguments:=match s with
 | .FunctionDef _ a _ _ _ _ _ _ _ _=>a
 | _=>{ posonlyargs:=[],args:=[],vararg:=none,kwonlyargs:=[],kw_defaults:=[],kwarg:=none,defaults:=[] }
def cC (s:Stmt):List Stmt:=match s with
 | .FunctionDef _ _ b _ _ _ _ _ _ _=>b
 | _=>[]
def bq (s:Stmt):Scope:=match s with
 | .FunctionDef _ _ _ _ _ _ sc _ _ _=>sc
 | _=>{ kind:=.function,names:=[],isGenerator:=false,isCoroutine:=false }
abbrev CX0:CXT:=λ _ _ _ _ _ _=>False
abbrev E0:XK:=λ _ _ _=>False
def yO:mr CX0 X E0:=λ _ _ _ _ _ _ _ h=>h.elim
structure Fun (K:W.Frag) (x qual:Str) (st:Stmt) (f:Addr) (fd:FuncData):Prop where
 ex:∃ (oc:Value) (od:Option Addr) (kV doc pm:Value) (an:Option Addr) (cdv ct:Value) (osl:Array (Option Value)),
  fd=PySem.W.fnOf x qual (cX st) (cC st) (bq st) .none kV doc pm an cdv ct/\K.lookup f=some ⟨oc,od,.func fd,osl⟩/\PySem.W.codeIn K cdv qual=true
 kp:W.keepIn K (.ref f)=true
section
variable {P:Program} {w:World} {K:W.Frag} {mg:Str->Option Value} {base:Heap}
def Fun.ok {x qual:Str} {st:Stmt} {f:Addr} {fd:FuncData} {N ps:List Str} {k:Nat} {sp:Sp} (F:Fun K x qual st f fd) (S:iQ N ps (bq st)) (len:∀ vs H Q E,sp vs H Q E->vs.length=ps.length)
  (hbody:∀ (cdv:Value) (A:Around) (outer:List Env) (s:Shared) (H:Hp) (vs:List V) (Q:VK) (E:XK),gj k (A.deeper (envOfC qual (bq st) s.heap.objs.size f cdv))->sp vs H Q E ->
    ∃ t,PSs (Bh CX0 P w K mg base N qual (bq st) f cdv A outer s H E).nox (cC st) t/\t { nx:=λ _ H'=>Q .non H',rt:=Q } (start N vs) H):ko P w K mg base CX0 (k+1) f fd ps sp:=by
 obtain ⟨oc,od,kV,doc,pm,an,cdv,ct,osl,rfl,lk,hcd⟩:=F.ex;refine Ma lk hcd S len λ A outer s H vs Q E hr hsp=>?_
 obtain ⟨t,h,q⟩:=hbody cdv A outer s H vs Q E hr hsp;exact ⟨t,h.nox,q⟩
def Fun.binds {x qual:Str} {st:Stmt} {f:Addr} {fd:FuncData} {ps:List Str} (F:Fun K x qual st f fd)
  (h:∀ (kV doc pm:Value) (an:Option Addr) (cdv ct:Value) (us:List Value),us.length=ps.length->bindArgs (PySem.W.fnOf x qual (cX st) (cC st) (bq st) .none kV doc pm an cdv ct) ⟨us,[]⟩=pure (ps.zip us)):Binds K fd ps []:=by
 obtain ⟨oc,od,kV,doc,pm,an,cdv,ct,osl,rfl,lk,hcd⟩:=F.ex;exact .all (h kV doc pm an cdv ct)
def k7 {x qual:Str} {st:Stmt} {f:Addr} {oc:Value} {od an:Option Addr} {osl:Array (Option Value)} {kV doc pm cdv ct:Value} (l:K.lookup f=some ⟨oc,od,.func (PySem.W.fnOf x qual (cX st) (cC st) (bq st) .none kV doc pm an cdv ct),osl⟩)
 (c:PySem.W.codeIn K cdv qual=true) (k:W.keepIn K (.ref f)=true):Fun K x qual st f (PySem.W.fnOf x qual (cX st) (cC st) (bq st) .none kV doc pm an cdv ct):=⟨⟨oc,od,kV,doc,pm,an,cdv,ct,osl,rfl,l,c⟩,k⟩
end
section
variable {X:Cx}
def pv (i:Nat) (hN:X.N[i]?=some x:=by rfl) (hv:Vis X.env.scope x:=by first | exact Or.inl rfl | exact Or.inr (Or.inl rfl) | exact Or.inr (Or.inr rfl)) (hd:(x == ("__debug__":Str))=false:=by decide)
 (hcd:(x == ("__classdict__":Str))=false:=by decide):PE X (.Name x pos) (Mr i):=jR hN hv hd hcd
end
def MQ {A B:Prop} (h:B):if false=true then A else B:=by
 rw [if_neg Zf];exact h
def MP {A B:Prop} (h:A):if true=true then A else B:=by
 rw [if_pos rfl];exact h
def fD (H H':Hp):Prop:=∀ b o,H b=some o->H' b=some o
def fD.refl (H:Hp):fD H H:=λ _ _ h=>h
def fD.trans (a:fD H H1) (b:fD H1 H2):fD H H2:=λ c o h=>b c o (a c o h)
def fD.free (e:fD H H') (h:H' l=Option.none):H l=Option.none:=by
 cases q:H l with
 | none=>rfl
 | some o =>
  rw [e l o q] at h;cases h
def fD.seq {K:W.Frag} {H H':Hp} {a:Addr} {xs:List V} (e:fD H H') (h:SqL K H a xs):SqL K H' a xs:=by
 rcases h with (h | ⟨o,h⟩) | h
 · exact .inl (.inl (e _ _ h))
 · exact .inl (.inr ⟨o,e _ _ h⟩)
 · exact .inr h
end L2
end
section
namespace HD36
open PySem PySem.W PySem.W.X PyProof.Rows L2
abbrev hp:Program:=PySem.Challenge.pw_stylehouse_k36_lined_by_levels
abbrev hl:OpenLaw:=PySem.Challenge.rw_stylehouse_k36_lined_by_levels
def top (i:Nat):Stmt:=PySem.Challenge.pw_stylehouse_k36_lined_by_levels.main.body.getD i (.Pass ⟨0,0,0,0⟩)
noncomputable abbrev tL (o:Params->Obj) (P:Params):BT:=.node (o P) .nil .nil
noncomputable abbrev tN (o:Params->Obj) (l r:Params->BT) (P:Params):BT:=.node (o P) (l P) (r P)
noncomputable abbrev tZ (_:Params):BT:=.nil
noncomputable abbrev dE (P:Params) (n:Str) (t:Nat) (v:Value):DictEntry:=⟨PyData.keyHash P n,.str n t,v⟩
noncomputable abbrev oF (y:String) (l:List Value) (_:Params):Obj:=⟨.type y,none,.fields ⟨l⟩,⟨[]⟩⟩
noncomputable abbrev oQ (y:String) (l:List Value) (n:Nat) (_:Params):Obj:=⟨.type y,none,.seq ⟨l⟩ n,⟨[]⟩⟩
noncomputable abbrev oD (y:String) (l:List DictEntry) (n:Nat):Obj:=⟨.type y,none,.dict ⟨l⟩ n,⟨[]⟩⟩
noncomputable abbrev oM (y:String) (n q:Str) (s:Stmt) (g:Nat) (c:List (Str×Addr)) (d k dc pm:Value) (an:Option Addr) (cd ct:Value) (b:Nat):Obj:=⟨.type y,none,.func ⟨n,q,cX s,.stmts (cC s),bq s,g,c,d,k,dc,pm,an,cd,ct,b⟩,⟨[]⟩⟩
noncomputable abbrev oC (y:String) (n:Str) (a:Nat) (q:Str) (b:Nat) (f:Str) (c i1 i2 i3 i4 i5 r1:Nat) (o:Bool) (i6 r2:Nat) (v1 v2 v3 v4:Value) (i7 i8:Nat) (g:Str) (d:Nat):Obj:=⟨.type y,none,.fields ⟨[.str n a,.str q b,.str f c,.int (.ofNat i1) 0,.int (.ofNat i2) 0,.int (.ofNat i3) 0,.int (.ofNat i4) 0,.int (.ofNat i5) 0,.ref r1,.bool o,.int (.ofNat i6) 0,.ref r2,v1,v2,v3,v4,.int (.ofNat i7) 0,.int (.ofNat i8) 0,.str g d]⟩,⟨[]⟩⟩
noncomputable abbrev vI (i t:Nat):Value:=.int (.ofNat i) t
noncomputable abbrev vS (s:Str) (t:Nat):Value:=.str s t
noncomputable abbrev vR (a:Nat):Value:=.ref a
noncomputable abbrev y0:String:=PySem.W.SL.s2766695959194262286x5
noncomputable abbrev y1:String:=PySem.W.SL.s5856160107412720595x4
noncomputable abbrev y2:String:=PySem.W.SL.s658472552662922059x5
noncomputable abbrev y3:String:=PySem.W.SL.s14018661285674007319x4
noncomputable abbrev y4:String:=PySem.W.SL.s7097527257260152453x26
noncomputable abbrev y5:String:=PySem.W.SL.s7174869446012820540x8
noncomputable abbrev y6:String:=PySem.W.SL.s6070975301684473832x10
noncomputable abbrev y7:String:=PySem.W.SL.s11030030927630378310x26
noncomputable abbrev y8:String:=PySem.W.SL.s10062305145149207511x16
noncomputable abbrev y9:String:=PySem.W.SL.s17162191345867700912x4
noncomputable abbrev y10:String:=PySem.W.SL.s5946037652744460706x9
noncomputable abbrev y11:String:=PySem.W.SL.s4278001404047624695x13
noncomputable abbrev y12:String:=PySem.W.SL.s2742458400755230247x6
noncomputable abbrev y13:String:=PySem.W.SL.s4209523147560561109x18
noncomputable abbrev y14:String:=PySem.W.SL.s14755015743595814543x17
noncomputable abbrev y15:String:=PySem.W.SL.s10220274742760427390x26
noncomputable abbrev y16:String:=PySem.W.SL.s4290257624100764138x5
noncomputable abbrev y17:String:=PySem.W.SL.s4860613602091757760x24
noncomputable abbrev y18:String:=PySem.W.SL.s11443829558043349243x14
noncomputable abbrev y19:String:=PySem.W.SL.s6511155373996960695x17
noncomputable abbrev y20:String:=PySem.W.SL.s12411053484034534018x21
noncomputable def n0:Str:="<module>"
noncomputable def n1:Str:="/claim/cut.py"
noncomputable def n2:Str:="__main__"
noncomputable def n3:Str:="__name__"
noncomputable def n4:Str:="stylehouse.deal"
noncomputable def n5:Str:="__doc__"
noncomputable def n6:Str:="__package__"
noncomputable def n7:Str:="__loader__"
noncomputable def n8:Str:="__spec__"
noncomputable def n9:Str:="__annotations__"
noncomputable def n10:Str:="__builtins__"
noncomputable def n11:Str:="__file__"
noncomputable def n12:Str:="__cached__"
noncomputable def n13:Str:="_wall"
noncomputable def n14:Str:="HouseError"
noncomputable def n15:Str:="NoFraction"
noncomputable def n16:Str:="NOUGHT"
noncomputable def n17:Str:="divisor_of"
noncomputable def n18:Str:="plus"
noncomputable def n19:Str:="minus"
noncomputable def n20:Str:="times"
noncomputable def n21:Str:="over"
noncomputable def n22:Str:="total"
noncomputable def n23:Str:="less"
noncomputable def n24:Str:="held"
noncomputable def n25:Str:="dealt"
noncomputable def n26:Str:="most_of"
noncomputable def n27:Str:="k"
noncomputable def n28:Str:="__module__"
noncomputable def n29:Str:="stylehouse.errors"
noncomputable def n30:Str:="__qualname__"
noncomputable def n31:Str:="__firstlineno__"
noncomputable def n32:Str:="__static_attributes__"
noncomputable def n33:Str:="__weakref__"
noncomputable def n34:Str:="one"
noncomputable def n35:Str:="other"
noncomputable def n36:Str:="rest"
noncomputable def n37:Str:="stylehouse.shares"
noncomputable def n38:Str:="shared"
noncomputable def n39:Str:="top"
noncomputable def n40:Str:="left"
noncomputable def n41:Str:="first"
noncomputable def n42:Str:="second"
noncomputable def n43:Str:="some"
noncomputable def n44:Str:="result"
noncomputable def n45:Str:="low"
noncomputable def n46:Str:="high"
noncomputable def n47:Str:="bound"
noncomputable def n48:Str:="item"
noncomputable def n49:Str:="stylehouse.lays"
noncomputable def n50:Str:="way_to"
noncomputable def n51:Str:="moved"
noncomputable def n52:Str:="rounds_of"
noncomputable def n53:Str:="is_beyond"
noncomputable def n54:Str:="Flow"
noncomputable def n55:Str:="flow_of"
noncomputable def n56:Str:="counted"
noncomputable def n57:Str:="scaled"
noncomputable def n58:Str:="reaches_of"
noncomputable def n59:Str:="reach"
noncomputable def n60:Str:="best_ends"
noncomputable def n61:Str:="cheapest"
noncomputable def n62:Str:="number_of"
noncomputable def n63:Str:="room_of"
noncomputable def n64:Str:="item_of"
noncomputable def n65:Str:="in_room"
noncomputable def n66:Str:="lined"
noncomputable def n67:Str:="begin"
noncomputable def n68:Str:="way"
noncomputable def n69:Str:="share"
noncomputable def n70:Str:="level"
noncomputable def n71:Str:="grows"
noncomputable def n72:Str:="stylehouse.flows"
noncomputable def n73:Str:="__init__"
noncomputable def n74:Str:="counts"
noncomputable def n75:Str:="breadth"
noncomputable def n76:Str:="self"
noncomputable def n77:Str:="word"
noncomputable def n78:Str:="Flow.__init__"
noncomputable def n79:Str:="Flow.counts"
noncomputable def n80:Str:="widths"
noncomputable def n81:Str:="gap"
noncomputable def n82:Str:="Flow.breadth"
noncomputable def n83:Str:="__dict__"
noncomputable def n84:Str:="ends"
noncomputable def n85:Str:="place"
noncomputable def n86:Str:="numbers"
noncomputable def n87:Str:="length"
noncomputable def n88:Str:="end"
noncomputable def n89:Str:="prices"
noncomputable def n90:Str:="best"
noncomputable def n91:Str:="price"
noncomputable def n92:Str:="value"
noncomputable def n93:Str:="values"
noncomputable def n94:Str:="width"
noncomputable def n95:Str:="pad"
noncomputable def n96:Str:="half"
noncomputable def n97:Str:="edge"
noncomputable def n98:Str:="wish"
noncomputable def n99:Str:="room"
noncomputable def kh:Str:="law_stylehouse_k36_lined_by_levels"
noncomputable def AX:Str:="begins_of"
noncomputable def AW:Str:="left_of"
noncomputable def AV:Str:="ahead_of"
noncomputable def AU:Str:="_law_cell"
noncomputable def AS:Str:="_law_mixed"
noncomputable def AR:Str:="_law_lowest"
noncomputable def AQ:Str:="_law_plus"
noncomputable def AO:Str:="_law_minus"
noncomputable def AN:Str:="_law_times"
noncomputable def AM:Str:="_law_under"
noncomputable def AL:Str:="_law_sum"
noncomputable def AK:Str:="_law_length"
noncomputable def AJ:Str:="_law_wish"
noncomputable def AI:Str:="_law_amount"
noncomputable def AH:Str:="_law_item"
noncomputable def AG:Str:="_law_is_fractions"
noncomputable def AF:Str:="_law_come"
noncomputable def AE:Str:="_law_fair"
noncomputable def AD:Str:="_law_counts_good"
noncomputable def AB:Str:="_law_level"
noncomputable def Az:Str:="_law_dealt"
noncomputable def Ay:Str:="_law_xs_good"
noncomputable def Ax:Str:="_law_lines_good"
noncomputable def Aw:Str:="_law_values"
noncomputable def MN:Str:="line"
noncomputable def ML:Str:="spread"
noncomputable def Oh:Str:="between"
noncomputable def Og:Str:="found"
noncomputable def JH:Str:="_law_script"
noncomputable def GW:Str:="_law_k"
noncomputable def Of:Str:="_law_top"
noncomputable def Oe:Str:="_law_bottom"
noncomputable def Dk:Str:="_law_one"
noncomputable def Dj:Str:="_law_other"
noncomputable def Od:Str:="_law_rest"
noncomputable def Oc:Str:="_law_some"
noncomputable def MK:Str:="_law_found"
noncomputable def MJ:Str:="_law_scale"
noncomputable def Ob:Str:="_law_cell_here"
noncomputable def MI:Str:="_law_mixed_here"
noncomputable def Oa:Str:="_law_parts"
noncomputable def N9:Str:="_law_natural"
noncomputable def N8:Str:="_law_wide"
noncomputable def MH:Str:="_law_share"
noncomputable def N7:Str:="_law_heads"
noncomputable def N6:Str:="_law_told"
noncomputable def N5:Str:="_law_j"
noncomputable def N4:Str:="_law_pair"
noncomputable def N3:Str:="_law_value"
noncomputable def JG:Str:="_law_room"
noncomputable def N2:Str:="_law_wish_here"
noncomputable def N1:Str:="_law_base"
noncomputable def N0:Str:="_law_least"
noncomputable def NZ:Str:="_law_most"
noncomputable def LP:Str:="_law_many"
noncomputable def NY:Str:="_law_part"
noncomputable def LO:Str:="_law_begins"
noncomputable def GV:Str:="_law_gap"
noncomputable def NX:Str:="_law_prices"
noncomputable def NW:Str:="_law_firsts"
noncomputable def LN:Str:="_law_at"
noncomputable def MG:Str:="_law_left"
noncomputable def NV:Str:="_law_cost"
noncomputable def MF:Str:="_law_counts"
noncomputable def ME:Str:="_law_flow"
noncomputable def NU:Str:="_law_items"
noncomputable def MD:Str:="_law_widths"
noncomputable def NT:Str:="_law_grows"
noncomputable def NS:Str:="_law_level_here"
noncomputable def NR:Str:="_law_item_here"
noncomputable def NQ:Str:="_law_width"
noncomputable def NP:Str:="_law_gain"
noncomputable def NO:Str:="_law_xs"
noncomputable def MC:Str:="_law_spread"
noncomputable def NN:Str:="_law_edge"
noncomputable def NM:Str:="_law_inner"
noncomputable def NL:Str:="_law_head"
noncomputable def NK:Str:="_law_pad"
noncomputable def NJ:Str:="_law_values_here"
noncomputable def NI:Str:="_law_prop"
noncomputable def Di:Str:="law"
noncomputable abbrev oN (n q:Str) (s:Stmt) (_:Params):Obj:=⟨.none,none,.func ⟨n,q,cX s,.stmts (cC s),bq s,0,[],.none,.none,.none,.none,none,.none,.none,0⟩,⟨[]⟩⟩
def tri:List Nat->List Value
 | a::b::r=>.int (.ofNat a) 0::.int (.ofNat 0) 0::.ref b::tri r
 | _=>[]
noncomputable abbrev oR (l:List Nat) (_:Params):Obj:=⟨.none,none,.fields ⟨tri l⟩,⟨[]⟩⟩
noncomputable abbrev oE (n q:Str) (t l a r s:Nat) (_:Params):Obj:=oC y1 n t q (t+1) n1 (t+2) l a 0 0 3 r true 181 (r+1) .none (.ref (r+2)) (.ref (r+3)) (.ref (r+4)) s l n1 (s+1)
noncomputable abbrev oG (n q:Str) (s:Stmt) (m:Str) (t r:Nat) (_:Params):Obj:=oM y5 n q s 3 [] .none .none .none (.str m t) none (.ref r) .none 0
noncomputable def o0:=oQ y0 [] 0
noncomputable def o1 (P:Params):Obj:=⟨.none,none,(.fields ⟨[]⟩),⟨[]⟩⟩
noncomputable def o2 (P:Params):Obj:=oC y1 n0 182 n0 183 n1 184 1 0 0 0 0 11 false 181 12 .none .none .none .none 185 1 n1 186
noncomputable def o3 (P:Params):Obj:=⟨(.type y2),none,.plain,⟨[(some (vR 13)),(some (vR 3)),(some (vR 3)),none,(some (vS n2 164)),none,(some (vR 0))]⟩⟩
noncomputable def o4 (P:Params):Obj:=oD y3 [dE P n3 165 (vS n4 309),dE P n5 166 .none,dE P n6 167 .none,dE P n7 168 (.builtin y4),dE P n8 169 .none,dE P n9 170 (vR 6),dE P n10 171 (vR 4),dE P n11 173 (vS n1 172),dE P n12 174 .none,dE P n13 193 (vR 21),dE P n14 213 (vR 31),dE P n15 229 (vR 44),dE P n16 234 (vR 47),dE P n17 243 (vR 54),dE P n18 255 (vR 61),dE P n19 263 (vR 68),dE P n20 273 (vR 75),dE P n21 281 (vR 82),dE P n22 290 (vR 89),dE P n23 298 (vR 96),dE P n24 308 (vR 103),dE P n25 316 (vR 108),dE P n26 323 (vR 115)] 23
noncomputable def o5:=oR [1,20,5,27,7,40,11,53,19,60,25,67,27,74,31,81,37,88,42,95,44,102,54,107,71,114]
noncomputable def o6:=oQ y0 [vS n27 190] 0
noncomputable def o7:=oN n13 n13 (top 0)
noncomputable def o8:=oE n13 n13 187 1 1 15 191
noncomputable def o9:=oG n13 n13 (top 0) n2 164 20
noncomputable def o10:=oQ y0 [(.type y6)] 0
noncomputable def o11:=oF y7 [(.builtin y8),(.type y9)]
noncomputable def o12 (P:Params):Obj:=oD y3 [dE P n28 203 (vS n29 194),dE P n30 205 (vS n14 204),dE P n31 207 (vI 5 206),dE P n32 208 (vR 29)] 4
noncomputable def o13 (P:Params):Obj:=oC y1 n14 198 n14 199 n1 200 5 0 0 0 0 25 false 181 26 .none .none .none .none 201 5 n1 202
noncomputable def o14 (P:Params):Obj:=⟨(.type y2),none,.plain,⟨[(some (vR 27)),(some (vR 3)),(some (vR 24)),none,(some (vS n29 194)),none,(some (vR 0))]⟩⟩
noncomputable def o15 (P:Params):Obj:=oD y3 [dE P n28 203 (vS n29 194),dE P n31 207 (vI 5 206),dE P n32 208 (vR 29),dE P n33 210 (vR 32),dE P n5 211 .none] 3
noncomputable def o16 (P:Params):Obj:=⟨(.type y9),none,(.cls ⟨n14,[(.type y6)],[vR 31,(.type y6),(.type y10),(.type y11),(.type y12)],30,n14,true,[],[vR 44],false,none,false⟩),⟨[(some (vR 22)),none,(some (vS n14 196)),(some (vS n14 204)),(some (.builtin y13)),(some (.bool true))]⟩⟩
noncomputable def o17:=oF y14 [vS n33 209,vR 31,(.builtin y15),.none]
noncomputable def o18:=oF y16 [vR 31,vR 31,vR 31]
noncomputable def o19:=oF y7 [(.builtin y17),vR 31]
noncomputable def o20:=oQ y0 [vR 31] 0
noncomputable def o21 (P:Params):Obj:=oD y3 [dE P n28 221 (vS n29 194),dE P n30 223 (vS n15 222),dE P n31 225 (vI 7 224),dE P n32 226 (vR 42)] 4
noncomputable def o22 (P:Params):Obj:=oC y1 n15 216 n15 217 n1 218 7 0 0 0 0 38 false 181 39 .none .none .none .none 219 7 n1 220
noncomputable def o23 (P:Params):Obj:=⟨(.type y2),none,.plain,⟨[(some (vR 40)),(some (vR 3)),(some (vR 37)),none,(some (vS n29 194)),none,(some (vR 0))]⟩⟩
noncomputable def o24 (P:Params):Obj:=oD y3 [dE P n28 221 (vS n29 194),dE P n31 225 (vI 7 224),dE P n32 226 (vR 42),dE P n5 227 .none] 2
noncomputable def o25 (P:Params):Obj:=⟨(.type y9),none,(.cls ⟨n15,[vR 31],[vR 44,vR 31,(.type y6),(.type y10),(.type y11),(.type y12)],43,n15,true,[],[],false,none,false⟩),⟨[(some (vR 35)),none,(some (vS n15 214)),(some (vS n15 222)),(some (.builtin y13)),(some (.bool true))]⟩⟩
noncomputable def o26:=oF y16 [vR 44,vR 44,vR 44]
noncomputable def o27:=oF y7 [(.builtin y17),vR 44]
noncomputable def o28:=oQ y0 [vI 0 232,vI 1 233] 0
noncomputable def o29:=oQ y0 [vS n34 238,vS n35 239,vS n36 240] 0
noncomputable def o30:=oN n17 n17 (top 6)
noncomputable def o31:=oE n17 n17 235 11 2 48 241
noncomputable def o32:=oG n17 n17 (top 6) n37 230 53
noncomputable def o33:=oQ y0 [vS n34 247,vS n35 248,vS n38 249,vS n36 250,vS n39 251,vS n40 252] 0
noncomputable def o34:=oN n18 n18 (top 7)
noncomputable def o35:=oE n18 n18 244 19 2 55 253
noncomputable def o36:=oG n18 n18 (top 7) n37 230 60
noncomputable def o37:=oQ y0 [vS n34 259,vS n35 260] 0
noncomputable def o38:=oN n19 n19 (top 8)
noncomputable def o39:=oE n19 n19 256 25 2 62 261
noncomputable def o40:=oG n19 n19 (top 8) n37 230 67
noncomputable def o41:=oQ y0 [vS n34 267,vS n35 268,vS n41 269,vS n42 270] 0
noncomputable def o42:=oN n20 n20 (top 9)
noncomputable def o43:=oE n20 n20 264 27 2 69 271
noncomputable def o44:=oG n20 n20 (top 9) n37 230 74
noncomputable def o45:=oQ y0 [vS n34 277,vS n35 278] 0
noncomputable def o46:=oN n21 n21 (top 10)
noncomputable def o47:=oE n21 n21 274 31 2 76 279
noncomputable def o48:=oG n21 n21 (top 10) n37 230 81
noncomputable def o49:=oQ y0 [vS n43 285,vS n44 286,vS n34 287] 0
noncomputable def o50:=oN n22 n22 (top 11)
noncomputable def o51:=oE n22 n22 282 37 1 83 288
noncomputable def o52:=oG n22 n22 (top 11) n37 230 88
noncomputable def o53:=oQ y0 [vS n34 294,vS n35 295] 0
noncomputable def o54:=oN n23 n23 (top 12)
noncomputable def o55:=oE n23 n23 291 42 2 90 296
noncomputable def o56:=oG n23 n23 (top 12) n37 230 95
noncomputable def o57:=oQ y0 [vS n34 302,vS n45 303,vS n46 304,vS n47 305] 0
noncomputable def o58:=oN n24 n24 (top 13)
noncomputable def o59:=oE n24 n24 299 44 3 97 306
noncomputable def o60:=oG n24 n24 (top 13) n37 230 102
noncomputable def o61:=oN n25 n25 (top 15)
noncomputable def o62 (P:Params):Obj:=oC y1 n25 311 n25 312 n1 313 54 2 0 0 3 104 true 181 105 .none .none .none (vR 106) 314 54 n1 315
noncomputable def o63:=oG n25 n25 (top 15) n4 309 107
noncomputable def o64:=oQ y0 [vS n48 320] 0
noncomputable def o65:=oN n26 n26 (top 16)
noncomputable def o66:=oE n26 n26 317 71 1 109 321
noncomputable def o67:=oG n26 n26 (top 16) n4 309 114
noncomputable def o68 (P:Params):Obj:=oD y3 [dE P n3 165 (vS n49 463),dE P n5 166 .none,dE P n6 167 .none,dE P n7 168 (.builtin y4),dE P n8 169 .none,dE P n9 170 (vR 6),dE P n10 171 (vR 4),dE P n11 173 (vS n1 172),dE P n12 174 .none,dE P n13 193 (vR 21),dE P n14 213 (vR 31),dE P n15 229 (vR 44),dE P n16 234 (vR 47),dE P n17 243 (vR 54),dE P n18 255 (vR 61),dE P n19 263 (vR 68),dE P n20 273 (vR 75),dE P n21 281 (vR 82),dE P n22 290 (vR 89),dE P n23 298 (vR 96),dE P n24 308 (vR 103),dE P n25 316 (vR 108),dE P n26 323 (vR 115),dE P n50 332 (vR 122),dE P n51 343 (vR 129),dE P n52 349 (vR 134),dE P n53 358 (vR 141),dE P n54 404 (vR 170),dE P n55 411 (vR 181),dE P n56 420 (vR 188),dE P n57 426 (vR 193),dE P n58 432 (vR 198),dE P n59 443 (vR 205),dE P n60 449 (vR 210),dE P n61 462 (vR 217),dE P n62 471 (vR 224),dE P n63 482 (vR 231),dE P n64 490 (vR 238),dE P n65 499 (vR 245),dE P n66 505 (vR 250)] 40
noncomputable def o69:=oR [1,20,5,27,7,40,11,53,19,60,25,67,27,74,31,81,37,88,42,95,44,102,54,107,71,114,73,121,78,128,81,133,95,140,100,147,117,180,119,187,126,192,131,197,134,204,142,209,153,216,163,223,165,230,170,237,172,244,178,249]
noncomputable def o70:=oQ y0 [vS n47 327,vS n67 328,vS n68 329] 0
noncomputable def o71:=oN n50 n50 (top 17)
noncomputable def o72:=oE n50 n50 324 73 2 116 330
noncomputable def o73:=oG n50 n50 (top 17) n4 309 121
noncomputable def o74:=oQ y0 [vS n67 336,vS n69 337,vS n70 338,vS n71 339,vS n68 340] 0
noncomputable def o75:=oN n51 n51 (top 18)
noncomputable def o76:=oE n51 n51 333 78 4 123 341
noncomputable def o77:=oG n51 n51 (top 18) n4 309 128
noncomputable def o78:=oN n52 n52 (top 19)
noncomputable def o79 (P:Params):Obj:=oC y1 n52 344 n52 345 n1 346 81 3 0 0 3 130 true 181 131 .none .none .none (vR 132) 347 81 n1 348
noncomputable def o80:=oG n52 n52 (top 19) n4 309 133
noncomputable def o81:=oQ y0 [vS n68 353,vS n69 354,vS n70 355] 0
noncomputable def o82:=oN n53 n53 (top 20)
noncomputable def o83:=oE n53 n53 350 95 3 135 356
noncomputable def o84:=oG n53 n53 (top 20) n4 309 140
noncomputable def o85 (P:Params):Obj:=oD y3 [dE P n28 368 (vS n72 359),dE P n30 370 (vS n54 369),dE P n31 372 (vI 100 371),dE P n73 380 (vR 155),dE P n74 386 (vR 160),dE P n75 395 (vR 167),dE P n32 397 (vR 168)] 7
noncomputable def o86 (P:Params):Obj:=⟨.none,none,(.fields ⟨[vI 102 0,vI 4 0,vR 154,vI 105 0,vI 4 0,vR 159,vI 115 0,vI 4 0,vR 166]⟩),⟨[]⟩⟩
noncomputable def o87 (P:Params):Obj:=oC y1 n54 363 n54 364 n1 365 100 0 0 0 0 145 false 181 146 .none .none .none .none 366 100 n1 367
noncomputable def o88 (P:Params):Obj:=⟨(.type y2),none,.plain,⟨[(some (vR 147)),(some (vR 3)),(some (vR 144)),none,(some (vS n72 359)),none,(some (vR 0))]⟩⟩
noncomputable def o89:=oQ y0 [vS n76 376,vS n77 377] 0
noncomputable def o90:=oN n73 n78 (inClass (top 22) 0)
noncomputable def o91:=oE n73 n78 373 102 2 149 378
noncomputable def o92:=oG n73 n78 (inClass (top 22) 0) n72 359 154
noncomputable def o93:=oN n74 n79 (inClass (top 22) 1)
noncomputable def o94 (P:Params):Obj:=oC y1 n74 381 n79 382 n1 383 105 4 0 0 3 156 true 181 157 .none .none .none (vR 158) 384 105 n1 385
noncomputable def o95:=oG n74 n79 (inClass (top 22) 1) n72 359 159
noncomputable def o96:=oQ y0 [vS n76 390,vS n80 391,vS n81 392] 0
noncomputable def o97:=oN n75 n82 (inClass (top 22) 2)
noncomputable def o98:=oE n75 n82 387 115 3 161 393
noncomputable def o99:=oG n75 n82 (inClass (top 22) 2) n72 359 166
noncomputable def GP:=oQ y0 [vS n77 396] 0
noncomputable def GO (P:Params):Obj:=oD y3 [dE P n28 368 (vS n72 359),dE P n31 372 (vI 100 371),dE P n73 380 (vR 155),dE P n74 386 (vR 160),dE P n75 395 (vR 167),dE P n32 397 (vR 168),dE P n83 399 (vR 171),dE P n33 401 (vR 172),dE P n5 402 .none] 4
noncomputable def GN (P:Params):Obj:=⟨(.type y9),none,(.cls ⟨n54,[(.type y12)],[vR 170,(.type y12)],169,n54,true,[],[],false,none,false⟩),⟨[none,none,(some (vS n54 361)),(some (vS n54 369)),(some (.builtin y18)),(some (.bool true))]⟩⟩
noncomputable def GL:=oF y14 [vS n83 398,vR 170,(.builtin y19),(.builtin y20)]
noncomputable def GK:=oF y14 [vS n33 400,vR 170,(.builtin y15),.none]
noncomputable def JF:=oF y16 [vR 170,vR 170,vR 170]
noncomputable def JE:=oF y7 [(.builtin y17),vR 170]
noncomputable def JD:=oQ y0 [vS n77 408] 0
noncomputable def JC:=oN n55 n55 (top 23)
noncomputable def GJ:=oE n55 n55 405 117 1 175 409
noncomputable def GI:=oG n55 n55 (top 23) n72 359 180
noncomputable def JB:=oQ y0 [vS n84 415,vS n74 416,vS n85 417] 0
noncomputable def JA:=oN n56 n56 (top 24)
noncomputable def GH:=oE n56 n56 412 119 1 182 418
noncomputable def GG:=oG n56 n56 (top 24) n72 359 187
noncomputable def Jz:=oN n57 n57 (top 25)
noncomputable def GF (P:Params):Obj:=oC y1 n57 421 n57 422 n1 423 126 3 0 0 3 189 true 181 190 .none .none .none (vR 191) 424 126 n1 425
noncomputable def GD:=oG n57 n57 (top 25) n72 359 192
noncomputable def Jy:=oN n58 n58 (top 26)
noncomputable def GC (P:Params):Obj:=oC y1 n58 427 n58 428 n1 429 131 3 0 0 3 194 true 181 195 .none .none .none (vR 196) 430 131 n1 431
noncomputable def GB:=oG n58 n58 (top 26) n72 359 197
noncomputable def Jx:=oQ y0 [vS n86 436,vS n85 437,vS n87 438,vS n40 439,vS n88 440] 0
noncomputable def Jw:=oN n59 n59 (top 27)
noncomputable def GA:=oE n59 n59 433 134 2 199 441
noncomputable def Gz:=oG n59 n59 (top 27) n72 359 204
noncomputable def Jv:=oN n60 n60 (top 28)
noncomputable def Gy (P:Params):Obj:=oC y1 n60 444 n60 445 n1 446 142 3 0 0 3 206 true 181 207 .none .none .none (vR 208) 447 142 n1 448
noncomputable def Gx:=oG n60 n60 (top 28) n72 359 209
noncomputable def Ju:=oQ y0 [vS n86 453,vS n89 454,vS n85 455,vS n40 456,vS n90 457,vS n88 458,vS n91 459] 0
noncomputable def Jt:=oN n61 n61 (top 29)
noncomputable def Gw:=oE n61 n61 450 153 3 211 460
noncomputable def Gv:=oG n61 n61 (top 29) n72 359 216
noncomputable def Js:=oQ y0 [vS n92 468] 0
noncomputable def Jr:=oN n62 n62 (top 31)
noncomputable def Gu:=oE n62 n62 465 163 1 218 469
noncomputable def Gs:=oG n62 n62 (top 31) n49 463 223
noncomputable def Jq:=oQ y0 [vS n93 475,vS n94 476,vS n95 477,vS n96 478,vS n97 479] 0
noncomputable def Jp:=oN n63 n63 (top 32)
noncomputable def Gr:=oE n63 n63 472 165 2 225 480
noncomputable def Gq:=oG n63 n63 (top 32) n49 463 230
noncomputable def Jo:=oQ y0 [vS n98 486,vS n99 487] 0
noncomputable def Jn:=oN n64 n64 (top 33)
noncomputable def Gp:=oE n64 n64 483 170 2 232 488
noncomputable def Gn:=oG n64 n64 (top 33) n49 463 237
noncomputable def Jm:=oQ y0 [vS n92 494,vS n99 495,vS n35 496] 0
noncomputable def Jl:=oN n65 n65 (top 34)
noncomputable def Gm:=oE n65 n65 491 172 3 239 497
noncomputable def Gk:=oG n65 n65 (top 34) n49 463 244
noncomputable def Jk:=oN n66 n66 (top 35)
noncomputable def Gj (P:Params):Obj:=oC y1 n66 500 n66 501 n1 502 178 3 0 0 3 246 true 181 247 .none .none .none (vR 248) 503 178 n1 504
noncomputable def Gi:=oG n66 n66 (top 35) n49 463 249
noncomputable def NF (P:Params):Obj:=oD y3 [dE P n3 165 (vS kh 540),dE P n5 166 .none,dE P n6 167 .none,dE P n7 168 (.builtin y4),dE P n8 169 .none,dE P n9 170 (vR 6),dE P n10 171 (vR 4),dE P n11 173 (vS n1 172),dE P n12 174 .none,dE P n13 193 (vR 21),dE P n14 213 (vR 31),dE P n15 229 (vR 44),dE P n16 234 (vR 47),dE P n17 243 (vR 54),dE P n18 255 (vR 61),dE P n19 263 (vR 68),dE P n20 273 (vR 75),dE P n21 281 (vR 82),dE P n22 290 (vR 89),dE P n23 298 (vR 96),dE P n24 308 (vR 103),dE P n25 316 (vR 108),dE P n26 323 (vR 115),dE P n50 332 (vR 122),dE P n51 343 (vR 129),dE P n52 349 (vR 134),dE P n53 358 (vR 141),dE P n54 404 (vR 170),dE P n55 411 (vR 181),dE P n56 420 (vR 188),dE P n57 426 (vR 193),dE P n58 432 (vR 198),dE P n59 443 (vR 205),dE P n60 449 (vR 210),dE P n61 462 (vR 217),dE P n62 471 (vR 224),dE P n63 482 (vR 231),dE P n64 490 (vR 238),dE P n65 499 (vR 245),dE P n66 505 (vR 250),dE P AX 521 (vR 257),dE P AW 531 (vR 264),dE P AV 539 (vR 271),dE P AU 549 (vR 278),dE P AS 557 (vR 285),dE P AR 568 (vR 292),dE P AQ 576 (vR 299),dE P AO 584 (vR 306),dE P AN 592 (vR 313),dE P AM 600 (vR 320),dE P AL 609 (vR 327),dE P AK 620 (vR 334),dE P AJ 639 (vR 341),dE P AI 648 (vR 348),dE P AH 659 (vR 355),dE P AG 669 (vR 362),dE P AF 677 (vR 369),dE P AE 693 (vR 376),dE P AD 706 (vR 383),dE P AB 720 (vR 390),dE P Az 726 (vR 395),dE P Ay 741 (vR 402),dE P Ax 747 (vR 407),dE P Aw 760 (vR 414)] 64
noncomputable def ND:=oR [1,20,5,27,7,40,11,53,19,60,25,67,27,74,31,81,37,88,42,95,44,102,54,107,71,114,73,121,78,128,81,133,95,140,100,147,117,180,119,187,126,192,131,197,134,204,142,209,153,216,163,223,165,230,170,237,172,244,178,249,196,256,207,263,210,270,217,277,223,284,225,291,233,298,235,305,237,312,239,319,241,326,246,333,252,340,277,347,283,354,294,361,306,368,310,375,330,382,349,389,359,394,379,401,395,406,409,413]
noncomputable def LG:=oQ y0 [vS MN 509,vS ML 510,vS n81 511,vS n97 512,vS n99 513,vS n40 514,vS n67 515,vS Oh 516,vS Og 517,vS n94 518] 0
noncomputable def LF:=oN AX AX (top 36)
noncomputable def Jj:=oE AX AX 506 196 5 251 519
noncomputable def Ji:=oG AX AX (top 36) n49 463 256
noncomputable def LD:=oQ y0 [vS MN 525,vS n81 526,vS n99 527,vS n40 528] 0
noncomputable def LC:=oN AW AW (top 37)
noncomputable def Jh:=oE AW AW 522 207 3 258 529
noncomputable def Jg:=oG AW AW (top 37) n49 463 263
noncomputable def LB:=oQ y0 [vS ML 535,vS n40 536] 0
noncomputable def LA:=oN AV AV (top 38)
noncomputable def Jf:=oE AV AV 532 210 2 265 537
noncomputable def Je:=oG AV AV (top 38) n49 463 270
noncomputable def Lz:=oQ y0 [vS JH 545,vS GW 546] 0
noncomputable def Ly:=oN AU AU (top 40)
noncomputable def Jd:=oE AU AU 542 217 2 272 547
noncomputable def Jc:=oG AU AU (top 40) kh 540 277
noncomputable def Lx:=oQ y0 [vS JH 553,vS GW 554] 0
noncomputable def Lu:=oN AS AS (top 41)
noncomputable def Jb:=oE AS AS 550 223 2 279 555
noncomputable def Ja:=oG AS AS (top 41) kh 540 284
noncomputable def Ls:=oQ y0 [vS Of 561,vS Oe 562,vS Dk 563,vS Dj 564,vS Od 565] 0
noncomputable def Lr:=oN AR AR (top 42)
noncomputable def I9:=oE AR AR 558 225 2 286 566
noncomputable def I0:=oG AR AR (top 42) kh 540 291
noncomputable def Lq:=oQ y0 [vS Dk 572,vS Dj 573] 0
noncomputable def Lp:=oN AQ AQ (top 43)
noncomputable def IZ:=oE AQ AQ 569 233 2 293 574
noncomputable def IY:=oG AQ AQ (top 43) kh 540 298
noncomputable def Lo:=oQ y0 [vS Dk 580,vS Dj 581] 0
noncomputable def Ll:=oN AO AO (top 44)
noncomputable def IX:=oE AO AO 577 235 2 300 582
noncomputable def IW:=oG AO AO (top 44) kh 540 305
noncomputable def Lk:=oQ y0 [vS Dk 588,vS Dj 589] 0
noncomputable def Lj:=oN AN AN (top 45)
noncomputable def IV:=oE AN AN 585 237 2 307 590
noncomputable def IU:=oG AN AN (top 45) kh 540 312
noncomputable def Li:=oQ y0 [vS Dk 596,vS Dj 597] 0
noncomputable def Lh:=oN AM AM (top 46)
noncomputable def IT:=oE AM AM 593 239 2 314 598
noncomputable def IS:=oG AM AM (top 46) kh 540 319
noncomputable def Le:=oQ y0 [vS Oc 604,vS MK 605,vS Dk 606] 0
noncomputable def Ld:=oN AL AL (top 47)
noncomputable def IQ:=oE AL AL 601 241 1 321 607
noncomputable def IP:=oG AL AL (top 47) kh 540 326
noncomputable def Lc:=oQ y0 [vS JH 613,vS GW 614,vS MJ 615,vS Ob 616,vS MI 617] 0
noncomputable def Lb:=oN AK AK (top 48)
noncomputable def IM:=oE AK AK 610 246 3 328 618
noncomputable def IL:=oG AK AK (top 48) kh 540 333
noncomputable def La:=oQ y0 [vS JH 624,vS GW 625,vS MJ 626,vS Oa 627,vS MI 628,vS N9 629,vS N8 630,vS MH 631,vS N7 632,vS N6 633,vS N5 634,vS N4 635,vS Dj 636] 0
noncomputable def K9:=oN AJ AJ (top 49)
noncomputable def IK:=oE AJ AJ 621 252 4 335 637
noncomputable def IJ:=oG AJ AJ (top 49) kh 540 340
noncomputable def K8:=oQ y0 [vS N3 643,vS JG 644,vS Dj 645] 0
noncomputable def K7:=oN AI AI (top 50)
noncomputable def II:=oE AI AI 640 277 3 342 646
noncomputable def IH:=oG AI AI (top 50) kh 540 347
noncomputable def K6:=oQ y0 [vS N2 652,vS JG 653,vS N1 654,vS N0 655,vS NZ 656] 0
noncomputable def K5:=oN AH AH (top 51)
noncomputable def IG:=oE AH AH 649 283 2 349 657
noncomputable def IF:=oG AH AH (top 51) kh 540 354
noncomputable def K4:=oQ y0 [vS MK 663,vS LP 664,vS Dk 665,vS NY 666] 0
noncomputable def K3:=oN AG AG (top 52)
noncomputable def IE:=oE AG AG 660 294 2 356 667
noncomputable def ID:=oG AG AG (top 52) kh 540 361
noncomputable def K2:=oQ y0 [vS LO 673,vS GV 674] 0
noncomputable def K1:=oN AF AF (top 53)
noncomputable def IC:=oE AF AF 670 306 2 363 675
noncomputable def IB:=oG AF AF (top 53) kh 540 368
noncomputable def K0:=oQ y0 [vS LO 681,vS GV 682,vS JG 683,vS NX 684,vS NW 685,vS LN 686,vS LP 687,vS MG 688,vS NV 689,vS MF 690] 0
noncomputable def KZ:=oN AE AE (top 54)
noncomputable def IA:=oE AE AE 678 310 3 370 691
noncomputable def Iz:=oG AE AE (top 54) kh 540 375
noncomputable def KY:=oQ y0 [vS MF 697,vS ME 698,vS LO 699,vS GV 700,vS JG 701,vS LN 702,vS LP 703] 0
noncomputable def KW:=oN AD AD (top 55)
noncomputable def Iy:=oE AD AD 694 330 5 377 704
noncomputable def Iw:=oG AD AD (top 55) kh 540 382
noncomputable def KU:=oQ y0 [vS NU 710,vS MD 711,vS NT 712,vS NS 713,vS NR 714,vS NQ 715,vS MH 716,vS NP 717] 0
noncomputable def KS:=oN AB AB (top 56)
noncomputable def Iv:=oE AB AB 707 349 3 384 718
noncomputable def Iu:=oG AB AB (top 56) kh 540 389
noncomputable def KR:=oN Az Az (top 57)
noncomputable def Ir (P:Params):Obj:=oC y1 Az 721 Az 722 n1 723 359 3 0 0 3 391 true 181 392 .none .none .none (vR 393) 724 359 n1 725
noncomputable def Iq:=oG Az Az (top 57) kh 540 394
noncomputable def KQ:=oQ y0 [vS NO 730,vS MD 731,vS MC 732,vS NN 733,vS GV 734,vS NM 735,vS MG 736,vS LN 737,vS GW 738] 0
noncomputable def KP:=oN Ay Ay (top 58)
noncomputable def Ip:=oE Ay Ay 727 379 6 396 739
noncomputable def Io:=oG Ay Ay (top 58) kh 540 401
noncomputable def KO:=oN Ax Ax (top 59)
noncomputable def Im (P:Params):Obj:=oC y1 Ax 742 Ax 743 n1 744 395 7 0 0 3 403 true 181 404 .none .none .none (vR 405) 745 395 n1 746
noncomputable def Il:=oG Ax Ax (top 59) kh 540 406
noncomputable def KN:=oQ y0 [vS NL 751,vS GV 752,vS NK 753,vS ME 754,vS MC 755,vS NJ 756,vS NI 757] 0
noncomputable def KL:=oN Aw Aw (top 60)
noncomputable def Ik:=oE Aw Aw 748 409 5 408 758
noncomputable def Ij:=oG Aw Aw (top 60) kh 540 413
noncomputable def KJ (P:Params):Obj:=oD y3 [dE P n3 165 (vS kh 540),dE P n5 166 .none,dE P n6 167 .none,dE P n7 168 (.builtin y4),dE P n8 169 .none,dE P n9 170 (vR 6),dE P n10 171 (vR 4),dE P n11 173 (vS n1 172),dE P n12 174 .none,dE P n13 193 (vR 21),dE P n14 213 (vR 31),dE P n15 229 (vR 44),dE P n16 234 (vR 47),dE P n17 243 (vR 54),dE P n18 255 (vR 61),dE P n19 263 (vR 68),dE P n20 273 (vR 75),dE P n21 281 (vR 82),dE P n22 290 (vR 89),dE P n23 298 (vR 96),dE P n24 308 (vR 103),dE P n25 316 (vR 108),dE P n26 323 (vR 115),dE P n50 332 (vR 122),dE P n51 343 (vR 129),dE P n52 349 (vR 134),dE P n53 358 (vR 141),dE P n54 404 (vR 170),dE P n55 411 (vR 181),dE P n56 420 (vR 188),dE P n57 426 (vR 193),dE P n58 432 (vR 198),dE P n59 443 (vR 205),dE P n60 449 (vR 210),dE P n61 462 (vR 217),dE P n62 471 (vR 224),dE P n63 482 (vR 231),dE P n64 490 (vR 238),dE P n65 499 (vR 245),dE P n66 505 (vR 250),dE P AX 521 (vR 257),dE P AW 531 (vR 264),dE P AV 539 (vR 271),dE P AU 549 (vR 278),dE P AS 557 (vR 285),dE P AR 568 (vR 292),dE P AQ 576 (vR 299),dE P AO 584 (vR 306),dE P AN 592 (vR 313),dE P AM 600 (vR 320),dE P AL 609 (vR 327),dE P AK 620 (vR 334),dE P AJ 639 (vR 341),dE P AI 648 (vR 348),dE P AH 659 (vR 355),dE P AG 669 (vR 362),dE P AF 677 (vR 369),dE P AE 693 (vR 376),dE P AD 706 (vR 383),dE P AB 720 (vR 390),dE P Az 726 (vR 395),dE P Ay 741 (vR 402),dE P Ax 747 (vR 407),dE P Aw 760 (vR 414),dE P Di 766 (vR 419)] 65
noncomputable def MB:=oR [1,20,5,27,7,40,11,53,19,60,25,67,27,74,31,81,37,88,42,95,44,102,54,107,71,114,73,121,78,128,81,133,95,140,100,147,117,180,119,187,126,192,131,197,134,204,142,209,153,216,163,223,165,230,170,237,172,244,178,249,196,256,207,263,210,270,217,277,223,284,225,291,233,298,235,305,237,312,239,319,241,326,246,333,252,340,277,347,283,354,294,361,306,368,310,375,330,382,349,389,359,394,379,401,395,406,409,413,419,418]
noncomputable def MA:=oN Di Di (top 61)
noncomputable def KI (P:Params):Obj:=oC y1 Di 761 Di 762 n1 763 419 1 0 0 3 415 true 181 416 .none .none .none (vR 417) 764 419 n1 765
noncomputable def KH:=oG Di Di (top 61) kh 540 418
noncomputable def lf0:Life:=⟨[],[],[],0,[],[],false,⟨[]⟩,[],0,false,false,false,(.ofNat 0),[(.ofNat 2000),(.ofNat 10),(.ofNat 10)],false,0,true,[],[],0,false⟩
noncomputable def hcd:Value:=(vR 13)
noncomputable def hq:Pos:=⟨0,0,0,0⟩
noncomputable def hE:Env:={ scope:=hp.main.scope,locals:=mainNs,globals:=mainNs,cells:=[],code:=hcd,frame:=some 14 }
noncomputable def hC:Code:=.body (behindTheImports hp) hE
noncomputable def hB:List Frame:=[topFrame hq]
noncomputable def hAn:Option Value:=(some (vR 6))
noncomputable def hA (P:Params):Heap:=⟨⟨(boot_o_0 P::boot_o_1 P::boot_o_2 P::boot_o_3 P::boot_o_4 P::boot_o_5 P::boot_o_6 P::boot_o_7 P::boot_o_8 P::boot_o_9 P::boot_o_10 P::o0 P::o1 P::o2 P::o3 P::[])⟩,lf0⟩
noncomputable def tr1:=(tN boot_o_0 (tN boot_o_1 (tN boot_o_3 (tL boot_o_7) (tL o0)) (tN boot_o_5 (tL boot_o_9) (tL o2))) (tN boot_o_2 (tN boot_o_4 (tL boot_o_8) (tL o1)) (tN boot_o_6 (tL boot_o_10) (tL o3))))
noncomputable def S1 (w:World) (os:OsState):SharedT:=⟨tr1 w.params,15,lf0,⟨[]⟩,⟨0,0,0,0⟩,187,os⟩
noncomputable def tr2:=(tN boot_o_0 (tN boot_o_1 (tN o4 (tN boot_o_7 (tN o0 (tN o16 (tL o1) (tL o55)) (tN o28 (tL o0) (tL o64))) (tN o11 (tN o1 (tL o41) (tL o60)) (tN o0 (tL o50) tZ))) (tN o0 (tN o7 (tN o20 (tL o39) (tL o57)) (tN o0 (tL o0) (tL o67))) (tN o13 (tN o24 (tL o44) (tL o62)) (tN o34 (tL o1) tZ)))) (tN boot_o_5 (tN boot_o_9 (tN o6 (tN o18 (tL o0) (tL o0)) (tN o1 (tL o47) (tL o65))) (tN o0 (tN o23 (tL o42) (tL o1)) (tN o33 (tL o52) tZ))) (tN o2 (tN o9 (tN o21 (tL o0) (tL o58)) (tN o31 (tL o49) tZ)) (tN o0 (tN o26 (tL o1) (tL o0)) (tN o36 (tL o0) tZ))))) (tN boot_o_2 (tN boot_o_4 (tN boot_o_8 (tN o1 (tN o17 (tL o37) (tL o56)) (tN o0 (tL o46) (tL o0))) (tN o12 (tN o22 (tL o0) (tL o0)) (tN o1 (tL o51) tZ))) (tN o5 (tN o8 (tN o11 (tL o40) (tL o0)) (tN o30 (tL o1) tZ)) (tN o14 (tN o25 (tL o0) (tL o63)) (tN o35 (tL o53) tZ)))) (tN boot_o_6 (tN boot_o_10 (tN o0 (tN o19 (tL o38) (tL o1)) (tN o29 (tL o48) (tL o66))) (tN o1 (tN o0 (tL o43) (tL o61)) (tN o0 (tL o0) tZ))) (tN o3 (tN o10 (tN o0 (tL o1) (tL o59)) (tN o32 (tL o0) tZ)) (tN o15 (tN o27 (tL o45) (tL o1)) (tN o0 (tL o54) tZ))))))
noncomputable def S2 (w:World) (os:OsState):SharedT:=⟨tr2 w.params,116,lf0,⟨[]⟩,⟨0,0,0,0⟩,324,os⟩
noncomputable def tr3:=(tN boot_o_0 (tN boot_o_1 (tN o68 (tN boot_o_7 (tN o0 (tN o16 (tN o1 (tL o75) (tL Jz)) (tN o55 (tL o94) (tL Gu))) (tN o28 (tN o0 (tL o11) (tL o1)) (tN o64 (tL o0) (tL o0)))) (tN o11 (tN o1 (tN o41 (tL o0) (tL o0)) (tN o60 (tL o99) (tL Gq))) (tN o0 (tN o50 (tL o89) (tL Jt)) (tN o0 (tL o1) (tL o1))))) (tN o0 (tN o7 (tN o20 (tN o39 (tL o1) (tL o1)) (tN o57 (tL o96) (tL Jq))) (tN o0 (tN o0 (tL o87) (tL o0)) (tN o67 (tL JC) (tL Jl)))) (tN o13 (tN o24 (tN o44 (tL o82) (tL Jw)) (tN o62 (tL GL) (tL o0))) (tN o34 (tN o1 (tL o92) (tL o1)) (tN o0 (tL GH) tZ))))) (tN boot_o_5 (tN boot_o_9 (tN o6 (tN o18 (tN o0 (tL o77) (tL GD)) (tN o0 (tL o0) (tL o0))) (tN o1 (tN o47 (tL o0) (tL Gy)) (tN o65 (tL JD) (tL Jm)))) (tN o0 (tN o23 (tN o42 (tL o81) (tL Jx)) (tN o1 (tL GO) (tL o1))) (tN o33 (tN o52 (tL o90) (tL Gv)) (tN o72 (tL o0) (tL Gj))))) (tN o2 (tN o9 (tN o21 (tN o0 (tL o79) (tL GC)) (tN o58 (tL o97) (tL Jp))) (tN o31 (tN o49 (tL o0) (tL Ju)) (tN o1 (tL GI) (tL Gk)))) (tN o0 (tN o26 (tN o1 (tL o84) (tL Gz)) (tN o0 (tL JF) (tL Gp))) (tN o36 (tN o0 (tL o1) (tL o0)) (tN o74 (tL o0) tZ)))))) (tN boot_o_2 (tN boot_o_4 (tN boot_o_8 (tN o1 (tN o17 (tN o37 (tL o76) (tL GF)) (tN o56 (tL o95) (tL Gs))) (tN o0 (tN o46 (tL o85) (tL Jv)) (tN o0 (tL o1) (tL o1)))) (tN o12 (tN o22 (tN o0 (tL o1) (tL o1)) (tN o0 (tL GP) (tL o0))) (tN o1 (tN o51 (tL o0) (tL Gw)) (tN o71 (tL JB) (tL Jk))))) (tN o69 (tN o8 (tN o11 (tN o40 (tL o78) (tL Jy)) (tN o0 (tL o0) (tL o0))) (tN o30 (tN o1 (tL o88) (tL o1)) (tN o0 (tL GJ) (tL Gm)))) (tN o14 (tN o25 (tN o0 (tL o83) (tL GA)) (tN o63 (tL GK) (tL Jn))) (tN o35 (tN o53 (tL o0) (tL Js)) (tN o1 (tL GG) tZ))))) (tN boot_o_6 (tN boot_o_10 (tN o0 (tN o19 (tN o38 (tL o0) (tL o0)) (tN o1 (tL o1) (tL o1))) (tN o29 (tN o48 (tL o86) (tL Gx)) (tN o66 (tL o0) (tL o0)))) (tN o1 (tN o0 (tN o43 (tL o0) (tL o0)) (tN o61 (tL GN) (tL Jo))) (tN o0 (tN o0 (tL o91) (tL o0)) (tN o73 (tL JA) (tL Gi))))) (tN o3 (tN o10 (tN o0 (tN o1 (tL o80) (tL GB)) (tN o59 (tL o98) (tL Gr))) (tN o32 (tN o0 (tL o1) (tL o0)) (tN o70 (tL o0) (tL o0)))) (tN o15 (tN o27 (tN o45 (tL o0) (tL o0)) (tN o1 (tL JE) (tL Gn))) (tN o0 (tN o54 (tL o93) (tL Jr)) (tN o0 (tL o1) tZ)))))))
noncomputable def S3 (w:World) (os:OsState):SharedT:=⟨tr3 w.params,251,lf0,⟨[]⟩,⟨0,0,0,0⟩,506,os⟩
noncomputable def tr4:=(tN boot_o_0 (tN boot_o_1 (tN NF (tN boot_o_7 (tN o0 (tN o16 (tN o1 (tN o75 (tL LF) (tL Iw)) (tN Jz (tL IT) tZ)) (tN o55 (tN o94 (tL o1) tZ) (tN Gu (tL K6) tZ))) (tN o28 (tN o0 (tN o11 (tL Je) (tL o0)) (tN o1 (tL o0) tZ)) (tN o64 (tN o0 (tL o0) tZ) (tN o0 (tL K1) tZ)))) (tN o11 (tN o1 (tN o41 (tN o0 (tL Jh) (tL o0)) (tN o0 (tL IP) tZ)) (tN o60 (tN o99 (tL Lq) tZ) (tN Gq (tL o0) tZ))) (tN o0 (tN o50 (tN o89 (tL o0) (tL Il)) (tN Jt (tL o1) tZ)) (tN o0 (tN o1 (tL Lj) tZ) (tN o1 (tL IA) tZ))))) (tN o0 (tN o7 (tN o20 (tN o39 (tN o1 (tL o1) (tL o0)) (tN o1 (tL Le) tZ)) (tN o57 (tN o96 (tL I9) tZ) (tN Jq (tL IF) tZ))) (tN o0 (tN o0 (tN o87 (tL o0) (tL o0)) (tN o0 (tL K9) tZ)) (tN o67 (tN JC (tL o0) tZ) (tN Jl (tL o1) tZ)))) (tN o13 (tN o24 (tN o44 (tN o82 (tL LB) (tL Iq)) (tN Jw (tL o0) tZ)) (tN o62 (tN GL (tL IY) tZ) (tN o0 (tL o0) tZ))) (tN o34 (tN o1 (tN o92 (tL Lu) (tL o0)) (tN o1 (tL II) tZ)) (tN o0 (tN GH (tL o1) tZ) (tN o0 (tL KY) tZ)))))) (tN boot_o_5 (tN boot_o_9 (tN o6 (tN o18 (tN o0 (tN o77 (tL Ji) (tL o1)) (tN GD (tL o0) tZ)) (tN o0 (tN o0 (tL o0) tZ) (tN o0 (tL K5) tZ))) (tN o1 (tN o47 (tN o0 (tL o1) (tL Ip)) (tN Gy (tL La) tZ)) (tN o65 (tN JD (tL IX) tZ) (tN Jm (tL IB) tZ)))) (tN o0 (tN o23 (tN o42 (tN o81 (tL o0) (tL KR)) (tN Jx (tL o1) tZ)) (tN o1 (tN GO (tL Lp) tZ) (tN o1 (tL IE) tZ))) (tN o33 (tN o52 (tN o90 (tL Lx) (tL o1)) (tN Gv (tL o0) tZ)) (tN o72 (tN o0 (tL IU) tZ) (tN Gj (tL o0) tZ))))) (tN o2 (tN o9 (tN o21 (tN o0 (tN o79 (tL o0) (tL Iv)) (tN GC (tL Ld) tZ)) (tN o58 (tN o97 (tL o0) tZ) (tN Jp (tL o1) tZ))) (tN o31 (tN o49 (tN o0 (tL Jd) (tL KO)) (tN Ju (tL IJ) tZ)) (tN o1 (tN GI (tL Lk) tZ) (tN Gk (tL o0) tZ)))) (tN o0 (tN o26 (tN o1 (tN o84 (tL LA) (tL o1)) (tN Gz (tL IM) tZ)) (tN o0 (tN JF (tL o1) tZ) (tN Gp (tL K2) tZ))) (tN o36 (tN o0 (tN o1 (tL Ja) (tL Ik)) (tN o0 (tL o0) tZ)) (tN o74 (tN o0 (tL o0) tZ) (tN LG (tL KW) tZ))))))) (tN boot_o_2 (tN boot_o_4 (tN boot_o_8 (tN o1 (tN o17 (tN o37 (tN o76 (tL Jj) (tL o0)) (tN GF (tL IS) tZ)) (tN o56 (tN o95 (tL Ls) tZ) (tN Gs (tL o0) tZ))) (tN o0 (tN o46 (tN o85 (tL o0) (tL KP)) (tN Jv (tL o1) tZ)) (tN o0 (tN o1 (tL Ll) tZ) (tN o1 (tL IC) tZ)))) (tN o12 (tN o22 (tN o0 (tN o1 (tL Jg) (tL o1)) (tN o1 (tL o0) tZ)) (tN o0 (tN GP (tL o0) tZ) (tN o0 (tL K3) tZ))) (tN o1 (tN o51 (tN o0 (tL o1) (tL o0)) (tN Gw (tL K8) tZ)) (tN o71 (tN JB (tL IV) tZ) (tN Jk (tL Iz) tZ))))) (tN ND (tN o8 (tN o11 (tN o40 (tN o78 (tL LD) (tL KS)) (tN Jy (tL o0) tZ)) (tN o0 (tN o0 (tL I0) tZ) (tN o0 (tL o0) tZ))) (tN o30 (tN o1 (tN o88 (tL Ly) (tL o1)) (tN o1 (tL IK) tZ)) (tN o0 (tN GJ (tL o1) tZ) (tN Gm (tL K0) tZ)))) (tN o14 (tN o25 (tN o0 (tN o83 (tL o0) (tL o0)) (tN GA (tL Lb) tZ)) (tN o63 (tN GK (tL o0) tZ) (tN Jn (tL o1) tZ))) (tN o35 (tN o53 (tN o0 (tL Jb) (tL KL)) (tN Js (tL IH) tZ)) (tN o1 (tN GG (tL Li) tZ) (tN o1 (tL o0) tZ)))))) (tN boot_o_6 (tN boot_o_10 (tN o0 (tN o19 (tN o38 (tN o0 (tL o0) (tL KU)) (tN o0 (tL o1) tZ)) (tN o1 (tN o1 (tL Lr) tZ) (tN o1 (tL IG) tZ))) (tN o29 (tN o48 (tN o86 (tL Lz) (tL Io)) (tN Gx (tL o0) tZ)) (tN o66 (tN o0 (tL IW) tZ) (tN o0 (tL o0) tZ)))) (tN o1 (tN o0 (tN o43 (tN o0 (tL o1) (tL Ir)) (tN o0 (tL Lc) tZ)) (tN o61 (tN GN (tL IZ) tZ) (tN Jo (tL ID) tZ))) (tN o0 (tN o0 (tN o91 (tL o0) (tL KN)) (tN o0 (tL K7) tZ)) (tN o73 (tN JA (tL o0) tZ) (tN Gi (tL o1) tZ))))) (tN o3 (tN o10 (tN o0 (tN o1 (tN o80 (tL LC) (tL Iu)) (tN GB (tL IQ) tZ)) (tN o59 (tN o98 (tL o1) tZ) (tN Gr (tL K4) tZ))) (tN o32 (tN o0 (tN o1 (tL Jc) (tL Im)) (tN o0 (tL o0) tZ)) (tN o70 (tN o0 (tL o0) tZ) (tN o0 (tL KZ) tZ)))) (tN o15 (tN o27 (tN o45 (tN o0 (tL Jf) (tL KQ)) (tN o0 (tL IL) tZ)) (tN o1 (tN JE (tL Lo) tZ) (tN Gn (tL o0) tZ))) (tN o0 (tN o54 (tN o93 (tL o0) (tL Ij)) (tN Jr (tL o1) tZ)) (tN o0 (tN o1 (tL Lh) tZ) (tN o0 (tL Iy) tZ))))))))
noncomputable def S4 (w:World) (os:OsState):SharedT:=⟨tr4 w.params,415,lf0,⟨[]⟩,⟨0,0,0,0⟩,761,os⟩
noncomputable def tr5:=(tN boot_o_0 (tN boot_o_1 (tN KJ (tN boot_o_7 (tN o0 (tN o16 (tN o1 (tN o75 (tL LF) (tL Iw)) (tN Jz (tL IT) tZ)) (tN o55 (tN o94 (tL o1) (tL o0)) (tN Gu (tL K6) tZ))) (tN o28 (tN o0 (tN o11 (tL Je) (tL o0)) (tN o1 (tL o0) tZ)) (tN o64 (tN o0 (tL o0) tZ) (tN o0 (tL K1) tZ)))) (tN o11 (tN o1 (tN o41 (tN o0 (tL Jh) (tL o0)) (tN o0 (tL IP) tZ)) (tN o60 (tN o99 (tL Lq) tZ) (tN Gq (tL o0) tZ))) (tN o0 (tN o50 (tN o89 (tL o0) (tL Il)) (tN Jt (tL o1) tZ)) (tN o0 (tN o1 (tL Lj) tZ) (tN o1 (tL IA) tZ))))) (tN o0 (tN o7 (tN o20 (tN o39 (tN o1 (tL o1) (tL o0)) (tN o1 (tL Le) tZ)) (tN o57 (tN o96 (tL I9) (tL KH)) (tN Jq (tL IF) tZ))) (tN o0 (tN o0 (tN o87 (tL o0) (tL o0)) (tN o0 (tL K9) tZ)) (tN o67 (tN JC (tL o0) tZ) (tN Jl (tL o1) tZ)))) (tN o13 (tN o24 (tN o44 (tN o82 (tL LB) (tL Iq)) (tN Jw (tL o0) tZ)) (tN o62 (tN GL (tL IY) tZ) (tN o0 (tL o0) tZ))) (tN o34 (tN o1 (tN o92 (tL Lu) (tL o0)) (tN o1 (tL II) tZ)) (tN o0 (tN GH (tL o1) tZ) (tN o0 (tL KY) tZ)))))) (tN boot_o_5 (tN boot_o_9 (tN o6 (tN o18 (tN o0 (tN o77 (tL Ji) (tL o1)) (tN GD (tL o0) tZ)) (tN o0 (tN o0 (tL o0) (tL MA)) (tN o0 (tL K5) tZ))) (tN o1 (tN o47 (tN o0 (tL o1) (tL Ip)) (tN Gy (tL La) tZ)) (tN o65 (tN JD (tL IX) tZ) (tN Jm (tL IB) tZ)))) (tN o0 (tN o23 (tN o42 (tN o81 (tL o0) (tL KR)) (tN Jx (tL o1) tZ)) (tN o1 (tN GO (tL Lp) tZ) (tN o1 (tL IE) tZ))) (tN o33 (tN o52 (tN o90 (tL Lx) (tL o1)) (tN Gv (tL o0) tZ)) (tN o72 (tN o0 (tL IU) tZ) (tN Gj (tL o0) tZ))))) (tN o2 (tN o9 (tN o21 (tN o0 (tN o79 (tL o0) (tL Iv)) (tN GC (tL Ld) tZ)) (tN o58 (tN o97 (tL o0) tZ) (tN Jp (tL o1) tZ))) (tN o31 (tN o49 (tN o0 (tL Jd) (tL KO)) (tN Ju (tL IJ) tZ)) (tN o1 (tN GI (tL Lk) tZ) (tN Gk (tL o0) tZ)))) (tN o0 (tN o26 (tN o1 (tN o84 (tL LA) (tL o1)) (tN Gz (tL IM) tZ)) (tN o0 (tN JF (tL o1) tZ) (tN Gp (tL K2) tZ))) (tN o36 (tN o0 (tN o1 (tL Ja) (tL Ik)) (tN o0 (tL o0) tZ)) (tN o74 (tN o0 (tL o0) tZ) (tN LG (tL KW) tZ))))))) (tN boot_o_2 (tN boot_o_4 (tN boot_o_8 (tN o1 (tN o17 (tN o37 (tN o76 (tL Jj) (tL o0)) (tN GF (tL IS) tZ)) (tN o56 (tN o95 (tL Ls) (tL o1)) (tN Gs (tL o0) tZ))) (tN o0 (tN o46 (tN o85 (tL o0) (tL KP)) (tN Jv (tL o1) tZ)) (tN o0 (tN o1 (tL Ll) tZ) (tN o1 (tL IC) tZ)))) (tN o12 (tN o22 (tN o0 (tN o1 (tL Jg) (tL o1)) (tN o1 (tL o0) tZ)) (tN o0 (tN GP (tL o0) tZ) (tN o0 (tL K3) tZ))) (tN o1 (tN o51 (tN o0 (tL o1) (tL o0)) (tN Gw (tL K8) tZ)) (tN o71 (tN JB (tL IV) tZ) (tN Jk (tL Iz) tZ))))) (tN MB (tN o8 (tN o11 (tN o40 (tN o78 (tL LD) (tL KS)) (tN Jy (tL o0) tZ)) (tN o0 (tN o0 (tL I0) tZ) (tN o0 (tL o0) tZ))) (tN o30 (tN o1 (tN o88 (tL Ly) (tL o1)) (tN o1 (tL IK) tZ)) (tN o0 (tN GJ (tL o1) tZ) (tN Gm (tL K0) tZ)))) (tN o14 (tN o25 (tN o0 (tN o83 (tL o0) (tL o0)) (tN GA (tL Lb) tZ)) (tN o63 (tN GK (tL o0) tZ) (tN Jn (tL o1) tZ))) (tN o35 (tN o53 (tN o0 (tL Jb) (tL KL)) (tN Js (tL IH) tZ)) (tN o1 (tN GG (tL Li) tZ) (tN o1 (tL o0) tZ)))))) (tN boot_o_6 (tN boot_o_10 (tN o0 (tN o19 (tN o38 (tN o0 (tL o0) (tL KU)) (tN o0 (tL o1) tZ)) (tN o1 (tN o1 (tL Lr) (tL KI)) (tN o1 (tL IG) tZ))) (tN o29 (tN o48 (tN o86 (tL Lz) (tL Io)) (tN Gx (tL o0) tZ)) (tN o66 (tN o0 (tL IW) tZ) (tN o0 (tL o0) tZ)))) (tN o1 (tN o0 (tN o43 (tN o0 (tL o1) (tL Ir)) (tN o0 (tL Lc) tZ)) (tN o61 (tN GN (tL IZ) tZ) (tN Jo (tL ID) tZ))) (tN o0 (tN o0 (tN o91 (tL o0) (tL KN)) (tN o0 (tL K7) tZ)) (tN o73 (tN JA (tL o0) tZ) (tN Gi (tL o1) tZ))))) (tN o3 (tN o10 (tN o0 (tN o1 (tN o80 (tL LC) (tL Iu)) (tN GB (tL IQ) tZ)) (tN o59 (tN o98 (tL o1) tZ) (tN Gr (tL K4) tZ))) (tN o32 (tN o0 (tN o1 (tL Jc) (tL Im)) (tN o0 (tL o0) tZ)) (tN o70 (tN o0 (tL o0) tZ) (tN o0 (tL KZ) tZ)))) (tN o15 (tN o27 (tN o45 (tN o0 (tL Jf) (tL KQ)) (tN o0 (tL IL) tZ)) (tN o1 (tN JE (tL Lo) tZ) (tN Gn (tL o0) tZ))) (tN o0 (tN o54 (tN o93 (tL o0) (tL Ij)) (tN Jr (tL o1) tZ)) (tN o0 (tN o1 (tL Lh) tZ) (tN o0 (tL Iy) tZ))))))))
noncomputable def S5 (w:World) (os:OsState):SharedT:=⟨tr5 w.params,420,lf0,⟨[]⟩,⟨0,0,0,0⟩,767,os⟩
noncomputable def hF (P:Params):Heap:=⟨⟨(boot_o_0 P::boot_o_1 P::boot_o_2 P::KJ P::boot_o_4 P::boot_o_5 P::boot_o_6 P::boot_o_7 P::boot_o_8 P::boot_o_9 P::boot_o_10 P::o0 P::MB P::o2 P::o3 P::o0 P::o1 P::o6 P::o0 P::o7 P::o8 P::o9 P::o10 P::o11 P::o12 P::o0 P::o1 P::o13 P::o14 P::o0 P::o15 P::o16 P::o17 P::o18 P::o19 P::o20 P::o11 P::o21 P::o0 P::o1 P::o22 P::o23 P::o0 P::o24 P::o25 P::o26 P::o27 P::o28 P::o0 P::o1 P::o29 P::o0 P::o30 P::o31 P::o32 P::o0 P::o1 P::o33 P::o0 P::o34 P::o35 P::o36 P::o0 P::o1 P::o37 P::o0 P::o38 P::o39 P::o40 P::o0 P::o1 P::o41 P::o0 P::o42 P::o43 P::o44 P::o0 P::o1 P::o45 P::o0 P::o46 P::o47 P::o48 P::o0 P::o1 P::o49 P::o0 P::o50 P::o51 P::o52 P::o0 P::o1 P::o53 P::o0 P::o54 P::o55 P::o56 P::o0 P::o1 P::o57 P::o0 P::o58 P::o59 P::o60 P::o0 P::o1 P::o61 P::o62 P::o63 P::o0 P::o1 P::o64 P::o0 P::o65 P::o66 P::o67 P::o0 P::o1 P::o70 P::o0 P::o71 P::o72 P::o73 P::o0 P::o1 P::o74 P::o0 P::o75 P::o76 P::o77 P::o0 P::o1 P::o78 P::o79 P::o80 P::o0 P::o1 P::o81 P::o0 P::o82 P::o83 P::o84 P::o0 P::o11 P::o85 P::o0 P::o86 P::o87 P::o88 P::o0 P::o1 P::o89 P::o0 P::o90 P::o91 P::o92 P::o0 P::o1 P::o93 P::o94 P::o95 P::o0 P::o1 P::o96 P::o0 P::o97 P::o98 P::o99 P::GP P::GO P::GN P::GL P::GK P::JF P::JE P::o0 P::o1 P::JD P::o0 P::JC P::GJ P::GI P::o0 P::o1 P::JB P::o0 P::JA P::GH P::GG P::o0 P::o1 P::Jz P::GF P::GD P::o0 P::o1 P::Jy P::GC P::GB P::o0 P::o1 P::Jx P::o0 P::Jw P::GA P::Gz P::o0 P::o1 P::Jv P::Gy P::Gx P::o0 P::o1 P::Ju P::o0 P::Jt P::Gw P::Gv P::o0 P::o1 P::Js P::o0 P::Jr P::Gu P::Gs P::o0 P::o1 P::Jq P::o0 P::Jp P::Gr P::Gq P::o0 P::o1 P::Jo P::o0 P::Jn P::Gp P::Gn P::o0 P::o1 P::Jm P::o0 P::Jl P::Gm P::Gk P::o0 P::o1 P::Jk P::Gj P::Gi P::o0 P::o1 P::LG P::o0 P::LF P::Jj P::Ji P::o0 P::o1 P::LD P::o0 P::LC P::Jh P::Jg P::o0 P::o1 P::LB P::o0 P::LA P::Jf P::Je P::o0 P::o1 P::Lz P::o0 P::Ly P::Jd P::Jc P::o0 P::o1 P::Lx P::o0 P::Lu P::Jb P::Ja P::o0 P::o1 P::Ls P::o0 P::Lr P::I9 P::I0 P::o0 P::o1 P::Lq P::o0 P::Lp P::IZ P::IY P::o0 P::o1 P::Lo P::o0 P::Ll P::IX P::IW P::o0 P::o1 P::Lk P::o0 P::Lj P::IV P::IU P::o0 P::o1 P::Li P::o0 P::Lh P::IT P::IS P::o0 P::o1 P::Le P::o0 P::Ld P::IQ P::IP P::o0 P::o1 P::Lc P::o0 P::Lb P::IM P::IL P::o0 P::o1 P::La P::o0 P::K9 P::IK P::IJ P::o0 P::o1 P::K8 P::o0 P::K7 P::II P::IH P::o0 P::o1 P::K6 P::o0 P::K5 P::IG P::IF P::o0 P::o1 P::K4 P::o0 P::K3 P::IE P::ID P::o0 P::o1 P::K2 P::o0 P::K1 P::IC P::IB P::o0 P::o1 P::K0 P::o0 P::KZ P::IA P::Iz P::o0 P::o1 P::KY P::o0 P::KW P::Iy P::Iw P::o0 P::o1 P::KU P::o0 P::KS P::Iv P::Iu P::o0 P::o1 P::KR P::Ir P::Iq P::o0 P::o1 P::KQ P::o0 P::KP P::Ip P::Io P::o0 P::o1 P::KO P::Im P::Il P::o0 P::o1 P::KN P::o0 P::KL P::Ik P::Ij P::o0 P::o1 P::MA P::KI P::KH P::[])⟩,lf0⟩
noncomputable def SA (w:World) (os:OsState):Shared:=⟨hA w.params,⟨[]⟩,⟨0,0,0,0⟩,187,os⟩
noncomputable def SF (w:World) (os:OsState):Shared:=⟨hF w.params,⟨[]⟩,⟨0,0,0,0⟩,767,os⟩
noncomputable def S0 (w:World) (os:OsState):Shared:=⟨boot_heap w.params,⟨[]⟩,boot_drawn,boot_toks,os⟩
noncomputable def Nl:List Stmt:=[top 0,top 1,top 2,top 3,top 4,top 5,top 6,top 7,top 8,top 9,top 10,top 11,top 12,top 13,top 14,top 15,top 16]
noncomputable def Nk:List Stmt:=[top 17,top 18,top 19,top 20,top 21,top 22,top 23,top 24,top 25,top 26,top 27,top 28,top 29,top 30,top 31,top 32,top 33,top 34,top 35]
noncomputable def Nj:List Stmt:=[top 36,top 37,top 38,top 39,top 40,top 41,top 42,top 43,top 44,top 45,top 46,top 47,top 48,top 49,top 50,top 51,top 52,top 53,top 54,top 55,top 56,top 57,top 58,top 59,top 60]
noncomputable def Ni:List Stmt:=[top 61]
noncomputable def hV:Program:={ hp with main:={ hp.main with body:=[top 0,top 2,top 3,top 5,top 6,top 7,top 8,top 9,top 10,top 11,top 12,top 13,top 15,top 16,top 17,top 18,top 19,top 20,top 22,top 23,top 24,top 25,top 26,top 27,top 28,top 29,top 31,top 32,top 33,top 34,top 35,top 36,top 37,top 38,top 40,top 41,top 42,top 43,top 44,top 45,top 46,top 47,top 48,top 49,top 50,top 51,top 52,top 53,top 54,top 55,top 56,top 57,top 58,top 59,top 60,top 61] } }
noncomputable def hAs:List Addr:=nat_lit 0::nat_lit 1::nat_lit 2::nat_lit 3::nat_lit 4::nat_lit 5::nat_lit 6::nat_lit 7::nat_lit 8::nat_lit 9::nat_lit 10::nat_lit 13::nat_lit 14::nat_lit 20::nat_lit 21::nat_lit 29::nat_lit 30::nat_lit 31::nat_lit 32::nat_lit 42::nat_lit 43::nat_lit 44::nat_lit 47::nat_lit 53::nat_lit 54::nat_lit 60::nat_lit 61::nat_lit 67::nat_lit 68::nat_lit 74::nat_lit 75::nat_lit 81::nat_lit 82::nat_lit 88::nat_lit 89::nat_lit 95::nat_lit 96::nat_lit 102::nat_lit 103::nat_lit 107::nat_lit 108::nat_lit 114::nat_lit 115::nat_lit 121::nat_lit 122::nat_lit 128::nat_lit 129::nat_lit 133::nat_lit 134::nat_lit 140::nat_lit 141::nat_lit 154::nat_lit 155::nat_lit 159::nat_lit 160::nat_lit 166::nat_lit 167::nat_lit 168::nat_lit 169::nat_lit 170::nat_lit 171::nat_lit 172::nat_lit 180::nat_lit 181::nat_lit 187::nat_lit 188::nat_lit 192::nat_lit 193::nat_lit 197::nat_lit 198::nat_lit 204::nat_lit 205::nat_lit 209::nat_lit 210::nat_lit 216::nat_lit 217::nat_lit 223::nat_lit 224::nat_lit 230::nat_lit 231::nat_lit 237::nat_lit 238::nat_lit 244::nat_lit 245::nat_lit 249::nat_lit 250::nat_lit 256::nat_lit 257::nat_lit 263::nat_lit 264::nat_lit 270::nat_lit 271::nat_lit 277::nat_lit 278::nat_lit 284::nat_lit 285::nat_lit 291::nat_lit 292::nat_lit 298::nat_lit 299::nat_lit 305::nat_lit 306::nat_lit 312::nat_lit 313::nat_lit 319::nat_lit 320::nat_lit 326::nat_lit 327::nat_lit 333::nat_lit 334::nat_lit 340::nat_lit 341::nat_lit 347::nat_lit 348::nat_lit 354::nat_lit 355::nat_lit 361::nat_lit 362::nat_lit 368::nat_lit 369::nat_lit 375::nat_lit 376::nat_lit 382::nat_lit 383::nat_lit 389::nat_lit 390::nat_lit 394::nat_lit 395::nat_lit 401::nat_lit 402::nat_lit 406::nat_lit 407::nat_lit 413::nat_lit 414::nat_lit 418::nat_lit 419::[]
noncomputable def hK:Params->W.Frag:=λ P=>((nat_lit 0,boot_o_0 P)::(nat_lit 1,boot_o_1 P)::(nat_lit 2,boot_o_2 P)::(nat_lit 3,KJ P)::(nat_lit 4,boot_o_4 P)::(nat_lit 5,boot_o_5 P)::(nat_lit 6,boot_o_6 P)::(nat_lit 7,boot_o_7 P)::(nat_lit 8,boot_o_8 P)::(nat_lit 9,boot_o_9 P)::(nat_lit 10,boot_o_10 P)::(nat_lit 13,o2 P)::(nat_lit 14,o3 P)::(nat_lit 20,o8 P)::(nat_lit 21,o9 P)::(nat_lit 29,o0 P)::(nat_lit 30,o15 P)::(nat_lit 31,o16 P)::(nat_lit 32,o17 P)::(nat_lit 42,o0 P)::(nat_lit 43,o24 P)::(nat_lit 44,o25 P)::(nat_lit 47,o28 P)::(nat_lit 53,o31 P)::(nat_lit 54,o32 P)::(nat_lit 60,o35 P)::(nat_lit 61,o36 P)::(nat_lit 67,o39 P)::(nat_lit 68,o40 P)::(nat_lit 74,o43 P)::(nat_lit 75,o44 P)::(nat_lit 81,o47 P)::(nat_lit 82,o48 P)::(nat_lit 88,o51 P)::(nat_lit 89,o52 P)::(nat_lit 95,o55 P)::(nat_lit 96,o56 P)::(nat_lit 102,o59 P)::(nat_lit 103,o60 P)::(nat_lit 107,o62 P)::(nat_lit 108,o63 P)::(nat_lit 114,o66 P)::(nat_lit 115,o67 P)::(nat_lit 121,o72 P)::(nat_lit 122,o73 P)::(nat_lit 128,o76 P)::(nat_lit 129,o77 P)::(nat_lit 133,o79 P)::(nat_lit 134,o80 P)::(nat_lit 140,o83 P)::(nat_lit 141,o84 P)::(nat_lit 154,o91 P)::(nat_lit 155,o92 P)::(nat_lit 159,o94 P)::(nat_lit 160,o95 P)::(nat_lit 166,o98 P)::(nat_lit 167,o99 P)::(nat_lit 168,GP P)::(nat_lit 169,GO P)::(nat_lit 170,GN P)::(nat_lit 171,GL P)::(nat_lit 172,GK P)::(nat_lit 180,GJ P)::(nat_lit 181,GI P)::(nat_lit 187,GH P)::(nat_lit 188,GG P)::(nat_lit 192,GF P)::(nat_lit 193,GD P)::(nat_lit 197,GC P)::(nat_lit 198,GB P)::(nat_lit 204,GA P)::(nat_lit 205,Gz P)::(nat_lit 209,Gy P)::(nat_lit 210,Gx P)::(nat_lit 216,Gw P)::(nat_lit 217,Gv P)::(nat_lit 223,Gu P)::(nat_lit 224,Gs P)::(nat_lit 230,Gr P)::(nat_lit 231,Gq P)::(nat_lit 237,Gp P)::(nat_lit 238,Gn P)::(nat_lit 244,Gm P)::(nat_lit 245,Gk P)::(nat_lit 249,Gj P)::(nat_lit 250,Gi P)::(nat_lit 256,Jj P)::(nat_lit 257,Ji P)::(nat_lit 263,Jh P)::(nat_lit 264,Jg P)::(nat_lit 270,Jf P)::(nat_lit 271,Je P)::(nat_lit 277,Jd P)::(nat_lit 278,Jc P)::(nat_lit 284,Jb P)::(nat_lit 285,Ja P)::(nat_lit 291,I9 P)::(nat_lit 292,I0 P)::(nat_lit 298,IZ P)::(nat_lit 299,IY P)::(nat_lit 305,IX P)::(nat_lit 306,IW P)::(nat_lit 312,IV P)::(nat_lit 313,IU P)::(nat_lit 319,IT P)::(nat_lit 320,IS P)::(nat_lit 326,IQ P)::(nat_lit 327,IP P)::(nat_lit 333,IM P)::(nat_lit 334,IL P)::(nat_lit 340,IK P)::(nat_lit 341,IJ P)::(nat_lit 347,II P)::(nat_lit 348,IH P)::(nat_lit 354,IG P)::(nat_lit 355,IF P)::(nat_lit 361,IE P)::(nat_lit 362,ID P)::(nat_lit 368,IC P)::(nat_lit 369,IB P)::(nat_lit 375,IA P)::(nat_lit 376,Iz P)::(nat_lit 382,Iy P)::(nat_lit 383,Iw P)::(nat_lit 389,Iv P)::(nat_lit 390,Iu P)::(nat_lit 394,Ir P)::(nat_lit 395,Iq P)::(nat_lit 401,Ip P)::(nat_lit 402,Io P)::(nat_lit 406,Im P)::(nat_lit 407,Il P)::(nat_lit 413,Ik P)::(nat_lit 414,Ij P)::(nat_lit 418,KI P)::(nat_lit 419,KH P)::[])
noncomputable abbrev hX:Shared->Bool:=λ s=>xlAt hV [] s&&recOk (RowW.records (OpenRow.toRowW (OpenLaw.row hl))) s
end HD36
end
section
namespace HD36
open PySem PySem.W PySem.W.X PyProof.Rows L2
set_option maxHeartbeats 0
def L7:∀ w,(λ os=>topGo treeTable hp w 11 hAn 12 (S0 w os) (topStub hp))=λ os=>some (SA w os,⟨denote treeTable hC,hC,⟨0,0,0,0⟩,hB⟩):=by
 rewrite [PySem.W.Fast.te15667345088766844465,Yd,PySem.W.Fast.te11892475500146522536]
 intro w; kernel_rfl
def L9:∀ w,(λ os=>segRun treeTable hp w 11 hAn 1 1 (SA w os) (blockOf (behindTheImports hp) hE hC ⟨0,0,0,0⟩ hB))=λ os=>some (Flow.next,(S1 w os).abs,hC,⟨0,0,0,0⟩):=by
 rewrite [PySem.W.Fast.te14374325043358763698,Yd]
 intro w; kernel_rfl
def Ov:∀ w,(λ os=>segRunT treeTable hp w 11 hAn 1 773 (S1 w os) (piecesOf Nl hE hC ⟨0,0,0,0⟩ hB))=λ os=>some (Flow.next,S2 w os,hC,⟨71,0,72,81⟩):=by
 rewrite [Y4,Yd]
 intro w; kernel_rfl
def Ou:∀ w,(λ os=>segRunT treeTable hp w 11 hAn 1 778 (S2 w os) (piecesOf Nk hE hC ⟨71,0,72,81⟩ hB))=λ os=>some (Flow.next,S3 w os,hC,⟨178,0,195,31⟩):=by
 rewrite [Y4,Yd]
 intro w; kernel_rfl
def Ot:∀ w,(λ os=>segRunT treeTable hp w 11 hAn 1 787 (S3 w os) (piecesOf Nj hE hC ⟨178,0,195,31⟩ hB))=λ os=>some (Flow.next,S4 w os,hC,⟨409,0,418,27⟩):=by
 rewrite [Y4,Yd]
 intro w; kernel_rfl
def Oq:∀ w,(λ os=>segRunT treeTable hp w 11 hAn 1 27 (S4 w os) (piecesOf Ni hE hC ⟨409,0,418,27⟩ hB))=λ os=>some (Flow.next,S5 w os,hC,⟨419,0,453,168⟩):=by
 rewrite [Y4,Yd]
 intro w; kernel_rfl
def L8:∀ w,(λ os=>topRun treeTable hp w 11 hAn 2 (S5 w os).abs ⟨doneF .next,hC,⟨419,0,453,168⟩,hB⟩)=λ os=>some (SF w os):=by
 rewrite [PySem.W.Fast.te14082659384304107361,Yd]
 intro w; kernel_rfl
def L6 (w:World) (os:OsState):topRun treeTable hp w 11 hAn (12+(1+(773+(778+(787+(27+(2))))))) (S0 w os) (topStub hp)=some (SF w os):=go_top (congrFun (L7 w) os) (piece_block (congrFun (L9 w) os) (piece_app (segRun_of (congrFun (Ov w) os)) (piece_app (segRun_of (congrFun (Ou w) os)) (piece_app (segRun_of (congrFun (Ot w) os)) (piece_app (segRun_of (congrFun (Oq w) os)) (congrFun (L8 w) os))))))
def Hn:∀ w:World,((boot_heap w.params).isNs mainGlobals&&(⟨[]⟩:Array GenState).size == 0,(boot_heap w.params).objs.size,(boot_heap w.params).nsMap mainGlobals "__annotations__")=(true,11,hAn):=by
 rewrite [PySem.W.Fast.te8920871248978507458]
 intro w; kernel_rfl
def Hq:∀ w:World,(λ os=>((staticsOk (importedModules hp.main.body) (boot_heap w.params) (hF w.params)&&namesBound hp (hF w.params)&&gensDone (SF w os)&&laidKept (boot_heap w.params) (hF w.params)),openSeen hV [] (importedModules hp.main.body) hX true (SF w os),obsZ hAs (SF w os)))=λ _=>(true,openGood hV [],valZ hK 420 767 w):=by
 rewrite [PySem.W.Fast.te5923862056798008813,PySem.W.Fast.te4187177175401517315]
 intro w; kernel_rfl
def Hr:LeftO hp hV [] hX (obsZ hAs) (valZ hK 420 767) 4848:=LeftO.of_pieces (boot_open (p:=hp) (N:=4848) (by kernel_rfl) (by decide) (λ _=>by kernel_rfl)) Hn L6 (by decide) Hq
def Ho:PySem.Challenge.rw_stylehouse_k36_lined_by_levels.wellSaid=true:=by kernel_rfl
def Ht (said:(OpenLaw.row PySem.Challenge.rw_stylehouse_k36_lined_by_levels).wellSaid=true) (hw:(OpenRow.toRowW (OpenLaw.row PySem.Challenge.rw_stylehouse_k36_lined_by_levels)).promised) {d:DefRec} {kwd:List (Str×Expr)} (hdef:defOf hV (OpenLaw.row PySem.Challenge.rw_stylehouse_k36_lined_by_levels).name=some (d,kwd)) (hp':(OpenLaw.row PySem.Challenge.rw_stylehouse_k36_lined_by_levels).prog.theDef (OpenLaw.row PySem.Challenge.rw_stylehouse_k36_lined_by_levels).name=some (d.params,d.body,d.scope)) (hk:kwWritten? d.params.kwonlyargs d.params.kw_defaults=some kwd) (call:WalkX hV [] (XL hV []) (obsZ hAs) (valZ hK 420 767) (OpenRow.toRowW (OpenLaw.row PySem.Challenge.rw_stylehouse_k36_lined_by_levels)) d kwd λ f vs=>PySem.call f vs):(OpenLaw.row PySem.Challenge.rw_stylehouse_k36_lined_by_levels).Holds :=
 holds_openX (q:=hV) (loose:=[]) (Xt:=hX) (XP:=XL hV []) (Yf:=obsZ hAs) (Ya:=valZ hK 420 767) (N:=4848) Hr (λ s e=>xl_of s (Bool.and_eq_true_iff.mp e).1) XL.keeps hdef hp' hk (λ s e=>recFacts_of (Bool.and_eq_true_iff.mp e).2) rfl said (by decide +kernel) ⟨rfl,rfl,rfl,rfl,rfl,by decide +kernel⟩ hw call
end HD36
end
section
namespace L2
open PySem PySem.Spec PyProof.Rows
def Gc {as:List Addr} {h:Heap}:∀ {K:W.Frag},as=K.map (·.1)->as.map h.get?=K.map (λ p=>some p.2)->∀ p ∈ K,h.get? p.1=some p.2:=by
 intro K e q;subst e;rw [Yu] at q;intro p hp;exact List.map_inj_left.mp q p hp
def AZ:∀ {K:W.Frag},List.lookup a K=some o->(a,o) ∈ K
 | [],h=>by cases h
 | (b,u)::K,h=>by
  rw [List.lookup_cons] at h
  cases q:a == b with
  | true =>
   rw [q] at h;have e1:a=b:=eq_of_beq q;have e2:u=o:=Zj h;subst e1 e2;exact Zo ..
  | false =>
   rw [q] at h;exact Zg _ (AZ h)
def xU {q:Program} {loose:List Str} {XP:(Str->Option Value)->Heap->Prop} {as:List Addr} {K:Params->W.Frag} {n t:Nat} {r:PySem.W.RowW} {d:PySem.DefRec} {kwd:List (Str×Expr)} {run:Value->List Value->Sem Value}
  (e:∀ P,as=(K P).map (·.1)) (h:PySem.W.WalkO q loose XP (PySem.W.InK K) r d kwd run):PySem.W.WalkX q loose XP (PySem.W.X.obsZ as) (PySem.W.X.valZ K n t) r d kwd run:=by
 intro w s₀ s₁ mg mb G y a o pm cd doc dV kV ho hd hcd hD hmg hg args vals bs L hpre hlay hrd hwl hlo;have y1:as.map s₀.heap.get?=(K w.params).map (λ p=>some p.2):=X4 Prod.fst y;have KX:(K w.params).In s₁.heap:=λ b o' e'=>L.keeps b o' (Gc (e w.params) y1 (b,o') (AZ e'))
 exact h w s₀ s₁ mg mb G KX a o pm cd doc dV kV ho hd hcd hD hmg hg args vals bs hpre hlay hrd hwl hlo
end L2
end
section
namespace L2
open PySem PySem.Spec PyProof.Rows
abbrev Fn0 (K:W.Frag) (x:Str) (st:Stmt) (f:Addr):Prop:=∃ (od an:Option Addr) (sl:Array (Option Value)) (oc kV dc pm cd ct:Value),PySem.W.nsIn K mainGlobals x=some (some (.ref f))/\K.lookup f=some ⟨oc,od,.func (PySem.W.fnOf x x (cX st) (cC st) (bq st) .none kV dc pm an cd ct),sl⟩/\PySem.W.codeIn K cd x=true/\W.keepIn K (.ref f)=true
def Fn0.mk {K:W.Frag} {x:Str} {st:Stmt} {f:Addr} {h:Heap} {mg:Str->Option Value} {ps:List Str} (e:Fn0 K x st f) (X:K.In h) (G:h.Ns mainGlobals mg) (hb:∀ (kV doc pm:Value) (an:Option Addr) (cdv ct:Value) (us:List Value),us.length=ps.length->bindArgs (PySem.W.fnOf x x (cX st) (cC st) (bq st) .none kV doc pm an cdv ct) ⟨us,[]⟩=pure (ps.zip us)):∃ fd,Fun K x x st f fd/\mg x=some (.ref f)/\Binds K fd ps []:=by
 obtain ⟨od,an,sl,oc,kV,dc,pm,cd,ct,a,l,c,k⟩:=e;exact ⟨_,k7 (st:=st) l c k,PySem.W.mg_of X G a,(k7 (st:=st) l c k).binds hb⟩
section
variable {X:Cx}
def Sz (i:Int):Prop:=i.natAbs < 2 ^ 4000
def Sz.bits (h:Sz i):Builtin.Int.intBits i<=2 ^ 20:=Zc (PySem.intBits_le_iff.mpr h) (by decide)
def Sz.log (h:Sz i):i.natAbs.log2 < 9000:=by
 by_cases z:i.natAbs=0
 · rw [z]; decide
 · exact (Nat.log2_lt z).mpr (Nat.lt_trans h (Wp (by decide) (by decide)))
def C1:OpR X (binaryOp .FloorDiv) (rI (λ _ j=>j≠0/\Sz j) λ i j=>.int (i.fdiv j)):=opI λ _ _ _ _ _ _ _ hc q=>floordiv_int hc.1 q (.inl (PyProof.noPylong_of_log2 hc.2.log))
end
open PySem.W in
mutual
inductive RdD (K:W.Frag) (H:Hp):V->Dat->Prop where
 | non:RdD K H .non .none
 | int (i:Int):RdD K H (.int i) (.int i)
 | str (x:Str):RdD K H (.str x) (.str x)
 | tup {a:Addr} {xs:List V} {ds:List Dat} (h:SqT K H a xs) (r:xG K H xs ds):RdD K H (.ref a) (.tuple ds)
 | lst {a:Addr} {xs:List V} {ds:List Dat} (h:SqL K H a xs) (r:xG K H xs ds):RdD K H (.ref a) (.list ds)
inductive xG (K:W.Frag) (H:Hp):List V->List Dat->Prop where
 | nil:xG K H [] []
 | cons {x:V} {d:Dat} {xs:List V} {ds:List Dat} (h:RdD K H x d) (r:xG K H xs ds):xG K H (x::xs) (d::ds)
end
section
open PySem.W
variable {X:Cx} {pins:List (Addr×Obj)} {σ:St} {H:Hp} {s:Shared}
mutual
def RdD.reads (I:Inv X pins σ H s):∀ {v:V} {d:Dat} {u:Value},RdD X.K H v d->RelV v u->∃ as,Reads s.heap u (kqdP d) as
 | _,_,u,.non,rv=>by cases (show u=Value.none from rv); exact ⟨_,Reads.none⟩
 | _,_,u,.int i,rv=>by obtain ⟨t,rfl⟩:=(show ∃ t,u=Value.int i t from rv); exact ⟨_,Reads.int i t⟩
 | _,_,u,.str x,rv=>by obtain ⟨t,rfl⟩:=(show ∃ t,u=Value.str x t from rv); exact ⟨_,Reads.str x t⟩
 | _,_,u,@RdD.tup _ _ a xs ds h r,rv=>by
  cases (show u=Value.ref a from rv);obtain ⟨its,vs,p,_⟩:=I.tuple h;obtain ⟨as,q⟩:=xG.reads I r vs;obtain ⟨o,h1,h2,n,h3⟩:=p;rw [kqdP];exact ⟨as,reads_tuple_at h1 h2 h3 (by simpa using q)⟩
 | _,_,u,@RdD.lst _ _ a xs ds h r,rv=>by
  cases (show u=Value.ref a from rv);obtain ⟨its,vs,p,_⟩:=I.list h;obtain ⟨as,q⟩:=xG.reads I r vs;obtain ⟨o,h1,h2,n,h3⟩:=p.isList;rw [kqdP];exact ⟨a::as,reads_list_at h1 h2 h3 (by simpa using q)⟩
def xG.reads (I:Inv X pins σ H s):∀ {vs:List V} {ds:List Dat} {us:List Value},xG X.K H vs ds->cK vs us->∃ as,ReadsAll s.heap us (kqdPs ds) as
 | _,_,_,.nil,.nil=>by rw [kqdPs]; exact ⟨_,ReadsAll.nil⟩
 | _,_,_,.cons h r,.cons rv rs=>by
  obtain ⟨as,q⟩:=RdD.reads I h rv;obtain ⟨bs,p⟩:=xG.reads I r rs;rw [kqdPs];exact ⟨_,ReadsAll.cons q p⟩
end
def gR (h:kqdOk 9 d=true):SeqAt.shaped (kqdP d)=true:=by
 have la:=kqd_lay 9 d h;unfold SeqAt.shaped;rw [la.1,Bool.true_and];exact Zh (Zc la.2 (by decide))
open Classical in
def qB (h:kqdOk 9 d=true) (h':kqdOk 9 e=true):PyData.eqv (kqdP d) (kqdP e)=decide (d=e):=by
 have q:=kqd_eqv 9 d e 9 h h'
 by_cases hq:d=e
 · rw [Zh hq]; exact q.mpr hq
 · rw [Za hq]; exact Bool.eq_false_iff.mpr λ x=>hq (q.mp x)
open Classical in
noncomputable def eqD (d e:Dat):Bool:=decide (d=e)
open Classical in
def zN (h:d=e):eqD d e=true:=Zh h
open Classical in
def wM (h:d≠e):eqD d e=false:=Za h
def Ny (K:W.Frag):R2:=λ x y H Q=>∃ d e,RdD K H x d/\RdD K H y e/\kqdOk 9 d=true/\kqdOk 9 e=true/\Q (.bl (eqD d e)) H
def Nu (K:W.Frag):R2:=λ x y H Q=>∃ d e,RdD K H x d/\RdD K H y e/\kqdOk 9 d=true/\kqdOk 9 e=true/\Q (.bl (!eqD d e)) H
def F7 (hu:X.A.units+64 < cLine):OpR X (compareOp .Eq) (Ny X.K):=by
 intro pins s σ H x y v u Q I rx ry h;obtain ⟨d,e,hd,he,kd,ke,q⟩:=h;obtain ⟨as,ra⟩:=hd.reads I rx;obtain ⟨bs,rb⟩:=he.reads I ry;refine eq_dataH ra rb (gR kd) (gR ke) hu ⟨.bl _,H,I,rfl,?_⟩;rw [qB kd ke];exact q
def F5 (hu:X.A.units+64 < cLine):OpR X (compareOp .NotEq) (Nu X.K):=by
 intro pins s σ H x y v u Q I rx ry h;obtain ⟨d,e,hd,he,kd,ke,q⟩:=h;obtain ⟨as,ra⟩:=hd.reads I rx;obtain ⟨bs,rb⟩:=he.reads I ry;refine ne_dataH ra rb (gR kd) (gR ke) hu ⟨.bl _,H,I,rfl,?_⟩;rw [qB kd ke];exact q
end
def fD.tup {K:W.Frag} {H H':Hp} {a:Addr} {xs:List V} (e:fD H H') (h:SqT K H a xs):SqT K H' a xs:=by
 rcases h with (h | ⟨o,h⟩) | h
 · exact .inl (.inl (e _ _ h))
 · exact .inl (.inr ⟨o,e _ _ h⟩)
 · exact .inr h
def aW (h:H p=none) (o:HO):fD H (upd H p o):=λ b u q=>by rw [aH (d9 q h)]; exact q
end L2
namespace L2
def Sz.of_le (h:Sz y) (l:x.natAbs<=y.natAbs):Sz x:=Yv l h
def Sz.neg (h:Sz x):Sz (-x):=h.of_le (by omega)
end L2
end
section
namespace L2
open PySem PySem.Spec PyProof.Rows
section
variable {prog:Program} {w:World} {A:Around} {R:Result->Shared->Prop} {s:Shared}
def jY (I:Nat->Shared->Prop)
  (turn:∀ n s,I n s->wpAny (model prog w) A (pyNext it) (λ r s₁=>match r with
    | none=>R (.ok .next) s₁
    | some v=>wpAny (model prog w) A (letOwnedTupleGo target it v) (λ _ s₁'=>wpAny (model prog w) A (assign target env v) (λ _ s₂=>wpAny (model prog w) A (eval elt env) (λ x s₃ =>
     wpAny (model prog w) A (call (.builtin "list.append") [acc,x]) (λ _ s₄=>∃ m,m < n/\I m s₄) (λ _ _=>False) s₃) (λ _ _=>False) s₂) (λ _ _=>False) s₁') (λ _ _=>False) s₁) (λ _ _=>False) s)
  (n:Nat) (h:I n s) :
  codeAny (model prog w) A (.compLoop (.ListComp elt [⟨target,iter,[],0⟩] scope pos) 0 it acc env) R s:=by
 refine codeAny_loop rfl I (λ n s hI=>?_) n h;refine wpAny_noted ?_
 rw [compTurn_list1];refine Zi (Wy (Zi (Yt (turn n s hI) (λ r s₁ h₁=>?_) λ _ _ h'=>h'.elim)))
 cases r with
 | none=>exact Z0 h₁
 | some v =>
  refine Zi (Yt h₁ (λ _ s₁' h₁'=>?_) λ _ _ h'=>h'.elim)
  exact Zi (Yt h₁' (λ _ s₂ h₂=>Zi (Zi (Yt h₂ (λ x s₃ h₃=>Zi (Yt h₃
    (λ _ s₄ h₄=>Z0 (Z0 ⟨rfl,h₄⟩)) λ _ _ h'=>h'.elim)) λ _ _ h'=>h'.elim))) λ _ _ h'=>h'.elim)
end
def bD (X:Cx) (scope:Scope) (cl:List (Str×Addr)) (N:List Str) (s:Shared) (H:Hp) (fp:List Addr) (C:Addr):Cx where
 prog:=X.prog
 w:=X.w
 K:=X.K
 mg:=X.mg
 base:=X.base
 A:=X.A
 N:=N
 s₀:=s
 H₀:=H
 env:=compEnvC scope cl C X.env
 outer:=X.stack
 stack:=X.stack
 ex:=fp
 calm:=X.calm
 fn:=λ _=>false
 pn:=[]
 xe:=λ _ _=>False
structure cw (X:Cx) (scope:Scope) (cl:List (Str×Addr)) (x:Str) (cs:List (Str×Nat)):Prop where
 Ek:closureFor scope X.env=pure cl
 kind:scope.kind=.function
 oh:∀ y ∈ scope.names,y.2≠.cell
 names:∀ y ∈ scope.names,y.2=.local->scope.names.lookup y.1=some .local
 own:scope.names.lookup x=some .local
 sub:∀ y c,cl.lookup y=some c->X.env.cells.lookup y=some c
 has:∀ y,((relabel scope X.env).names.lookup y=some .cell\/(relabel scope X.env).names.lookup y=some .free)->∃ c,cl.lookup y=some c
 JJ:∀ p ∈ cs,X.N[p.2]?=some p.1/\(X.env.kindOf p.1=some .cell\/X.env.kindOf p.1=some .free)/\((relabel scope X.env).names.lookup p.1=some .cell\/(relabel scope X.env).names.lookup p.1=some .free)
 nd:(x::cs.map (·.1)).Nodup
def aI (σ:St) (cs:List (Str×Nat)):St:=cs.map λ p=>(σ[p.2]?).join
section
variable {X:Cx} {pins:List (Addr×Obj)} {σ:St} {H:Hp} {s:Shared} {scope:Scope} {cl:List (Str×Addr)} {x:Str} {cs:List (Str×Nat)} {fp:List Addr} {C:Addr} {h':Heap} {t':Nat}
def mj (O:cw X scope cl x cs) (I:Inv X pins σ H s) (f2:∀ b ∈ fp,pD X pins H b) (there:∀ b ∈ fp,b < s.heap.objs.size) (hC:s.heap.objs.size<=C)
  (old:∀ b o,s.heap.get? b=some o->h'.get? b=some o) (hn:h'.Ns C λ _=>none) :
  Inv (bD X scope cl (x::cs.map (·.1)) s H fp C) [] (none::aI σ cs) H { s with heap:=h',toks:=t' }:=by
 refine ⟨⟨I.ok.mod,O.kind,I.ok.glob,I.ok.blt,hC,λ y z c h1 h2=>I.ok.inj y z c (O.sub y c h1) (O.sub z c h2),λ y hy=>O.has y hy,λ _ _ h=>absurd (h) Zf,I.ok.hd,I.ok.frames,.inl rfl,
   λ b hb=>⟨Z2 (Zz (there b hb) hC),λ y c e=>(f2 b hb).2.2.2.2.1 y c (O.sub y c e)⟩,I.bs,Zc I.ok.bsz I.sz,λ b o e hb=>?_,λ b hb z=>?_,I.stack,I.pM⟩,
  rfl,I.bare,Un.kept old,⟨_,hn,λ i y v e1 e2 e3=>?_⟩,λ y c e=>?_,I.hok.fresh hC,λ y c e=>I.k9 y c (O.sub y c e),λ p hp=>absurd (show p ∈ ([]:List (Addr×Obj)) from hp) (by simp),I.hok.kept old,?_⟩
 ·rcases (f2 b hb).2.2.2.1 with z | z
  · exact I.ok.EG b o e z
  · exact absurd (Zz (Zt e) (Zc I.ok.bsz z)) (Y9 _)
 · exact (Zl.mp (I.kB b z)).elim (f2 b hb).2.1 (f2 b hb).2.2.1
 ·cases i with
  | zero=>simp at e2
  | succ j =>
   have e1':(cs.map (·.1))[j]?=some y:=by simpa [bD] using e1
   have e2':(aI σ cs)[j]?=some (some v):=by simpa using e2
   unfold aI at e2';rw [List.getElem?_map] at e1' e2'
   cases q:cs[j]? with
   | none=>rw [q] at e1'; cases e1'
   | some p =>
    rw [q] at e1' e2';have ey:p.1=y:=by simpa using e1'
    have ev:(σ[p.2]?).join=some v:=by simpa using e2'
    have ev':σ[p.2]?=some (some v):=by
     cases z:σ[p.2]? with
     | none=>rw [z] at ev; cases ev
     | some o=>rw [z] at ev; exact X4 some ev
    obtain ⟨c1,c2,c3⟩:=O.JJ p (List.mem_of_getElem? q);subst ey;obtain ⟨m,hm,hl⟩:=I.loc
    obtain ⟨u,ru,lk⟩:=hl p.2 p.1 v c1 ev' (by
     rcases c2 with c2 | c2
     · exact .inr (.inl c2)
     · exact .inr (.inr c2))
    obtain ⟨c',ec'⟩:=O.has p.1 c3;refine ⟨u,ru,.inr ⟨c3,c',ec',?_⟩⟩;rcases lk with ⟨k,_⟩ | ⟨_,c,ec,o,ho,hd⟩
    ·rcases c2 with c2 | c2
     · rw [c2] at k; cases k
     · rw [c2] at k; cases k
    ·have:=O.sub p.1 c' ec'
     rw [ec] at this;cases this;exact ⟨o,old _ o ho,hd⟩
 ·obtain ⟨v,o,ho,hd⟩:=I.cell y c (O.sub y c e)
  exact ⟨v,o,old c o ho,hd⟩
 · simp [bD,aI]
end
def E2 (J:It) (te:TE) (cs:List (Str×Nat)) (σ:St) (Q:VK) (H1:Hp):Prop:=∃ W:Nat->Nat->List V->Hp->Prop,(∃ m,W 0 m [] H1)/\∀ i m ys H',W i m ys H' ->
 (J.stop i H'/\ys.length<=sizeLine/\∀ p,H' p=none->Q (.ref p) (upd H' p (.lst ys))) \/
 (J.go i H'/\ys.length < sizeLine/\∀ v H2,J.yld i H' v H2->te (some v::aI σ cs) H2 λ y H3=>∃ m',m' < m/\W (i+1) m' (ys++[y]) H3)
def BL (wi:TI) (te:TE) (cs:List (Str×Nat)):TE:=λ σ H Q=>wi σ H λ J H1=>E2 J te cs σ Q H1
section
variable {X:Cx}
def mn {elt iter:Expr} {x:Str} {px pos:Pos} {scope:Scope} {cl:List (Str×Addr)} {cs:List (Str×Nat)} {te:TE} {pins:List (Addr×Obj)} {σ:St} {H:Hp} {s:Shared} {Q:VK} {it:Addr} {fp:List Addr} {tn:Nat->Heap->Prop} {J:It}
  {RR:Value->Addr->Result->Shared->Prop} {E:Value->Shared->Prop} (hc:X.calm=true) (O:cw X scope cl x cs) (he:∀ s H fp C,PE (bD X scope cl (x::cs.map (·.1)) s H fp C) elt te)
  (I:Inv X pins σ H s) (T:Turn X.prog X.w X.K (.Name x px) J fp it tn) (st:tn 0 s.heap) (f2:∀ b ∈ fp,pD X pins H b)
  (h : ∃ W:Nat->Nat->List V->Hp->Prop,(∃ m,W 0 m [] H)/\∀ i m ys H',W i m ys H' ->
    (J.stop i H'/\ys.length<=sizeLine/\∀ p,H' p=none->Q (.ref p) (upd H' p (.lst ys))) \/
    (J.go i H'/\ys.length < sizeLine/\∀ v H2,J.yld i H' v H2->te (some v::aI σ cs) H2 λ y H3=>∃ m',m' < m/\W (i+1) m' (ys++[y]) H3))
  (hRR:∀ D C s' H' ys,s.heap.objs.size<=D->s.heap.objs.size<=C->D≠C->(∃ m,s'.heap.Ns C m)->Inv X pins σ (upd H' D (.lst ys)) s'->H' C=none->Q (.ref D) (upd H' D (.lst ys))->RR (.ref D) C (.ok .next) s') :
  wpAny (model X.prog X.w) X.A (newList []) (λ acc s₃=>wpAny (model X.prog X.w) X.A (newFunctionEnv scope X.env.globals cl [] X.env.qual none .none (some X.env)) (λ cenv s₄ =>
    codeAny (model X.prog X.w) X.A (.compStart (.ListComp elt [⟨.Name x px,iter,[],0⟩] scope pos) 0 (.ref it) acc { cenv with scope:=relabel scope X.env }) (RR acc cenv.locals) s₄) E s₃) E s:=by
 obtain ⟨W,⟨m0,w0⟩,turn⟩:=h;refine Xk (wpAny_newFunctionEnv O.oh (by intro y hy; simp at hy) (λ h₁ hns₁ hsb₁=>?_) O.kind);generalize hH2:s.heap.push { cls:=.type "list",dict:=none,data:=.seq ([]:List Value).toArray }=H2 at hns₁ hsb₁ ⊢
 have hC:H2.objs.size=s.heap.objs.size+1:=by rw [<- hH2,Heap.size_push]
 have hDC:s.heap.objs.size≠H2.objs.size:=by rw [hC]; exact Z2 (Wt _)
 have hCle:s.heap.objs.size<=H2.objs.size:=by rw [hC]; exact Nat.le_succ _
 have neC:∀ b,b < s.heap.objs.size->b≠H2.objs.size:=λ b hb=>by rw [hC]; exact Z2 (Nat.lt_succ_of_lt hb)
 have old:∀ b o,s.heap.get? b=some o->h₁.get? b=some o:=λ b o e=>hsb₁.extBut b o (neC b (Zt e)) (Heap.get?_push_of_some _ (hH2 ▸ Heap.get?_push_of_some _ e))
 have hacc:=hsb₁.extBut _ _ hDC (Heap.get?_push_of_some _ (hH2 ▸ Heap.get?_push_size _ rfl))
 have there:∀ b ∈ fp,b < s.heap.objs.size:=λ b hb=>by
  obtain ⟨o,e,_⟩:=T.obj _ _ st b hb;exact Zt e
 have hns:h₁.Ns H2.objs.size λ _=>none:=by
  have e:(λ x=>List.lookup x ([]:List (Str×Value)).reverse)=λ _=>none:=by funext y; rfl
  rw [e] at hns₁
  exact hns₁
 generalize hD:s.heap.objs.size=D at hDC hCle hacc;generalize hCC:H2.objs.size=C at hDC hCle hns ⊢;have FD:=I.sj (b:=D) (by rw [<- hD]; exact Ze _) (I.hok.fresh (by rw [<- hD]; exact Ze _));have nfpD:∀ b ∈ fp,b≠D:=λ b hb=>by rw [<- hD]; exact Z2 (there b hb)
 have nfpC:∀ b ∈ fp,b≠C:=λ b hb=>Z2 (Zz (there b hb) (by rw [hD]; exact hCle))
 have st1:=T.keep _ _ _ st λ b _ o e=>old b o e
 have I1:Inv (bD X scope cl (x::cs.map (·.1)) s H fp C) [] (none::aI σ cs) H { s with heap:=h₁,toks:=s.toks+([]:List (Str×Value)).length } :=
  mj O I f2 there (by rw [hD]; exact hCle) old hns
 generalize hY:bD X scope cl (x::cs.map (·.1)) s H fp C=Y at I1
 have pgx:PG Y (.Name x px) (jh 0):=by
  subst hY;exact kJ O.nd rfl (.inl (Y2 O.own)) (.inr (Y2 O.own))
 have peY:PE Y elt te:=by subst hY; exact he _ _ _ _
 have Yx:Y.prog=X.prog/\Y.w=X.w/\Y.K=X.K/\Y.A=X.A/\Y.env=compEnvC scope cl C X.env/\Y.calm=X.calm/\Y.xe=(λ _ _=>False)/\Y.pn=[]/\Y.ex=fp/\Y.fs=frs X.stack/\Y.s₀=s/\Y.H₀=H:=by subst hY; exact ⟨rfl,rfl,rfl,rfl,rfl,rfl,rfl,rfl,rfl,rfl,rfl,rfl⟩
 obtain ⟨y1,y2,y3,y4,y5,y6,y7,y8,y9,y10,y11,y12⟩:=Yx;have nstk:∀ b,b≠X.env.locals->b ∉ X.fs->b ∉ Y.fs:=λ b h1 h2 z=>by rw [y10] at z; exact (Zl.mp (I.kB b z)).elim h1 h2
 have yl:Y.env.locals=C:=by rw [y5]; rfl
 have yc:∀ z c,Y.env.cells.lookup z=some c->X.env.cells.lookup z=some c:=λ z c e=>by rw [y5] at e; exact O.sub z c e
 have stat:∀ {ps:List (Addr×Obj)} {H':Hp},(∀ b ∈ fp,H' b=none)->(∀ p ∈ ps,p.1=D)->∀ b ∈ fp,pD Y ps H' b:=λ {ps H'} hn hp b hb =>
  ⟨hn b hb,by rw [yl]; exact nfpC b hb,nstk b (f2 b hb).2.1 (f2 b hb).2.2.1,.inl (by rw [y9]; exact hb),λ z c e=>(f2 b hb).2.2.2.2.1 z c (yc z c e),λ p hq=>by
    rw [y8,List.nil_append] at hq;rw [hp p hq]
    exact Ne.symm (nfpD b hb)⟩
 have pinD:∀ {σ':St} {H':Hp} {s':Shared} {ob:Obj},Inv Y [] σ' H' s'->H' D=none->s'.heap.get? D=some ob->(∀ v,ob.data≠.cell v)->Inv Y [(D,ob)] σ' H' s':=λ {σ' H' s' ob} I' hn e hd =>
  I'.fH λ p hp=>by
    have e1:p=(D,ob):=by simpa using hp
    subst e1;exact ⟨e,hn,by rw [yl]; exact hDC,nstk D FD.2.1 FD.2.2.1,hd⟩
 have loop:∀ s₃:Shared,s₃={ s with heap:=h₁,toks:=s.toks+([]:List (Str×Value)).length } ->
    codeAny (model X.prog X.w) X.A (.compLoop (.ListComp elt [⟨.Name x px,iter,[],0⟩] scope pos) 0 (.ref it) (.ref D) (compEnvC scope cl C X.env)) (RR (.ref D) C) s₃:=by
  rintro s₃ rfl
  refine jY (λ n s'=>∃ i o H' ys its k,Inv Y [] (o::aI σ cs) H' s'/\tn i s'.heap/\(∀ b ∈ fp,H' b=none)/\H' D=none/\s'.heap.get? D=some { cls:=.type "list",data:=.seq (its:List Value).toArray k }/\cK ys its/\W i n ys H') ?_ m0
    ⟨0,none,H,[],[],0,I1,st1,λ b hb=>(f2 b hb).1,FD.1,hacc,.nil,w0⟩
  rintro n s3 ⟨i,o,H3,ys,its,k,I3,st3,fr3,frD,e3,vs3,w3⟩
  have I3p:=pinD I3 frD e3 (by intro v z; cases z)
  have onlyD:∀ p ∈ [(D,({ cls:=.type "list",data:=.seq its.toArray k }:Obj))],p.1=D:=λ p hp=>by
    have e1:=Yj.mp hp;rw [e1]
  rcases turn i n ys H3 w3 with ⟨stop,hz,q⟩ | ⟨go,hz,step⟩
  · have dn:=T.done Y y1 y2 y3 (by rw [y6]; exact hc) i _ s3 (o::aI σ cs) H3 (λ _ _=>False) I3p (stat fr3 onlyD) st3 stop
    rw [y4] at dn;refine thn dn λ r s4 ⟨hr,I4⟩=>?_
    subst hr;obtain ⟨e4,_⟩:=I4.pin (D,_) (Zr _ (Yj.mpr rfl));have b4:=I4.base;rw [y9,y10,y11,y12] at b4;have hk4:=I4.hok;rw [y1,y2] at hk4;have hCn:H3 C=none:=by have:=I4.free; rw [yl] at this; exact this
    refine hRR D C s4 H3 ys (by rw [<- hD]; exact Ze _) (by rw [hD]; exact hCle) hDC (by obtain ⟨m,hm,_⟩:=I4.loc; rw [yl] at hm; exact ⟨m,hm⟩) ?_ hCn (q D frD);have neD:∀ b o,s.heap.get? b=some o->b≠D:=λ b o e=>by rw [<- hD]; exact Z2 (Zt e)
    have neDH:∀ b u,H b=some u->b≠D:=λ b u e=>by rw [<- hD]; exact Z2 (I.hok.lt e)
    refine I.Em (by have:=I4.os; rw [y11] at this; exact this) ⟨b4.keep,b4.slot,λ b o e n hx=>?_,b4.there,λ b xs e=>?_,λ b o u e=>?_,λ b ps e=>?_⟩ (λ b u e=>?_) I4.bare λ b hb=>?_
    · rw [aH (neD b o e)]; exact b4.free b o e n hx
    · rw [aH (neDH b _ e)]; exact b4.uk b xs e
    · rw [aH (neDH b _ e)]; exact b4.t9 b o u e
    · rw [aH (neDH b _ e)]; exact b4.uo b ps e
    ·have t1:∀ c u,H3 c=some u->upd H3 D (.lst ys) c=some u:=λ c u z=>by
      rw [aH (λ zz=>by rw [zz,frD] at z; cases z)];exact z
     by_cases hb:b=D
     ·subst hb
      rw [aO] at e;cases e;exact ⟨hz,its,k,vs3,e4⟩
     ·rw [aH hb] at e
      exact (hk4 b u e).sU (λ _ _ _ z=>z) (λ c z=>t1 c _ z) λ c xs z=>t1 c _ z
    · exact ⟨(f2 b hb).2.2.2.1,(f2 b hb).2.1,(f2 b hb).2.2.2.2.1,(f2 b hb).2.2.2.2.2⟩
  · have im:=T.item Y y1 y2 y3 (by rw [y6]; exact hc) i _ s3 (o::aI σ cs) H3 (λ _ _=>False) I3p (stat fr3 onlyD) st3 go
    rw [y4] at im;refine thn im λ r s4 ⟨u,hr,h4⟩=>?_
    subst hr;refine thn h4 λ _ s5 ⟨v,H5,I5,r5,y5',st5,fr5⟩=>?_
    have I5':=I5.pinned (stat fr5 onlyD) (T.obj _ _ st5);have as:=pgx _ s5 (o::aI σ cs) H5 v u _ I5' r5 (show jh 0 v (o::aI σ cs) H5 (λ σ' H'=>σ'=some v::aI σ cs/\H'=H5) from ⟨rfl,rfl⟩);rw [y1,y2,y4,y5,y7] at as;refine thn as λ _ s6 ⟨σ6,H6,I6,e6,e6'⟩=>?_
    subst e6 e6';have el:=peY _ s6 _ H6 _ I6 (step v H6 y5');rw [y1,y2,y4,y5,y7] at el;refine thn el λ u7 s7 ⟨y7',H7,I7,r7,m',hm',w7⟩=>?_
    obtain ⟨e7,n7,_⟩:=I7.pin (D,_) (Zr _ (Ys _ (Yj.mpr rfl)));have hl3:=vs3.length;refine call_meets F.slot_list_append ⟨_,e7,rfl⟩ Wx (Wo _ _) (PySem.list_append D its.toArray k u7 (by rw [Zp]; omega)) ⟨e7,?_⟩;obtain ⟨k',up⟩:∃ k',(s7.heap.update D (Obj.mapSeq (·.push u7))).get? D=some { cls:=.type "list",data:=.seq (its.toArray.push u7) k' }:=⟨_,PySem.IsL.update e7 (·.push u7)⟩
    have fpk:∀ b ∈ fp,∀ o,s5.heap.get? b=some o->s7.heap.get? b=some o/\H7 b=none:=λ b hb o e=>by
     obtain ⟨z1,z2,_⟩:=I7.pin (b,o) (Zr _ (Zr _ (eD hb e)));exact ⟨z1,z2⟩
    have I7n:Inv Y [] (some v::aI σ cs) H7 s7:=I7.fH λ p hp=>absurd hp (by simp)
    refine ⟨m',hm',i+1,some v,H7,ys++[y7'],its++[u7],k',?_,?_,?_,n7,?_,vs3.append (.cons r7 .nil),w7⟩
    ·refine I7n.turned (λ b o hb e=>(Heap.get?_update_other s7.heap (Obj.mapSeq (·.push u7)) (Ne.symm hb)).trans e) n7 (by rw [yl]; exact hDC) (.inr (by rw [y11,<- hD]; exact Ze _)) (λ z c e=>FD.2.2.2.2.1 z c (yc z c e)) λ p hp=>?_
     rw [y8] at hp;exact absurd hp (by simp)
    ·refine T.keep _ _ _ st5 λ b hb o e=>?_
     exact (Heap.get?_update_other s7.heap (Obj.mapSeq (·.push u7)) (Ne.symm (nfpD b hb))).trans (fpk b hb o e).1
    ·intro b hb
     obtain ⟨o',e',_⟩:=T.obj _ _ st5 b hb;exact (fpk b hb o' e').2
    ·rw [List.push_toArray] at up
     exact up
 exact codeAny_compStart_list (loop _ rfl) (T.self _ 0 _ _ _ st1 (loop _ rfl))
def CM {elt iter:Expr} {x:Str} {px pos:Pos} {scope:Scope} {cl:List (Str×Addr)} {cs:List (Str×Nat)} {wi:TI} {te:TE} (hc:X.calm=true) (O:cw X scope cl x cs) (hi:PI X (.Name x px) iter wi)
  (he:∀ s H fp C,PE (bD X scope cl (x::cs.map (·.1)) s H fp C) elt te) (hs:∀ x,foldedSetIterable iter X.env x=pure x:=by intro _; rfl) :
  PE X (.ListComp elt [⟨.Name x px,iter,[],0⟩] scope pos) (BL wi te cs):=by
 intro pins s σ H Q I h;rw [eval_ListComp];refine Xg rfl hs O.Ek O.kind O.names (thn (hi pins s σ H _ I h) λ v s1 h1=>thn h1 λ itv s2 h2=>?_);obtain ⟨it,fp,tn,J,H2,rfl,I2,T,st2,f2,hw⟩:=h2;refine mn hc O he I2 T st2 f2 hw λ D C s' H' ys hD hC hDC ⟨m,hm⟩ I' hn q=>?_
 refine ⟨m,hm,λ h' hs'=>?_⟩;have hn':upd H' D (.lst ys) C=none:=by rw [aH (Ne.symm hDC)]; exact hn
 have FC:=I2.sj hC hn';exact ⟨.ref D,upd H' D (.lst ys),I'.turned (λ b o hb e=>(hs'.2 b hb).trans e) hn' FC.2.1 FC.2.2.2.1 FC.2.2.2.2.1 FC.2.2.2.2.2,rfl,q⟩
def uS {elt iter:Expr} {x y:Str} {px py pos spos:Pos} {i:Nat} {scope:Scope} {cl:List (Str×Addr)} {cs:List (Str×Nat)} {wi:TI} {te:TE} (hN:X.N.Nodup) (hy:X.N[i]?=some y) (hx:Loc X.env.scope y)
  (hc:X.calm=true) (O:cw X scope cl x cs) (hi:PI X (.Name x px) iter wi)
  (he:∀ s H fp C,PE (bD X scope cl (x::cs.map (·.1)) s H fp C) elt te) (hs:∀ x,foldedSetIterable iter X.env x=pure x:=by intro _; rfl)
  (hsw:swapsWith (.ListComp elt [⟨.Name x px,iter,[],0⟩] scope pos) (some (.Name y py)) spos.line X.env=pure true:=by rfl)
  (hf:X.fn y=true\/X.env.scope.names.lookup y=some .local:=by first | exact .inl rfl | exact .inr rfl | assumption) :
  PS X (.Assign [.Name y py] (.ListComp elt [⟨.Name x px,iter,[],0⟩] scope pos) spos) (E4 (BL wi te cs) (jh i)):=by
 intro pins s σ H Dd I h;rw [exec_Assign_Name_used _ _ _ _ hsw];refine Zi (Wy (Zi ?_))
 refine Zi (Yt (Xg rfl hs O.Ek O.kind O.names (thn (hi pins s σ H _ I h) λ v s1 h1=>thn h1 λ itv s2 h2=>?_))
  (λ _ s' hq=>Z0 (Z0 hq)) λ _ _ e=>e)
 obtain ⟨it,fp,tn,J,H2,rfl,I2,T,st2,f2,hw⟩:=h2;refine mn (Q:=λ v H1=>jh i v σ H1 Dd.nx) hc O he I2 T st2 f2 hw λ D C s' H' ys hD hC hDC ⟨m,hm⟩ I' hn q=>?_
 have hn':upd H' D (.lst ys) C=none:=by rw [aH (Ne.symm hDC)]; exact hn
 have FC:=I2.sj hC hn';refine wpAny_assign_Name (iZ I' hN hy hx (v:=.ref D) rfl (λ s'' I'' ⟨a,hsb,ha⟩=>?_) hf)
 have na:C≠a:=by
  rcases ha with ha | ha
  · rw [ha]; exact FC.2.1
  · exact Ne.symm (FC.2.2.2.2.1 y a ha)
 refine ⟨m,hm.sameBut hsb na,λ h' hs'=>?_⟩;exact ⟨σ.set i (some (.ref D)),upd H' D (.lst ys),I''.turned (λ b o hb e=>(hs'.2 b hb).trans e) hn' FC.2.1 FC.2.2.2.1 FC.2.2.2.2.1 FC.2.2.2.2.2,q⟩
end
def Ej (h1:scope.kind=.function) (h2:∀ y ∈ scope.names,y.2≠.cell) (h3:∀ y ∈ scope.names,y.2≠.free) (h4:∀ y ∈ scope.names,y.2=.local->scope.names.lookup y.1=some .local) (h5:scope.names.lookup x=some .local) :
  cw X scope [] x [] where
 Ek:=closureFor_none h3
 kind:=h1
 oh:=h2
 names:=h4
 own:=h5
 sub:=λ _ _ e=>by cases e
 has := λ y hy=>by
  have rel:(relabel scope X.env).names=scope.names:=by
   exact map_eq_self λ z hz=>by
    obtain ⟨n,k⟩:=z;have:(k == NameKind.free)=false:=by simpa using h3 _ hz
    simp [this]
  rw [rel] at hy;rcases hy with hy | hy
  · exact absurd rfl (h2 _ (Y0 hy))
  · exact absurd rfl (h3 _ (Y0 hy))
 JJ:=λ _ h=>by cases h
 nd:=by simp
section
variable {κ:Type} [DecidableEq κ]
def nJ (kvs:List (κ×V)) (k:κ):Option V:=(kvs.find? λ kv=>decide (kv.1=k)).map (·.2)
def putK (kvs:List (κ×V)) (k:κ) (v:V):List (κ×V) :=
 if (kvs.any λ kv=>decide (kv.1=k))=true then kvs.map (λ kv=>if kv.1=k then (kv.1,v) else kv) else kvs++[(k,v)]
def my {p:κ×V} {r:List (κ×V)} {k:κ} (e:p.1=k):nJ (p::r) k=some p.2:=by simp [nJ,List.find?_cons,e]
def mz {p:κ×V} {r:List (κ×V)} {k:κ} (e:¬ p.1=k):nJ (p::r) k=nJ r k:=by simp [nJ,List.find?_cons,e]
def qW (k:κ):∀ kvs:List (κ×V),(kvs.any λ kv=>decide (kv.1=k))=(nJ kvs k).isSome
 | []=>rfl
 | p::r=>by
  rw [Wj]
  by_cases e:p.1=k
  · simp only [my e,Zh e,Bool.true_or,Option.isSome_some]
  · rw [mz e,Za e,Bool.false_or]; exact qW k r
def iC (kvs:List (κ×V)) (k:κ) (v:V):(putK kvs k v).length<=kvs.length+1:=by
 unfold putK;split
 · rw [Zd]; omega
 · rw [Zu,Zw,Xm]; omega
def pK.vY (r:pK o u):o.isSome=u.isSome:=by
 cases o with
 | none=>cases u with
  | none=>rfl
  | some _=>exact (r).elim
 | some _=>cases u with
  | none=>exact (show False from r).elim
  | some _=>rfl
def KV.val {kvs:List (κ×V)} {vs:List (κ×Value)} (r:KV kvs vs) (k:κ):pK (nJ kvs k) (valueAt vs k):=by
 induction r with
 | nil=>exact True.intro
 | @cons p q ps qs h t ih =>
  obtain ⟨h1,h2⟩:=h
  by_cases e:p.1=k
  ·have e':=h1.symm.trans e
   have b:valueAt (q::qs) k=some q.2:=by simp [valueAt,List.find?_cons,e']
   rw [my e,b]; exact h2
  ·have e':¬ q.1=k:=λ z=>e (h1.trans z)
   have b:valueAt (q::qs) k=valueAt qs k:=by simp [valueAt,List.find?_cons,e']
   rw [mz e,b]; exact ih
def KV.any {kvs:List (κ×V)} {vs:List (κ×Value)} (r:KV kvs vs) (k:κ):(kvs.any λ kv=>decide (kv.1=k))=vs.any λ kv=>decide (kv.1=k):=by
 induction r with
 | nil=>rfl
 | cons h t ih=>rw [Wj,Wj,ih,h.1]
def KV.BY {kvs:List (κ×V)} {vs:List (κ×Value)} (r:KV kvs vs) (k:κ) (ry:RelV y u) :
  KV (kvs.map λ kv=>if kv.1=k then (kv.1,y) else kv) (vs.map λ kv=>if kv.1=k then (kv.1,u) else kv):=by
 induction r with
 | nil=>exact .nil
 | @cons p q ps qs h t ih =>
  rw [Z8,Z8];refine .cons ?_ ih;obtain ⟨h1,h2⟩:=h
  by_cases e:p.1=k
  · rw [if_pos e,if_pos (h1.symm.trans e)]; exact ⟨h1,ry⟩
  · rw [if_neg e,if_neg (λ z=>e (h1.trans z))]; exact ⟨h1,h2⟩
def KV.put {kvs:List (κ×V)} {vs:List (κ×Value)} (r:KV kvs vs) (k:κ) (ry:RelV y u):KV (putK kvs k y) (stored vs k u):=by
 unfold putK stored;rw [r.any k]
 by_cases e:(vs.any λ kv=>decide (kv.1=k))=true
 · rw [if_pos e,if_pos e]; exact r.BY k ry
 · rw [if_neg e,if_neg e]; exact Paired.snoc r ⟨rfl,ry⟩
def KV.length {kvs:List (κ×V)} {vs:List (κ×Value)} (r:KV kvs vs):kvs.length=vs.length:=Paired.length r
end
def zj (r:RelV (kV k) u):(cv P w).is k u=true:=by
 cases k with
 | inl i=>obtain ⟨t,e⟩:=(r); subst e; exact qe P w i t
 | inr x=>obtain ⟨t,e⟩:=(r); subst e; exact p9 P w x t
def ou:∀ {ks:List Key} {us:List Value},cK (ks.map kV) us->ItemsAre (cv P w) ks us
 | [],_,r=>by rw [Wv] at r; cases r; exact .nil
 | k::ks,_,r=>by
  rw [Z8] at r
  cases r with
  | cons h t=>exact .cons (zj h) (ou t)
abbrev KT (H:Hp):List (List Key×V)->List (List Key×Addr×Value)->Prop:=Paired λ p q=>p.1=q.1/\H q.2.1=some (.tup (p.1.map kV))/\RelV p.2 q.2.2
def KT.val (r:KT H kvs xs) (k:List Key):pK (nJ kvs k) ((atKey xs k).map (·.2)):=by
 induction r with
 | nil=>exact True.intro
 | @cons p q ps qs h t ih =>
  obtain ⟨h1,_,h2⟩:=h
  by_cases e:p.1=k
  ·have e':=h1.symm.trans e
   have b:atKey (q::qs) k=some q.2:=by simp [atKey,List.find?_cons,e']
   rw [my e,b]; exact h2
  ·have e':¬ q.1=k:=λ z=>e (h1.trans z)
   have b:atKey (q::qs) k=atKey qs k:=by simp [atKey,List.find?_cons,e']
   rw [mz e,b]; exact ih
def KT.BY (r:KT H kvs xs) (k:List Key) (ry:RelV y u) :
  KT H (kvs.map λ kv=>if kv.1=k then (kv.1,y) else kv) (xs.map (putAt k u)):=by
 induction r with
 | nil=>exact .nil
 | @cons p q ps qs h t ih =>
  rw [Z8,Z8];refine .cons ?_ ih;obtain ⟨h1,h2,h3⟩:=h;unfold putAt
  by_cases e:p.1=k
  · rw [if_pos e,if_pos (h1.symm.trans e)]; exact ⟨h1,h2,ry⟩
  · rw [if_neg e,if_neg (λ z=>e (h1.trans z))]; exact ⟨h1,h2,h3⟩
def KT.put (r:KT H kvs xs) (k:List Key) (hb:H b=some (.tup (k.map kV))) (ry:RelV y u) :
  KT H (putK kvs k y) (storedH xs k b u):=by
 have e:(kvs.any λ kv=>decide (kv.1=k))=(atKey xs k).isSome:=by
  rw [qW,(r.val k).vY,Option.isSome_map]
 unfold putK storedH;rw [e]
 by_cases q:(atKey xs k).isSome=true
 · rw [if_pos q,if_pos q]; exact r.BY k ry
 · rw [if_neg q,if_neg q]; exact Paired.snoc r ⟨rfl,hb,ry⟩
def KT.keeps (r:KT H kvs xs) (ht:∀ b ys,H b=some (.tup ys)->H' b=some (.tup ys)):KT H' kvs xs :=
 Paired.LR r λ _ _ z=>⟨z.1,ht _ _ z.2.1,z.2.2⟩
section
variable {P:Program} {w:World} {H:Hp} {h:Heap} {a:Addr}
def Fi (ok:HOk P w H h) (e:Rd H a u):dZ P w H h a u:=e.ok ok
def zO (ok:HOk P w H h) (e:Rd H a (.dK kvs)):kvs.length<=sizeLine/\(a == sysModules)=false/\∃ vs,KV kvs vs/\h.DictOf (cv P w) a vs :=
 show dZ P w H h a (.dK kvs) from Fi ok e
def zQ (ok:HOk P w H h) (e:H a=some (.dK kvs)):kvs.length<=sizeLine/\(a == sysModules)=false/\∃ vs,KV kvs vs/\h.DictOf (cv P w) a vs:=zO ok (.inl e)
def vN (ok:HOk P w H h) (e:H a=some (.tup (ks.map kV))):(tupleKind (cv P w)).is h ks a:=by
 obtain ⟨_,its,r,o,h1,h2,n,h3⟩:=(ok a _ e)
 exact ⟨o,its.toArray,n,h1,h2,h3,by simpa using ou r⟩
def Eb (ok:HOk P w H h) (e:Rd H a (.dT kvs)):kvs.length<=sizeLine/\(a == sysModules)=false /\
  ∃ xs,KT H kvs xs/\h.DictOfH (tupleKind (cv P w)) a xs:=by
 obtain ⟨z,y,xs,r,o,es,ep,h1,h2,h3,h4,h5⟩:=(Fi ok e)
 refine ⟨z,y,xs,r,o,es,ep,h1,h2,h3,h4,λ x hx=>?_,h5⟩
 have all:∀ {l:List (List Key×V)} {m:List (List Key×Addr×Value)},KT H l m->∀ x ∈ m,(tupleKind (cv P w)).is h x.1 x.2.1:=by
  intro l m q
  induction q with
  | nil=>intro x hx; exact nomatch hx
  | @cons p q ps qs hq t ih =>
   intro x hx;rcases Zl.mp hx with e | hx
   ·subst e
    exact vN ok (by rw [<- hq.1]; exact hq.2.1)
   · exact ih x hx
 exact all r x hx
def Mg (ok:HOk P w H h) (e:H a=some (.dT kvs)):kvs.length<=sizeLine/\(a == sysModules)=false /\
 ∃ xs,KT H kvs xs/\h.DictOfH (tupleKind (cv P w)) a xs:=Eb ok (.inl e)
end
def EI (H:Hp) (a:Addr) (y:V) (r:Option V):Prop :=
 (∃ kvs k,Rd H a (.dK kvs)/\y=kV k/\r=nJ kvs k)\/∃ kvs k b,Rd H a (.dT kvs)/\y=.ref b/\H b=some (.tup (k.map kV))/\r=nJ kvs k
def Ia (H:Hp) (a:Addr) (y v:V) (H':Hp):Prop :=
 (∃ kvs k,H a=some (.dK kvs)/\y=kV k/\kvs.length < sizeLine/\H'=upd H a (.dK (putK kvs k v))) \/
 ∃ kvs k b,H a=some (.dT kvs)/\y=.ref b/\H b=some (.tup (k.map kV))/\kvs.length < sizeLine/\H'=upd H a (.dT (putK kvs k v))
def EI.k {H:Hp} {a:Addr} {kvs:List (Key×V)} {k:Key} (e:H a=some (.dK kvs)):EI H a (kV k) (nJ kvs k):=.inl ⟨kvs,k,.inl e,rfl,rfl⟩
def Ia.k {H:Hp} {a:Addr} {kvs:List (Key×V)} {k:Key} {v:V} (e:H a=some (.dK kvs)) (hl:kvs.length < sizeLine):Ia H a (kV k) v (upd H a (.dK (putK kvs k v))):=.inl ⟨kvs,k,e,rfl,hl,rfl⟩
section
variable {X:Cx} {pins:List (Addr×Obj)} {σ:St} {H:Hp} {s:Shared} {a:Addr} {y v:V} {u r:Value} {o:Option V} {A:Around} {E:Value->Shared->Prop}
def Inv.big (I:Inv X pins σ H s):sysModules < s.heap.objs.size:=by
 have h:=(I.mod.glob.keeps I.bk).lt;exact Nat.lt_trans (by decide) h
def w9 (hu:A.units+1 < cLine) (I:Inv X pins σ H s) (g:EI H a y (some v)) (ry:RelV y u) (h:∀ w' s',Inv X pins σ H s'->RelV v w'->Q w' s') :
  wpAny (model X.prog X.w) A (getItem (.ref a) u) Q E s:=by
 rcases g with ⟨kvs,k,e,ey,l⟩ | ⟨kvs,k,b,e,ey,eb,l⟩
 ·subst ey
  obtain ⟨z,hd,vs,rel,dd⟩:=zO I.hok e;obtain ⟨w',hw,rw'⟩:=pK.some_of (by rw [l]; exact rel.val k);exact wpAny_getItem_of (zj ry) dd.mapOf hw (h w' _ (I.tok _) rw')
 ·subst ey
  cases (ry);obtain ⟨z,hd,xs,rel,dd⟩:=Eb I.hok e;obtain ⟨w',hw,rw'⟩:=pK.some_of (v:=v) (by rw [l]; exact rel.val k);obtain ⟨p,hp,hp2⟩:=Zm hw;refine wpAny_getItem_heap (tupleKind_room_in1 hu) (vN I.hok eb) dd hp ?_
  rw [hp2];exact h w' _ (I.tok _) rw'
def qE (I:Inv X pins σ H s) (mu:Mut (H a)) (hs:Heap.SameBut a s.heap h') (he:∃ q,h'.get? a=some q) (new:dZ X.prog X.w (upd H a ob) h' a ob) :
  Inv X pins σ (upd H a ob) { s with heap:=h',toks:=t' } :=
 I.write mu (.inl rfl) (λ b q hb z=>(hs.2 b hb).trans z) he new
def wV (z:kvs.length<=sizeLine) (hd:(a == sysModules)=false) (rel:KV kvs vs) (dd:h'.DictOf (cv P w) a vs) :
 dZ P w H' h' a (.dK kvs):=⟨z,hd,vs,rel,dd⟩
def wZ (hu:A.units+1 < cLine) (I:Inv X pins σ H s) (g:Ia H a y v H') (ry:RelV y u) (rv:RelV v r) (h:∀ s',Inv X pins σ H' s'->Q () s') :
  wpAny (model X.prog X.w) A (setItem (.ref a) u r) Q E s:=by
 rcases g with ⟨kvs,k,e,ey,l,eH⟩ | ⟨kvs,k,b,e,ey,eb,l,eH⟩
 ·subst ey eH
  obtain ⟨z,hd,vs,rel,dd⟩:=zQ I.hok e;have hz:vs.length<=sizeLine:=by rw [<- rel.length]; exact z
  have hl:(putK kvs k v).length<=sizeLine:=by have:=iC kvs k v; omega
  refine wpAny_setItem_pairs (zj ry) dd λ h' dd' hs=>h _ ?_
  have he:∃ q,h'.get? a=some q:=let ⟨q,_,_,hq,_⟩:=dd'; ⟨q,hq⟩
  exact qE I (by rw [e]; exact True.intro) hs he (wV hl hd (rel.put k rv) dd')
 ·subst ey eH
  cases (ry);obtain ⟨z,hd,xs,rel,dd⟩:=Mg I.hok e;have hz:xs.length<=sizeLine:=by rw [<- Paired.length rel]; exact z
  have hl:(putK kvs k v).length<=sizeLine:=by have:=iC kvs k v; omega
  refine wpAny_setItem_heap (hsz:=hz) (tupleKind_room_in1 hu) (vN I.hok eb) dd λ h' dd' hs=>h _ ?_
  obtain ⟨q,es,ep,hq,h2,h3,h4,_,h5⟩:=dd';refine qE I (by rw [e]; exact True.intro) hs ⟨q,hq⟩ ⟨hl,hd,_,(rel.put k eb rv).keeps λ c ys ec=>?_,q,es,ep,hq,h2,h3,h4,h5⟩;rw [aH (LH ec e (λ z=>nomatch z))];exact ec
end
def JL (i:Expr):Prop:=∀ ov iv,subscripted i false ov iv=operate [ov,iv] (getItem ov iv)
def BQ {prog:Program} {w:World} {A:Around} {E:Value->Shared->Prop} {s:Shared} {env:Env} {value slice:Expr} {pos:Pos} {T id:String} {Q:Value->Shared->Prop}
  (hl:typeLookup (.type T) "__getitem__"=pure (some (.builtin id))) (hs:JL slice)
  (h:wpAny (model prog w) A (eval value env) (λ o s₁=>wpAny (model prog w) A (eval slice env) (λ i s₂=>s₂.TypeIs o T/\wpAny (model prog w) A (getItem o i) Q E s₂) E s₁) E s) :
  wpAny (model prog w) A (eval (.Subscript value slice pos) env) Q E s:=by
 refine Subscript_ (Yt h (λ o s₁ h₁=>Yt h₁ (λ i s₂ h₂=>?_) λ _ _ x=>x) λ _ _ x=>x);obtain ⟨hT,h₂⟩:=h₂;refine Zi ?_
 rw [getitemInPython_of_ne hT.not_modules];refine Zi (wpAny_specialOf hT hl ?_)
 have fin:wpAny (model prog w) A (subscripted slice false o i) (λ r s₃=>wpAny (model prog w) A (letTemporaryGo value o r >>= λ _=>pure r) Q E s₃) E s₂:=by
  rw [hs o i];exact wpAny_operating (Yt h₂ (λ r s₃ h₃=>Zi (wpAny_letTemporaryGo (Z0 h₃))) λ _ _ x=>x)
 first
  | exact Z0 (Zi fin)
  | exact Zi (Z0 (Zi fin))
  | exact Zi fin
def qD (I:Inv X pins σ H s) (g:EI H a y o):s.TypeIs (.ref a) "dict":=by
 rcases g with ⟨kvs,k,e,_,_⟩ | ⟨kvs,k,b,e,_,_,_⟩
 ·obtain ⟨_,_,vs,_,dd⟩:=zO I.hok e
  exact dd.typeIs
 ·obtain ⟨_,_,xs,_,dd⟩:=Eb I.hok e
  exact dd.typeIs
def JY (td ty:TE):TE:=λ σ H Q=>td σ H λ x H1=>ty σ H1 λ y H2=>∃ a v,x=.ref a/\EI H2 a y (some v)/\Q v H2
def J7 (td ty tv:TE):TS:=λ D σ H=>tv σ H λ v H1=>td σ H1 λ x H2=>ty σ H2 λ y H3=>∃ a H4,x=.ref a/\Ia H3 a y v H4/\D.nx σ H4
section
variable {X:Cx} {o i e value:Expr} {pos pos' tpos:Pos} {td ty tv:TE}
def CL (hu:X.A.units+1 < cLine) (ho:PE X o td) (hi:PE X i ty) (hs:JL i):PE X (.Subscript o i pos) (JY td ty):=by
 intro pins s σ H Q I h;refine BQ PySem.F.slot_dict_getitem.lookup hs (thn (ho pins s σ H _ I h) λ u s1 ⟨x,H1,I1,rx,q1⟩=>thn (hi pins s1 σ H1 _ I1 q1) λ iv s2 ⟨y,H2,I2,ry,a,v,ex,g,q2⟩=>?_);subst ex;obtain rfl:u=Value.ref a:=rx;exact ⟨qD I2 g,w9 hu I2 g ry λ w' s3 I3 rw'=>⟨v,H2,I3,rw',q2⟩⟩
def Cn (hu:X.A.units+1 < cLine) (ho:PE X o td) (hi:PE X i ty) (hv:PE X value tv) (hs:swapsWith value (some (.Subscript o i pos')) pos.line X.env=pure false) :
  PS X (.Assign [.Subscript o i pos'] value pos) (J7 td ty tv):=by
 intro pins s σ H D I h;refine wpAny_Assign_Subscript (thn (hv pins s σ H _ I h) λ r s1 ⟨v,H1,I1,rv,q1⟩=>thn (ho pins s1 σ H1 _ I1 q1) λ u s2 ⟨x,H2,I2,rx,q2⟩=>thn (hi pins s2 σ H2 _ I2 q2) λ iv s3 ⟨y,H3,I3,ry,a,H4,ex,g,q3⟩=>?_) hs;subst ex;obtain rfl:u=Value.ref a:=rx;exact wZ hu I3 g ry rv λ s4 I4=>⟨σ,H4,I4,q3⟩
end
def sE (h:Heap) (hb:sysModules < h.objs.size):dZ P w H (h.push { cls:=.type "dict",data:=.dict #[] }) h.objs.size (.dK []) :=
 ⟨Zs _,Xp.mpr (Ne.symm (Z2 hb)),[],.nil,Heap.DictOf.new h⟩
def E1:TE:=λ _ H Q=>∀ p,H p=none->Q (.ref p) (upd H p (.dK []))
section
variable {X:Cx} {pos:Pos}
def yK:PE X (.Dict [] [] pos) E1:=λ pins s σ H Q I h =>
 wpAny_Dict_empty ⟨.ref s.heap.objs.size,_,I.laid (λ _ _ q=>Heap.get?_push_of_some _ q) (Ze _) (sE s.heap I.big),rfl,h _ (I.hok.fresh (Ze _))⟩
end
def qX:List (TE×TE)->St->Hp->(List (V×V)->Hp->Prop)->Prop
 | [],_,H,Q=>Q [] H
 | (tk,tv)::r,σ,H,Q=>tk σ H λ x H1=>tv σ H1 λ y H2=>qX r σ H2 λ ps H3=>Q ((x,y)::ps) H3
abbrev VV:List (V×V)->List (Value×Value)->Prop:=Paired λ p q=>RelV p.1 q.1/\RelV p.2 q.2
def PPs (X:Cx) (pos:Pos) (keys:List (Option Expr)) (values:List Expr) (trs:List (TE×TE)):Prop :=
  ∀ (pins:List (Addr×Obj)) (s:Shared) (σ:St) (H:Hp) (Q:List (V×V)->Hp->Prop),Inv X pins σ H s->qX trs σ H Q ->
    wpAny (model X.prog X.w) X.A (evalPairs (pairTrees keys values X.env pos)) (λ vs s'=>∃ ps H',Inv X pins σ H' s'/\VV ps vs/\Q ps H') X.xe s
def Co:PPs X pos [] [] []:=λ pins s σ H Q I h=>pairTrees_nil_walk ⟨[],H,I,.nil,h⟩
def yA {X:Cx} {pos:Pos} {k v:Expr} {ks:List (Option Expr)} {vs:List Expr} {tk tv:TE} {trs:List (TE×TE)} (hk:PE X k tk) (hv:PE X v tv) (hr:PPs X pos ks vs trs) :
  PPs X pos (some k::ks) (v::vs) ((tk,tv)::trs):=λ pins s σ H Q I h =>
 pairTrees_cons_walk (thn (hk pins s σ H _ I h) λ u s1 ⟨x,H1,I1,rx,q1⟩=>thn (hv pins s1 σ H1 _ I1 q1) λ w2 s2 ⟨y,H2,I2,ry,q2⟩ =>
  thn (hr pins s2 σ H2 _ I2 q2) λ ws s3 ⟨ps,H3,I3,rel,q3⟩=>⟨(x,y)::ps,H3,I3,.cons ⟨rx,ry⟩ rel,q3⟩)
def kS (kvs more:List (Key×V)):List (Key×V):=more.foldl (λ acc kv=>putK acc kv.1 kv.2) kvs
def KV.merge:∀ {more:List (Key×V)} {rs:List (Key×Value)} {kvs:List (Key×V)} {vs:List (Key×Value)},KV more rs->KV kvs vs->KV (kS kvs more) (merged vs rs):=by
 intro more rs kvs vs r
 induction r generalizing kvs vs with
 | nil=>intro q; exact q
 | @cons p q ps qs h t ih =>
  intro r0
  have e:KV (putK kvs p.1 p.2) (stored vs q.1 q.2):=by
   have:=r0.put p.1 h.2;rw [<- h.1]; exact this
  exact ih e
def jd:∀ (more kvs:List (Key×V)),(kS kvs more).length<=kvs.length+more.length
 | [],kvs=>by show kvs.length<=kvs.length+0; omega
 | p::r,kvs=>by
  have h1:=jd r (putK kvs p.1 p.2);have h2:=iC kvs p.1 p.2;show (kS (putK kvs p.1 p.2) r).length<=_;rw [Zw]; omega
def mq:∀ {kvs:List (Key×V)} {ws:List (Value×Value)},VV (kvs.map λ kv=>(kV kv.1,kv.2)) ws->∃ rs,Carries (cv P w) ws rs/\KV kvs rs
 | [],_,r=>by rw [Wv] at r; cases r; exact ⟨[],True.intro,.nil⟩
 | p::kvs,_,r=>by
  rw [Z8] at r
  cases r with
  | @cons a b as bs h t =>
   obtain ⟨rs,c,q⟩:=mq (P:=P) (w:=w) t;obtain ⟨b1,b2⟩:=b;exact ⟨(p.1,b2)::rs,⟨zj h.1,rfl,c⟩,.cons ⟨rfl,h.2⟩ q⟩
def JX (trs:List (TE×TE)):TE:=λ σ H Q=>∀ p,H p=none->qX trs σ (upd H p (.dK [])) λ ps H2=>H2 p=some (.dK [])/\∃ kvs:List (Key×V),ps=kvs.map (λ kv=>(kV kv.1,kv.2))/\kvs.length<=15/\Q (.ref p) (upd H2 p (.dK (kS [] kvs)))
def CK {X:Cx} {pos:Pos} {keys:List (Option Expr)} {values:List Expr} {trs:List (TE×TE)} (h:PPs X pos keys values trs) (hall:keys.all (·.isSome)=true) (hl:keys.length=values.length) (h0:keys≠[])
  (h15:keys.length<=15):PE X (.Dict keys values pos) (JX trs):=by
 intro pins s σ H Q I q;have hn:=I.hok.fresh (Ze s.heap.objs.size);have I1:=I.laid (t':=s.toks) (λ _ _ q=>Heap.get?_push_of_some _ q) (Ze _) (sE s.heap I.big);refine wpAny_Dict_walk (knd:=cv X.prog X.w) hall hl h0 h15 (thn (h pins _ σ _ _ I1 (q _ hn)) λ ws s2 ⟨ps,H2,I2,rel,e,kvs,ep,lk,q2⟩=>?_);subst ep;obtain ⟨rs,c,rk⟩:=mq rel;obtain ⟨z,hd,vs0,r0,dd⟩:=zQ I2.hok e;cases r0;refine ⟨rs,c,dd,λ h' dd' hs=>⟨.ref s.heap.objs.size,_,?_,rfl,q2⟩⟩
 have hz:(kS [] kvs).length<=sizeLine:=by
  have h1:=jd kvs [];rw [Xm] at h1;rw [sizeLine_eq]; omega
 have he:∃ q,h'.get? s.heap.objs.size=some q:=let ⟨q,_,_,hq,_⟩:=dd'; ⟨q,hq⟩
 exact qE I2 (by rw [e]; exact True.intro) hs he (wV hz hd (rk.merge .nil) dd')
section
variable {X:Cx} {pins:List (Addr×Obj)} {σ:St} {H:Hp} {s:Shared} {a:Addr} {kvs:List (Key×V)} {A:Around} {E:Value->Shared->Prop}
def zT (I:Inv X pins σ H s) (e:Rd H a (.dK kvs)) (h:∀ p s',H p=none->Inv X pins σ (upd H p (.dK kvs)) s'->Q (.ref p) s'):wpAny (model X.prog X.w) A (call (.type "dict") [.ref a]) Q E s:=by
 obtain ⟨z,hd,vs,rel,dd⟩:=zO I.hok e;refine kt_call_dict hd dd (by rw [<- rel.length]; exact z) λ h' dd' hs=>?_
 refine h _ _ (I.hok.fresh (Ze _)) (I.laid (λ b q hq=>?_) (Ze _) (wV z (Xp.mpr (Ne.symm (Z2 I.big))) rel dd'));exact (hs.2 b (Z2 (Zt hq))).trans (Heap.get?_push_of_some _ hq)
end
def Ei (h0:closureFor scope X.env=pure cl) (h1:scope.kind=.function) (h2:(scope.names.all λ y=>!(y.2 == .cell))=true)
  (h3:(scope.names.all λ y=>!(y.2 == .local)||(scope.names.lookup y.1 == some .local))=true) (h4:scope.names.lookup x=some .local) (h5:∀ p ∈ cl,X.env.cells.lookup p.1=some p.2)
  (h6:((relabel scope X.env).names.all λ p=>!(p.2 == .cell||p.2 == .free)||(cl.lookup p.1).isSome)=true)
  (h7:∀ p ∈ cs,X.N[p.2]?=some p.1/\X.env.kindOf p.1=some .cell/\(relabel scope X.env).names.lookup p.1=some .cell) (h8:(x::cs.map (·.1)).Nodup):cw X scope cl x cs where
 Ek:=h0
 kind:=h1
 oh:=λ y hy z=>by
  have:=List.all_eq_true.mp h2 y hy;rw [z] at this;exact absurd this (by decide)
 names:=λ y hy z=>by
  have:=List.all_eq_true.mp h3 y hy;rw [z] at this
  simpa using this
 own:=h4
 sub:=λ y c e=>h5 (y,c) (Y0 e)
 has:=λ y hy=>by
  have key:∀ k,(relabel scope X.env).names.lookup y=some k->(k=.cell\/k=.free)->∃ c,cl.lookup y=some c:=λ k e hk=>by
   have:=List.all_eq_true.mp h6 (y,k) (Y0 e);rcases hk with rfl | rfl
   · exact Yz.mp (by simpa using this)
   · exact Yz.mp (by simpa using this)
  rcases hy with hy | hy
  · exact key _ hy (.inl rfl)
  · exact key _ hy (.inr rfl)
 JJ:=λ p hp=>⟨(h7 p hp).1,.inl (h7 p hp).2.1,.inl (h7 p hp).2.2⟩
 nd:=h8
def EJ (X:Cx):List (Str×Addr)->Prop
 | []=>True
 | p::r=>X.env.cells.lookup p.1=some p.2/\EJ X r
def AllP (X:Cx) (scope:Scope):List (Str×Nat)->Prop
 | []=>True
 | p::r=>(X.N[p.2]?=some p.1/\X.env.kindOf p.1=some .cell/\(relabel scope X.env).names.lookup p.1=some .cell)/\AllP X scope r
def EJ.all:∀ {cl:List (Str×Addr)},EJ X cl->∀ p ∈ cl,X.env.cells.lookup p.1=some p.2
 | [],_,p,h=>by cases h
 | q::r,a,p,h=>by
  rcases Zl.mp h with rfl | h
  · exact a.1
  · exact EJ.all a.2 p h
def AllP.all:∀ {cs:List (Str×Nat)},AllP X scope cs->∀ p ∈ cs,X.N[p.2]?=some p.1/\X.env.kindOf p.1=some .cell/\(relabel scope X.env).names.lookup p.1=some .cell
 | [],_,p,h=>by cases h
 | q::r,a,p,h=>by
  rcases Zl.mp h with rfl | h
  · exact a.1
  · exact AllP.all a.2 p h
def Eh (cs:List (Str×Nat)) (h0:closureFor scope X.env=pure cl) (h1:scope.kind=.function) (h2:(scope.names.all λ y=>!(y.2 == .cell))=true)
 (h3:(scope.names.all λ y=>!(y.2 == .local)||(scope.names.lookup y.1 == some .local))=true) (h4:scope.names.lookup x=some .local) (h5:EJ X cl)
 (h6:((relabel scope X.env).names.all λ p=>!(p.2 == .cell||p.2 == .free)||(cl.lookup p.1).isSome)=true)
 (h7:AllP X scope cs) (h8:(x::cs.map (·.1)).Nodup):cw X scope cl x cs:=Ei h0 h1 h2 h3 h4 h5.all h6 h7.all h8
inductive D where
 | non | bl (b:Bool) | int (i:Int) | str (x:Str) | ty (n:String)
 | tup (ds:List D) | lst (ds:List D) | fz (ds:List D) | dct (kvs:List (Key×D)) | obj (C:Addr) (fs:List (Str×D)) | cls (C:Addr) | dfz (kvs:List (Key×D))
mutual
inductive Rp (K:W.Frag) (H:Hp):V->D->Prop where
 | non:Rp K H .non .non
 | bl (b:Bool):Rp K H (.bl b) (.bl b)
 | int (i:Int):Rp K H (.int i) (.int i)
 | str (x:Str):Rp K H (.str x) (.str x)
 | ty (n:String):Rp K H (.ty n) (.ty n)
 | cls (C:Addr):Rp K H (.ref C) (.cls C)
 | tup {a:Addr} {xs:List V} {ds:List D} (h:SqT K H a xs) (r:Rps K H xs ds):Rp K H (.ref a) (.tup ds)
 | lst {a:Addr} {xs:List V} {ds:List D} (h:H a=some (.lst xs)) (r:Rps K H xs ds):Rp K H (.ref a) (.lst ds)
 | fz {a:Addr} {xs:List V} {ds:List D} (h:SqL K H a xs) (r:Rps K H xs ds):Rp K H (.ref a) (.fz ds)
 | dct {a:Addr} {kvs:List (Key×V)} {ds:List (Key×D)} (h:H a=some (.dK kvs)) (r:RpK K H kvs ds):Rp K H (.ref a) (.dct ds)
 | obj {a C dx:Addr} {fs:List (Str×V)} {ds:List (Str×D)} (h:H a=some (.ins C dx fs)) (r:RpF K H fs ds):Rp K H (.ref a) (.obj C ds)
 | dfz {a:Addr} {kvs:List (Key×V)} {ds:List (Key×D)} (h:Rd H a (.dK kvs)) (r:RpK K H kvs ds):Rp K H (.ref a) (.dfz ds)
inductive Rps (K:W.Frag) (H:Hp):List V->List D->Prop where
 | nil:Rps K H [] []
 | cons {x:V} {d:D} {xs:List V} {ds:List D} (h:Rp K H x d) (r:Rps K H xs ds):Rps K H (x::xs) (d::ds)
inductive RpK (K:W.Frag) (H:Hp):List (Key×V)->List (Key×D)->Prop where
 | nil:RpK K H [] []
 | cons {k:Key} {x:V} {d:D} {xs:List (Key×V)} {ds:List (Key×D)} (h:Rp K H x d) (r:RpK K H xs ds):RpK K H ((k,x)::xs) ((k,d)::ds)
inductive RpF (K:W.Frag) (H:Hp):List (Str×V)->List (Str×D)->Prop where
 | nil:RpF K H [] []
 | cons {k:Str} {x:V} {d:D} {xs:List (Str×V)} {ds:List (Str×D)} (h:Rp K H x d) (r:RpF K H xs ds):RpF K H ((k,x)::xs) ((k,d)::ds)
end
section
variable {K:W.Frag} {H H':Hp}
mutual
def Rp.same (g:fD H H'):∀ {v:V} {d:D},Rp K H v d->Rp K H' v d
 | _,_,.non=>.non
 | _,_,.bl b=>.bl b
 | _,_,.int i=>.int i
 | _,_,.str x=>.str x
 | _,_,.ty n=>.ty n
 | _,_,.cls n=>.cls n
 | _,_,.tup h r=>.tup (g.tup h) (Rps.same g r)
 | _,_,.lst h r=>.lst (g _ _ h) (Rps.same g r)
 | _,_,.fz h r=>.fz (g.seq h) (Rps.same g r)
 | _,_,.dct h r=>.dct (g _ _ h) (RpK.same g r)
 | _,_,.obj h r=>.obj (g _ _ h) (RpF.same g r)
 | _,_,.dfz h r=>.dfz (h.elim (λ z=>.inl (g _ _ z)) λ ⟨o,z⟩=>.inr ⟨o,g _ _ z⟩) (RpK.same g r)
def Rps.same (g:fD H H'):∀ {v:List V} {d:List D},Rps K H v d->Rps K H' v d
 | _,_,.nil=>.nil
 | _,_,.cons h r=>.cons (Rp.same g h) (Rps.same g r)
def RpK.same (g:fD H H'):∀ {v:List (Key×V)} {d:List (Key×D)},RpK K H v d->RpK K H' v d
 | _,_,.nil=>.nil
 | _,_,.cons h r=>.cons (Rp.same g h) (RpK.same g r)
def RpF.same (g:fD H H'):∀ {v:List (Str×V)} {d:List (Str×D)},RpF K H v d->RpF K H' v d
 | _,_,.nil=>.nil
 | _,_,.cons h r=>.cons (Rp.same g h) (RpF.same g r)
end
def Rps.length:∀ {xs:List V} {ds:List D},Rps K H xs ds->xs.length=ds.length
 | _,_,.nil=>rfl
 | _,_,.cons _ r=>X4 (·+1) r.length
def Rps.get:∀ {xs:List V} {ds:List D} {i:Nat} {d:D},Rps K H xs ds->ds[i]?=some d->∃ x,xs[i]?=some x/\Rp K H x d
 | _,_,_,_,.nil,e=>by simp at e
 | _,_,0,_,.cons h _,e=>by simp at e; subst e; exact ⟨_,by simp,h⟩
 | _,_,i+1,d,.cons _ r,e=>by
  obtain ⟨x,h1,h2⟩:=Rps.get (i:=i) (d:=d) r (by simpa using e);exact ⟨x,by simpa using h1,h2⟩
def Rps.append:∀ {xs ys:List V} {ds es:List D},Rps K H xs ds->Rps K H ys es->Rps K H (xs++ys) (ds++es)
 | _,_,_,_,.nil,h=>h
 | _,_,_,_,.cons h r,h'=>.cons h (Rps.append r h')
def Rps.take:∀ {xs:List V} {ds:List D} (n:Nat),Rps K H xs ds->Rps K H (xs.take n) (ds.take n)
 | _,_,0,_=>.nil
 | _,_,_+1,.nil=>.nil
 | _,_,n+1,.cons h r=>.cons h (Rps.take n r)
def Rps.drop:∀ {xs:List V} {ds:List D} (n:Nat),Rps K H xs ds->Rps K H (xs.drop n) (ds.drop n)
 | _,_,0,h=>h
 | _,_,_+1,.nil=>.nil
 | _,_,n+1,.cons _ r=>Rps.drop n r
def Rps.set:∀ {xs:List V} {ds:List D} {x:V} {d:D} (n:Nat),Rps K H xs ds->Rp K H x d->Rps K H (xs.set n x) (ds.set n d)
 | _,_,_,_,_,.nil,_=>.nil
 | _,_,_,_,0,.cons _ r,h=>.cons h r
 | _,_,_,_,n+1,.cons h r,h'=>.cons h (Rps.set n r h')
def Rps.ints:∀ (ns:List Int),Rps K H (ns.map V.int) (ns.map D.int)
 | []=>.nil
 | n::ns=>.cons (.int n) (Rps.ints ns)
end
structure Ext (Hs H Hs' H':Hp):Prop where
 ss:fD Hs Hs'
 sh:fD Hs' H'
 hh:fD H H'
 fr:∀ b,Hs b=none->H b≠none->Hs' b=none
def Ext.refl (h:fD Hs H):Ext Hs H Hs H:=⟨.refl _,h,.refl _,λ _ h _=>h⟩
def jv {α:Type} {o:Option α} {x:α} (h:o=some x):o≠none:=by rw [h]; simp
def fD.live (g:fD H H') (h:H b≠none):H' b≠none:=by
 cases q:H b with
 | none=>exact absurd q h
 | some o=>rw [g _ _ q]; simp
def Ext.trans (a:Ext Hs H Hs1 H1) (b:Ext Hs1 H1 Hs2 H2):Ext Hs H Hs2 H2 :=
 ⟨a.ss.trans b.ss,b.sh,a.hh.trans b.hh,λ c h1 h2=>b.fr c (a.fr c h1 h2) (a.hh.live h2)⟩
def Ext.new (h:fD Hs H) (hp:H p=none) (o:HO):Ext Hs H (upd Hs p o) (upd H p o):=by
 refine ⟨aW (h.free hp) o,λ b u q=>?_,aW hp o,λ b h1 h2=>?_⟩
 ·by_cases e:b=p
  · subst e; rw [aO] at q ⊢; exact q
  · rw [aH e] at q ⊢; exact h _ _ q
 ·by_cases e:b=p
  · subst e; exact absurd hp h2
  · rw [aH e]; exact h1
inductive Sl where
 | no | shr (d:D) | own (d:D)
inductive Ow (K:W.Frag) (Hs H:Hp) (a:Addr):D->Prop where
 | lst {xs:List V} {ds:List D} (h:H a=some (.lst xs)) (n:Hs a=none) (r:Rps K Hs xs ds):Ow K Hs H a (.lst ds)
 | dct {kvs:List (Key×V)} {ds:List (Key×D)} (h:H a=some (.dK kvs)) (n:Hs a=none) (r:RpK K Hs kvs ds):Ow K Hs H a (.dct ds)
def Ow.hid {K:W.Frag} {Hs H:Hp} {a:Addr} {d:D} (h:Ow K Hs H a d):Hs a=none:=by cases h <;> assumption
def Ow.live {K:W.Frag} {Hs H:Hp} {a:Addr} {d:D} (h:Ow K Hs H a d):H a≠none:=by
 cases h with
 | lst h _ _=>exact jv h
 | dct h _ _=>exact jv h
def Ow.ext {K:W.Frag} {Hs H Hs' H':Hp} {a:Addr} {d:D} (g:Ext Hs H Hs' H') (h:Ow K Hs H a d):Ow K Hs' H' a d:=by
 have n':=g.fr a h.hid h.live
 cases h with
 | lst h n r=>exact .lst (g.hh _ _ h) n' (r.same g.ss)
 | dct h n r=>exact .dct (g.hh _ _ h) n' (r.same g.ss)
def Ow.off {K:W.Frag} {Hs H H':Hp} {a:Addr} {d:D} (h:Ow K Hs H a d) (e:H' a=H a):Ow K Hs H' a d:=by
 cases h with
 | lst h n r=>exact .lst (e.trans h) n r
 | dct h n r=>exact .dct (e.trans h) n r
inductive StR (K:W.Frag) (H0 Hs H:Hp):List (Option V)->List Sl->List Addr->Prop where
 | nil:StR K H0 Hs H [] [] []
 | no {o:Option V} {σ:List (Option V)} {τ:List Sl} {fp:List Addr} (r:StR K H0 Hs H σ τ fp):StR K H0 Hs H (o::σ) (.no::τ) fp
 | shr {v:V} {d:D} {σ:List (Option V)} {τ:List Sl} {fp:List Addr} (h:Rp K Hs v d) (r:StR K H0 Hs H σ τ fp):StR K H0 Hs H (some v::σ) (.shr d::τ) fp
 | own {a:Addr} {d:D} {σ:List (Option V)} {τ:List Sl} {fp:List Addr} (h:Ow K Hs H a d) (z:H0 a=none) (m:a ∉ fp) (r:StR K H0 Hs H σ τ fp):StR K H0 Hs H (some (.ref a)::σ) (.own d::τ) (a::fp)
section
variable {K:W.Frag} {H0 Hs H Hs' H':Hp} {σ:List (Option V)} {τ:List Sl} {fp:List Addr}
def StR.ext (g:Ext Hs H Hs' H') (h:StR K H0 Hs H σ τ fp):StR K H0 Hs' H' σ τ fp:=by
 induction h with
 | nil=>exact .nil
 | no _ ih=>exact .no ih
 | shr h _ ih=>exact .shr (h.same g.ss) ih
 | own h z m _ ih=>exact .own (h.ext g) z m ih
def StR.off (h:StR K H0 Hs H σ τ fp) (m:a ∉ fp):StR K H0 Hs (upd H a o) σ τ fp:=by
 induction h with
 | nil=>exact .nil
 | no _ ih=>exact .no (ih m)
 | shr h _ ih=>exact .shr h (ih m)
 | @own b d σ τ fp h z n _ ih =>
  have ne:b≠a:=λ e=>m (by rw [e]; exact Zo ..)
  exact .own (h.off (aH ne)) z n (ih (λ q=>m (Zg _ q)))
def StR.DU (h:StR K H0 Hs H σ τ fp):∀ a ∈ fp,Hs a=none/\H0 a=none/\H a≠none:=by
 induction h with
 | nil=>intro a h; cases h
 | no _ ih=>exact ih
 | shr _ _ ih=>exact ih
 | own h z m _ ih =>
  intro b hb;rcases Zl.mp hb with e | e
  · subst e; exact ⟨h.hid,z,h.live⟩
  · exact ih b e
def StR.get {i:Nat} {d:D} (h:StR K H0 Hs H σ τ fp):τ[i]?=some (.shr d)->∃ v,σ[i]?=some (some v)/\Rp K Hs v d:=by
 induction h generalizing i with
 | nil=>intro e; simp at e
 | no _ ih =>
  intro e
  cases i with
  | zero=>simp at e
  | succ i=>exact ih (by simpa using e)
 | shr h _ ih =>
  intro e
  cases i with
  | zero=>simp at e; subst e; exact ⟨_,rfl,h⟩
  | succ i=>exact ih (by simpa using e)
 | own _ _ _ _ ih =>
  intro e
  cases i with
  | zero=>simp at e
  | succ i=>exact ih (by simpa using e)
def StR.A9 {i:Nat} {d:D} (h:StR K H0 Hs H σ τ fp):τ[i]?=some (.own d)->∃ a,σ[i]?=some (some (.ref a))/\Ow K Hs H a d/\H0 a=none/\a ∈ fp:=by
 induction h generalizing i with
 | nil=>intro e; simp at e
 | no _ ih =>
  intro e
  cases i with
  | zero=>simp at e
  | succ i=>exact ih (by simpa using e)
 | shr h _ ih =>
  intro e
  cases i with
  | zero=>simp at e
  | succ i=>exact ih (by simpa using e)
 | own h z m _ ih =>
  intro e
  cases i with
  | zero=>simp at e; subst e; exact ⟨_,rfl,h,z,Zo ..⟩
  | succ i =>
   obtain ⟨a,h1,h2,h3,h4⟩:=ih (by simpa using e);exact ⟨a,h1,h2,h3,Zg _ h4⟩
def StR.ED (hv:Rp K Hs v d) (h:StR K H0 Hs H σ τ fp):∃ fp',(∀ a ∈ fp',a ∈ fp)/\StR K H0 Hs H (σ.set i (some v)) (τ.set i (.shr d)) fp':=by
 induction h generalizing i with
 | nil=>exact ⟨[],λ _ h=>h,.nil⟩
 | no r ih =>
  cases i with
  | zero=>exact ⟨_,λ _ h=>h,.shr hv r⟩
  | succ i=>obtain ⟨fp',h1,h2⟩:=ih; exact ⟨fp',h1,.no h2⟩
 | shr h r ih =>
  cases i with
  | zero=>exact ⟨_,λ _ h=>h,.shr hv r⟩
  | succ i=>obtain ⟨fp',h1,h2⟩:=ih (i:=i); exact ⟨fp',h1,.shr h h2⟩
 | own h z m r ih =>
  cases i with
  | zero=>exact ⟨_,λ _ h=>Zg _ h,.shr hv r⟩
  | succ i =>
   obtain ⟨fp',h1,h2⟩:=ih (i:=i);exact ⟨_::fp',λ b hb=>(Zl.mp hb).elim (λ e=>by subst e; exact Zo ..) λ e=>Zg _ (h1 b e),.own h z (λ q=>m (h1 _ q)) h2⟩
def StR.Ig (hv:Ow K Hs H a d) (z0:H0 a=none) (h:StR K H0 Hs H σ τ fp) (m0:a ∉ fp) (hi:i < τ.length) :
  ∃ fp',(∀ b ∈ fp',b=a\/b ∈ fp)/\StR K H0 Hs H (σ.set i (some (.ref a))) (τ.set i (.own d)) fp':=by
 induction h generalizing i with
 | nil=>exact absurd hi (by simp)
 | @no o σ τ fp r ih =>
  cases i with
  | zero=>exact ⟨a::fp,λ b h=>Zl.mp h,.own hv z0 m0 r⟩
  | succ i=>obtain ⟨fp',h1,h2⟩:=ih m0 (by simpa using hi); exact ⟨fp',h1,.no h2⟩
 | @shr v d σ τ fp h r ih =>
  cases i with
  | zero=>exact ⟨a::fp,λ b h=>Zl.mp h,.own hv z0 m0 r⟩
  | succ i=>obtain ⟨fp',h1,h2⟩:=ih m0 (i:=i) (by simpa using hi); exact ⟨fp',h1,.shr h h2⟩
 | @own b d' σ τ fp h z m r ih =>
  have m1:a ∉ fp:=λ q=>m0 (Zg _ q)
  cases i with
  | zero=>exact ⟨a::fp,λ c hc=>(Zl.mp hc).imp id λ e=>Zg _ e,.own hv z0 m1 r⟩
  | succ i =>
   obtain ⟨fp',h1,h2⟩:=ih m1 (i:=i) (by simpa using hi);refine ⟨b::fp',λ c hc=>?_,.own h z (λ q=>?_) h2⟩
   ·rcases Zl.mp hc with e | e
    · exact .inr (by subst e; exact Zo ..)
    · exact (h1 c e).imp id λ e=>Zg _ e
   ·rcases h1 _ q with e | e
    · exact m0 (by rw [<- e]; exact Zo ..)
    · exact m e
def StR.mut {i:Nat} {a:Addr} {d d':D} {o:HO} (h:StR K H0 Hs H σ τ fp):τ[i]?=some (.own d)->σ[i]?=some (some (.ref a))->Ow K Hs (upd H a o) a d'->StR K H0 Hs (upd H a o) σ (τ.set i (.own d')) fp:=by
 induction h generalizing i with
 | nil=>intro e; simp at e
 | no _ ih =>
  intro e e2 hv
  cases i with
  | zero=>simp at e
  | succ i=>exact .no (ih (by simpa using e) (by simpa using e2) hv)
 | shr h _ ih =>
  intro e e2 hv
  cases i with
  | zero=>simp at e
  | succ i=>exact .shr h (ih (by simpa using e) (by simpa using e2) hv)
 | @own b d1 σ τ fp h z m r ih =>
  intro e e2 hv
  cases i with
  | zero =>
   have q:b=a:=by simpa using e2
   subst q;exact .own hv z m (r.off m)
  | succ i =>
   have e':τ[i]?=some (.own d):=by simpa using e
   have e2':σ[i]?=some (some (.ref a)):=by simpa using e2
   obtain ⟨c,h1,h2,h3,h4⟩:=r.A9 e';have q:c=a:=by rw [e2'] at h1; simpa using h1.symm
   subst q;have ne:b≠c:=λ e=>m (by rw [e]; exact h4)
   exact .own (h.off (aH ne)) z m (ih e' e2' hv)
end
def Ow.rp {K:W.Frag} {Hs H:Hp} {a:Addr} {d:D} (h:Ow K Hs H a d):∃ o,H a=some o/\Rp K (upd Hs a o) (.ref a) d:=by
 cases h with
 | lst h n r=>exact ⟨_,h,.lst aO (r.same (aW n _))⟩
 | dct h n r=>exact ⟨_,h,.dct aO (r.same (aW n _))⟩
section
variable {K:W.Frag} {H0 Hs H Hs' H':Hp} {σ:List (Option V)} {τ:List Sl} {fp:List Addr}
def StR.Oy (h:StR K H0 Hs H σ τ fp) (n:Hs a=none) (m:a ∉ fp):StR K H0 (upd Hs a o) H σ τ fp:=by
 induction h with
 | nil=>exact .nil
 | no _ ih=>exact .no (ih m)
 | shr h _ ih=>exact .shr (h.same (aW n o)) (ih m)
 | @own b d σ τ fp h z k _ ih =>
  have ne:b≠a:=λ e=>m (by rw [e]; exact Zo ..)
  refine .own ?_ z k (ih (λ q=>m (Zg _ q)))
  cases h with
  | lst h n' r=>exact .lst h (by rw [aH ne]; exact n') (r.same (aW n o))
  | dct h n' r=>exact .dct h (by rw [aH ne]; exact n') (r.same (aW n o))
def StR.frz {i:Nat} {d:D} (h:StR K H0 Hs H σ τ fp):τ[i]?=some (.own d)->∃ a o fp',H a=some o/\Hs a=none/\H0 a=none/\StR K H0 (upd Hs a o) H σ (τ.set i (.shr d)) fp'/\a ∉ fp'/\(∀ b ∈ fp',b ∈ fp)/\σ[i]?=some (some (.ref a))/\Ow K Hs H a d:=by
 induction h generalizing i with
 | nil=>intro e; simp at e
 | no _ ih =>
  intro e
  cases i with
  | zero=>simp at e
  | succ i =>
   obtain ⟨a,o,fp',h1,h2,h3,h4,h5,h6,h7,h8⟩:=ih (by simpa using e);exact ⟨a,o,fp',h1,h2,h3,.no h4,h5,h6,h7,h8⟩
 | shr h _ ih =>
  intro e
  cases i with
  | zero=>simp at e
  | succ i =>
   obtain ⟨a,o,fp',h1,h2,h3,h4,h5,h6,h7,h8⟩:=ih (i:=i) (by simpa using e);exact ⟨a,o,fp',h1,h2,h3,.shr (h.same (aW h2 o)) h4,h5,h6,h7,h8⟩
 | @own b d1 σ τ fp h z m r ih =>
  intro e
  cases i with
  | zero =>
   simp at e;subst e;obtain ⟨o,h1,h2⟩:=h.rp;exact ⟨b,o,fp,h1,h.hid,z,.shr h2 (r.Oy h.hid m),m,λ _ q=>Zg _ q,rfl,h⟩
  | succ i =>
   obtain ⟨a,o,fp',h1,h2,h3,h4,h5,h6,h7,h8⟩:=ih (i:=i) (by simpa using e);obtain ⟨c,k1,k2,k3,k4⟩:=r.A9 (i:=i) (by simpa using e);have q:c=a:=by rw [h7] at k1; simpa using k1.symm
   subst q;have ne:b≠c:=λ e=>m (by rw [e]; exact k4)
   refine ⟨c,o,b::fp',h1,h2,h3,.own ?_ z (λ q=>m (h6 _ q)) h4,?_,?_,h7,h8⟩
   ·cases h with
    | lst h n' r=>exact .lst h (by rw [aH ne]; exact n') (r.same (aW h2 o))
    | dct h n' r=>exact .dct h (by rw [aH ne]; exact n') (r.same (aW h2 o))
   ·intro q
    rcases Zl.mp q with e | e
    · exact ne e.symm
    · exact h5 e
   ·intro c' hc
    rcases Zl.mp hc with e | e
    · subst e; exact Zo ..
    · exact Zg _ (h6 _ e)
end
abbrev DE:=List Sl->Option D
abbrev DT:=List Sl->Option Bool
abbrev DA:=List Sl->Option (List D)
inductive Out where
 | next (τ:List Sl) | ret (s:Sl) | brk (τ:List Sl) | cnt (τ:List Sl)
abbrev DS:=List Sl->Option Out
def SlV (K:W.Frag) (H0 Hs H:Hp) (v:V):Sl->Prop
 | .no=>False
 | .shr d=>Rp K Hs v d
 | .own d=>∃ a,v=.ref a/\Ow K Hs H a d/\H0 a=none
structure Rep (K:W.Frag) (Hs0 H0 Hs H:Hp) (σ:St) (τ:List Sl):Prop where
 ext:Ext Hs0 H0 Hs H
 st:∃ fp,StR K H0 Hs H σ τ fp
def rdE (K:W.Frag) (f:DE):TE:=λ σ H Q=>∃ H0 Hs τ fp d,StR K H0 Hs H σ τ fp/\fD Hs H/\f τ=some d/\∀ v Hs' H',Ext Hs H Hs' H'->Rp K Hs' v d->Q v H'
def rdT (K:W.Frag) (f:DT):TT:=λ σ H Q=>∃ H0 Hs τ fp d,StR K H0 Hs H σ τ fp/\fD Hs H/\f τ=some d/\∀ Hs' H',Ext Hs H Hs' H'->Q d H'
def rdA (K:W.Frag) (f:DA):TA:=λ σ H Q=>∃ H0 Hs τ fp d,StR K H0 Hs H σ τ fp/\fD Hs H/\f τ=some d/\∀ v Hs' H',Ext Hs H Hs' H'->Rps K Hs' v d->Q v H'
def rdO (K:W.Frag) (f:DE):TE:=λ σ H Q=>∃ H0 Hs τ fp d,StR K H0 Hs H σ τ fp/\fD Hs H/\f τ=some d/\∀ a Hs' H',Ext Hs H Hs' H'->Ow K Hs' H' a d->H a=none->Q (.ref a) H'
def PEd (X:Cx) (e:Expr) (f:DE):Prop:=PE X e (rdE X.K f)
def PEo (X:Cx) (e:Expr) (f:DE):Prop:=PE X e (rdO X.K f)
def PTd (X:Cx) (e:Expr) (f:DT):Prop:=PT X e (rdT X.K f)
def PAd (X:Cx) (es:List Expr) (f:DA):Prop:=PA X es (rdA X.K f)
def Fin (K:W.Frag) (Hs0 H0:Hp) (E:Ends):Out->Prop
 | .next τ=>∀ σ Hs H,Rep K Hs0 H0 Hs H σ τ->E.nx σ H
 | .brk τ=>∀ σ Hs H,Rep K Hs0 H0 Hs H σ τ->E.bk σ H
 | .cnt τ=>∀ σ Hs H,Rep K Hs0 H0 Hs H σ τ->E.ct σ H
 | .ret s=>∀ v Hs H,Ext Hs0 H0 Hs H->SlV K H0 Hs H v s->E.rt v H
def rdS (K:W.Frag) (f:DS):TS:=λ E σ H=>∃ Hs0 H0 Hs τ o,Rep K Hs0 H0 Hs H σ τ/\f τ=some o/\Fin K Hs0 H0 E o
def PSd (X:Cx) (s:Stmt) (f:DS):Prop:=PS X s (rdS X.K f)
def mv (X:Cx) (s:List Stmt) (f:DS):Prop:=PSs X s (rdS X.K f)
def PE.imp (h:PE X e t) (hi:∀ σ H Q,t' σ H Q->t σ H Q):PE X e t':=λ pins s σ H Q I q=>h pins s σ H Q I (hi _ _ _ q)
def PT.imp (h:PT X e t) (hi:∀ σ H Q,t' σ H Q->t σ H Q):PT X e t':=λ pins s σ H Q I q=>h pins s σ H Q I (hi _ _ _ q)
def PA.imp (h:PA X e t) (hi:∀ σ H Q,t' σ H Q->t σ H Q):PA X e t':=λ pos pins s σ H Q I q=>h pos pins s σ H Q I (hi _ _ _ q)
def PS.imp (h:PS X e t) (hi:∀ E σ H,t' E σ H->t E σ H):PS X e t':=λ pins s σ H E I q=>h pins s σ H E I (hi _ _ _ q)
def PSs.imp (h:PSs X e t) (hi:∀ E σ H,t' E σ H->t E σ H):PSs X e t':=λ pins s σ H E I q=>h pins s σ H E I (hi _ _ _ q)
def ao (i:Nat):DE:=λ τ=>match τ[i]? with | some (.shr d)=>some d | _=>none
def dC (d:D):DE:=λ _=>some d
def dOp (o:D->D->Option D) (f g:DE):DE:=λ τ=>(f τ).bind λ x=>(g τ).bind λ y=>o x y
def dUn (o:D->Option D) (f:DE):DE:=λ τ=>(f τ).bind o
def aC:DA:=λ _=>some []
def ah (f:DE) (g:DA):DA:=λ τ=>(f τ).bind λ x=>(g τ).bind λ xs=>some (x::xs)
def bf (o:List D->Option D) (f:DA):DE:=λ τ=>(f τ).bind o
def cY (f:DA):DE:=λ τ=>(f τ).bind λ ds=>if ds.length<=100000 then some (.tup ds) else none
def lU (f:DA):DE:=λ τ=>(f τ).bind λ ds=>if ds.length<=100000 then some (.lst ds) else none
def dIf (c:DT) (f g:DE):DE:=λ τ=>(c τ).bind λ b=>if b=true then f τ else g τ
def xb (f g:DE):DE:=λ τ=>(f τ).bind λ x=>match x with | .bl true=>g τ | .bl false=>some (.bl false) | _=>none
def OA (f g:DE):DE:=λ τ=>(f τ).bind λ x=>match x with | .bl true=>some (.bl true) | .bl false=>g τ | _=>none
def tS (f:DE):DE:=λ τ=>(f τ).bind λ x=>match x with | .bl b=>some (.bl (!b)) | _=>none
def dT (f:DE):DT:=λ τ=>(f τ).bind λ x=>match x with | .bl b=>some b | _=>none
def fE (f g:DT):DT:=λ τ=>(f τ).bind λ b=>if b=true then g τ else some false
def dOr (f g:DT):DT:=λ τ=>(f τ).bind λ b=>if b=true then some true else g τ
def nj (f:DT):DT:=λ τ=>(f τ).map (!·)
def le5 (h:n<=100000):n < sizeLine:=Yv h (by rw [sizeLine_eq]; decide)
def vK (h:n<=100000):n<=sizeLine:=Xq (le5 h)
def nn {α:Type} {d:α} {p:Prop} (h:(none:Option α)=some d):p:=nomatch h
def bind_some {α β:Type} {o:Option α} {f:α->Option β} {b:β} (h:o.bind f=some b):∃ a,o=some a/\f a=some b:=Option.bind_eq_some_iff.mp h
section
variable {X:Cx} {a b c e:Expr} {es:List Expr} {pos:Pos} {f g h:DE}
def FP (i:Nat) (hN:X.N[i]?=some x:=by rfl) (hv:Vis X.env.scope x:=by first | exact Or.inl rfl | exact Or.inr (Or.inl rfl) | exact Or.inr (Or.inr rfl)) (hd:(x == ("__debug__":Str))=false:=by decide)
   (hcd:(x == ("__classdict__":Str))=false:=by decide):PEd X (.Name x pos) (ao i) :=
 (jR hN hv hd hcd).imp λ σ H Q ⟨H0,Hs,τ,fp,d,st,sm,e,k⟩=>by
   have e':τ[i]?=some (.shr d):=by
    unfold ao at e;split at e
    · rename_i d' q; rw [q]; simpa using e
    · cases e
   obtain ⟨v,h1,h2⟩:=st.get e';exact ⟨v,h1,k v Hs H (.refl sm) h2⟩
def gV (h:PE X e (tC v)) (r:∀ H,Rp X.K H v d):PEd X e (dC d) :=
 h.imp λ σ H Q ⟨H0,Hs,τ,fp,d',st,sm,e,k⟩=>by
  have e':=Zj e;subst e';exact k v Hs H (.refl sm) (r Hs)
def FX {j}:PEd X (.Constant (.int i) j pos) (dC (.int i)):=gV FK λ _=>.int i
def Ko {j}:PEd X (.Constant (.bool i) j pos) (dC (.bl i)):=gV Ki λ _=>.bl i
def FW {j}:PEd X (.Constant .none j pos) (dC .non):=gV FI λ _=>.non
def FT {j}:PEd X (.Constant (.str x) j pos) (dC (.str x)):=gV FF λ _=>.str x
def CS (hg:Gl X x) (hm:X.mg x=some u) (r:RelV v u) (rd:∀ H,Rp X.K H v d) (hd:(x == ("__debug__":Str))=false:=by decide):PEd X (.Name x pos) (dC d):=gV (CJ hg hm r hd) rd
def Kk (hg:Gl X x) (hm:X.mg x=none) (hv:bootBuiltins x=some (.type n)) (hn:x≠"__name__":=by decide) (hd:(x == ("__debug__":Str))=false:=by decide):PEd X (.Name x pos) (dC (.ty n)) :=
 gV (v:=.ty n) (CO hg hm hv (rfl) hn hd) λ _=>.ty n
def rdR (K:W.Frag) (o:D->D->Option D):R2:=λ x y H Q=>∃ Hs dx dy d,fD Hs H/\Rp K Hs x dx/\Rp K Hs y dy/\o dx dy=some d/\∀ v Hs' H',Ext Hs H Hs' H'->Rp K Hs' v d->Q v H'
def rdU (K:W.Frag) (o:D->Option D):V->Hp->VK->Prop:=λ x H Q=>∃ Hs dx d,fD Hs H/\Rp K Hs x dx/\o dx=some d/\∀ v Hs' H',Ext Hs H Hs' H'->Rp K Hs' v d->Q v H'
def rdL (K:W.Frag) (o:List D->Option D):List V->Hp->VK->Prop:=λ xs H Q=>∃ Hs ds d,fD Hs H/\Rps K Hs xs ds/\o ds=some d/\∀ v Hs' H',Ext Hs H Hs' H'->Rp K Hs' v d->Q v H'
def nL (K:W.Frag) (hh:rdE K (dOp o f g) σ H Q):tOp (rdR K o) (rdE K f) (rdE K g) σ H Q:=by
 obtain ⟨H0,Hs,τ,fp,d,st,sm,e,k⟩:=hh;obtain ⟨x,e1,e⟩:=bind_some e;obtain ⟨y,e2,e⟩:=bind_some e;refine ⟨H0,Hs,τ,fp,x,st,sm,e1,λ v Hs1 H1 g1 r1=>?_⟩;refine ⟨H0,Hs1,τ,fp,y,st.ext g1,g1.sh,e2,λ u Hs2 H2 g2 r2=>?_⟩;exact ⟨Hs2,x,y,d,g2.sh,r1.same g2.ss,r2,e,λ w Hs3 H3 g3 r3=>k w Hs3 H3 ((g1.trans g2).trans g3) r3⟩
def Kl (ho:OpR X (binaryOp op) (rdR X.K o)) (ha:PEd X a f) (hb:PEd X b g):PEd X (.BinOp a op b pos) (dOp o f g) :=
 (Kg ho ha hb).imp λ σ H Q h=>nL X.K h
def Kj (ho:UnR X (unaryOp op) (rdU X.K o)) (ha:PEd X a f):PEd X (.UnaryOp op a pos) (dUn o f) :=
 (Kf ho ha).imp λ σ H Q ⟨H0,Hs,τ,fp,d,st,sm,e,k⟩=>by
   obtain ⟨x,e1,e⟩:=bind_some e;exact ⟨H0,Hs,τ,fp,x,st,sm,e1,λ v Hs1 H1 g1 r1=>⟨Hs1,x,d,g1.sh,r1,e,λ w Hs3 H3 g3 r3=>k w Hs3 H3 (g1.trans g3) r3⟩⟩
def FZ (ho:OpR X (compareOp op) (rdR X.K o)) (ha:PEd X a f) (hb:PEd X b g) (hm:behindInMarks op b=false):PEd X (.Compare a [op] [b] pos) (dOp o f g) :=
 (CN ho ha hb hm).imp λ σ H Q h=>nL X.K h
def B7 (ho:OpR X (compareOp op) (rdR X.K o)) (ha:PEd X a f) (hb:PEd X b g) (hm:behindInMarks op b=false):PTd X (.Compare a [op] [b] pos) (dT (dOp o f g)) :=
 (B9 ho ha hb hm).imp λ σ H Q ⟨H0,Hs,τ,fp,d,st,sm,e,k⟩=>by
   obtain ⟨x,e1,e⟩:=bind_some e;have hx:x=.bl d:=by cases x <;> simp at e <;> subst e <;> rfl
   subst hx;refine nL X.K ⟨H0,Hs,τ,fp,_,st,sm,e1,λ v Hs' H' g r=>?_⟩;cases r;exact ⟨d,rfl,k Hs' H' g⟩
def CV:PAd X [] aC:=u4.imp λ σ H Q ⟨H0,Hs,τ,fp,d,st,sm,e,k⟩=>by
 have e':=Zj e;subst e';exact k [] Hs H (.refl sm) .nil
def yP {g:DA} (ha:PEd X e f) (hr:PAd X es g) (hs:starEach (e::es) X.env=(false,eval e X.env)::starEach es X.env:=by rfl):PAd X (e::es) (ah f g) :=
 (pQ ha hr hs).imp λ σ H Q ⟨H0,Hs,τ,fp,d,st,sm,e,k⟩=>by
   obtain ⟨x,e1,e⟩:=bind_some e;obtain ⟨xs,e2,e⟩:=bind_some e;have e':=Zj e;subst e';refine ⟨H0,Hs,τ,fp,x,st,sm,e1,λ v Hs1 H1 g1 r1=>?_⟩;exact ⟨H0,Hs1,τ,fp,xs,st.ext g1,g1.sh,e2,λ u Hs2 H2 g2 r2=>k _ Hs2 H2 (g1.trans g2) (.cons (r1.same g2.ss) r2)⟩
def FQ {x1} {g:DA} (h:PAd X es g):PEd X (.Tuple es x1 pos) (cY g) :=
 (FE h).imp λ σ H Q ⟨H0,Hs,τ,fp,d,st,sm,e,k⟩=>by
   obtain ⟨xs,e1,e⟩:=bind_some e
   by_cases hl:xs.length<=100000
   ·rw [if_pos hl] at e
    have e':=Zj e;subst e';refine ⟨H0,Hs,τ,fp,xs,st,sm,e1,λ v Hs1 H1 g1 r1=>?_⟩;refine ⟨by rw [r1.length]; exact vK hl,λ p hp=>?_⟩;have g2:=Ext.new g1.sh hp (.tup v);exact k _ _ _ (g1.trans g2) (.tup (SqT.of aO) (r1.same g2.ss))
   · rw [if_neg hl] at e; cases e
def Fw {g:DA} (h:PAd X es g):PEo X (.List es pos) (lU g) :=
 (FJ h).imp λ σ H Q ⟨H0,Hs,τ,fp,d,st,sm,e,k⟩=>by
   obtain ⟨xs,e1,e⟩:=bind_some e
   by_cases hl:xs.length<=100000
   ·rw [if_pos hl] at e
    have e':=Zj e;subst e';refine ⟨H0,Hs,τ,fp,xs,st,sm,e1,λ v Hs1 H1 g1 r1=>?_⟩;refine ⟨by rw [r1.length]; exact vK hl,λ p hp=>?_⟩;refine k p Hs1 _ ⟨g1.ss,g1.sh.trans (aW hp _),g1.hh.trans (aW hp _),g1.fr⟩ (.lst aO (g1.sh.free hp) r1) (g1.hh.free hp)
   · rw [if_neg hl] at e; cases e
def PEo.shr (h:PEo X e f):PEd X e f :=
 PE.imp h λ σ H Q ⟨H0,Hs,τ,fp,d,st,sm,e,k⟩=>⟨H0,Hs,τ,fp,d,st,sm,e,λ a Hs' H' g o z=>by
  obtain ⟨ob,h1,h2⟩:=o.rp;refine k _ (upd Hs' a ob) H' ⟨g.ss.trans (aW o.hid ob),λ b u q=>?_,g.hh,λ b h3 h4=>?_⟩ h2
  ·by_cases eb:b=a
   · subst eb; rw [aO] at q; rw [h1]; exact q
   · rw [aH eb] at q; exact g.sh _ _ q
  ·by_cases eb:b=a
   · subst eb; exact absurd z h4
   · rw [aH eb]; exact g.fr b h3 h4⟩
def B4 (h:PEd X e f) (he:∀ whole,isTrue e X.env whole=(do let v <- whole; standAt e.pos; holding [v] (truthy v)):=by intro _; rfl):PTd X e (dT f) :=
 (Fm h he).imp λ σ H Q ⟨H0,Hs,τ,fp,d,st,sm,e,k⟩=>by
   obtain ⟨x,e1,e⟩:=bind_some e;have hx:x=.bl d:=by cases x <;> simp at e <;> subst e <;> rfl
   subst hx;refine ⟨H0,Hs,τ,fp,_,st,sm,e1,λ v Hs' H' g r=>?_⟩;cases r;exact ⟨d,rfl,k Hs' H' g⟩
def B5 {f:DT} (h:PTd X e f):PTd X (.UnaryOp .Not e pos) (nj f) :=
 (Fn h).imp λ σ H Q ⟨H0,Hs,τ,fp,d,st,sm,e,k⟩=>by
   obtain ⟨x,e1,e⟩:=Zm e;subst e;exact ⟨H0,Hs,τ,fp,x,st,sm,e1,λ Hs' H' g=>k Hs' H' g⟩
def PWd (X:Cx) (e:Expr) (f:DT):Prop:=PW X e (rdT X.K f)
def PW.imp (h:PW X e t) (hi:∀ σ H Q,t' σ H Q->t σ H Q):PW X e t':=λ wh pins s σ H Q I q=>h wh pins s σ H Q I (hi _ _ _ q)
def yk {f:DT} (h:PTd X a f):PWd X (.BoolOp .And [a] pos) f:=pw_and1 h
def B1 {f:DT} (h:PTd X a f):PWd X (.BoolOp .Or [a] pos) f:=pw_or1 h
def B2 {f g:DT} (ha:PTd X a f) (hb:PWd X (.BoolOp .And (b::es) pos) g):PWd X (.BoolOp .And (a::b::es) pos) (fE f g) :=
 PW.imp (pw_and ha hb) λ σ H Q ⟨H0,Hs,τ,fp,d,st,sm,e,k⟩=>by
  obtain ⟨x,e1,e⟩:=bind_some e;refine ⟨H0,Hs,τ,fp,x,st,sm,e1,λ Hs' H' g1=>?_⟩
  cases x with
  | true=>exact ⟨H0,Hs',τ,fp,d,st.ext g1,g1.sh,e,λ Hs2 H2 g2=>k Hs2 H2 (g1.trans g2)⟩
  | false =>
   have e':false=d:=by simpa using e
   subst e';exact k Hs' H' g1
def Fk {f g:DT} (ha:PTd X a f) (hb:PWd X (.BoolOp .Or (b::es) pos) g):PWd X (.BoolOp .Or (a::b::es) pos) (dOr f g) :=
 PW.imp (pw_or ha hb) λ σ H Q ⟨H0,Hs,τ,fp,d,st,sm,e,k⟩=>by
  obtain ⟨x,e1,e⟩:=bind_some e;refine ⟨H0,Hs,τ,fp,x,st,sm,e1,λ Hs' H' g1=>?_⟩
  cases x with
  | false=>exact ⟨H0,Hs',τ,fp,d,st.ext g1,g1.sh,e,λ Hs2 H2 g2=>k Hs2 H2 (g1.trans g2)⟩
  | true =>
   have e':true=d:=by simpa using e
   subst e';exact k Hs' H' g1
def PWd.ptd {f:DT} (h:PWd X e f):PTd X e f:=PW.pt h
def FU {op} (h:PEd X a f):PEd X (.BoolOp op [a] pos) f:=FG h
def F1 (ha:PEd X a f) (hb:PEd X (.BoolOp .And (b::es) pos) g):PEd X (.BoolOp .And (a::b::es) pos) (xb f g) :=
 (FO ha hb).imp λ σ H Q ⟨H0,Hs,τ,fp,d,st,sm,e,k⟩=>by
   obtain ⟨x,e1,e⟩:=bind_some e;refine ⟨H0,Hs,τ,fp,x,st,sm,e1,λ v Hs' H' g1 r=>?_⟩
   cases r with
   | bl kb =>
    refine ⟨kb,rfl,?_⟩
    cases kb with
    | true=>exact ⟨H0,Hs',τ,fp,d,st.ext g1,g1.sh,e,λ v Hs2 H2 g2 r=>k v Hs2 H2 (g1.trans g2) r⟩
    | false =>
     have e':D.bl false=d:=by simpa using e
     subst e';exact k _ Hs' H' g1 (.bl false)
   | _=>exact nn e
def FV (ha:PEd X a f):PEd X (.UnaryOp .Not a pos) (tS f) :=
 (FH ha).imp λ σ H Q ⟨H0,Hs,τ,fp,d,st,sm,e,k⟩=>by
   obtain ⟨x,e1,e⟩:=bind_some e;refine ⟨H0,Hs,τ,fp,x,st,sm,e1,λ v Hs' H' g1 r=>?_⟩
   cases r with
   | bl kb =>
    have e':D.bl (!kb)=d:=by simpa using e
    subst e';exact ⟨kb,rfl,k _ Hs' H' g1 (.bl _)⟩
   | _=>exact nn e
def Kn (hc:PTd X c t) (ha:PEd X a f) (hb:PEd X b g):PEd X (.IfExp c a b pos) (dIf t f g) :=
 (yJ hc ha hb).imp λ σ H Q ⟨H0,Hs,τ,fp,d,st,sm,e,k⟩=>by
   obtain ⟨x,e1,e⟩:=bind_some e;refine ⟨H0,Hs,τ,fp,x,st,sm,e1,λ Hs' H' g1=>?_⟩
   cases x with
   | true=>exact ⟨H0,Hs',τ,fp,d,st.ext g1,g1.sh,by simpa using e,λ v Hs2 H2 g2 r=>k v Hs2 H2 (g1.trans g2) r⟩
   | false=>exact ⟨H0,Hs',τ,fp,d,st.ext g1,g1.sh,by simpa using e,λ v Hs2 H2 g2 r=>k v Hs2 H2 (g1.trans g2) r⟩
end
instance {i j:Int}:Decidable (By i j):=by unfold By; infer_instance
instance {i:Int}:Decidable (Sz i):=by unfold Sz; infer_instance
instance {i j:Int}:Decidable (Ib i j):=by unfold Ib; infer_instance
def cp:D->D->Option D
 | .int i,.int j=>some (.int (i+j))
 | .str x,.str y=>if x.length+y.length<=100000 then some (.str (x++y)) else none
 | .lst x,.lst y=>if x.length+y.length<=100000 then some (.lst (x++y)) else none
 | _,_=>none
def lT:D->D->Option D
 | .int i,.int j=>some (.int (i - j))
 | _,_=>none
def gi:D->D->Option D
 | .int i,.int j=>if By i j\/(Sz i/\Sz j) then some (.int (i * j)) else none
 | _,_=>none
def oDiv:D->D->Option D
 | .int i,.int j=>if j≠0/\Sz j then some (.int (i.fdiv j)) else none
 | _,_=>none
def oMod:D->D->Option D
 | .int i,.int j=>if j≠0 then some (.int (i.fmod j)) else none
 | _,_=>none
def C9:D->D->Option D
 | .int i,.int j=>if Ib i j then some (.int (i ^ j.toNat)) else none
 | _,_=>none
def ju:D->Option D
 | .int i=>some (.int (-i))
 | _=>none
def oLt:D->D->Option D
 | .int i,.int j=>some (.bl (decide (i < j)))
 | .str i,.str j=>some (.bl (decide (i.cps.toList < j.cps.toList)))
 | _,_=>none
def oLe:D->D->Option D
 | .int i,.int j=>some (.bl (decide (i<=j)))
 | _,_=>none
def oGt:D->D->Option D
 | .int i,.int j=>some (.bl (decide (j < i)))
 | _,_=>none
def oGe:D->D->Option D
 | .int i,.int j=>some (.bl (decide (j<=i)))
 | _,_=>none
def vv:D->D->Option D
 | .non,.non=>some (.bl true)
 | _,.non=>some (.bl false)
 | _,_=>none
def kP:D->D->Option D
 | .non,.non=>some (.bl false)
 | _,.non=>some (.bl true)
 | _,_=>none
def eqS:D->D->Option Bool
 | .non,.non=>some true | .non,.int _=>some false | .int _,.non=>some false | .non,.bl _=>some false | .bl _,.non=>some false | .non,.str _=>some false | .str _,.non=>some false
 | .int i,.int j=>some (decide (i=j)) | .bl i,.bl j=>some (decide (i=j)) | .str i,.str j=>some (decide (i=j))
 | .int _,.str _=>some false | .str _,.int _=>some false | .bl _,.str _=>some false | .str _,.bl _=>some false
 | _,_=>none
mutual
def jX:D->PySem.W.Dat
 | .non=>.none | .bl b=>.bool b | .int i=>.int i | .str x=>.str x | .ty _=>.bytes #[]
 | .tup ds=>.tuple (jm ds) | .lst ds=>.list (jm ds) | .fz _=>.bytes #[] | .dct _=>.bytes #[] | .obj _ _=>.bytes #[] | .cls _=>.bytes #[] | .dfz _=>.bytes #[]
def jm:List D->List PySem.W.Dat
 | []=>[]
 | d::ds=>jX d::jm ds
end
mutual
def okD:Nat->D->Bool
 | _,.non=>true
 | _,.int _=>true
 | _,.str x=>PyData.strOk x
 | n+1,.tup ds=>kL n ds
 | n+1,.lst ds=>kL n ds
 | _,_=>false
def kL:Nat->List D->Bool
 | _,[]=>true
 | n,d::ds=>okD n d&&kL n ds
end
open PySem.W in
mutual
def jx:∀ (n:Nat) (d:D),okD n d=true->kqdOk n (jX d)=true
 | _,.non,_=>by simp [jX,kqdOk]
 | _,.int _,_=>by simp [jX,kqdOk]
 | n,.str x,h=>by simp [okD] at h; simp [jX,kqdOk,h]
 | n+1,.tup ds,h=>by
  simp [okD] at h;rw [jX,kqdOk];exact mL n ds h
 | n+1,.lst ds,h=>by
  simp [okD] at h;rw [jX,kqdOk];exact mL n ds h
 | _,.bl _,h=>by simp [okD] at h
 | _,.ty _,h=>by simp [okD] at h
 | _,.cls _,h=>by simp [okD] at h
 | _,.dct _,h=>by simp [okD] at h
 | _,.fz _,h=>by simp [okD] at h
 | _,.obj _ _,h=>by simp [okD] at h
 | _,.dfz _,h=>by simp [okD] at h
 | 0,.tup _,h=>by simp [okD] at h
 | 0,.lst _,h=>by simp [okD] at h
def mL:∀ (n:Nat) (ds:List D),kL n ds=true->(jm ds).all (kqdOk n)=true
 | _,[],_=>by simp [jm]
 | n,d::ds,h=>by
  simp [kL] at h;simp only [jm,List.all_cons,Yq];exact ⟨jx n d h.1,mL n ds h.2⟩
end
mutual
def sG:∀ (n:Nat) (d e:D),okD n d=true->okD n e=true->jX d=jX e->d=e
 | _,.non,e,_,h,q=>by cases e <;> simp [jX] at q <;> simp [okD] at h <;> rfl
 | _,.int _,e,_,h,q=>by cases e <;> simp [jX] at q <;> simp [okD] at h <;> rw [q]
 | _,.str x,e,_,h,q=>by cases e <;> simp [jX] at q <;> simp [okD] at h <;> rw [q]
 | n+1,.tup ds,e,h1,h,q=>by
  cases e <;> simp [jX] at q <;> simp [okD] at h
  simp [okD] at h1;rw [lr n _ _ h1 h q]
 | n+1,.lst ds,e,h1,h,q=>by
  cases e <;> simp [jX] at q <;> simp [okD] at h
  simp [okD] at h1;rw [lr n _ _ h1 h q]
 | _,.bl _,_,h,_,_=>by simp [okD] at h
 | _,.ty _,_,h,_,_=>by simp [okD] at h
 | _,.cls _,_,h,_,_=>by simp [okD] at h
 | _,.dct _,_,h,_,_=>by simp [okD] at h
 | _,.fz _,_,h,_,_=>by simp [okD] at h
 | _,.obj _ _,_,h,_,_=>by simp [okD] at h
 | _,.dfz _,_,h,_,_=>by simp [okD] at h
 | 0,.tup _,_,h,_,_=>by simp [okD] at h
 | 0,.lst _,_,h,_,_=>by simp [okD] at h
def lr:∀ (n:Nat) (d e:List D),kL n d=true->kL n e=true->jm d=jm e->d=e
 | _,[],e,_,h,q=>by cases e <;> simp [jm] at q; rfl
 | n,d::ds,e,h1,h,q=>by
  cases e with
  | nil=>simp [jm] at q
  | cons e es =>
   simp [jm] at q;simp [kL] at h h1;rw [sG n d e h1.1 h.1 q.1,lr n ds es h1.2 h.2 q.2]
end
section
variable {K:W.Frag} {H:Hp}
mutual
def Rp.rdD:∀ {v:V} {d:D} (n:Nat),Rp K H v d->okD n d=true->RdD K H v (jX d)
 | _,_,_,.non,_=>by rw [jX]; exact .non
 | _,_,_,.int i,_=>by rw [jX]; exact .int i
 | _,_,_,.str i,_=>by rw [jX]; exact .str i
 | _,_,n,.tup h r,o=>by
  cases n with
  | zero=>simp [okD] at o
  | succ n=>simp [okD] at o; rw [jX]; exact .tup h (Rps.rdD n r o)
 | _,_,n,.lst h r,o=>by
  cases n with
  | zero=>simp [okD] at o
  | succ n=>simp [okD] at o; rw [jX]; exact .lst (SqL.of h) (Rps.rdD n r o)
 | _,_,_,.bl _,o=>by simp [okD] at o
 | _,_,_,.ty _,o=>by simp [okD] at o
 | _,_,_,.cls _,o=>by simp [okD] at o
 | _,_,_,.dct _ _,o=>by simp [okD] at o
 | _,_,_,.fz _ _,o=>by simp [okD] at o
 | _,_,_,.obj _ _,o=>by simp [okD] at o
 | _,_,_,.dfz _ _,o=>by simp [okD] at o
def Rps.rdD:∀ {v:List V} {d:List D} (n:Nat),Rps K H v d->kL n d=true->xG K H v (jm d)
 | _,_,_,.nil,_=>by rw [jm]; exact .nil
 | _,_,n,.cons h r,o=>by
  simp [kL] at o;rw [jm];exact .cons (Rp.rdD n h o.1) (Rps.rdD n r o.2)
end
end
open Classical in
noncomputable def eqB (d e:D):Bool:=decide (d=e)
def g6 (d:D):eqB d d=true:=by unfold eqB; simp
def oS (h:d≠e):eqB d e=false:=by unfold eqB; simp [h]
noncomputable def eqO (d e:D):Option Bool:=match eqS d e with
 | some b=>some b
 | none=>if okD 9 d=true/\okD 9 e=true then some (eqB d e) else none
noncomputable def oEq (d e:D):Option D:=(eqO d e).map D.bl
noncomputable def oNe (d e:D):Option D:=(eqO d e).map λ b=>.bl (!b)
section
variable {X:Cx}
def OpR.imp (h:OpR X fn r) (hi:∀ x y H Q,r' x y H Q->r x y H Q):OpR X fn r':=λ pins s σ H x y v u Q I rx ry q=>h pins s σ H x y v u Q I rx ry (hi _ _ _ _ q)
def KG : OpR X (binaryOp .Add) (rdR X.K cp) :=
  ((F9.or tq).or F8).imp λ x y H Q ⟨Hs,dx,dy,d,sm,rx,ry,e,k⟩=>by
    cases rx with
    | int i => cases ry with
      | int j => have e':D.int (i+j)=d:=by simpa [cp] using e
                 subst e';exact .inl (.inl ⟨i,j,rfl,rfl,k _ Hs H (.refl sm) (.int _)⟩)
      | _=>exact nn e
    | str x=>cases ry with
      | str y =>
        by_cases hl:x.length+y.length<=100000
        · have e':D.str (x++y)=d:=by simpa [cp,hl] using e
          subst e';exact .inl (.inr ⟨x,y,rfl,rfl,vK hl,k _ Hs H (.refl sm) (.str _)⟩)
        · simp [cp,hl] at e
      | _=>exact nn e
    | @lst a xs ds h r=>cases ry with
      | @lst b ys es h' r' =>
        by_cases hl:ds.length+es.length<=100000
        · have e':D.lst (ds++es)=d:=by simpa [cp,hl] using e
          subst e';refine .inr ⟨a,b,xs,ys,rfl,rfl,sm _ _ h,sm _ _ h',by rw [r.length,r'.length]; exact vK hl,λ p hp=>?_⟩;have g:=Ext.new sm hp (.lst (xs++ys));exact k _ _ _ g (.lst aO ((r.same g.ss).append (r'.same g.ss)))
        · simp [cp,hl] at e
      | _=>exact nn e
    | _=>exact nn e
def pR {fn:Value->Value->Sem Value} {C:Int->Int->Prop} [∀ i j,Decidable (C i j)] {gv:Int->Int->V} {gd:Int->Int->D} {o:D->D->Option D} (h:OpR X fn (rI C gv)) (hg:∀ i j H,Rp X.K H (gv i j) (gd i j))
  (ho:∀ x y d,o x y=some d->∃ i j,x=.int i/\y=.int j/\C i j/\d=gd i j):OpR X fn (rdR X.K o) :=
 h.imp λ x y H Q ⟨Hs,dx,dy,d,sm,rx,ry,e,k⟩=>by
  obtain ⟨i,j,rfl,rfl,c,rfl⟩:=ho _ _ _ e;cases rx;cases ry;exact ⟨i,j,rfl,rfl,c,k _ Hs H (.refl sm) (hg i j Hs)⟩
def J9 (h:OpR X fn (rI0 g)):OpR X fn (rI (λ _ _=>True) g):=h.imp λ x y H Q ⟨i,j,h1,h2,_,q⟩=>⟨i,j,h1,h2,q⟩
def Kv:OpR X (binaryOp .Sub) (rdR X.K lT):=pR (J9 F3) (λ _ _ _=>.int _) λ x y d e=>by
 unfold lT at e;split at e
 · exact ⟨_,_,rfl,rfl,trivial,(Zj e).symm⟩
 · cases e
def CZ:OpR X (binaryOp .Mult) (rI (λ i j=>By i j\/(Sz i/\Sz j)) λ i j=>.int (i * j)):=opI λ _ _ _ _ _ _ _ hc q=>mul_int q (hc.elim (·.ok) λ h=>PySem.IntMulOk.of_bits h.1.bits h.2.bits)
def Kz:OpR X (binaryOp .Mult) (rdR X.K gi):=pR CZ (λ _ _ _=>.int _) λ x y d e=>by
 unfold gi at e;split at e
 ·split at e
  ·rename_i c
   exact ⟨_,_,rfl,rfl,c,(Zj e).symm⟩
  · cases e
 · cases e
def KD:OpR X (binaryOp .FloorDiv) (rdR X.K oDiv):=pR C1 (λ _ _ _=>.int _) λ x y d e=>by
 unfold oDiv at e;split at e
 ·split at e
  ·rename_i c
   exact ⟨_,_,rfl,rfl,c,(Zj e).symm⟩
  · cases e
 · cases e
def KA:OpR X (binaryOp .Mod) (rdR X.K oMod):=pR C0 (λ _ _ _=>.int _) λ x y d e=>by
 unfold oMod at e;split at e
 ·split at e
  ·rename_i c
   exact ⟨_,_,rfl,rfl,c,(Zj e).symm⟩
  · cases e
 · cases e
def Kw:OpR X (binaryOp .Pow) (rdR X.K C9):=pR F4 (λ _ _ _=>.int _) λ x y d e=>by
 unfold C9 at e;split at e
 ·split at e
  ·rename_i c
   exact ⟨_,_,rfl,rfl,c,(Zj e).symm⟩
  · cases e
 · cases e
def NB:OpR X (compareOp .LtE) (rdR X.K oLe):=pR (J9 Kr) (λ _ _ _=>.bl _) λ x y d e=>by
 unfold oLe at e;split at e
 · exact ⟨_,_,rfl,rfl,trivial,(Zj e).symm⟩
 · cases e
def Mx:OpR X (compareOp .Gt) (rdR X.K oGt):=pR (J9 Ks) (λ _ _ _=>.bl _) λ x y d e=>by
 unfold oGt at e;split at e
 · exact ⟨_,_,rfl,rfl,trivial,(Zj e).symm⟩
 · cases e
def Mw:OpR X (compareOp .Lt) (rdR X.K oLt):=(Kq.or u5).imp λ x y H Q ⟨Hs,dx,dy,d,sm,rx,ry,e,k⟩=>by
 cases rx with
 | int i=>cases ry with
  | int j =>
   have e':D.bl (decide (i < j))=d:=by simpa [oLt] using e
   subst e';exact .inl ⟨i,j,rfl,rfl,k _ Hs H (.refl sm) (.bl _)⟩
  | _=>exact nn e
 | str i=>cases ry with
  | str j =>
   have e':=Zj e;subst e';exact .inr ⟨i,j,rfl,rfl,k _ Hs H (.refl sm) (.bl _)⟩
  | _=>exact nn e
 | _=>exact nn e
def Kx:UnR X (unaryOp .USub) (rdU X.K ju):=λ pins s σ H x v Q I rx ⟨Hs,dx,d,sm,r,e,k⟩=>EV pins s σ H x v Q I rx (by
 cases r with
 | int i =>
  have e':D.int (-i)=d:=by simpa [ju] using e
  subst e';exact ⟨i,rfl,k _ Hs H (.refl sm) (.int _)⟩
 | _=>simp [ju] at e)
def KC:OpR X (compareOp .Is) (rdR X.K vv):=F6.imp λ x y H Q ⟨Hs,dx,dy,d,sm,rx,ry,e,k⟩=>by
 cases ry with
 | non =>
  refine ⟨rfl,?_⟩;cases rx <;> (have e':=Zj e; subst e'; exact k _ Hs H (.refl sm) (.bl _))
 | _=>cases rx <;> exact nn e
def Gb:OpR X (compareOp .IsNot) (rdR X.K kP):=CY.imp λ x y H Q ⟨Hs,dx,dy,d,sm,rx,ry,e,k⟩=>by
 cases ry with
 | non =>
  refine ⟨rfl,?_⟩;cases rx <;> (have e':=Zj e; subst e'; exact k _ Hs H (.refl sm) (.bl _))
 | _=>cases rx <;> exact nn e
def Bd {K:W.Frag} {H:Hp} {x y:V} {dx dy:D} {b:Bool} (rx:Rp K H x dx) (ry:Rp K H y dy) (e:eqS dx dy=some b):J3 x y=true/\decide (x=y)=b:=by
  unfold eqS at e
  split at e <;> first
    | (cases e; done)
    | (have e':=Zj e
       subst e';cases rx;cases ry
       exact ⟨rfl,by simp⟩)
def sx (h:okD n d=true) (h':okD n e=true):eqD (jX d) (jX e)=eqB d e:=by
 by_cases q:d=e
 · subst q; rw [g6,zN rfl]
 · rw [oS q,wM λ z=>q (sG n _ _ h h' z)]
def Mz (hu:X.A.units+64 < cLine):OpR X (compareOp .Eq) (rdR X.K oEq):=(Kt.or (F7 hu)).imp λ x y H Q ⟨Hs,dx,dy,d,sm,rx,ry,e,k⟩=>by
 obtain ⟨b,e',rfl⟩:=Zm (e);have e:=e';unfold eqO at e;split at e
 ·rename_i b' q
  have e':=Zj e;subst e';obtain ⟨h1,h2⟩:=Bd rx ry q;refine .inl ⟨h1,?_⟩;rw [h2];exact k _ Hs H (.refl sm) (.bl _)
 ·split at e
  ·rename_i h
   have e':=Zj e;subst e';refine .inr ⟨jX dx,jX dy,(rx.same sm).rdD 9 h.1,(ry.same sm).rdD 9 h.2,jx 9 _ h.1,jx 9 _ h.2,?_⟩;rw [sx h.1 h.2];exact k _ Hs H (.refl sm) (.bl _)
  · cases e
def Mv (hu:X.A.units+64 < cLine):OpR X (compareOp .NotEq) (rdR X.K oNe):=(Kp.or (F5 hu)).imp λ x y H Q ⟨Hs,dx,dy,d,sm,rx,ry,e,k⟩=>by
 obtain ⟨b,e',rfl⟩:=Zm (e);have e:=e';unfold eqO at e;split at e
 ·rename_i b' q
  have e':=Zj e;subst e';obtain ⟨h1,h2⟩:=Bd rx ry q;refine .inl ⟨h1,?_⟩;rw [h2];exact k _ Hs H (.refl sm) (.bl _)
 ·split at e
  ·rename_i h
   have e':=Zj e;subst e';refine .inr ⟨jX dx,jX dy,(rx.same sm).rdD 9 h.1,(ry.same sm).rdD 9 h.2,jx 9 _ h.1,jx 9 _ h.2,?_⟩;rw [sx h.1 h.2];exact k _ Hs H (.refl sm) (.bl _)
  · cases e
end
def oIx:D->D->Option D
 | .tup ds,.int i=>atI ds i
 | .lst ds,.int i=>atI ds i
 | .fz ds,.int i=>atI ds i
 | .str z,.int i=>if z.length<=100000 then (atI z.cps.toList i).map λ c=>.str ⟨#[c]⟩ else none
 | _,_=>none
def DO:=List Sl->Option (Option Int)
def xO:DO:=λ _=>some none
def dP (f:DE):DO:=λ τ=>(f τ).bind λ x=>match x with | .int i=>some (some i) | _=>none
def cutD (xs:List D) (lo hi:Option Int):List D:=(xs.drop (HT.sIx xs.length 0 lo)).take (HT.sIx xs.length xs.length hi - HT.sIx xs.length 0 lo)
def oSl:D->Option Int->Option Int->Option D
 | .lst ds,lo,hi=>some (.lst (cutD ds lo hi))
 | .fz ds,lo,hi=>some (.lst (cutD ds lo hi))
 | _,_,_=>none
def dSl (f:DE) (lo hi:DO):DE:=λ τ=>(f τ).bind λ x=>(lo τ).bind λ l=>(hi τ).bind λ u=>oSl x l u
def d6:List D->Option D
 | [.str z]=>if z.length<=100000 then some (.int z.length) else none
 | [.tup ds]=>some (.int ds.length)
 | [.lst ds]=>some (.int ds.length)
 | [.fz ds]=>some (.int ds.length)
 | _=>none
def yS:List D->Option D
 | [.int i]=>some (.int (if i < 0 then -i else i))
 | _=>none
def tx:List D->Option D
 | [.tup ds]=>some (.lst ds)
 | [.lst ds]=>some (.lst ds)
 | [.fz ds]=>some (.lst ds)
 | _=>none
def mQ:List D->Option D
 | [.int i,.int j]=>some (.int (if j > i then j else i))
 | _=>none
def tyN:D->Option String
 | .non=>some "NoneType" | .bl _=>some "bool" | .int _=>some "int" | .str _=>some "str" | .tup _=>some "tuple" | .lst _=>some "list" | .dct _=>some "dict" | _=>none
def LX (t n:String):Bool:=t == n||(t == "bool"&&n == "int")
def kinds:List String:=["int","bool","str","list","tuple","dict"]
def pH:List D->Option D
 | [d,.ty n]=>(tyN d).bind λ t=>if n ∈ kinds then some (.bl (LX t n)) else none
 | _=>none
def qO {K:W.Frag} {H:Hp} {xs:List V} {ds:List D} {i:Int} {d:D} (r:Rps K H xs ds) (e:atI ds i=some d):∃ v,atI xs i=some v/\Rp K H v d:=by
 unfold atI at *;obtain ⟨j,e1,e2⟩:=bind_some e;obtain ⟨v,h1,h2⟩:=r.get e2;exact ⟨v,by rw [r.length,e1]; exact h1,h2⟩
def qF {K:W.Frag} {H:Hp} {xs:List V} {ds:List D} (lo hi:Option Int) (r:Rps K H xs ds):Rps K H (zY xs lo hi) (cutD ds lo hi):=by
 unfold zY cutD;rw [r.length];exact (r.drop _).take _
def vM {K:W.Frag} {t n:String} (ht:t ∈ ["NoneType","bool","int","str","tuple","list","dict"]) (hn:n ∈ kinds):PySem.W.kitOne K (.type t) (.type n)=some (LX t n):=by
 simp only [kinds,Zl,Xv,or_false] at ht hn;rcases ht with rfl | rfl | rfl | rfl | rfl | rfl | rfl <;> rcases hn with rfl | rfl | rfl | rfl | rfl | rfl <;> kernel_rfl
section
variable {X:Cx} {a b c e:Expr} {es:List Expr} {pos:Pos} {f g h:DE}
def IxR.imp {r r':R2} (h:IxR X r) (hi:∀ x y H Q,r' x y H Q->r x y H Q):IxR X r':=λ value slice pins s σ H x y v u Q I rx ry q=>h value slice pins s σ H x y v u Q I rx ry (hi _ _ _ _ q)
def ixd:IxR X (rdR X.K oIx):=((Dy.or Hh).or Hi).imp λ x y H Q ⟨Hs,dx,dy,d,sm,rx,ry,e,k⟩=>by
 cases ry with
 | int i =>
  cases rx with
  | tup h r =>
   obtain ⟨v,h1,h2⟩:=qO r (e);exact .inl (.inr ⟨_,_,i,v,rfl,rfl,sm.tup h,h1,k v Hs H (.refl sm) h2⟩)
  | lst h r =>
   obtain ⟨v,h1,h2⟩:=qO r (show atI _ i=some d from e);exact .inl (.inl ⟨_,_,i,v,rfl,rfl,SqL.of (sm _ _ h),h1,k v Hs H (.refl sm) h2⟩)
  | fz h r =>
   obtain ⟨v,h1,h2⟩:=qO r (show atI _ i=some d from e);exact .inl (.inl ⟨_,_,i,v,rfl,rfl,sm.seq h,h1,k v Hs H (.refl sm) h2⟩)
  | str z =>
   by_cases hl:z.length<=100000
   ·have e0:(atI z.cps.toList i).map (λ c=>D.str ⟨#[c]⟩)=some d:=by simpa only [oIx,hl,if_true] using e
    obtain ⟨c,e1,rfl⟩:=Zm e0;exact .inr ⟨z,i,c,rfl,rfl,vK hl,e1,k _ Hs H (.refl sm) (.str _)⟩
   · simp [oIx,hl] at e
  | _=>exact nn e
 | _=>cases rx <;> exact nn e
def Km (ha:PEd X a f) (hb:PEd X b g) (hs:qR b):PEd X (.Subscript a b pos) (dOp oIx f g):=(Kh ixd ha hb hs).imp λ σ H Q h=>nL X.K h
def rdP (K:W.Frag) (f:DO):TO:=λ σ H Q=>∃ H0 Hs τ fp d,StR K H0 Hs H σ τ fp/\fD Hs H/\f τ=some d/\∀ Hs' H',Ext Hs H Hs' H'->Q d H'
def POd (X:Cx) (e:Option Expr) (f:DO):Prop:=PO X e (rdP X.K f)
def PO.imp {e:Option Expr} {t t':TO} (h:PO X e t) (hi:∀ σ H Q,t' σ H Q->t σ H Q):PO X e t':=λ pins s σ H Q I q=>h pins s σ H Q I (hi _ _ _ q)
def yD:POd X none xO:=Cr.imp λ σ H Q ⟨H0,Hs,τ,fp,d,st,sm,e,k⟩=>by
 have e':=Zj e;subst e';exact k Hs H (.refl sm)
def yC (h:PEd X e f):POd X (some e) (dP f):=(Cq h).imp λ σ H Q ⟨H0,Hs,τ,fp,d,st,sm,e,k⟩=>by
 obtain ⟨x,e1,e⟩:=bind_some e;refine ⟨H0,Hs,τ,fp,x,st,sm,e1,λ v Hs' H' g r=>?_⟩
 cases r with
 | int i =>
  have e':=Zj e;subst e';exact ⟨i,rfl,k Hs' H' g⟩
 | _=>exact nn e
def Ke {lo hi:Option Expr} {p2:Pos} {l u:DO} (ha:PEd X a f) (hl:POd X lo l) (hh:POd X hi u):PEo X (.Subscript a (.Slice lo hi none p2) pos) (dSl f l u) :=
 (rB BS ha hl hh).imp λ σ H Q ⟨H0,Hs,τ,fp,d,st,sm,e,k⟩=>by
   obtain ⟨x,e1,e⟩:=bind_some e;obtain ⟨l',e2,e⟩:=bind_some e;obtain ⟨u',e3,e⟩:=bind_some e;refine ⟨H0,Hs,τ,fp,x,st,sm,e1,λ v Hs1 H1 g1 r1=>?_⟩;refine ⟨H0,Hs1,τ,fp,l',st.ext g1,g1.sh,e2,λ Hs2 H2 g2=>?_⟩;refine ⟨H0,Hs2,τ,fp,u',(st.ext g1).ext g2,g2.sh,e3,λ Hs3 H3 g3=>?_⟩;have g13:=(g1.trans g2).trans g3;have r3:=(r1.same g2.ss).same g3.ss
   have fin:∀ (p:Addr) (ys:List V) (ds:List D),H3 p=none->Rps X.K Hs3 ys ds->d=.lst ds->Q (.ref p) (upd H3 p (.lst ys)):=λ p ys ds hp r ed=>by
    subst ed;exact k p Hs3 _ ⟨g13.ss,g13.sh.trans (aW hp _),g13.hh.trans (aW hp _),g13.fr⟩ (.lst aO (g13.sh.free hp) r) (g13.hh.free hp)
   cases r3 with
   | @lst a xs ds h r =>
    have e':=Zj e;exact ⟨a,xs,rfl,SqL.of (g3.sh _ _ h),λ p hp=>fin p _ _ hp (qF l' u' r) e'.symm⟩
   | @fz a xs ds h r =>
    have e':D.lst (cutD ds l' u')=d:=Zj e;exact ⟨a,xs,rfl,g3.sh.seq h,λ p hp=>fin p _ _ hp (qF l' u' r) e'.symm⟩
   | _=>exact nn e
def ij.imp {fn:Value} {r r':List V->Hp->VK->Prop} (h:ij X fn r) (hi:∀ x H Q,r' x H Q->r x H Q):ij X fn r':=λ pins s σ H x u Q I rx q=>h pins s σ H x u Q I rx (hi _ _ _ q)
def call_of {o:List D->Option D} {g:DA} {σ:St} {H:Hp} {Q:VK} (K:W.Frag) (hh:rdE K (bf o g) σ H Q):tCB (rdL K o) (rdA K g) σ H Q:=by
 obtain ⟨H0,Hs,τ,fp,d,st,sm,e,k⟩:=hh;obtain ⟨xs,e1,e⟩:=bind_some e;exact ⟨H0,Hs,τ,fp,xs,st,sm,e1,λ v Hs1 H1 g1 r1=>⟨Hs1,xs,d,g1.sh,r1,e,λ w Hs2 H2 g2 r2=>k w Hs2 H2 (g1.trans g2) r2⟩⟩
def yN {x:Str} {id:String} {p:Pos} {o:List D->Option D} {g:DA} (hc:ij X (.builtin id) (rdL X.K o)) (hg:Gl X x) (hm:X.mg x=none) (hv:bootBuiltins x=some (.builtin id)) (ha:PAd X (e::es) g) (hn:x≠"__name__":=by decide) (hdb:(x == ("__debug__":Str))=false:=by decide)
  (he:starEach (e::es) X.env=(false,eval e X.env)::starEach es X.env:=by rfl) (hpl:(backTo pos (starEach es X.env)).any (·.1)=false:=by rfl):PEd X (.Call (.Name x p) (e::es) [] pos) (bf o g) :=
 (yM hc hg hm hv ha hn hdb he hpl).imp λ σ H Q h=>call_of X.K h
def cZ:ij X (.builtin "len") (rdL X.K d6):=zZ.imp λ xs H Q ⟨Hs,ds,d,sm,r,e,k⟩=>by
 match ds,r,e with
 | [x],.cons hx .nil,e =>
  cases hx with
  | str z =>
   by_cases hl:z.length<=100000
   ·have e':D.int z.length=d:=by simpa [d6,hl] using e
    subst e';exact ⟨_,_,rfl,⟨vK hl,rfl⟩,k _ Hs H (.refl sm) (.int _)⟩
   · simp [d6,hl] at e
  | @tup a ys ds h r =>
   have e':=Zj e;subst e';exact ⟨_,_,rfl,.inr ⟨_,sm.tup h,rfl⟩,by rw [r.length]; exact k _ Hs H (.refl sm) (.int _)⟩
  | @lst a ys ds h r =>
   have e':D.int ds.length=d:=Zj e;subst e';exact ⟨_,_,rfl,.inl ⟨_,SqL.of (sm _ _ h),rfl⟩,by rw [r.length]; exact k _ Hs H (.refl sm) (.int _)⟩
  | @fz a ys ds h r =>
   have e':D.int ds.length=d:=Zj e;subst e';exact ⟨_,_,rfl,.inl ⟨_,sm.seq h,rfl⟩,by rw [r.length]; exact k _ Hs H (.refl sm) (.int _)⟩
  | _=>exact nn e
 | [],_,e=>simp [d6] at e
 | _::_::_,_,e=>simp [d6] at e
def xk:ij X (.builtin "abs") (rdL X.K yS):=z5.imp λ xs H Q ⟨Hs,ds,d,sm,r,e,k⟩=>by
 match ds,r,e with
 | [x],.cons hx .nil,e =>
  cases hx with
  | int i =>
   have e':=Zj e;subst e';exact ⟨i,rfl,k _ Hs H (.refl sm) (.int _)⟩
  | _=>exact nn e
 | [],_,e=>simp [yS] at e
 | _::_::_,_,e=>simp [yS] at e
def oX:ij X (.builtin "isinstance") (rdL X.K pH):=by
 intro pins s σ H xs us Q I rv ⟨Hs,ds,d,sm,r,e,k⟩
 have sh:∃ x n,ds=[x,.ty n]:=by
   unfold pH at e;split at e
   · exact ⟨_,_,rfl⟩
   · cases e
 obtain ⟨x,n,rfl⟩:=sh
 cases r with
 | cons hx rr=>cases rr with
  | cons hy rr=>cases rr with
   | nil =>
   cases hy;obtain ⟨t,e1,e2⟩:=bind_some (e)
   by_cases hn:n ∈ kinds
   ·rw [if_pos hn] at e2
    have e':=Zj e2;subst e';obtain ⟨u,w',rfl,ru,rw'⟩:=vals2 rv;have e2:=rw';subst e2;have fin:∀ tk,EP X pins σ Q (.bool (LX t n)) { s with toks:=tk }:=λ tk=>⟨.bl _,H,I.tok tk,rfl,k _ Hs H (.refl sm) (.bl _)⟩
    have low:∀ {v:V} {T:String},t4 X.K H v (.type T)->RelV v u->T ∈ ["NoneType","bool","int","str","tuple","list","dict"]->some T=some t->wpAny (model X.prog X.w) X.A (call (.builtin "isinstance") [u,.type n]) (EP X pins σ Q) X.xe s:=λ ty ru hm et=>by
     have et':=Zj et;subst et';exact vU I ru ty (vM hm hn) fin
    cases hx with
    | non=>exact low (.non) ru (by simp) e1
    | bl b=>exact low (.bl b) ru (by simp) e1
    | int i=>exact low (.int i) ru (by simp) e1
    | str z=>exact low (.str z) ru (by simp) e1
    | lst h _=>exact low (.lst (sm _ _ h)) ru (by simp) e1
    | dct h _=>exact low (.dK (sm _ _ h)) ru (by simp) e1
    | @tup p ys ds h _ =>
     have et':=Zj e1;subst et';cases (ru);obtain ⟨its,_,⟨o,h1,h2,_⟩,_⟩:=I.tuple (sm.tup h);exact Yy PySem.W.kitx_tuple I.kIn ⟨o,h1,h2⟩ (vM (by simp) hn) (λ z=>nomatch z) fin
    | ty m=>simp [tyN] at e1
    | cls m=>simp [tyN] at e1
    | dfz _ _=>simp [tyN] at e1
    | fz _ _=>simp [tyN] at e1
    | obj _ _=>simp [tyN] at e1
   · rw [if_neg hn] at e2; cases e2
def Cs {x:Str} {p:Pos} {g:DA} (hg:Gl X x) (hm:X.mg x=none) (hv:bootBuiltins x=some (.type "list")) (ha:PAd X (e::es) g) (hn:x≠"__name__":=by decide) (hdb:(x == ("__debug__":Str))=false:=by decide)
   (he:starEach (e::es) X.env=(false,eval e X.env)::starEach es X.env:=by rfl) (hpl:(backTo pos (starEach es X.env)).any (·.1)=false:=by rfl):PEo X (.Call (.Name x p) (e::es) [] pos) (bf tx g) :=
 (nU oY hg hm hv ha hn hdb he hpl).imp λ σ H Q ⟨H0,Hs,τ,fp,d,st,sm,e,k⟩=>by
   obtain ⟨xs,e1,e⟩:=bind_some e;refine ⟨H0,Hs,τ,fp,xs,st,sm,e1,λ v Hs1 H1 g1 r1=>?_⟩
   have fin:∀ (p:Addr) (ys:List V) (ds:List D),H1 p=none->Rps X.K Hs1 ys ds->d=.lst ds->Q (.ref p) (upd H1 p (.lst ys)):=λ p ys ds hp r ed=>by
    subst ed;exact k p Hs1 _ ⟨g1.ss,g1.sh.trans (aW hp _),g1.hh.trans (aW hp _),g1.fr⟩ (.lst aO (g1.sh.free hp) r) (g1.hh.free hp)
   match xs,r1,e with
   | [x],.cons hx .nil,e =>
    cases hx with
    | @tup a ys ds h r=>exact ⟨_,_,rfl,.inr (g1.sh.tup h),λ l hl=>fin l ys ds hl r (Zj e).symm⟩
    | @lst a ys ds h r=>exact ⟨_,_,rfl,.inl (SqL.of (g1.sh _ _ h)),λ l hl=>fin l ys ds hl r (Zj e).symm⟩
    | @fz a ys ds h r=>exact ⟨_,_,rfl,.inl (g1.sh.seq h),λ l hl=>fin l ys ds hl r (Zj e).symm⟩
    | _=>exact nn e
   | [],_,e=>simp [tx] at e
   | _::_::_,_,e=>simp [tx] at e
end
mutual
def iF:D->Bool
 | .non=>true | .bl _=>true | .int _=>true | .str _=>true | .ty _=>true
 | .tup ds=>jk ds
 | _=>false
def jk:List D->Bool
 | []=>true
 | d::ds=>iF d&&jk ds
end
def jC (a:Addr) (H:Hp):Hp:=λ b=>if b=a then none else H b
section
variable {K:W.Frag} {H:Hp} {a:Addr} {o:HO}
def zA (ha:H a=some o) (ho:(∃ ys,o=.lst ys)\/∃ kv,o=.dK kv) (h:SqT K H b xs):SqT K (jC a H) b xs:=by
 have ne:∀ u,H b=some u->(∀ ys,u≠.lst ys)->(∀ kv,u≠.dK kv)->jC a H b=some u:=λ u e n1 n2=>by
  have:b≠a:=λ z=>by
   subst z;rw [ha] at e;have e':=Zj e;subst e';rcases ho with ⟨ys,z⟩ | ⟨kv,z⟩
   · exact n1 _ z
   · exact n2 _ z
  unfold jC;rw [if_neg this];exact e
 rcases h with (h | ⟨o',h⟩) | h
 · exact .inl (.inl (ne _ h (λ _ z=>nomatch z) (λ _ z=>nomatch z)))
 · exact .inl (.inr ⟨o',ne _ h (λ _ z=>nomatch z) (λ _ z=>nomatch z)⟩)
 · exact .inr h
mutual
def Rp.hide (ha:H a=some o) (ho:(∃ ys,o=.lst ys)\/∃ kv,o=.dK kv):∀ {v:V} {d:D},Rp K H v d->iF d=true->Rp K (jC a H) v d
 | _,_,.non,_=>.non
 | _,_,.bl b,_=>.bl b
 | _,_,.int i,_=>.int i
 | _,_,.str x,_=>.str x
 | _,_,.ty n,_=>.ty n
 | _,_,.tup h r,f=>.tup (zA ha ho h) (Rps.hide ha ho r (by simpa [iF] using f))
 | _,_,.lst _ _,f=>by simp [iF] at f
 | _,_,.fz _ _,f=>by simp [iF] at f
 | _,_,.cls _,f=>by simp [iF] at f
 | _,_,.dct _ _,f=>by simp [iF] at f
 | _,_,.obj _ _,f=>by simp [iF] at f
 | _,_,.dfz _ _,f=>by simp [iF] at f
def Rps.hide (ha:H a=some o) (ho:(∃ ys,o=.lst ys)\/∃ kv,o=.dK kv):∀ {v:List V} {d:List D},Rps K H v d->jk d=true->Rps K (jC a H) v d
 | _,_,.nil,_=>.nil
 | _,_,.cons h r,f=>by
  simp [jk] at f;exact .cons (Rp.hide ha ho h f.1) (Rps.hide ha ho r f.2)
end
end
def nk (i:Nat) (f:DE):DE:=λ τ=>match τ[i]? with
 | some (.own d0)=>(f (τ.set i (.shr d0))).bind λ d=>if iF d=true then some d else none
 | _=>f τ
def ur (i:Nat) (f:DT):DT:=λ τ=>match τ[i]? with
 | some (.own d0)=>f (τ.set i (.shr d0))
 | _=>f τ
def Ow.obj {K:W.Frag} {Hs H:Hp} {a:Addr} {d:D} {o:HO} (h:Ow K Hs H a d) (e:H a=some o):(∃ ys,o=.lst ys)\/∃ kv,o=.dK kv:=by
 cases h with
 | lst h _ _=>rw [h] at e; exact .inl ⟨_,(Zj e).symm⟩
 | dct h _ _=>rw [h] at e; exact .inr ⟨_,(Zj e).symm⟩
def Ext.BG (n:Hs a=none) (ha:H a=some o) (g:Ext (upd Hs a o) H Hs' H'):Ext Hs H (jC a Hs') H':=by
 refine ⟨λ b u q=>?_,λ b u q=>?_,g.hh,λ b h1 h2=>?_⟩
 ·have ne:b≠a:=λ z=>by subst z; rw [n] at q; cases q
  unfold jC;rw [if_neg ne];exact g.ss b u (by rw [aH ne]; exact q)
 ·unfold jC at q
  split at q
  · cases q
  · exact g.sh b u q
 ·unfold jC
  by_cases z:b=a
  · rw [if_pos z]
  ·rw [if_neg z]
   exact g.fr b (by rw [aH z]; exact h1) h2
def fD.frz (sm:fD Hs H) (ha:H a=some o):fD (upd Hs a o) H:=λ b u q=>by
 by_cases z:b=a
 · subst z; rw [aO] at q; rw [ha]; exact q
 · rw [aH z] at q; exact sm b u q
section
variable {X:Cx} {e:Expr} {f:DE}
def F0 (i:Nat) (h:PEd X e f):PEd X e (nk i f):=PE.imp h λ σ H Q ⟨H0,Hs,τ,fp,d,st,sm,e,k⟩=>by
 unfold nk at e;split at e
 ·rename_i d0 q
  obtain ⟨d1,e1,e2⟩:=bind_some e
  by_cases hf:iF d1=true
  ·rw [if_pos hf] at e2
   have e':=Zj e2;subst e';obtain ⟨a,o,fp',h1,h2,h3,h4,h5,h6,h7,h8⟩:=st.frz q;refine ⟨H0,upd Hs a o,_,fp',d1,h4,sm.frz h1,e1,λ v Hs' H' g r=>?_⟩;exact k v (jC a Hs') H' (g.BG h2 h1) (r.hide (g.ss _ _ aO) (h8.obj h1) hf)
  · rw [if_neg hf] at e2; cases e2
 · exact ⟨H0,Hs,τ,fp,d,st,sm,e,k⟩
def B8 (i:Nat) {f:DT} (h:PTd X e f):PTd X e (ur i f):=PT.imp h λ σ H Q ⟨H0,Hs,τ,fp,d,st,sm,e,k⟩=>by
 unfold ur at e;split at e
 ·rename_i d0 q
  obtain ⟨a,o,fp',h1,h2,h3,h4,h5,h6,h7,h8⟩:=st.frz q;exact ⟨H0,upd Hs a o,_,fp',d,h4,sm.frz h1,e,λ Hs' H' g=>k (jC a Hs') H' (g.BG h2 h1)⟩
 · exact ⟨H0,Hs,τ,fp,d,st,sm,e,k⟩
end
def aL (f g:DS):DS:=λ τ=>match f τ with
 | some (.next τ')=>g τ'
 | r=>r
def bg:DS:=λ τ=>some (.next τ)
def sIf (c:DT) (f g:DS):DS:=λ τ=>(c τ).bind λ b=>if b=true then f τ else g τ
def bA (i:Nat) (f:DE):DS:=λ τ=>(f τ).map λ d=>.next (τ.set i (.shr d))
def gs (i:Nat) (f:DE):DS:=λ τ=>if i < τ.length then (f τ).map λ d=>.next (τ.set i (.own d)) else none
def dJ (f:DE):DS:=λ τ=>(f τ).map λ d=>.ret (.shr d)
def yf (f:DE):DS:=λ τ=>(f τ).map λ d=>.ret (.own d)
def pO (i:Nat):DS:=λ τ=>match τ[i]? with
 | some (.own d)=>some (.ret (.own d))
 | some (.shr d)=>some (.ret (.shr d))
 | _=>none
def uK (i:Nat) (f:DS):DS:=λ τ=>match τ[i]? with
 | some (.own d)=>f (τ.set i (.shr d))
 | _=>f τ
def uI:DS:=λ _=>none
def pF (i:Nat) (f:DE):DS:=λ τ=>(f τ).bind λ d=>match τ[i]? with
 | some (.own (.lst ds))=>if ds.length < 100000 then some (.next (τ.set i (.own (.lst (ds++[d]))))) else none
 | _=>none
section
variable {X:Cx} {a b c e:Expr} {es:List Expr} {pos:Pos} {st:Stmt} {rest:List Stmt} {f g:DS}
def Rep.same {K:W.Frag} {Hs0 H0 Hs H:Hp} {σ:St} {τ:List Sl} (r:Rep K Hs0 H0 Hs H σ τ):fD Hs H:=r.ext.sh
def Rep.ext' {K:W.Frag} {Hs0 H0 Hs H Hs' H':Hp} {σ:St} {τ:List Sl} (r:Rep K Hs0 H0 Hs H σ τ) (g:Ext Hs H Hs' H'):Rep K Hs0 H0 Hs' H' σ τ:=⟨r.ext.trans g,let ⟨fp,h⟩:=r.st; ⟨fp,h.ext g⟩⟩
def yo:mv X [] bg:=Ca.imp λ E σ H ⟨Hs0,H0,Hs,τ,o,r,e,k⟩=>by
 have e':=Zj e;subst e';exact k σ Hs H r
def yn (h:PSd X st f):mv X [st] f:=uO h
def uN (h1:PSd X st f) (h2:mv X rest g):mv X (st::rest) (aL f g):=(yp h1 h2).imp λ E σ H ⟨Hs0,H0,Hs,τ,o,r,e,k⟩=>by
 unfold aL at e
 cases q:f τ with
 | none=>rw [q] at e; cases e
 | some o1 =>
  rw [q] at e;refine ⟨Hs0,H0,Hs,τ,o1,r,q,?_⟩
  cases o1 with
  | next τ'=>exact λ σ' Hs' H' r'=>⟨Hs0,H0,Hs',τ',o,r',e,k⟩
  | ret s=>cases e; exact k
  | brk τ'=>cases e; exact k
  | cnt τ'=>cases e; exact k
def uR:PSd X st uI:=λ _ _ _ _ _ _ ⟨_,_,_,_,_,_,e,_⟩=>by cases e
def Fp {t:DT} {x y:List Stmt} (hc:PTd X c t) (ha:mv X x f) (hb:mv X y g):PSd X (.If c x y pos) (sIf t f g):=(Kb hc ha hb).imp λ E σ H ⟨Hs0,H0,Hs,τ,o,r,e,k⟩=>by
 obtain ⟨bb,e1,e2⟩:=bind_some e;obtain ⟨fp,h⟩:=r.st;refine ⟨H0,Hs,τ,fp,bb,h,r.same,e1,λ Hs' H' g1=>?_⟩
 cases bb with
 | true=>exact ⟨Hs0,H0,Hs',τ,o,r.ext' g1,by simpa using e2,k⟩
 | false=>exact ⟨Hs0,H0,Hs',τ,o,r.ext' g1,by simpa using e2,k⟩
def Cc {f:DE} (h:PEd X e f):PSd X (.Return (some e) pos) (dJ f):=(uU h).imp λ E σ H ⟨Hs0,H0,Hs,τ,o,r,e,k⟩=>by
 obtain ⟨d,e1,rfl⟩:=Zm e;obtain ⟨fp,h⟩:=r.st;exact ⟨H0,Hs,τ,fp,d,h,r.same,e1,λ v Hs' H' g1 rv=>k v Hs' H' (r.ext.trans g1) rv⟩
def Rep.old {K:W.Frag} {Hs0 H0 Hs H:Hp} {σ:St} {τ:List Sl} (r:Rep K Hs0 H0 Hs H σ τ) {p:Addr} (h:H p=none):H0 p=none:=r.ext.hh.free h
def yu {f:DE} (h:PEo X e f):PSd X (.Return (some e) pos) (yf f):=(uU h).imp λ E σ H ⟨Hs0,H0,Hs,τ,o,r,e,k⟩=>by
 obtain ⟨d,e1,rfl⟩:=Zm e;obtain ⟨fp,h⟩:=r.st;exact ⟨H0,Hs,τ,fp,d,h,r.same,e1,λ v Hs' H' g1 rv z=>k _ Hs' H' (r.ext.trans g1) ⟨v,rfl,rv,r.old z⟩⟩
def yt (i:Nat) (hN:X.N[i]?=some x:=by rfl) (hv:Vis X.env.scope x:=by first | exact Or.inl rfl | exact Or.inr (Or.inl rfl) | exact Or.inr (Or.inr rfl)) (hd:(x == ("__debug__":Str))=false:=by decide)
  (hcd:(x == ("__classdict__":Str))=false:=by decide):PSd X (.Return (some (.Name x p)) pos) (pO i):=(uU (jR hN hv hd hcd)).imp λ E σ H ⟨Hs0,H0,Hs,τ,o,r,e,k⟩=>by
 obtain ⟨fp,h⟩:=r.st;unfold pO at e;split at e
 ·rename_i d q
  cases e;obtain ⟨a,h1,h2,h3,h4⟩:=h.A9 q;exact ⟨_,h1,k _ Hs H r.ext ⟨a,rfl,h2,h3⟩⟩
 ·rename_i d q
  cases e;obtain ⟨v,h1,h2⟩:=h.get q;exact ⟨_,h1,k _ Hs H r.ext h2⟩
 · cases e
def Cb {i:Nat} {x:Str} {f:DE} {pos':Pos} (hN:X.N.Nodup) (hi:X.N[i]?=some x) (hx:Loc X.env.scope x) (he:PEd X e f) (hs:swapsWith e (some (.Name x pos')) pos.line X.env=pure false:=by rfl) (hf:X.fn x=true\/X.env.scope.names.lookup x=some .local:=by first | exact .inl rfl | exact .inr rfl | assumption) :
  PSd X (.Assign [.Name x pos'] e pos) (bA i f):=(uT hN hi hx he hs hf).imp λ E σ H ⟨Hs0,H0,Hs,τ,o,r,e,k⟩=>by
 obtain ⟨d,e1,rfl⟩:=Zm e;obtain ⟨fp,h⟩:=r.st;refine ⟨H0,Hs,τ,fp,d,h,r.same,e1,λ v Hs' H' g1 rv=>?_⟩;obtain ⟨fp',_,h'⟩:=(h.ext g1).ED rv;exact k _ Hs' H' ⟨r.ext.trans g1,fp',h'⟩
def kK {K:W.Frag} {H0 Hs H:Hp} {σ:St} {τ:List Sl} {fp:List Addr} (h:StR K H0 Hs H σ τ fp) {p:Addr} (hp:H p=none):p ∉ fp:=λ q=>(h.DU p q).2.2 hp
def yq {i:Nat} {x:Str} {f:DE} {pos':Pos} (hN:X.N.Nodup) (hi:X.N[i]?=some x) (hx:Loc X.env.scope x) (he:PEo X e f) (hs:swapsWith e (some (.Name x pos')) pos.line X.env=pure false:=by rfl) (hf:X.fn x=true\/X.env.scope.names.lookup x=some .local:=by first | exact .inl rfl | exact .inr rfl | assumption) :
  PSd X (.Assign [.Name x pos'] e pos) (gs i f):=(uT hN hi hx he hs hf).imp λ E σ H ⟨Hs0,H0,Hs,τ,o,r,e,k⟩=>by
 unfold gs at e;split at e
 ·rename_i hl
  obtain ⟨d,e1,rfl⟩:=Zm e;obtain ⟨fp,h⟩:=r.st;refine ⟨H0,Hs,τ,fp,d,h,r.same,e1,λ v Hs' H' g1 rv z=>?_⟩;obtain ⟨fp',_,h'⟩:=(h.ext g1).Ig rv (r.old z) (kK h z) hl;exact k _ Hs' H' ⟨r.ext.trans g1,fp',h'⟩
 · cases e
def Rep.frz {K:W.Frag} {Hs0 H0 Hs H:Hp} {σ:St} {τ:List Sl} {i:Nat} {d:D} (r:Rep K Hs0 H0 Hs H σ τ) (q:τ[i]?=some (.own d)):∃ Hs',Rep K Hs0 H0 Hs' H σ (τ.set i (.shr d)):=by
 obtain ⟨fp,h⟩:=r.st;obtain ⟨a,o,fp',h1,h2,h3,h4,h5,h6,h7,h8⟩:=h.frz q;refine ⟨upd Hs a o,⟨r.ext.ss.trans (aW h2 o),r.same.frz h1,r.ext.hh,λ b k1 k2=>?_⟩,fp',h4⟩;have ne:b≠a:=λ z=>by subst z; exact k2 h3
 rw [aH ne];exact r.ext.fr b k1 k2
def Cd (i:Nat) (h:PSd X st f):PSd X st (uK i f):=PS.imp h λ E σ H ⟨Hs0,H0,Hs,τ,o,r,e,k⟩=>by
 unfold uK at e;split at e
 ·rename_i d q
  obtain ⟨Hs',r'⟩:=r.frz q;exact ⟨Hs0,H0,Hs',_,o,r',e,k⟩
 · exact ⟨Hs0,H0,Hs,τ,o,r,e,k⟩
def Ck (i:Nat) {x:Str} {f:DE} {p apos cpos:Pos} (hN:X.N[i]?=some x) (hv:Vis X.env.scope x) (he:PEd X e f) (hd:(x == ("__debug__":Str))=false:=by decide) (hcd:(x == ("__classdict__":Str))=false:=by decide)
   (hbase:attributeBase (.Name x p) "append" X.env (eval (.Name x p) X.env)=eval (.Name x p) X.env:=by rfl)
   (hfew:((backTo cpos (starEach [e] X.env)).all (λ x=>!x.1)&&(backToKw cpos (keywordEach [] X.env)).all (λ x=>x.1.isSome)
     && decide ([e].length+([]:List Keyword).length+(if ([]:List Keyword).isEmpty then 0 else 1) < 30))=true:=by rfl)
   (hline:(apos.endLine == cpos.line)=true:=by rfl) (hst:starEach [e] X.env=(false,eval e X.env)::starEach [] X.env:=by rfl) (hplain:(backTo cpos (starEach [] X.env)).any (·.1)=false:=by rfl)
   (hs:swapsWith (.Call (.Attribute (.Name x p) "append" apos) [e] [] cpos) none pos.line X.env=pure false:=by rfl) :
   PSd X (.Expr (.Call (.Attribute (.Name x p) "append" apos) [e] [] cpos) pos) (pF i f) :=
 (uV (FN PySem.F.plainAttrs_list PySem.F.slot_list_append PySem.F.type_list_append vD (jR hN hv hd hcd) (pQ he u4 hst) hbase hfew hline hst hplain) hs).imp λ E σ H ⟨Hs0,H0,Hs,τ,o,r,e,k⟩=>by
   obtain ⟨d,e1,e2⟩:=bind_some e;obtain ⟨fp,h⟩:=r.st;split at e2
   · rename_i ds q
     split at e2
     ·rename_i hl
      cases e2;obtain ⟨a,h1,h2,h3,h4⟩:=h.A9 q
      cases h2 with
      | @lst xs _ hH hn hr =>
       refine ⟨_,h1,.inl ⟨rfl,_,SqL.of hH⟩,?_⟩;refine ⟨H0,Hs,τ,fp,d,h,r.same,e1,λ v Hs' H' g1 rv=>?_⟩;have hH':=g1.hh _ _ hH;have h':=h.ext g1;have n':=g1.fr a hn (jv hH);refine ⟨a,xs,v,rfl,rfl,hH',by rw [hr.length]; exact le5 (Xq hl),?_⟩;refine k σ Hs' _ ⟨⟨r.ext.ss.trans g1.ss,λ b u z=>?_,λ b u z=>?_,λ b k1 k2=>?_⟩,fp,h'.mut q h1 (.lst aO n' ((hr.same g1.ss).append (.cons rv .nil)))⟩
       ·have ne:b≠a:=λ y=>by subst y; rw [n'] at z; cases z
        rw [aH ne]; exact g1.sh b u z
       ·have ne:b≠a:=λ y=>by subst y; rw [h3] at z; cases z
        rw [aH ne]; exact g1.hh b u (r.ext.hh b u z)
       · exact g1.fr b (r.ext.fr b k1 k2) (r.ext.hh.live k2)
     · cases e2
   · cases e2
end
abbrev DI:=List Sl->Option (List D)
def ItR (K:W.Frag) (J:It) (Hs:Hp) (ds:List D):Prop:=∀ Hs1 H,fD Hs Hs1->fD Hs1 H ->
 (∀ i d,ds[i]?=some d->J.go i H/\∀ x H',J.yld i H x H'->∃ Hs2,Ext Hs1 H Hs2 H'/\Rp K Hs2 x d)/\∀ i,ds.length<=i->J.stop i H
def rdI (K:W.Frag) (f:DI):TI:=λ σ H R=>∃ H0 Hs τ fp ds,StR K H0 Hs H σ τ fp/\fD Hs H/\f τ=some ds/\∀ J Hs' H',Ext Hs H Hs' H'->ItR K J Hs' ds->R J H'
def PId (X:Cx) (tg iter:Expr) (f:DI):Prop:=PI X tg iter (rdI X.K f)
def d7 (f:DE):DI:=λ τ=>(f τ).bind λ d=>match d with | .lst ds=>some ds | .fz ds=>some ds | _=>none
def wa (f:DE):DI:=λ τ=>(f τ).bind λ d=>match d with | .tup ds=>some ds | _=>none
def mh (lo:Int) (n:Nat):List D:=(List.range n).map λ (i:Nat)=>D.int (lo+(i:Int))
def gy (f:DA):DI:=λ τ=>(f τ).bind λ ds=>match ds with | [.int j]=>if -(2 ^ 62)<=j/\j < 2 ^ 62 then some (mh 0 j.toNat) else none | _=>none
def rQ {K:W.Frag} {a:Addr} {xs:List V} {Hs:Hp} {ds:List D} (h:SqL K Hs a xs) (r:Rps K Hs xs ds):ItR K (Itl K a) Hs ds:=λ Hs1 H g1 g2=>by
 have hq:=g2.seq (g1.seq h);refine ⟨λ i d e=>?_,λ i hi=>⟨xs,hq,by rw [r.length]; exact hi⟩⟩;obtain ⟨x,h1,h2⟩:=r.get e;refine ⟨⟨xs,x,hq,h1⟩,λ x' H' ⟨e1,e2⟩=>?_⟩;subst e1;have e3:=e2 xs hq;rw [h1] at e3;cases e3;exact ⟨Hs1,.refl g2,h2.same g1⟩
def ot {K:W.Frag} {Hs:Hp} (lo:Int) (n:Nat):ItR K (Itr lo n) Hs (mh lo n):=λ Hs1 H g1 g2=>by
 refine ⟨λ i d e=>?_,λ i hi=>show n<=i by simpa [mh] using hi⟩;unfold mh at e;rw [List.getElem?_map] at e
 by_cases hi:i < n
 ·rw [List.getElem?_range hi] at e
  have e':D.int (lo+i)=d:=by simpa using e
  subst e';refine ⟨hi,λ x H' ⟨e1,e2⟩=>?_⟩;subst e1 e2;exact ⟨Hs1,.refl g2,.int _⟩
 ·rw [List.getElem?_eq_none (by simpa using hi)] at e
  cases e
def PI.imp (h:PI X tg iter t) (hi:∀ σ H R,t' σ H R->t σ H R):PI X tg iter t':=λ pins s σ H R I q=>h pins s σ H R I (hi _ _ _ q)
def DD {K:W.Frag} {a:Addr} {xs:List V} {Hs:Hp} {ds:List D} (h:SqT K Hs a xs) (r:Rps K Hs xs ds):ItR K (Itt K a) Hs ds:=λ Hs1 H g1 g2=>by
 have hq:=g2.tup (g1.tup h);refine ⟨λ i d e=>?_,λ i hi=>⟨xs,hq,by rw [r.length]; exact hi⟩⟩;obtain ⟨x,h1,h2⟩:=r.get e;refine ⟨⟨xs,x,hq,h1⟩,λ x' H' ⟨e1,e2⟩=>?_⟩;subst e1;have e3:=e2 xs hq;rw [h1] at e3;cases e3;exact ⟨Hs1,.refl g2,h2.same g1⟩
def jg (f:DA):DI:=λ τ=>(f τ).bind λ ds=>match ds with | [.int i,.int j]=>if -(2 ^ 62)<=i/\i < 2 ^ 62/\-(2 ^ 62)<=j/\j < 2 ^ 62 then some (mh i (j - i).toNat) else none | _=>none
section
variable {X:Cx} {tg l e:Expr} {es:List Expr} {pos:Pos}
def CB (h:PEd X l f):PId X tg l (d7 f):=(CD h).imp λ σ H R ⟨H0,Hs,τ,fp,ds,st,sm,e,k⟩=>by
 obtain ⟨x,e1,e2⟩:=bind_some e;refine ⟨H0,Hs,τ,fp,x,st,sm,e1,λ v Hs' H' g r=>?_⟩
 cases r with
 | @lst a xs ds' h r =>
  have e':=Zj e2;subst e';exact ⟨a,rfl,⟨xs,SqL.of (g.sh _ _ h)⟩,k _ Hs' H' g (rQ (SqL.of h) r)⟩
 | @fz a xs ds' h r =>
  have e':ds'=ds:=Zj e2;subst e';exact ⟨a,rfl,⟨xs,g.sh.seq h⟩,k _ Hs' H' g (rQ h r)⟩
 | _=>exact nn e2
def CA (h:PEd X l f):PId X tg l (wa f):=(Fy h).imp λ σ H R ⟨H0,Hs,τ,fp,ds,st,sm,e,k⟩=>by
 obtain ⟨x,e1,e2⟩:=bind_some e;refine ⟨H0,Hs,τ,fp,x,st,sm,e1,λ v Hs' H' g r=>?_⟩
 cases r with
 | @tup a xs ds' h r =>
  have e':=Zj e2;subst e';exact ⟨a,rfl,⟨xs,g.sh.tup h⟩,k _ Hs' H' g (DD h r)⟩
 | _=>exact nn e2
def tp (hg:Gl X "range") (hm:X.mg "range"=none) (ha:PAd X [a] f) (hs:starEach [a] X.env=[(false,eval a X.env)]:=by rfl):PId X tg (.Call (.Name "range" p) [a] [] pos) (gy f) :=
 (uY hg hm ha hs).imp λ σ H R ⟨H0,Hs,τ,fp,ds,st,sm,e,k⟩=>by
   obtain ⟨x,e1,e2⟩:=bind_some e;refine ⟨H0,Hs,τ,fp,x,st,sm,e1,λ v Hs' H' g r=>?_⟩
   match x,r,e2 with
   | [y],.cons hy .nil,e2 =>
    cases hy with
    | int j =>
     simp only at e2;split at e2
     ·rename_i hj
      have e':=Zj e2;subst e';exact ⟨j,rfl,hj.1,hj.2,k _ Hs' H' g (ot _ _)⟩
     · cases e2
    | _=>exact nn e2
   | [],_,e2=>simp at e2
   | _::_::_,_,e2=>simp at e2
end
abbrev DG:=D->List Sl->Option (List Sl)
def rdG (K:W.Frag) (g:DG):TG:=λ v σ H Q=>∃ Hs0 H0 Hs τ τ' d,Rep K Hs0 H0 Hs H σ τ/\Rp K Hs v d/\g d τ=some τ'/\∀ σ',Rep K Hs0 H0 Hs H σ' τ'->Q σ' H
def PGd (X:Cx) (tg:Expr) (g:DG):Prop:=PG X tg (rdG X.K g)
def PG.imp (h:PG X tg t) (hi:∀ v σ H Q,t' v σ H Q->t v σ H Q):PG X tg t':=λ pins s σ H v u Q I r q=>h pins s σ H v u Q I r (hi _ _ _ _ q)
abbrev DGs:=List D->List Sl->Option (List Sl)
def Nq (K:W.Frag) (g:DGs):TGs:=λ v σ H Q=>∃ Hs0 H0 Hs τ τ' d,Rep K Hs0 H0 Hs H σ τ/\Rps K Hs v d/\g d τ=some τ'/\∀ σ',Rep K Hs0 H0 Hs H σ' τ'->Q σ' H
def Bs (X:Cx) (tg:List Expr) (g:DGs):Prop:=PGs X tg (Nq X.K g)
def PGs.imp (h:PGs X tg t) (hi:∀ v σ H Q,t' v σ H Q->t v σ H Q):PGs X tg t':=λ pins s σ H v u Q I r q=>h pins s σ H v u Q I r (hi _ _ _ _ q)
def gN (i:Nat):DG:=λ d τ=>some (τ.set i (.shr d))
def wm:DGs:=λ ds τ=>if ds.isEmpty=true then some τ else none
def k6 (g:DG) (h:DGs):DGs:=λ ds τ=>match ds with | d::r=>(g d τ).bind λ τ'=>h r τ' | []=>none
def gT (n:Nat) (g:DGs):DG:=λ d τ=>match d with | .tup ds=>if ds.length=n then g ds τ else none | _=>none
section
variable {X:Cx} {pos:Pos} {e:Expr} {es:List Expr}
def yI (hN:X.N.Nodup) (hi:X.N[i]?=some x) (hx:Loc X.env.scope x) (hf:X.fn x=true\/X.env.scope.names.lookup x=some .local:=by first | exact .inl rfl | exact .inr rfl | assumption):PGd X (.Name x pos) (gN i) :=
 (kJ hN hi hx hf).imp λ v σ H Q ⟨Hs0,H0,Hs,τ,τ',d,r,rv,e,k⟩=>by
   have e':=Zj e;subst e';obtain ⟨fp,h⟩:=r.st;obtain ⟨fp',_,h'⟩:=h.ED rv;exact k _ ⟨r.ext,fp',h'⟩
def yH:Bs X [] wm:=u0.imp λ v σ H Q ⟨Hs0,H0,Hs,τ,τ',d,r,rv,e,k⟩=>by
 cases rv with
 | nil =>
  have e':=Zj e;subst e';exact ⟨rfl,k σ r⟩
 | cons _ _=>simp [wm] at e
def uZ (h1:PGd X e g) (h2:Bs X es h) (hs:(assignEach (e::es) X.env).map (·.2)=assign e X.env::(assignEach es X.env).map (·.2):=by rfl):Bs X (e::es) (k6 g h) :=
 (mJ h1 h2 hs).imp λ v σ H Q ⟨Hs0,H0,Hs,τ,τ',d,r,rv,e,k⟩=>by
   cases rv with
   | nil=>simp [k6] at e
   | cons rx rr =>
    obtain ⟨τ1,e1,e2⟩:=bind_some e;exact ⟨_,_,rfl,Hs0,H0,Hs,τ,τ1,_,r,rx,e1,λ σ' r'=>⟨Hs0,H0,Hs,τ1,τ',_,r',rr,e2,k⟩⟩
def CG (hc:X.calm=true) (h:Bs X es g) (hn:(assignEach es X.env).length=n:=by rfl) (hst:(assignEach es X.env).findIdx? (·.1)=none:=by rfl):PGd X (.Tuple es k' pos) (gT n g) :=
 (Ao hc h hn hst).imp λ v σ H Q ⟨Hs0,H0,Hs,τ,τ',d,r,rv,e,k⟩=>by
   cases rv with
   | @tup a xs ds h rr =>
    simp only [gT] at e;split at e
    ·rename_i hl
     exact ⟨a,xs,rfl,r.same.tup h,by rw [rr.length]; exact hl,Hs0,H0,Hs,τ,τ',ds,r,rr,e,k⟩
    · cases e
   | _=>simp [gT] at e
def Ih (f:DE) (g:DG):DS:=λ τ=>(f τ).bind λ d=>(g d τ).map .next
def Cj (he:PEd X e f) (hg:PGd X tg g) (hs:swapsWithSole [tg] e pos.line X.env=pure false:=by rfl) (hw:swappedStores [tg] e X.env=pure none:=by rfl)
  (h1:(assignEach [tg] X.env).map (·.2)=[assign tg X.env]:=by rfl):PSd X (.Assign [tg] e pos) (Ih f g):=(An he hg hs hw h1).imp λ E σ H ⟨Hs0,H0,Hs,τ,o,r,e,k⟩=>by
 obtain ⟨d,e1,e2⟩:=bind_some e;obtain ⟨τ',e3,rfl⟩:=Zm e2;obtain ⟨fp,h⟩:=r.st;exact ⟨H0,Hs,τ,fp,d,h,r.same,e1,λ v Hs' H' g1 rv=>⟨Hs0,H0,Hs',τ,τ',d,r.ext' g1,rv,e3,λ σ' r'=>k σ' Hs' H' r'⟩⟩
end
def oz (b:D->DS):List D->DS
 | [],τ=>some (.next τ)
 | d::ds,τ=>match b d τ with
  | some (.next τ')=>oz b ds τ'
  | some (.cnt τ')=>oz b ds τ'
  | some (.brk τ')=>some (.next τ')
  | r=>r
def nF (it:DI) (g:DG) (b:DS):DS:=λ τ=>(it τ).bind λ ds=>oz (λ d τ=>(g d τ).bind b) ds τ
def bH (c:DT) (b:DS):Nat->DS
 | 0,_=>none
 | n+1,τ=>match c τ with
  | none=>none
  | some false=>some (.next τ)
  | some true=>match b τ with
   | some (.next τ')=>bH c b n τ'
   | some (.cnt τ')=>bH c b n τ'
   | some (.brk τ')=>some (.next τ')
   | r=>r
open Classical in
noncomputable def gr (c:DT) (b:DS):DS:=λ τ=>if h:∃ n o,bH c b n τ=some o then some (Classical.choose (Xc h)) else none
def fF:∀ {n m:Nat} {τ:List Sl} {o:Out},bH c b n τ=some o->n<=m->bH c b m τ=some o
 | 0,_,_,_,h,_=>by simp [bH] at h
 | n+1,0,_,_,_,l=>by omega
 | n + 1,m+1,τ,o,h,l=>by
  have l':n<=m:=by omega
  unfold bH at h ⊢
  cases q:c τ with
  | none=>rw [q] at h; cases h
  | some x =>
   rw [q] at h
   cases x with
   | false=>exact h
   | true =>
    simp only at h ⊢
    cases q2:b τ with
    | none=>rw [q2] at h; exact h
    | some o' =>
     rw [q2] at h
     cases o' with
     | next τ'=>exact fF h l'
     | cnt τ'=>exact fF h l'
     | brk τ'=>exact h
     | ret s=>exact h
def eI (h:bH c b n τ=some o):gr c b τ=some o:=by
 have hx:∃ n o,bH c b n τ=some o:=⟨n,o,h⟩
 unfold gr;rw [dif_pos hx];have h2:=Xc (Xc hx);have h3:=fF h2 (Nat.le_max_left _ n);have h4:=fF h (Nat.le_max_right (Classical.choose hx) n);rw [h3] at h4;exact h4
def uH (h:gr c b τ=some o):∃ n,bH c b n τ=some o:=by
 unfold gr at h;split at h
 ·rename_i hx
  have e:=Zj h;subst e;exact ⟨_,Xc (Xc hx)⟩
 · cases h
def Ext.sub (a:Ext Hs0 H0 Hs1 H1) (b:Ext Hs1 H0 Hs H):Ext Hs0 H0 Hs H:=⟨a.ss.trans b.ss,b.sh,b.hh,λ c h1 h2=>b.fr c (a.fr c h1 h2) h2⟩
def Rep.rebase {K:W.Frag} {Hs0 H0 Hs H:Hp} {σ:St} {τ:List Sl} (r:Rep K Hs0 H0 Hs H σ τ):Rep K Hs H0 Hs H σ τ:=⟨⟨.refl _,r.same,r.ext.hh,λ _ h _=>h⟩,r.st⟩
def Rep.uh {K:W.Frag} {Hs0 H0 Hs1 H1 Hs H:Hp} {σ:St} {τ:List Sl} (a:Ext Hs0 H0 Hs1 H1) (r:Rep K Hs1 H0 Hs H σ τ):Rep K Hs0 H0 Hs H σ τ:=⟨a.sub r.ext,r.st⟩
def Fin.rebase {K:W.Frag} {Hs0 H0 Hs1 H1:Hp} {E:Ends} {o:Out} (a:Ext Hs0 H0 Hs1 H1) (h:Fin K Hs0 H0 E o):Fin K Hs1 H0 E o:=by
 cases o with
 | next τ=>exact λ σ Hs H r=>h σ Hs H (r.uh a)
 | brk τ=>exact λ σ Hs H r=>h σ Hs H (r.uh a)
 | cnt τ=>exact λ σ Hs H r=>h σ Hs H (r.uh a)
 | ret s=>exact λ v Hs H g r=>h v Hs H (a.sub g) r
section
variable {X:Cx} {tg iter:Expr} {body:List Stmt} {pos:Pos}
def Ce {it:DI} {g:DG} {b:DS} (hp:PassesOwn (model X.prog X.w) X.A X.env X.xe) (hc:X.calm=true) (hi:PId X tg iter it) (hg:PGd X tg g) (hb:mv X body b) (hs:∀ x,foldedSetIterable iter X.env x=pure x:=by intro _; rfl) :
  PSd X (.For tg iter body [] pos) (nF it g b):=(Fq hp hc hi hg hb hs).imp λ E σ H ⟨Hs0,H0,Hs,τ,o,r,e,k⟩=>by
 obtain ⟨ds,e1,e2⟩:=bind_some e;obtain ⟨fp,hst⟩:=r.st;refine ⟨H0,Hs,τ,fp,ds,hst,r.same,e1,λ J Hs1 H1 g1 hJ=>?_⟩;have r1:=r.ext' g1;have kk:=k.rebase r1.ext;refine ⟨λ i m σ H=>m=ds.length - i/\i<=ds.length/\∃ Hs2 τ2,Rep X.K Hs1 H0 Hs2 H σ τ2/\oz (λ d τ=>(g d τ).bind b) (ds.drop i) τ2=some o,⟨ds.length,by simp,Zs _,Hs1,τ,r1.rebase,by simpa using e2⟩,?_⟩
 rintro i m σ2 H2 ⟨rfl,hi,Hs2,τ2,r2,e3⟩
 obtain ⟨hgo,hstop⟩:=hJ Hs2 H2 r2.ext.ss r2.same
 by_cases hlt:i < ds.length
 ·have ed:=Yl hlt
  rw [ed] at e3;obtain ⟨go,yl⟩:=hgo i ds[i] (List.getElem?_eq_getElem hlt);refine .inr ⟨go,λ σ' H'=>∃ Hs' τ',Rep X.K Hs1 H0 Hs' H' σ' τ'/\oz (λ d τ=>(g d τ).bind b) (ds.drop (i+1)) τ'=some o,?_,?_⟩
  ·rintro σ' H' ⟨Hs',τ',r',e'⟩
   exact ⟨ds.length - (i+1),by omega,rfl,hlt,Hs',τ',r',e'⟩
  ·intro x H' y
   obtain ⟨Hs3,g3,rx⟩:=yl x H' y;have r3:=r2.ext' g3;unfold oz at e3
   cases q:(g ds[i] τ2).bind b with
   | none=>simp only [q] at e3; cases e3
   | some o1 =>
    simp only [q] at e3;obtain ⟨τ3,q1,q2⟩:=bind_some q;refine ⟨Hs1,H0,Hs3,τ2,τ3,ds[i],r3,rx,q1,λ σ' r'=>?_⟩;refine ⟨Hs1,H0,Hs3,τ3,o1,r',q2,?_⟩
    cases o1 with
    | next τ'=>exact λ σ4 Hs4 H4 r4=>⟨Hs4,τ',r4,e3⟩
    | cnt τ'=>exact λ σ4 Hs4 H4 r4=>⟨Hs4,τ',r4,e3⟩
    | brk τ'=>cases e3; exact kk
    | ret s=>cases e3; exact kk
 ·have e0:i=ds.length:=by omega
  subst e0;rw [Wa] at e3;have e':Out.next τ2=o:=by simpa [oz] using e3
  subst e';exact .inl ⟨hstop _ (Ze _),kk σ2 Hs2 H2 r2⟩
def uP (hp:PassesOwn (model X.prog X.w) X.A X.env X.xe) (hc:PTd X c t) (hb:mv X body b):PSd X (.While c body [] pos) (gr t b):=(yx hp hc hb).imp λ E σ H ⟨Hs0,H0,Hs,τ,o,r,e,k⟩=>by
 obtain ⟨n,e⟩:=uH e;refine ⟨λ m σ H=>∃ Hs2 τ2,Rep X.K Hs0 H0 Hs2 H σ τ2/\bH t b m τ2=some o,⟨n,Hs,τ,r,e⟩,?_⟩
 rintro m σ2 H2 ⟨Hs2,τ2,r2,e2⟩
 obtain ⟨fp,hst⟩:=r2.st
 cases m with
 | zero=>simp [bH] at e2
 | succ m =>
  unfold bH at e2
  cases q:t τ2 with
  | none=>rw [q] at e2; cases e2
  | some bb =>
   rw [q] at e2;refine ⟨H0,Hs2,τ2,fp,bb,hst,r2.same,q,λ Hs3 H3 g3=>?_⟩;have r3:=r2.ext' g3
   cases bb with
   | false =>
    have e':Out.next τ2=o:=by simpa using e2
    subst e';exact MQ (k σ2 Hs3 H3 r3)
   | true =>
    refine MP ?_
    refine ⟨λ σ' H'=>∃ Hs' τ',Rep X.K Hs0 H0 Hs' H' σ' τ'/\bH t b m τ'=some o,?_,?_⟩
    ·rintro σ' H' ⟨Hs',τ',r',e'⟩
     exact ⟨m,by omega,Hs',τ',r',e'⟩
    ·cases q2:b τ2 with
     | none=>rw [q2] at e2; cases e2
     | some o1 =>
      rw [q2] at e2;refine ⟨Hs0,H0,Hs3,τ2,o1,r3,q2,?_⟩
      cases o1 with
      | next τ'=>exact λ σ4 Hs4 H4 r4=>⟨Hs4,τ',r4,e2⟩
      | cnt τ'=>exact λ σ4 Hs4 H4 r4=>⟨Hs4,τ',r4,e2⟩
      | brk τ'=>cases e2; exact k
      | ret s=>cases e2; exact k
end
def kC (n:Nat) (ds:List D):List Sl:=ds.map .shr++List.replicate (n - ds.length) .no
def cL (n m:Nat) (b:DS) (ds:List D):Option Sl:=if ds.length=m then (match b (kC n ds) with | some (.ret s)=>some s | some (.next _)=>some (.shr .non) | _=>none) else none
def spF (F:List D->Option Sl) (K:W.Frag):Sp:=λ vs H Q _=>∃ Hs ds s,fD Hs H/\Rps K Hs vs ds/\F ds=some s/\∀ v Hs' H',Ext Hs H Hs' H'->SlV K H Hs' H' v s->Q v H'
def kz {K:W.Frag} {H0 Hs H:Hp}:∀ {vs:List V} {ds:List D} (k:Nat),Rps K Hs vs ds->StR K H0 Hs H (vs.map some++List.replicate k none) (ds.map .shr++List.replicate k .no) []
 | _,_,0,.nil=>.nil
 | _,_,k+1,.nil=>by
  rw [List.replicate_succ,List.replicate_succ];exact .no (kz k .nil)
 | _,_,k,.cons h r=>.shr h (kz k r)
section
variable {P:Program} {w:World} {K:W.Frag} {mg:Str->Option Value} {base:Heap}
def Fun.okD {x qual:Str} {st:Stmt} {f:Addr} {fd:FuncData} {N ps:List Str} {k:Nat} {b:DS} (F:Fun K x qual st f fd) (S:iQ N ps (bq st))
  (hbody:∀ (cdv:Value) (A:Around) (outer:List Env) (s:Shared) (H:Hp) (E:XK),gj k (A.deeper (envOfC qual (bq st) s.heap.objs.size f cdv)) ->
    mv (Bh CX0 P w K mg base N qual (bq st) f cdv A outer s H E).nox (cC st) b):ko P w K mg base CX0 (k+1) f fd ps (spF (cL N.length ps.length b) K):=by
 refine F.ok S (λ vs H Q E h=>?_) (λ cdv A outer s H vs Q E hr h=>?_)
 ·obtain ⟨Hs,ds,s,sm,r,e,_⟩:=h
  unfold cL at e;split at e
  · rename_i hl
    rw [r.length]; exact hl
  · cases e
 obtain ⟨Hs,ds,sl,sm,r,e,q⟩:=h;refine ⟨_,hbody cdv A outer s H E hr,?_⟩;unfold cL at e;split at e
 ·have h0:Rep K Hs H Hs H (start N vs) (kC N.length ds):=⟨.refl sm,[],by unfold start kC; rw [r.length]; exact kz _ r⟩
  cases q2:b (kC N.length ds) with
  | none=>rw [q2] at e; cases e
  | some o =>
    rw [q2] at e;refine ⟨Hs,H,Hs,_,o,h0,q2,?_⟩
    cases o with
    | next τ =>
     have e':=Zj e;subst e';exact λ σ Hs' H' r'=>q .non Hs' H' r'.ext .non
    | ret s =>
     have e':=Zj e;subst e';exact λ v Hs' H' g rv=>q v Hs' H' g rv
    | brk τ=>cases e
    | cnt τ=>cases e
 · cases e
end
def slD:Sl->Option D
 | .shr d=>some d
 | .own d=>some d
 | .no=>none
def slO:Sl->Option D
 | .own d=>some d
 | _=>none
def dFn (F:List D->Option Sl) (f:DA):DE:=λ τ=>(f τ).bind λ ds=>(F ds).bind slD
def HJ (F:List D->Option Sl) (f:DA):DE:=λ τ=>(f τ).bind λ ds=>(F ds).bind slO
def SlV.shr {K:W.Frag} {H0 Hs H Hs0:Hp} {v:V} {s:Sl} {d:D} (g:Ext Hs0 H0 Hs H) (h:SlV K H0 Hs H v s) (e:slD s=some d):∃ Hs',Ext Hs0 H0 Hs' H/\Rp K Hs' v d:=by
 cases s with
 | no=>cases h
 | shr d' =>
  have e':=Zj e;subst e';exact ⟨Hs,g,h⟩
 | own d' =>
  have e':d'=d:=Zj e;subst e';obtain ⟨a,rfl,o,z⟩:=h;obtain ⟨ob,h1,h2⟩:=o.rp;refine ⟨upd Hs a ob,⟨g.ss.trans (aW o.hid ob),g.sh.frz h1,g.hh,λ b h3 h4=>?_⟩,h2⟩;have ne:b≠a:=λ y=>by subst y; exact h4 z
  rw [aH ne];exact g.fr b h3 h4
section
variable {X:Cx} {e:Expr} {es:List Expr} {x:Str} {p pos:Pos} {k:Nat} {f:Addr} {fd:FuncData} {ps:List Str} {F:List D->Option Sl} {g:DA}
def DW {σ:St} {H:Hp} {Q:VK} (K:W.Frag) (h:rdE K (dFn F g) σ H Q):BM (spF F K) [] E0 (rdA K g) σ H Q:=by
 obtain ⟨H0,Hs,τ,fp,d,st,sm,e,q⟩:=h;obtain ⟨ds,e1,e2⟩:=bind_some e;obtain ⟨s,e2,e3⟩:=bind_some e2;refine ⟨H0,Hs,τ,fp,ds,st,sm,e1,λ vs Hs1 H1 g1 r1=>?_⟩;refine ⟨Hs1,ds,s,g1.sh,by rw [Yi]; exact r1,e2,λ v Hs2 H2 g2 rv=>?_⟩;obtain ⟨Hs3,g3,r3⟩:=rv.shr g2 e3;exact q v Hs3 H2 (g1.trans g3) r3
def DV (K:W.Frag) (h:rdO K (HJ F g) σ H Q):BM (spF F K) [] E0 (rdA K g) σ H Q:=by
 obtain ⟨H0,Hs,τ,fp,d,st,sm,e,q⟩:=h;obtain ⟨ds,e1,e2⟩:=bind_some e;obtain ⟨s,e2,e3⟩:=bind_some e2;refine ⟨H0,Hs,τ,fp,ds,st,sm,e1,λ vs Hs1 H1 g1 r1=>?_⟩;refine ⟨Hs1,ds,s,g1.sh,by rw [Yi]; exact r1,e2,λ v Hs2 H2 g2 rv=>?_⟩
 cases s with
 | own d' =>
  have e':=Zj e3;subst e';obtain ⟨a,rfl,o,z⟩:=rv;exact q a Hs2 H2 (g1.trans g2) o (g1.hh.free z)
 | shr _=>cases e3
 | no=>cases e3
def CU (Fo:ko X.prog X.w X.K X.mg X.base CX0 k f fd ps (spF F X.K)) (hr:gj k X.A) (hg:Gl X x) (hm:X.mg x=some (.ref f)) (hk:W.keepIn X.K (.ref f)=true) (hb:Binds X.K fd ps [])
 (ha:PAd X (e::es) g) (hdb:(x == ("__debug__":Str))=false:=by decide) (he:starEach (e::es) X.env=(false,eval e X.env)::starEach es X.env:=by rfl) (hpl:(backTo pos (starEach es X.env)).any (·.1)=false:=by rfl) :
 PEd X (.Call (.Name x p) (e::es) [] pos) (dFn F g):=(u3 Fo hr hg hm hk hb .nil yO ha hdb he hpl).imp λ σ H Q h=>DW X.K h
def Cy (Fo:ko X.prog X.w X.K X.mg X.base CX0 k f fd ps (spF F X.K)) (hr:gj k X.A) (hg:Gl X x) (hm:X.mg x=some (.ref f)) (hk:W.keepIn X.K (.ref f)=true) (hb:Binds X.K fd ps [])
 (ha:PAd X (e::es) g) (hdb:(x == ("__debug__":Str))=false:=by decide) (he:starEach (e::es) X.env=(false,eval e X.env)::starEach es X.env:=by rfl) (hpl:(backTo pos (starEach es X.env)).any (·.1)=false:=by rfl) :
 PEo X (.Call (.Name x p) (e::es) [] pos) (HJ F g):=(u3 Fo hr hg hm hk hb .nil yO ha hdb he hpl).imp λ σ H Q h=>DV X.K h
end
def kj (g:D->Option D):List D->Option (List D)
 | []=>some []
 | d::ds=>(g d).bind λ x=>(kj g ds).bind λ xs=>some (x::xs)
def E9:Option Sl->Sl
 | some (.shr d)=>.shr d
 | _=>.no
def fq (τ:List Sl) (cs:List (Str×Nat)):List Sl:=cs.map λ p=>E9 τ[p.2]?
def cx (it:DI) (g:DE) (cs:List (Str×Nat)):DE:=λ τ=>(it τ).bind λ ds=>if ds.length<=100000 then (kj (λ d=>g (.shr d::fq τ cs)) ds).map .lst else none
def kA {K:W.Frag} {H0 Hs H:Hp} {σ:St} {τ:List Sl} {fp:List Addr} (st:StR K H0 Hs H σ τ fp):∀ cs:List (Str×Nat),StR K H0 Hs H (aI σ cs) (fq τ cs) []
 | []=>.nil
 | p :: cs=>by
  have ih:=kA st cs;show StR K H0 Hs H ((σ[p.2]?).join::aI σ cs) (E9 τ[p.2]?::fq τ cs) []
  cases q:τ[p.2]? with
  | none=>exact .no ih
  | some sl =>
   cases sl with
   | no=>exact .no ih
   | own d=>exact .no ih
   | shr d =>
    obtain ⟨v,h1,h2⟩:=st.get q;rw [h1];exact .shr h2 ih
section
variable {X:Cx} {e:Expr} {es:List Expr} {pos:Pos}
def qI {K:W.Frag} {it:DI} {g:DE} {cs:List (Str×Nat)} {σ:St} {H:Hp} {Q:VK} (h:rdO K (cx it g cs) σ H Q):BL (rdI K it) (rdE K g) cs σ H Q:=by
 obtain ⟨H0,Hs,τ,fp,d,st,sm,e,k⟩:=h;obtain ⟨ds,e1,e2⟩:=bind_some e;split at e2
 ·rename_i hl
  obtain ⟨full,e3,rfl⟩:=Zm e2;refine ⟨H0,Hs,τ,fp,ds,st,sm,e1,λ J Hs1 H1 g1 hJ=>?_⟩;refine ⟨λ i m ys H'=>m=ds.length - i/\i<=ds.length/\∃ Hs2 es rest,Ext Hs1 H1 Hs2 H'/\Rps K Hs2 ys es/\es.length=i/\kj (λ d=>g (.shr d::fq τ cs)) (ds.drop i)=some rest/\es++rest=full,⟨ds.length,by simp,Zs _,Hs1,[],full,.refl g1.sh,.nil,rfl,by simpa using e3,rfl⟩,?_⟩
  rintro i m ys H2 ⟨rfl,hi,Hs2,es,rest,g2,ry,ley,e4,e5⟩
  obtain ⟨hgo,hstop⟩:=hJ Hs2 H2 g2.ss g2.sh;have ly:ys.length=i:=by rw [ry.length,ley]
  by_cases hlt:i < ds.length
  ·have ed:=Yl hlt
   rw [ed] at e4;obtain ⟨x,q1,q2⟩:=bind_some e4;obtain ⟨xs,q3,q4⟩:=bind_some q2;have eq:=Zj q4;subst eq;obtain ⟨go,yl⟩:=hgo i ds[i] (List.getElem?_eq_getElem hlt);refine .inr ⟨go,by rw [ly]; exact le5 (by omega),λ v H3 y=>?_⟩;obtain ⟨Hs3,g3,rv⟩:=yl v H3 y;have g13:=(g1.trans g2).trans g3;refine ⟨H0,Hs3,.shr ds[i]::fq τ cs,[],x,.shr rv (kA (st.ext g13) cs),g3.sh,q1,λ v4 Hs4 H4 g4 r4=>?_⟩;exact ⟨ds.length - (i+1),by omega,rfl,hlt,Hs4,es++[x],xs,(g2.trans g3).trans g4,((ry.same g3.ss).same g4.ss).append (.cons r4 .nil),by simp [ley],q3,by rw [<- e5]; simp⟩
  ·have e0:i=ds.length:=by omega
   subst e0;rw [Wa] at e4;have er:=Zj e4;subst er;rw [Yi] at e5;subst e5;refine .inl ⟨hstop _ (Ze _),by rw [ly]; exact vK hl,λ p hp=>?_⟩;have g12:=g1.trans g2;exact k p Hs2 _ ⟨g12.ss,g12.sh.trans (aW hp _),g12.hh.trans (aW hp _),g12.fr⟩ (.lst aO (g12.sh.free hp) ry) (g12.hh.free hp)
 · cases e2
def Cw (hc:X.calm=true) (O:cw X scope cl x cs) (hi:PId X (.Name x px) iter it)
 (he:∀ s H fp C,PEd (bD X scope cl (x::cs.map (·.1)) s H fp C) elt g) (hs:∀ x,foldedSetIterable iter X.env x=pure x:=by intro _; rfl) :
 PEo X (.ListComp elt [⟨.Name x px,iter,[],0⟩] scope pos) (cx it g cs):=(CM (te:=rdE X.K g) hc O hi he hs).imp λ σ H Q h=>qI h
def yr (hN:X.N.Nodup) (hy:X.N[i]?=some y) (hx:Loc X.env.scope y)
  (hc:X.calm=true) (O:cw X scope cl x cs) (hi:PId X (.Name x px) iter it)
  (he:∀ s H fp C,PEd (bD X scope cl (x::cs.map (·.1)) s H fp C) elt g) (hs:∀ x,foldedSetIterable iter X.env x=pure x:=by intro _; rfl)
  (hsw:swapsWith (.ListComp elt [⟨.Name x px,iter,[],0⟩] scope pos) (some (.Name y py)) spos.line X.env=pure true:=by rfl)
  (hf:X.fn y=true\/X.env.scope.names.lookup y=some .local:=by first | exact .inl rfl | exact .inr rfl | assumption) :
  PSd X (.Assign [.Name y py] (.ListComp elt [⟨.Name x px,iter,[],0⟩] scope pos) spos) (gs i (cx it g cs)):=(uS (te:=rdE X.K g) hN hy hx hc O hi he hs hsw hf).imp λ E σ H ⟨Hs0,H0,Hs,τ,o,r,e,k⟩=>by
 unfold gs at e;split at e
 ·rename_i hl
  obtain ⟨d,e1,rfl⟩:=Zm e;obtain ⟨fp,h⟩:=r.st;refine qI ⟨H0,Hs,τ,fp,d,h,r.same,e1,λ v Hs' H' g1 rv z=>?_⟩;obtain ⟨fp',_,h'⟩:=(h.ext g1).Ig rv (r.old z) (kK h z) hl;exact k _ Hs' H' ⟨r.ext.trans g1,fp',h'⟩
 · cases e
def lY (i:Nat) (o:D->D->Option D) (f:DE):DS:=λ τ=>(ao i τ).bind λ x=>(f τ).bind λ y=>(o x y).map λ z=>.next (τ.set i (.shr z))
def j7:D->D->Option D
 | .int i,.int j=>some (.int (i+j))
 | _,_=>none
def mV:D->D->Option D
 | .int i,.int j=>some (.int (i - j))
 | _,_=>none
def Ci (ho:PIp X op (ipI fi)) (hoo:∀ x y z,o x y=some z->∃ i j,x=.int i/\y=.int j/\z=.int (fi i j))
  (hN:X.N.Nodup) (hi:X.N[i]?=some x) (hx:Loc X.env.scope x) (he:PEd X e f) (hf:X.fn x=true\/X.env.scope.names.lookup x=some .local:=by first | exact .inl rfl | exact .inr rfl | assumption) :
  PSd X (.AugAssign (.Name x pos') op e pos) (lY i o f):=(Fu hN hi hx he ho hf).imp λ E σ H ⟨Hs0,H0,Hs,τ,oo,r,e,k⟩=>by
 obtain ⟨dx,e1,e2⟩:=bind_some e;obtain ⟨dy,e3,e4⟩:=bind_some e2;obtain ⟨dz,e5,rfl⟩:=Zm e4;obtain ⟨ii,jj,rfl,rfl,rfl⟩:=hoo _ _ _ e5;obtain ⟨fp,h⟩:=r.st
 have e1':τ[i]?=some (.shr (.int ii)):=by
  unfold ao at e1;split at e1
  · rename_i d' q; rw [q]; simpa using e1
  · cases e1
 obtain ⟨v,h1,h2⟩:=h.get e1';refine ⟨v,h1,H0,Hs,τ,fp,_,h,r.same,e3,λ u Hs' H' g1 ru=>?_⟩;cases h2;cases ru;refine ⟨ii,jj,rfl,rfl,?_⟩;obtain ⟨fp',_,h'⟩:=(h.ext g1).ED (.int _);exact k _ Hs' H' ⟨r.ext.trans g1,fp',h'⟩
def jf:∀ x y z,j7 x y=some z->∃ i j,x=.int i/\y=.int j/\z=.int (i+j):=λ x y z h=>by cases x <;> cases y <;> simp [j7] at h; exact ⟨_,_,rfl,rfl,h.symm⟩
def rV:∀ x y z,mV x y=some z->∃ i j,x=.int i/\y=.int j/\z=.int (i - j):=λ x y z h=>by cases x <;> cases y <;> simp [mV] at h; exact ⟨_,_,rfl,rfl,h.symm⟩
end
def m3 {b:D->DS} {o:Out} (P:Nat->List Sl->Prop):∀ {ds:List D} {τ:List Sl} (i:Nat),P i τ->(∀ j d τ,ds[j]?=some d->P (i+j) τ->∃ τ',b d τ=some (.next τ')/\P (i+j+1) τ')->∃ τ',oz b ds τ=some (.next τ')/\P (i+ds.length) τ'
 | [],τ,i,h,_=>⟨τ,rfl,h⟩
 | d::ds,τ,i,h,hs=>by
  obtain ⟨τ1,e1,p1⟩:=hs 0 d τ rfl h
  obtain ⟨τ2,e2,p2⟩:=m3 (o:=o) P (ds:=ds) (τ:=τ1) (i+1) p1 λ j d' τ' hj p=>by
   have:=hs (j+1) d' τ' (by simpa using hj) (by rw [show i+(j+1)=i+1+j by omega]; exact p);rw [show i+(j+1)+1=i+1+j+1 by omega] at this;exact this
  refine ⟨τ2,?_,?_⟩
  · simp only [oz,e1]; exact e2
  · rw [Zw,show i+(ds.length+1)=i+1+ds.length by omega]; exact p2
end L2
namespace L2
open PySem PySem.Spec PyProof.Rows
section
variable {X:Cx} {e:Expr} {es:List Expr} {pos:Pos}
def uQ (hN:X.N.Nodup) (hy:X.N[i]?=some y) (hx:Loc X.env.scope y)
  (hc:X.calm=true) (O:cw X scope cl x cs) (hi:PId X (.Name x px) iter it)
  (he:∀ s H fp C,PEd (bD X scope cl (x::cs.map (·.1)) s H fp C) elt g) (hs:∀ x,foldedSetIterable iter X.env x=pure x:=by intro _; rfl)
  (hsw:swapsWith (.ListComp elt [⟨.Name x px,iter,[],0⟩] scope pos) (some (.Name y py)) spos.line X.env=pure true:=by rfl)
  (hf:X.fn y=true\/X.env.scope.names.lookup y=some .local:=by first | exact .inl rfl | exact .inr rfl | assumption) :
  PSd X (.Assign [.Name y py] (.ListComp elt [⟨.Name x px,iter,[],0⟩] scope pos) spos) (bA i (cx it g cs)):=(uS (te:=rdE X.K g) hN hy hx hc O hi he hs hsw hf).imp λ E σ H ⟨Hs0,H0,Hs,τ,o,r,e,k⟩=>by
 obtain ⟨d,e1,rfl⟩:=Zm e;obtain ⟨fp,h⟩:=r.st;refine qI ⟨H0,Hs,τ,fp,d,h,r.same,e1,λ a Hs' H' g1 rv z=>?_⟩;obtain ⟨Hs2,g2,r2⟩:=SlV.shr (s:=.own d) g1 ⟨a,rfl,rv,z⟩ rfl;obtain ⟨fp',_,h'⟩:=(h.ext g2).ED r2;exact k _ Hs2 H' ⟨r.ext.trans g2,fp',h'⟩
end
end L2
end
section
namespace L2
open PySem PySem.Spec PyProof.Rows
def Gh (C:Addr) (f:Str):D->Option D
 | .obj C' fs=>if C'=C then fs.lookup f else none
 | _=>none
def RpF.look {K:W.Frag} {H:Hp} {f:Str} {d:D}:∀ {fs:List (Str×V)} {ds:List (Str×D)},RpF K H fs ds->ds.lookup f=some d->∃ v,fs.lookup f=some v/\Rp K H v d
 | _,_,.nil,e=>by simp at e
 | _,_,@RpF.cons _ _ k x d' xs ds h r,e=>by
  rw [List.lookup_cons] at e ⊢
  by_cases q:f == k
  ·simp only [q] at e ⊢
   cases e;exact ⟨x,rfl,h⟩
  ·simp only [Bool.not_eq_true] at q
   simp only [q] at e ⊢;exact RpF.look r e
def RpF.G6 {K:W.Frag} {H:Hp} {f:Str}:∀ {fs:List (Str×V)} {ds:List (Str×D)},RpF K H fs ds->ds.lookup f=none->fs.lookup f=none
 | _,_,.nil,e=>rfl
 | _,_,@RpF.cons _ _ k x d' xs ds h r,e=>by
  rw [List.lookup_cons] at e ⊢
  by_cases q:f == k
  · simp only [q] at e; cases e
  ·simp only [Bool.not_eq_true] at q
   simp only [q] at e ⊢;exact RpF.G6 r e
def RpF.zip {K:W.Frag} {H:Hp}:∀ {ns:List Str} {vs:List V} {ds:List D},Rps K H vs ds->RpF K H (ns.zip vs) (ns.zip ds)
 | [],_,_,_=>by simp; exact .nil
 | _::_,_,_,.nil=>by simp; exact .nil
 | n::ns,_,_,.cons h r=>by
  rw [List.zip_cons_cons,List.zip_cons_cons];exact .cons h (RpF.zip r)
section
variable {X:Cx} {e o:Expr} {es:List Expr} {x m f:Str} {p pos apos:Pos} {k:Nat} {C fa:Addr} {fd:FuncData} {ps:List Str} {F:List D->Option Sl} {g:DE} {ga:DA}
def FY (c:Cls X.K C) (n:jr X.K C f) (he:PEd X e g) (hb:attributeBase e f X.env (eval e X.env)=eval e X.env:=by rfl):PEd X (.Attribute e f pos) (dUn (Gh C f) g) :=
 (FL he hb).imp λ σ H Q ⟨H0,Hs,τ,fp,d,st,sm,e,k⟩=>by
   obtain ⟨x,e1,e2⟩:=bind_some e;refine ⟨H0,Hs,τ,fp,x,st,sm,e1,λ v Hs' H' g' r=>?_⟩
   cases r with
   | @obj a C' dx fs ds h r =>
    simp only [Gh] at e2;split at e2
    ·rename_i hc
     subst hc;obtain ⟨v,h1,h2⟩:=r.look e2;exact ⟨a,C',dx,fs,v,rfl,g'.sh _ _ h,c,n,h1,k v Hs' H' g' h2⟩
    · cases e2
   | _=>exact nn e2
def xa (C:Addr) (m:Str) (F:List D->Option Sl) (o:DE) (g:DA):DE:=λ τ=>(o τ).bind λ x=>(g τ).bind λ ds=>match x with
 | .obj C' fs=>if C'=C/\fs.lookup m=none then (F (x::ds)).bind slD else none
 | _=>none
def Dm (K:W.Frag) (h:rdE K (xa C m F g ga) σ H Q):EZ C m (spF F K) [] E0 (rdE K g) (rdA K ga) σ H Q:=by
 obtain ⟨H0,Hs,τ,fp,d,st,sm,e,q⟩:=h;obtain ⟨x,e1,e2⟩:=bind_some e;obtain ⟨ds,e3,e4⟩:=bind_some e2;refine ⟨H0,Hs,τ,fp,x,st,sm,e1,λ v Hs1 H1 g1 r1=>?_⟩
 cases r1 with
 | @obj a C' dx fs dd h r =>
  simp only at e4;split at e4
  ·rename_i hc
   obtain ⟨hc1,hc2⟩:=hc;subst hc1;obtain ⟨s,e5,e6⟩:=bind_some e4;refine ⟨a,dx,fs,rfl,g1.sh _ _ h,r.G6 hc2,?_⟩;refine ⟨H0,Hs1,τ,fp,ds,st.ext g1,g1.sh,e3,λ vs Hs2 H2 g2 r2=>?_⟩;refine ⟨Hs2,_,s,g2.sh,.cons ((Rp.obj h r).same g2.ss) (by rw [Yi]; exact r2),e5,λ v Hs3 H3 g3 rv=>?_⟩;obtain ⟨Hs4,g4,r4⟩:=rv.shr g3 e6;exact q v Hs4 H3 ((g1.trans g2).trans g4) r4
  · cases e4
 | _=>exact nn e4
def CP (he:PEd X o g) (c:Cls X.K C) (hm:HY X.K C m fa) (Fo:ko X.prog X.w X.K X.mg X.base CX0 k fa fd ps (spF F X.K)) (hr:gj k X.A) (hb:Binds X.K fd ps []) (ha:PAd X (e::es) ga)
 (hst:starEach (e::es) X.env=(false,eval e X.env)::starEach es X.env:=by rfl) (hpl:(backTo pos (starEach es X.env)).any (·.1)=false:=by rfl)
 (ht:eval (.Call (.Attribute o m apos) (e::es) [] pos) X.env=(do
   let ov <- eval o X.env
   standAt apos.atName
   let (f,first) <- holding [ov] (getMethod ov m pl)
   callWith pos f first (backTo pos (starEach (e::es) X.env)) (backToKw pos (keywordEach [] X.env))):=by rfl) :
 PEd X (.Call (.Attribute o m apos) (e::es) [] pos) (xa C m F g ga):=(CH he c hm Fo hr hb .nil yO ha hst hpl ht).imp λ σ H Q h=>Dm X.K h
def ux (C:Addr) (ns:List Str):Sp:=λ vs H Q _=>∃ x ws dx,vs=.ref x::ws/\ws.length=ns.length/\H x=some (.ins C dx [])/\Q .non (upd H x (.ins C dx (ns.zip ws)))
def zU (C:Addr) (ns:List Str) (g:DA):DE:=λ τ=>(g τ).bind λ ds=>if ds.length=ns.length then some (.obj C (ns.zip ds)) else none
def xW {H:Hp} {p:Addr} {a b:HO}:upd (upd H p a) p b=upd H p b:=BF
def CQ (M:Mk X.K C fa) (Fo:ko X.prog X.w X.K X.mg X.base CX0 k fa fd ps (ux C ns)) (hr:gj (k+1) X.A) (hg:Gl X x) (hm:X.mg x=some (.ref C)) (hb:Binds X.K fd ps [])
  (ha:PAd X (e::es) ga) (hdb:(x == ("__debug__":Str))=false:=by decide) (he:starEach (e::es) X.env=(false,eval e X.env)::starEach es X.env:=by rfl) (hpl:(backTo pos (starEach es X.env)).any (·.1)=false:=by rfl) :
  PEd X (.Call (.Name x p) (e::es) [] pos) (zU C ns ga):=(CI M Fo hr hg hm hb .nil yO ha hdb he hpl).imp λ σ H Q ⟨H0,Hs,τ,fp,d,st,sm,e,q⟩=>by
 obtain ⟨ds,e1,e2⟩:=bind_some e;split at e2
 ·rename_i hl
  have ed:=Zj e2;subst ed;refine ⟨H0,Hs,τ,fp,ds,st,sm,e1,λ vs Hs1 H1 g1 r1 x dx hx hdx ne=>?_⟩;refine ⟨x,vs,dx,by rw [Yi],by rw [r1.length]; exact hl,aO,rfl,?_⟩;rw [xW];have g2:=Ext.new g1.sh hdx (.own x);have hx':upd H1 dx (.own x) x=none:=by rw [aH (Ne.symm ne)]; exact hx
  have g3:=Ext.new g2.sh hx' (.ins C dx (ns.zip vs));exact q _ _ _ ((g1.trans g2).trans g3) (.obj aO (RpF.zip ((r1.same g2.ss).same g3.ss)))
 · cases e2
end
section
variable {X:Cx}
def xY {K:W.Frag} {H:Hp} {xs:List V} {i j:Int} (r:Rps K H xs [.int i,.int j]):xs=[.int i,.int j]:=by
 cases r with
 | cons h r =>
  cases r with
  | cons h' r' =>
   cases r';cases h;cases h';rfl
def Bj (hc:X.calm=true):ij X (.builtin "max") (rdL X.K mQ):=(xn hc).imp λ xs H Q ⟨Hs,ds,d,sm,r,e,k⟩=>by
 match ds,e with
 | [.int i,.int j],e =>
  have e':=Zj e;subst e';exact ⟨i,j,xY r,k _ Hs H (.refl sm) (.int _)⟩
end
section
variable {prog:Program} {w:World} {A:Around} {R:Result->Shared->Prop} {s:Shared}
def nt (I:Nat->Shared->Prop)
  (turn:∀ n s,I n s->wpAny (model prog w) A (pyNext it) (λ r s₁=>match r with
    | none=>R (.ok .next) s₁
    | some v=>wpAny (model prog w) A (letOwnedTupleGo target it v) (λ _ s₁'=>wpAny (model prog w) A (assign target env v) (λ _ s₂=>wpAny (model prog w) A (isTrue cnd env (eval cnd env)) (λ ok s₂'=>if ok=true then wpAny (model prog w) A (eval elt env) (λ x s₃ =>
     wpAny (model prog w) A (call (.builtin "list.append") [acc,x]) (λ _ s₄=>∃ m,m < n/\I m s₄) (λ _ _=>False) s₃) (λ _ _=>False) s₂' else ∃ m,m < n/\I m s₂') (λ _ _=>False) s₂) (λ _ _=>False) s₁') (λ _ _=>False) s₁) (λ _ _=>False) s)
  (n:Nat) (h:I n s) :
  codeAny (model prog w) A (.compLoop (.ListComp elt [⟨target,iter,[cnd],0⟩] scope pos) 0 it acc env) R s:=by
 refine codeAny_loop rfl I (λ n s hI=>?_) n h;refine wpAny_noted ?_
 rw [compTurn_list];refine Zi (Wy (Zi (Yt (turn n s hI) (λ r s₁ h₁=>?_) λ _ _ h'=>h'.elim)))
 cases r with
 | none=>exact Z0 h₁
 | some v =>
  refine Zi (Yt h₁ (λ _ s₁' h₁'=>?_) λ _ _ h'=>h'.elim);refine Zi (Yt h₁' (λ _ s₂ h₂=>?_) λ _ _ h'=>h'.elim);refine Zi (Yt (wpAny_tests_one h₂) (λ ok s₃ h₃=>?_) λ _ _ h'=>h'.elim)
  cases ok with
  | false =>
    rw [if_neg Zf] at h₃
    rw [if_neg Zf];exact Zi (Z0 (Z0 ⟨rfl,h₃⟩))
  | true =>
    rw [if_pos rfl] at h₃
    rw [if_pos rfl];exact Zi (Zi (Yt h₃ (λ x s₄ h₄=>Zi (Yt h₄ (λ _ s₅ h₅=>Z0 (Z0 ⟨rfl,h₅⟩)) λ _ _ h'=>h'.elim)) λ _ _ h'=>h'.elim))
end
def BJ (J:It) (tt:TT) (te:TE) (cs:List (Str×Nat)) (σ:St) (Q:VK) (H1:Hp):Prop:=∃ W:Nat->Nat->List V->Hp->Prop,(∃ m,W 0 m [] H1)/\∀ i m ys H',W i m ys H' ->
 (J.stop i H'/\ys.length<=sizeLine/\∀ p,H' p=none->Q (.ref p) (upd H' p (.lst ys))) \/
 (J.go i H'/\ys.length < sizeLine/\∀ v H2,J.yld i H' v H2->tt (some v::aI σ cs) H2 λ b H3=>if b=true then te (some v::aI σ cs) H3 λ y H4=>∃ m',m' < m/\W (i+1) m' (ys++[y]) H4 else ∃ m',m' < m/\W (i+1) m' ys H3)
def uq (wi:TI) (tt:TT) (te:TE) (cs:List (Str×Nat)):TE:=λ σ H Q=>wi σ H λ J H1=>BJ J tt te cs σ Q H1
section
variable {X:Cx}
def lz {elt iter:Expr} {x:Str} {px pos:Pos} {scope:Scope} {cl:List (Str×Addr)} {cs:List (Str×Nat)} {te:TE} {tt:TT} {cnd:Expr} {pins:List (Addr×Obj)} {σ:St} {H:Hp} {s:Shared} {Q:VK} {it:Addr} {fp:List Addr} {tn:Nat->Heap->Prop} {J:It}
  {RR:Value->Addr->Result->Shared->Prop} {E:Value->Shared->Prop} (hc:X.calm=true) (O:cw X scope cl x cs) (hcd:∀ s H fp C,PT (bD X scope cl (x::cs.map (·.1)) s H fp C) cnd tt) (he:∀ s H fp C,PE (bD X scope cl (x::cs.map (·.1)) s H fp C) elt te)
  (I:Inv X pins σ H s) (T:Turn X.prog X.w X.K (.Name x px) J fp it tn) (st:tn 0 s.heap) (f2:∀ b ∈ fp,pD X pins H b)
  (h : ∃ W:Nat->Nat->List V->Hp->Prop,(∃ m,W 0 m [] H)/\∀ i m ys H',W i m ys H' ->
    (J.stop i H'/\ys.length<=sizeLine/\∀ p,H' p=none->Q (.ref p) (upd H' p (.lst ys))) \/
    (J.go i H'/\ys.length < sizeLine/\∀ v H2,J.yld i H' v H2->tt (some v::aI σ cs) H2 λ b H3=>if b=true then te (some v::aI σ cs) H3 λ y H4=>∃ m',m' < m/\W (i+1) m' (ys++[y]) H4 else ∃ m',m' < m/\W (i+1) m' ys H3))
  (hRR:∀ D C s' H' ys,s.heap.objs.size<=D->s.heap.objs.size<=C->D≠C->(∃ m,s'.heap.Ns C m)->Inv X pins σ (upd H' D (.lst ys)) s'->H' C=none->Q (.ref D) (upd H' D (.lst ys))->RR (.ref D) C (.ok .next) s') :
  wpAny (model X.prog X.w) X.A (newList []) (λ acc s₃=>wpAny (model X.prog X.w) X.A (newFunctionEnv scope X.env.globals cl [] X.env.qual none .none (some X.env)) (λ cenv s₄ =>
    codeAny (model X.prog X.w) X.A (.compStart (.ListComp elt [⟨.Name x px,iter,[cnd],0⟩] scope pos) 0 (.ref it) acc { cenv with scope:=relabel scope X.env }) (RR acc cenv.locals) s₄) E s₃) E s:=by
 obtain ⟨W,⟨m0,w0⟩,turn⟩:=h;refine Xk (wpAny_newFunctionEnv O.oh (by intro y hy; simp at hy) (λ h₁ hns₁ hsb₁=>?_) O.kind);generalize hH2:s.heap.push { cls:=.type "list",dict:=none,data:=.seq ([]:List Value).toArray }=H2 at hns₁ hsb₁ ⊢
 have hC:H2.objs.size=s.heap.objs.size+1:=by rw [<- hH2,Heap.size_push]
 have hDC:s.heap.objs.size≠H2.objs.size:=by rw [hC]; exact Z2 (Wt _)
 have hCle:s.heap.objs.size<=H2.objs.size:=by rw [hC]; exact Nat.le_succ _
 have neC:∀ b,b < s.heap.objs.size->b≠H2.objs.size:=λ b hb=>by rw [hC]; exact Z2 (Nat.lt_succ_of_lt hb)
 have old:∀ b o,s.heap.get? b=some o->h₁.get? b=some o:=λ b o e=>hsb₁.extBut b o (neC b (Zt e)) (Heap.get?_push_of_some _ (hH2 ▸ Heap.get?_push_of_some _ e))
 have hacc:=hsb₁.extBut _ _ hDC (Heap.get?_push_of_some _ (hH2 ▸ Heap.get?_push_size _ rfl))
 have there:∀ b ∈ fp,b < s.heap.objs.size:=λ b hb=>by
  obtain ⟨o,e,_⟩:=T.obj _ _ st b hb;exact Zt e
 have hns:h₁.Ns H2.objs.size λ _=>none:=by
  have e:(λ x=>List.lookup x ([]:List (Str×Value)).reverse)=λ _=>none:=by funext y; rfl
  rw [e] at hns₁
  exact hns₁
 generalize hD:s.heap.objs.size=D at hDC hCle hacc;generalize hCC:H2.objs.size=C at hDC hCle hns ⊢;have FD:=I.sj (b:=D) (by rw [<- hD]; exact Ze _) (I.hok.fresh (by rw [<- hD]; exact Ze _));have nfpD:∀ b ∈ fp,b≠D:=λ b hb=>by rw [<- hD]; exact Z2 (there b hb)
 have nfpC:∀ b ∈ fp,b≠C:=λ b hb=>Z2 (Zz (there b hb) (by rw [hD]; exact hCle))
 have st1:=T.keep _ _ _ st λ b _ o e=>old b o e
 have I1:Inv (bD X scope cl (x::cs.map (·.1)) s H fp C) [] (none::aI σ cs) H { s with heap:=h₁,toks:=s.toks+([]:List (Str×Value)).length } :=
  mj O I f2 there (by rw [hD]; exact hCle) old hns
 generalize hY:bD X scope cl (x::cs.map (·.1)) s H fp C=Y at I1
 have pgx:PG Y (.Name x px) (jh 0):=by
  subst hY;exact kJ O.nd rfl (.inl (Y2 O.own)) (.inr (Y2 O.own))
 have peY:PE Y elt te:=by subst hY; exact he _ _ _ _
 have ptY:PT Y cnd tt:=by subst hY; exact hcd _ _ _ _
 have Yx:Y.prog=X.prog/\Y.w=X.w/\Y.K=X.K/\Y.A=X.A/\Y.env=compEnvC scope cl C X.env/\Y.calm=X.calm/\Y.xe=(λ _ _=>False)/\Y.pn=[]/\Y.ex=fp/\Y.fs=frs X.stack/\Y.s₀=s/\Y.H₀=H:=by subst hY; exact ⟨rfl,rfl,rfl,rfl,rfl,rfl,rfl,rfl,rfl,rfl,rfl,rfl⟩
 obtain ⟨y1,y2,y3,y4,y5,y6,y7,y8,y9,y10,y11,y12⟩:=Yx;have nstk:∀ b,b≠X.env.locals->b ∉ X.fs->b ∉ Y.fs:=λ b h1 h2 z=>by rw [y10] at z; exact (Zl.mp (I.kB b z)).elim h1 h2
 have yl:Y.env.locals=C:=by rw [y5]; rfl
 have yc:∀ z c,Y.env.cells.lookup z=some c->X.env.cells.lookup z=some c:=λ z c e=>by rw [y5] at e; exact O.sub z c e
 have stat:∀ {ps:List (Addr×Obj)} {H':Hp},(∀ b ∈ fp,H' b=none)->(∀ p ∈ ps,p.1=D)->∀ b ∈ fp,pD Y ps H' b:=λ {ps H'} hn hp b hb =>
  ⟨hn b hb,by rw [yl]; exact nfpC b hb,nstk b (f2 b hb).2.1 (f2 b hb).2.2.1,.inl (by rw [y9]; exact hb),λ z c e=>(f2 b hb).2.2.2.2.1 z c (yc z c e),λ p hq=>by
    rw [y8,List.nil_append] at hq;rw [hp p hq]
    exact Ne.symm (nfpD b hb)⟩
 have pinD:∀ {σ':St} {H':Hp} {s':Shared} {ob:Obj},Inv Y [] σ' H' s'->H' D=none->s'.heap.get? D=some ob->(∀ v,ob.data≠.cell v)->Inv Y [(D,ob)] σ' H' s':=λ {σ' H' s' ob} I' hn e hd =>
  I'.fH λ p hp=>by
    have e1:p=(D,ob):=by simpa using hp
    subst e1;exact ⟨e,hn,by rw [yl]; exact hDC,nstk D FD.2.1 FD.2.2.1,hd⟩
 have loop:∀ s₃:Shared,s₃={ s with heap:=h₁,toks:=s.toks+([]:List (Str×Value)).length } ->
    codeAny (model X.prog X.w) X.A (.compLoop (.ListComp elt [⟨.Name x px,iter,[cnd],0⟩] scope pos) 0 (.ref it) (.ref D) (compEnvC scope cl C X.env)) (RR (.ref D) C) s₃:=by
  rintro s₃ rfl
  refine nt (λ n s'=>∃ i o H' ys its k,Inv Y [] (o::aI σ cs) H' s'/\tn i s'.heap/\(∀ b ∈ fp,H' b=none)/\H' D=none/\s'.heap.get? D=some { cls:=.type "list",data:=.seq (its:List Value).toArray k }/\cK ys its/\W i n ys H') ?_ m0
    ⟨0,none,H,[],[],0,I1,st1,λ b hb=>(f2 b hb).1,FD.1,hacc,.nil,w0⟩
  rintro n s3 ⟨i,o,H3,ys,its,k,I3,st3,fr3,frD,e3,vs3,w3⟩
  have I3p:=pinD I3 frD e3 (by intro v z; cases z)
  have onlyD:∀ p ∈ [(D,({ cls:=.type "list",data:=.seq its.toArray k }:Obj))],p.1=D:=λ p hp=>by
    have e1:=Yj.mp hp;rw [e1]
  rcases turn i n ys H3 w3 with ⟨stop,hz,q⟩ | ⟨go,hz,step⟩
  · have dn:=T.done Y y1 y2 y3 (by rw [y6]; exact hc) i _ s3 (o::aI σ cs) H3 (λ _ _=>False) I3p (stat fr3 onlyD) st3 stop
    rw [y4] at dn;refine thn dn λ r s4 ⟨hr,I4⟩=>?_
    subst hr;obtain ⟨e4,_⟩:=I4.pin (D,_) (Zr _ (Yj.mpr rfl));have b4:=I4.base;rw [y9,y10,y11,y12] at b4;have hk4:=I4.hok;rw [y1,y2] at hk4;have hCn:H3 C=none:=by have:=I4.free; rw [yl] at this; exact this
    refine hRR D C s4 H3 ys (by rw [<- hD]; exact Ze _) (by rw [hD]; exact hCle) hDC (by obtain ⟨m,hm,_⟩:=I4.loc; rw [yl] at hm; exact ⟨m,hm⟩) ?_ hCn (q D frD);have neD:∀ b o,s.heap.get? b=some o->b≠D:=λ b o e=>by rw [<- hD]; exact Z2 (Zt e)
    have neDH:∀ b u,H b=some u->b≠D:=λ b u e=>by rw [<- hD]; exact Z2 (I.hok.lt e)
    refine I.Em (by have:=I4.os; rw [y11] at this; exact this) ⟨b4.keep,b4.slot,λ b o e n hx=>?_,b4.there,λ b xs e=>?_,λ b o u e=>?_,λ b ps e=>?_⟩ (λ b u e=>?_) I4.bare λ b hb=>?_
    · rw [aH (neD b o e)]; exact b4.free b o e n hx
    · rw [aH (neDH b _ e)]; exact b4.uk b xs e
    · rw [aH (neDH b _ e)]; exact b4.t9 b o u e
    · rw [aH (neDH b _ e)]; exact b4.uo b ps e
    ·have t1:∀ c u,H3 c=some u->upd H3 D (.lst ys) c=some u:=λ c u z=>by
      rw [aH (λ zz=>by rw [zz,frD] at z; cases z)];exact z
     by_cases hb:b=D
     ·subst hb
      rw [aO] at e;cases e;exact ⟨hz,its,k,vs3,e4⟩
     ·rw [aH hb] at e
      exact (hk4 b u e).sU (λ _ _ _ z=>z) (λ c z=>t1 c _ z) λ c xs z=>t1 c _ z
    · exact ⟨(f2 b hb).2.2.2.1,(f2 b hb).2.1,(f2 b hb).2.2.2.2.1,(f2 b hb).2.2.2.2.2⟩
  · have im:=T.item Y y1 y2 y3 (by rw [y6]; exact hc) i _ s3 (o::aI σ cs) H3 (λ _ _=>False) I3p (stat fr3 onlyD) st3 go
    rw [y4] at im;refine thn im λ r s4 ⟨u,hr,h4⟩=>?_
    subst hr;refine thn h4 λ _ s5 ⟨v,H5,I5,r5,y5',st5,fr5⟩=>?_
    have I5':=I5.pinned (stat fr5 onlyD) (T.obj _ _ st5);have as:=pgx _ s5 (o::aI σ cs) H5 v u _ I5' r5 (show jh 0 v (o::aI σ cs) H5 (λ σ' H'=>σ'=some v::aI σ cs/\H'=H5) from ⟨rfl,rfl⟩);rw [y1,y2,y4,y5,y7] at as;refine thn as λ _ s6 ⟨σ6,H6,I6,e6,e6'⟩=>?_
    subst e6 e6';have ts:=ptY _ s6 _ H6 _ I6 (step v H6 y5');rw [y1,y2,y4,y5,y7] at ts;refine thn ts λ bb s7 ⟨H7,I7,q7⟩=>?_
    have fpk:∀ b ∈ fp,∀ o,s5.heap.get? b=some o->s7.heap.get? b=some o/\H7 b=none:=λ b hb o e=>by
     obtain ⟨z1,z2,_⟩:=I7.pin (b,o) (Zr _ (Zr _ (eD hb e)));exact ⟨z1,z2⟩
    cases bb with
    | false =>
     obtain ⟨m',hm',w7⟩:=(by rw [if_neg Zf] at q7; exact q7)
     rw [if_neg Zf];obtain ⟨e7,n7,_⟩:=I7.pin (D,_) (Zr _ (Ys _ (Yj.mpr rfl)));have I7n:Inv Y [] (some v::aI σ cs) H7 s7:=I7.fH λ p hp=>absurd hp (by simp)
     refine ⟨m',hm',i+1,some v,H7,ys,its,k,I7n,T.keep _ _ _ st5 λ b hb o e=>(fpk b hb o e).1,λ b hb=>?_,n7,e7,vs3,w7⟩;obtain ⟨o',e',_⟩:=T.obj _ _ st5 b hb;exact (fpk b hb o' e').2
    | true =>
    rw [if_pos rfl];have q7':=q7;rw [if_pos rfl] at q7';have el:=peY _ s7 _ H7 _ I7 q7';rw [y1,y2,y4,y5,y7] at el;refine thn el λ u8 s8 ⟨y8',H8,I8,r8,m',hm',w8⟩=>?_
    obtain ⟨e8,n8,_⟩:=I8.pin (D,_) (Zr _ (Ys _ (Yj.mpr rfl)));have hl3:=vs3.length;refine call_meets F.slot_list_append ⟨_,e8,rfl⟩ Wx (Wo _ _) (PySem.list_append D its.toArray k u8 (by rw [Zp]; omega)) ⟨e8,?_⟩;obtain ⟨k',up⟩:∃ k',(s8.heap.update D (Obj.mapSeq (·.push u8))).get? D=some { cls:=.type "list",data:=.seq (its.toArray.push u8) k' }:=⟨_,PySem.IsL.update e8 (·.push u8)⟩
    have fpk8:∀ b ∈ fp,∀ o,s5.heap.get? b=some o->s8.heap.get? b=some o/\H8 b=none:=λ b hb o e=>by
     obtain ⟨z1,z2,_⟩:=I8.pin (b,o) (Zr _ (Zr _ (eD hb e)));exact ⟨z1,z2⟩
    have I8n:Inv Y [] (some v::aI σ cs) H8 s8:=I8.fH λ p hp=>absurd hp (by simp)
    refine ⟨m',hm',i+1,some v,H8,ys++[y8'],its++[u8],k',?_,?_,?_,n8,?_,vs3.append (.cons r8 .nil),w8⟩
    ·refine I8n.turned (λ b o hb e=>(Heap.get?_update_other s8.heap (Obj.mapSeq (·.push u8)) (Ne.symm hb)).trans e) n8 (by rw [yl]; exact hDC) (.inr (by rw [y11,<- hD]; exact Ze _)) (λ z c e=>FD.2.2.2.2.1 z c (yc z c e)) λ p hp=>?_
     rw [y8] at hp;exact absurd hp (by simp)
    ·refine T.keep _ _ _ st5 λ b hb o e=>?_
     exact (Heap.get?_update_other s8.heap (Obj.mapSeq (·.push u8)) (Ne.symm (nfpD b hb))).trans (fpk8 b hb o e).1
    ·intro b hb
     obtain ⟨o',e',_⟩:=T.obj _ _ st5 b hb;exact (fpk8 b hb o' e').2
    ·rw [List.push_toArray] at up
     exact up
 exact codeAny_compStart_list (loop _ rfl) (T.self _ 0 _ _ _ st1 (loop _ rfl))
def yL {elt iter:Expr} {x:Str} {px pos:Pos} {scope:Scope} {cl:List (Str×Addr)} {cs:List (Str×Nat)} {wi:TI} {te:TE} {tt:TT} {cnd:Expr} (hc:X.calm=true) (O:cw X scope cl x cs) (hi:PI X (.Name x px) iter wi)
  (hcd:∀ s H fp C,PT (bD X scope cl (x::cs.map (·.1)) s H fp C) cnd tt) (he:∀ s H fp C,PE (bD X scope cl (x::cs.map (·.1)) s H fp C) elt te) (hs:∀ x,foldedSetIterable iter X.env x=pure x:=by intro _; rfl) :
  PE X (.ListComp elt [⟨.Name x px,iter,[cnd],0⟩] scope pos) (uq wi tt te cs):=by
 intro pins s σ H Q I h;rw [eval_ListComp];refine Xg rfl hs O.Ek O.kind O.names (thn (hi pins s σ H _ I h) λ v s1 h1=>thn h1 λ itv s2 h2=>?_);obtain ⟨it,fp,tn,J,H2,rfl,I2,T,st2,f2,hw⟩:=h2;refine lz hc O hcd he I2 T st2 f2 hw λ D C s' H' ys hD hC hDC ⟨m,hm⟩ I' hn q=>?_
 refine ⟨m,hm,λ h' hs'=>?_⟩;have hn':upd H' D (.lst ys) C=none:=by rw [aH (Ne.symm hDC)]; exact hn
 have FC:=I2.sj hC hn';exact ⟨.ref D,upd H' D (.lst ys),I'.turned (λ b o hb e=>(hs'.2 b hb).trans e) hn' FC.2.1 FC.2.2.2.1 FC.2.2.2.2.1 FC.2.2.2.2.2,rfl,q⟩
def yy {elt iter:Expr} {x y:Str} {px py pos spos:Pos} {i:Nat} {scope:Scope} {cl:List (Str×Addr)} {cs:List (Str×Nat)} {wi:TI} {te:TE} {tt:TT} {cnd:Expr} (hN:X.N.Nodup) (hy:X.N[i]?=some y) (hx:Loc X.env.scope y)
  (hc:X.calm=true) (O:cw X scope cl x cs) (hi:PI X (.Name x px) iter wi)
  (hcd:∀ s H fp C,PT (bD X scope cl (x::cs.map (·.1)) s H fp C) cnd tt) (he:∀ s H fp C,PE (bD X scope cl (x::cs.map (·.1)) s H fp C) elt te) (hs:∀ x,foldedSetIterable iter X.env x=pure x:=by intro _; rfl)
  (hsw:swapsWith (.ListComp elt [⟨.Name x px,iter,[cnd],0⟩] scope pos) (some (.Name y py)) spos.line X.env=pure true:=by rfl)
  (hf:X.fn y=true\/X.env.scope.names.lookup y=some .local:=by first | exact .inl rfl | exact .inr rfl | assumption) :
  PS X (.Assign [.Name y py] (.ListComp elt [⟨.Name x px,iter,[cnd],0⟩] scope pos) spos) (E4 (uq wi tt te cs) (jh i)):=by
 intro pins s σ H Dd I h;rw [exec_Assign_Name_used _ _ _ _ hsw];refine Zi (Wy (Zi ?_))
 refine Zi (Yt (Xg rfl hs O.Ek O.kind O.names (thn (hi pins s σ H _ I h) λ v s1 h1=>thn h1 λ itv s2 h2=>?_))
  (λ _ s' hq=>Z0 (Z0 hq)) λ _ _ e=>e)
 obtain ⟨it,fp,tn,J,H2,rfl,I2,T,st2,f2,hw⟩:=h2;refine lz (Q:=λ v H1=>jh i v σ H1 Dd.nx) hc O hcd he I2 T st2 f2 hw λ D C s' H' ys hD hC hDC ⟨m,hm⟩ I' hn q=>?_
 have hn':upd H' D (.lst ys) C=none:=by rw [aH (Ne.symm hDC)]; exact hn
 have FC:=I2.sj hC hn';refine wpAny_assign_Name (iZ I' hN hy hx (v:=.ref D) rfl (λ s'' I'' ⟨a,hsb,ha⟩=>?_) hf)
 have na:C≠a:=by
  rcases ha with ha | ha
  · rw [ha]; exact FC.2.1
  · exact Ne.symm (FC.2.2.2.2.1 y a ha)
 refine ⟨m,hm.sameBut hsb na,λ h' hs'=>?_⟩;exact ⟨σ.set i (some (.ref D)),upd H' D (.lst ys),I''.turned (λ b o hb e=>(hs'.2 b hb).trans e) hn' FC.2.1 FC.2.2.2.1 FC.2.2.2.2.1 FC.2.2.2.2.2,q⟩
end
def Ba (c:D->Option Bool) (g:D->Option D):List D->Option (List D)
 | []=>some []
 | d::ds=>(c d).bind λ b=>if b=true then (g d).bind λ x=>(Ba c g ds).bind λ xs=>some (x::xs) else Ba c g ds
def eO (it:DI) (c:DT) (g:DE) (cs:List (Str×Nat)):DE:=λ τ=>(it τ).bind λ ds=>if ds.length<=100000 then (Ba (λ d=>c (.shr d::fq τ cs)) (λ d=>g (.shr d::fq τ cs)) ds).map .lst else none
section
variable {X:Cx} {e:Expr} {es:List Expr} {pos:Pos}
def sJ {K:W.Frag} {it:DI} {c:DT} {g:DE} {cs:List (Str×Nat)} {σ:St} {H:Hp} {Q:VK} (h:rdO K (eO it c g cs) σ H Q):uq (rdI K it) (rdT K c) (rdE K g) cs σ H Q:=by
 obtain ⟨H0,Hs,τ,fp,d,st,sm,e,k⟩:=h;obtain ⟨ds,e1,e2⟩:=bind_some e;split at e2
 ·rename_i hl
  obtain ⟨full,e3,rfl⟩:=Zm e2;refine ⟨H0,Hs,τ,fp,ds,st,sm,e1,λ J Hs1 H1 g1 hJ=>?_⟩;refine ⟨λ i m ys H'=>m=ds.length - i/\i<=ds.length/\∃ Hs2 es rest,Ext Hs1 H1 Hs2 H'/\Rps K Hs2 ys es/\es.length<=i/\Ba (λ d=>c (.shr d::fq τ cs)) (λ d=>g (.shr d::fq τ cs)) (ds.drop i)=some rest/\es++rest=full,⟨ds.length,by simp,Zs _,Hs1,[],full,.refl g1.sh,.nil,Ze _,by simpa using e3,rfl⟩,?_⟩
  rintro i m ys H2 ⟨rfl,hi,Hs2,es,rest,g2,ry,ley,e4,e5⟩
  obtain ⟨hgo,hstop⟩:=hJ Hs2 H2 g2.ss g2.sh;have ly:ys.length<=i:=by rw [ry.length]; exact ley
  by_cases hlt:i < ds.length
  ·have ed:=Yl hlt
   rw [ed] at e4;obtain ⟨b,q0,q0'⟩:=bind_some e4;obtain ⟨go,yl⟩:=hgo i ds[i] (List.getElem?_eq_getElem hlt);refine .inr ⟨go,le5 (by omega),λ v H3 y=>?_⟩;obtain ⟨Hs3,g3,rv⟩:=yl v H3 y;have g13:=(g1.trans g2).trans g3;refine ⟨H0,Hs3,.shr ds[i]::fq τ cs,[],b,.shr rv (kA (st.ext g13) cs),g3.sh,q0,λ Hs4 H4 g4=>?_⟩;have g14:=g13.trans g4
   cases b with
   | true =>
    refine MP ?_
    obtain ⟨x,q1,q2⟩:=bind_some (q0');obtain ⟨xs,q3,q4⟩:=bind_some q2;have eq:=Zj q4;subst eq;refine ⟨H0,Hs4,.shr ds[i]::fq τ cs,[],x,.shr (rv.same g4.ss) (kA (st.ext g14) cs),g4.sh,q1,λ v5 Hs5 H5 g5 r5=>?_⟩;exact ⟨ds.length - (i+1),by omega,rfl,hlt,Hs5,es++[x],xs,((g2.trans g3).trans g4).trans g5,(((ry.same g3.ss).same g4.ss).same g5.ss).append (.cons r5 .nil),by simp; omega,q3,by rw [<- e5]; simp⟩
   | false =>
    refine MQ ?_
    have q1:=q0';exact ⟨ds.length - (i+1),by omega,rfl,hlt,Hs4,es,rest,(g2.trans g3).trans g4,(ry.same g3.ss).same g4.ss,by omega,q1,e5⟩
  ·have e0:i=ds.length:=by omega
   subst e0;rw [Wa] at e4;have er:=Zj e4;subst er;rw [Yi] at e5;subst e5;refine .inl ⟨hstop _ (Ze _),vK (by omega),λ p hp=>?_⟩;have g12:=g1.trans g2;exact k p Hs2 _ ⟨g12.ss,g12.sh.trans (aW hp _),g12.hh.trans (aW hp _),g12.fr⟩ (.lst aO (g12.sh.free hp) ry) (g12.hh.free hp)
 · cases e2
def yE (hc:X.calm=true) (O:cw X scope cl x cs) (hi:PId X (.Name x px) iter it)
 (hcd:∀ s H fp C,PTd (bD X scope cl (x::cs.map (·.1)) s H fp C) cnd c) (he:∀ s H fp C,PEd (bD X scope cl (x::cs.map (·.1)) s H fp C) elt g) (hs:∀ x,foldedSetIterable iter X.env x=pure x:=by intro _; rfl) :
 PEo X (.ListComp elt [⟨.Name x px,iter,[cnd],0⟩] scope pos) (eO it c g cs):=(yL (te:=rdE X.K g) (tt:=rdT X.K c) hc O hi hcd he hs).imp λ σ H Q h=>sJ h
def sY (hN:X.N.Nodup) (hy:X.N[i]?=some y) (hx:Loc X.env.scope y)
  (hc:X.calm=true) (O:cw X scope cl x cs) (hi:PId X (.Name x px) iter it)
  (hcd:∀ s H fp C,PTd (bD X scope cl (x::cs.map (·.1)) s H fp C) cnd c) (he:∀ s H fp C,PEd (bD X scope cl (x::cs.map (·.1)) s H fp C) elt g) (hs:∀ x,foldedSetIterable iter X.env x=pure x:=by intro _; rfl)
  (hsw:swapsWith (.ListComp elt [⟨.Name x px,iter,[cnd],0⟩] scope pos) (some (.Name y py)) spos.line X.env=pure true:=by rfl)
  (hf:X.fn y=true\/X.env.scope.names.lookup y=some .local:=by first | exact .inl rfl | exact .inr rfl | assumption) :
  PSd X (.Assign [.Name y py] (.ListComp elt [⟨.Name x px,iter,[cnd],0⟩] scope pos) spos) (bA i (eO it c g cs)):=(yy (te:=rdE X.K g) (tt:=rdT X.K c) hN hy hx hc O hi hcd he hs hsw hf).imp λ E σ H ⟨Hs0,H0,Hs,τ,o,r,e,k⟩=>by
 obtain ⟨d,e1,rfl⟩:=Zm e;obtain ⟨fp,h⟩:=r.st;refine sJ ⟨H0,Hs,τ,fp,d,h,r.same,e1,λ a Hs' H' g1 rv z=>?_⟩;obtain ⟨Hs2,g2,r2⟩:=SlV.shr (s:=.own d) g1 ⟨a,rfl,rv,z⟩ rfl;obtain ⟨fp',_,h'⟩:=(h.ext g2).ED r2;exact k _ Hs2 H' ⟨r.ext.trans g2,fp',h'⟩
def qC {τ:List Sl} {it:DI} {c:DT} {g:DE} {cs:List (Str×Nat)} {ds es:List D} (h1:it τ=some ds) (hl:ds.length<=100000) (h2:Ba (λ d=>c (.shr d::fq τ cs)) (λ d=>g (.shr d::fq τ cs)) ds=some es):eO it c g cs τ=some (.lst es):=by
 unfold eO; rw [h1]; show (if ds.length<=100000 then _ else _)=_; rw [if_pos hl,h2]; rfl
end
def zc:D->Option Key
 | .int i=>some (.inl i)
 | .str x=>some (.inr x)
 | _=>none
def cV (kvs:List (Key×D)) (k:Key):Option D:=(kvs.find? λ kv=>decide (kv.1=k)).map (·.2)
def putD (kvs:List (Key×D)) (k:Key) (v:D):List (Key×D):=if kvs.any (λ kv=>decide (kv.1=k)) then kvs.map (λ kv=>if kv.1=k then (kv.1,v) else kv) else kvs++[(k,v)]
def rO {K:W.Frag} {H:Hp} {v:V} {d:D} {k:Key} (r:Rp K H v d) (e:zc d=some k):v=kV k:=by
 cases r <;> simp [zc] at e <;> subst e <;> rfl
def RpK.val {K:W.Frag} {H:Hp} {k:Key}:∀ {kvs:List (Key×V)} {ds:List (Key×D)},RpK K H kvs ds->(∀ d,cV ds k=some d->∃ v,nJ kvs k=some v/\Rp K H v d)/\(cV ds k=none->nJ kvs k=none)
 | _,_,.nil=>⟨λ d e=>by simp [cV] at e,λ _=>rfl⟩
 | _,_,@RpK.cons _ _ j x d xs ds h r=>by
  obtain ⟨i1,i2⟩:=RpK.val (k:=k) r
  by_cases q:j=k
  ·subst q
   refine ⟨λ d' e=>?_,λ e=>?_⟩
   ·have:d=d':=by simpa [cV] using e
    subst this;exact ⟨x,by simp [nJ],h⟩
   · simp [cV] at e
  ·have e1:cV ((j,d)::ds) k=cV ds k:=by simp [cV,q]
   have e2:nJ ((j,x)::xs) k=nJ xs k:=by simp [nJ,q]
   rw [e1,e2];exact ⟨i1,i2⟩
def RpK.any {K:W.Frag} {H:Hp} {k:Key}:∀ {kvs:List (Key×V)} {ds:List (Key×D)},RpK K H kvs ds->kvs.any (λ kv=>decide (kv.1=k))=ds.any (λ kv=>decide (kv.1=k))
 | _,_,.nil=>rfl
 | _,_,.cons h r=>by simp only [Wj,RpK.any r]
def RpK.BY {K:W.Frag} {H:Hp} {k:Key} {v:V} {d:D} (hv:Rp K H v d):∀ {kvs:List (Key×V)} {ds:List (Key×D)},RpK K H kvs ds->RpK K H (kvs.map λ kv=>if kv.1=k then (kv.1,v) else kv) (ds.map λ kv=>if kv.1=k then (kv.1,d) else kv)
 | _,_,.nil=>.nil
 | _,_,@RpK.cons _ _ j x d' xs ds h r=>by
  simp only [Z8]
  by_cases q:j=k
  · rw [if_pos q,if_pos q]; exact .cons hv (RpK.BY hv r)
  · rw [if_neg q,if_neg q]; exact .cons h (RpK.BY hv r)
def RpK.snoc {K:W.Frag} {H:Hp} {k:Key} {v:V} {d:D} (hv:Rp K H v d):∀ {kvs:List (Key×V)} {ds:List (Key×D)},RpK K H kvs ds->RpK K H (kvs++[(k,v)]) (ds++[(k,d)])
 | _,_,.nil=>.cons hv .nil
 | _,_,.cons h r=>.cons h (RpK.snoc hv r)
def RpK.put {K:W.Frag} {H:Hp} {k:Key} {v:V} {d:D} {kvs:List (Key×V)} {ds:List (Key×D)} (h:RpK K H kvs ds) (hv:Rp K H v d):RpK K H (putK kvs k v) (putD ds k d):=by
 unfold putK putD;rw [h.any];split
 · exact h.BY hv
 · exact h.snoc hv
def RpK.length {K:W.Frag} {H:Hp}:∀ {kvs:List (Key×V)} {ds:List (Key×D)},RpK K H kvs ds->kvs.length=ds.length
 | _,_,.nil=>rfl
 | _,_,.cons _ r=>X4 (·+1) r.length
def eY:D->D->Option D
 | .dct kvs,y=>(zc y).bind λ k=>cV kvs k
 | .dfz kvs,y=>(zc y).bind λ k=>cV kvs k
 | _,_=>none
section
variable {X:Cx} {o i e value:Expr} {pos pos' apos cpos:Pos} {f g h:DE}
def CT (hu:X.A.units+64 < cLine) (ho:PEd X o f) (hi:PEd X i g) (hs:JL i):PEd X (.Subscript o i pos) (dOp eY f g) :=
 (CL (by omega) ho hi hs).imp λ σ H Q h=>by
   have h':=nL X.K h;obtain ⟨H0,Hs,τ,fp,x,st,sm,e1,kk⟩:=h';refine ⟨H0,Hs,τ,fp,x,st,sm,e1,λ v Hs1 H1 g1 r1=>?_⟩;obtain ⟨H0',Hs',τ',fp',y,st',sm',e2,kk2⟩:=kk v Hs1 H1 g1 r1;refine ⟨H0',Hs',τ',fp',y,st',sm',e2,λ u Hs2 H2 g2 r2=>?_⟩;obtain ⟨Hs3,dx,dy,d,sm3,rx,ry,eo,k⟩:=kk2 u Hs2 H2 g2 r2
   cases rx with
   | @dct a kvs ds hH rk =>
    obtain ⟨key,ek,ev⟩:=bind_some (eo);obtain ⟨w,hw,rw'⟩:=(rk.val).1 d ev;have:=rO ry ek;subst this;exact ⟨a,w,rfl,by rw [<- hw]; exact EI.k (sm3 _ _ hH),k w Hs3 H2 (.refl sm3) rw'⟩
   | @dfz a kvs ds hH rk =>
    obtain ⟨key,ek,ev⟩:=bind_some (show (zc dy).bind _=some d from eo);obtain ⟨w,hw,rw'⟩:=(rk.val (k:=key)).1 d ev;have:=rO ry ek;subst this;refine ⟨a,w,rfl,.inl ⟨_,key,hH.elim (λ z=>.inl (sm3 _ _ z)) (λ ⟨o,z⟩=>.inr ⟨o,sm3 _ _ z⟩),rfl,hw.symm⟩,k w Hs3 H2 (.refl sm3) rw'⟩
   | _=>simp [eY] at eo
def Ct:PEo X (.Dict [] [] pos) (dC (.dct [])):=yK.imp λ σ H Q ⟨H0,Hs,τ,fp,d,st,sm,e,k⟩ p hp=>by
 have e':=Zj e;subst e';exact k p Hs _ ⟨.refl _,sm.trans (aW hp _),aW hp _,λ _ h _=>h⟩ (.dct aO (sm.free hp) .nil) hp
def vw:List D->Option D
 | [.dct kvs]=>some (.dct kvs)
 | _=>none
def tU:ij X (.type "dict") (λ xs H Q=>∃ a kvs,xs=[.ref a]/\H a=some (.dK kvs)/\∀ p,H p=none->Q (.ref p) (upd H p (.dK kvs))):=by
 intro pins s σ H xs us Q I r h;obtain ⟨a,kvs,rfl,hH,q⟩:=h;obtain ⟨u,rfl,ru⟩:=vals1 r;cases (ru);exact zT I (.inl hH) λ p s' hp I'=>⟨.ref p,_,I',rfl,q p hp⟩
def Cv (hg:Gl X x) (hm:X.mg x=none) (hv:bootBuiltins x=some (.type "dict")) (ha:PAd X (e::es) ga) (hn:x≠"__name__":=by decide) (hdb:(x == ("__debug__":Str))=false:=by decide)
   (he:starEach (e::es) X.env=(false,eval e X.env)::starEach es X.env:=by rfl) (hpl:(backTo pos (starEach es X.env)).any (·.1)=false:=by rfl):PEo X (.Call (.Name x p) (e::es) [] pos) (bf vw ga) :=
 (nU tU hg hm hv ha hn hdb he hpl).imp λ σ H Q ⟨H0,Hs,τ,fp,d,st,sm,e,k⟩=>by
   obtain ⟨xs,e1,e⟩:=bind_some e;refine ⟨H0,Hs,τ,fp,xs,st,sm,e1,λ v Hs1 H1 g1 r1=>?_⟩
   match xs,r1,e with
   | [x],.cons hx .nil,e =>
    cases hx with
    | @dct a kvs ds hH rk =>
     have e':=Zj e;subst e';exact ⟨a,kvs,rfl,g1.sh _ _ hH,λ p hp=>k p Hs1 _ ⟨g1.ss,g1.sh.trans (aW hp _),g1.hh.trans (aW hp _),g1.fr⟩ (.dct aO (g1.sh.free hp) rk) (g1.hh.free hp)⟩
    | _=>exact nn e
   | [],_,e=>simp [vw] at e
   | _::_::_,_,e=>simp [vw] at e
def kF (j:Nat) (f g:DE):DS:=λ τ=>(f τ).bind λ v=>(g τ).bind λ y=>match τ[j]? with
 | some (.own (.dct kvs))=>(zc y).bind λ k=>if kvs.length < 100000 then some (.next (τ.set j (.own (.dct (putD kvs k v))))) else none
 | _=>none
def yw (j:Nat) {x:Str} {p:Pos} (hu:X.A.units+64 < cLine) (hN:X.N[j]?=some x) (hv:Vis X.env.scope x) (hval:PEd X value f) (hi:PEd X i g) (hs:swapsWith value (some (.Subscript (.Name x p) i pos')) pos.line X.env=pure false:=by rfl) (hd:(x == ("__debug__":Str))=false:=by decide) (hcd:(x == ("__classdict__":Str))=false:=by decide) :
  PSd X (.Assign [.Subscript (.Name x p) i pos'] value pos) (kF j f g):=(Cn (by omega) (jR hN hv hd hcd) hi hval hs).imp λ E σ H ⟨Hs0,H0,Hs,τ,o,r,e,k⟩=>by
 obtain ⟨dv,e1,e⟩:=bind_some e;obtain ⟨dy,e2,e⟩:=bind_some e;obtain ⟨fp,h⟩:=r.st;split at e
 ·rename_i ds q
  obtain ⟨key,ek,e⟩:=bind_some e;split at e
  ·rename_i hl
   cases e;obtain ⟨a,h1,h2,h3,h4⟩:=h.A9 q
   cases h2 with
   | @dct kvs _ hH hn hr =>
    refine ⟨H0,Hs,τ,fp,dv,h,r.same,e1,λ v Hs1 H1 g1 rv=>?_⟩;refine ⟨_,h1,?_⟩;refine ⟨H0,Hs1,τ,fp,dy,h.ext g1,g1.sh,e2,λ y Hs2 H2 g2 ry=>?_⟩;have g12:=g1.trans g2;have hH':=g12.hh _ _ hH;have h':=h.ext g12;have n':=g12.fr a hn (jv hH);have:=rO ry ek;subst this;refine ⟨a,_,rfl,Ia.k hH' (by rw [hr.length]; exact le5 (Xq hl)),?_⟩;refine k σ Hs2 _ ⟨⟨r.ext.ss.trans g12.ss,λ b u z=>?_,λ b u z=>?_,λ b k1 k2=>?_⟩,fp,h'.mut q h1 (.dct aO n' ((hr.same g12.ss).put (rv.same g2.ss)))⟩
    ·have ne:b≠a:=λ y=>by subst y; rw [n'] at z; cases z
     rw [aH ne]; exact g12.sh b u z
    ·have ne:b≠a:=λ y=>by subst y; rw [h3] at z; cases z
     rw [aH ne]; exact g12.hh b u (r.ext.hh b u z)
    · exact g12.fr b (r.ext.fr b k1 k2) (r.ext.hh.live k2)
  · cases e
 · cases e
end
def scD:D->Option V
 | .int i=>some (.int i)
 | .str x=>some (.str x)
 | .non=>some .non
 | _=>none
def EE:List D->Option (List V)
 | []=>some []
 | d::ds=>(scD d).bind λ v=>(EE ds).map (v::·)
def inS (x:D) (ys:List D):Option Bool:=(scD x).bind λ v=>(EE ys).map λ vs=>inV v vs
def DB:D->Option (List D)
 | .lst ys=>some ys
 | .tup ys=>some ys
 | _=>none
def NC (x y:D):Option D:=(DB y).bind λ ys=>(inS x ys).map .bl
def iA (x y:D):Option D:=(DB y).bind λ ys=>(inS x ys).map λ b=>.bl !b
def Fb {K:W.Frag} {H:Hp} {v w:V} {d:D} (r:Rp K H v d) (e:scD d=some w):v=w/\l7 v=true:=by
 cases r <;> simp [scD] at e <;> subst e <;> exact ⟨rfl,rfl⟩
def Al {K:W.Frag} {H:Hp}:∀ {vs ws:List V} {ds:List D},Rps K H vs ds->EE ds=some ws->vs=ws/\vs.all l7=true
 | _,_,_,.nil,e=>by simp [EE] at e; subst e; exact ⟨rfl,rfl⟩
 | _,_,_,.cons h r,e=>by
  obtain ⟨v,e1,e2⟩:=bind_some (show (scD _).bind _=_ from e);obtain ⟨ws,e3,e4⟩:=Zm e2;obtain ⟨q1,q2⟩:=Fb h e1;obtain ⟨q3,q4⟩:=Al r e3;subst q1 q3;exact ⟨e4,by rw [List.all_cons,q2,q4]; rfl⟩
section
variable {X:Cx}
def Hk {K:W.Frag} {neg:Bool} {x y:V} {H:Hp} {Q:VK} (h:rdR K (if neg then iA else NC) x y H Q):rIn K neg x y H Q:=by
 obtain ⟨Hs,dx,dy,d,sm,rx,ry,e,k⟩:=h
 obtain ⟨ys,b,e1,e2,e3⟩:∃ ys b,DB dy=some ys/\inS dx ys=some b/\d=.bl (if neg then !b else b):=by
  cases neg with
  | true =>
   obtain ⟨ys,a1,a2⟩:=bind_some (e);obtain ⟨b,a3,a4⟩:=Zm a2;exact ⟨ys,b,a1,a3,a4.symm⟩
  | false =>
   obtain ⟨ys,a1,a2⟩:=bind_some (show (DB dy).bind _=some d from e);obtain ⟨b,a3,a4⟩:=Zm a2;exact ⟨ys,b,a1,a3,a4.symm⟩
 obtain ⟨v,e4,e5⟩:=bind_some e2;obtain ⟨vs,e6,e7⟩:=Zm e5;obtain ⟨q1,q2⟩:=Fb rx e4;subst q1 e3;have ry':=ry.same sm
 obtain ⟨p,xs,ep,hq,rs⟩:∃ p xs,y=.ref p/\(SqL K H p xs\/SqT K H p xs)/\Rps K H xs ys:=by
  cases ry' with
  | tup h r=>simp [DB] at e1; subst e1; exact ⟨_,_,rfl,.inr h,r⟩
  | lst h r=>simp [DB] at e1; subst e1; exact ⟨_,_,rfl,.inl (.of h),r⟩
  | _=>simp [DB] at e1
 obtain ⟨q3,q4⟩:=Al rs e6;subst q3;refine ⟨p,xs,ep,hq,q2,q4,?_⟩;rw [e7];exact k _ Hs H (.refl sm) (.bl _)
def yQ:OpR X (compareOp .NotIn) (rdR X.K iA):=nV.imp λ x y H Q h=>Hk h
end
def u9 (kvs:List (Key×D)):Bool:=kvs.all λ kv=>okD 9 kv.2
open Classical in
noncomputable def rG:D->D->Option Unit
 | .dct a,.dct b=>if a=b/\u9 a=true then some () else none
 | _,_=>none
noncomputable def Gg (x y:D):Option D:=match rG x y with
 | some _=>some (.bl false)
 | none=>oNe x y
section
variable {X:Cx} {pins:List (Addr×Obj)} {σ:St} {H:Hp} {s:Shared}
def we {A:Around} {ub:List (Key×Value)} (I:Inv X pins σ H s) (hu:A.units+64 < cLine):∀ {ka kb:List (Key×V)} {ds:List (Key×D)} {ua ub':List (Key×Value)},
  RpK X.K H ka ds->RpK X.K H kb ds->u9 ds=true->KV ka ua->KV kb ub'->(∀ q ∈ ub',valueAt ub q.1=some q.2)->PySem.W.KeqHits A.in1 s ub ua true
 | _,_,_,_,_,.nil,.nil,_,.nil,.nil,_=>.nil
 | _,_,_,_,_,@RpK.cons _ _ j x d xs ds h r,@RpK.cons _ _ _ x' _ _ _ h' r',ok,@Paired.cons _ _ _ _ qa _ _ ra ta,@Paired.cons _ _ _ _ qb _ _ rb tb,hv=>by
  simp only [u9,List.all_cons,Yq] at ok;obtain ⟨k1,v1⟩:=qa;obtain ⟨k2,v2⟩:=qb;obtain ⟨e1,r1⟩:=ra;obtain ⟨e2,r2⟩:=rb;dsimp only at e1 e2 r1 r2;subst e1 e2;obtain ⟨as,d1⟩:=(h.rdD 9 ok.1).reads I r1;obtain ⟨bs,d2⟩:=(h'.rdD 9 ok.1).reads I r2;have kq:=jx 9 d ok.1;have la:=PySem.W.kqd_lay 9 _ kq;have eq:=SeqAt.eqAt_reads _ _ A.in1 s v1 v2 as bs d1 d2 la.1 la.1 (by have:A.in1.units=A.units+1:=rfl; rw [Nat.min_self]; omega);rw [qB kq kq] at eq;simp only [decide_true] at eq;exact .hit (e:=true) (b:=true) (hv _ (Zo ..)) eq (we I hu r r' ok.2 ta tb λ q hq=>hv q (Zg _ hq))
def DictOf.vals {P:Program} {w:World} {h:Heap} {a:Addr} {kvs:List (Key×Value)} (d:h.DictOf (cv P w) a kvs):∀ q ∈ kvs,valueAt kvs q.1=some q.2:=by
 obtain ⟨o,es,ep,ho,hc,hd,hk,hp,hn⟩:=d;intro q hq;obtain ⟨i,hi,rfl⟩:=List.mem_iff_getElem.mp hq;exact valueAt_of_get hn (by rw [List.getElem?_eq_getElem hi])
def yd {x y:V} {dx dy:D} (I:Inv X pins σ H s) (rx:Rp X.K H x dx) (ry:Rp X.K H y dy) (e:rG dx dy=some ()) (hu:X.A.units+64 < cLine):∃ a b ka kb,x=.ref a/\y=.ref b/\(a == sysModules)=false/\(b == sysModules)=false /\
  s.heap.DictOf (cv X.prog X.w) a ka/\s.heap.DictOf (cv X.prog X.w) b kb/\ka.length=kb.length/\PySem.W.KeqHits X.A.in1 s kb ka true:=by
 cases rx with
 | @dct a ka ds ha ra =>
  cases ry with
  | @dct b kb ds' hb rb =>
   simp only [rG] at e;split at e
   ·rename_i hh
    obtain ⟨e0,ok⟩:=hh;subst e0;obtain ⟨_,n1,ua,k1,d1⟩:=zQ I.hok ha;obtain ⟨_,n2,ub,k2,d2⟩:=zQ I.hok hb;exact ⟨a,b,ua,ub,rfl,rfl,n1,n2,d1,d2,by rw [<- k1.length,<- k2.length,ra.length,rb.length],we I hu ra rb ok k1 k2 (DictOf.vals d2)⟩
   · cases e
  | _=>exact nn e
 | _=>cases ry <;> exact nn e
end
section
variable {X:Cx}
def Ky (hu:X.A.units+64 < cLine):OpR X (compareOp .NotEq) (rdR X.K Gg):=by
 intro pins s σ H x y v u Q I rx ry ⟨Hs,dx,dy,d,sm,r1,r2,e,k⟩;unfold Gg at e;split at e
 ·rename_i z q
  cases e;obtain ⟨a,b,ka,kb,rfl,rfl,n1,n2,d1,d2,el,hits⟩:=yd I (r1.same sm) (r2.same sm) q hu;cases (rx);cases (ry);refine PySem.W.keq_ne n1 n2 d1 d2 (by omega) (λ _=>hits) ⟨.bl false,H,I,?_,k _ Hs H (.refl sm) (.bl _)⟩;rw [el]; simp; rfl
 · exact Mv hu pins s σ H x y v u Q I rx ry ⟨Hs,dx,dy,d,sm,r1,r2,e,k⟩
end
def oV:List (DE×DE)->List Sl->Option (List (Key×D))
 | [],_=>some []
 | p::ps,τ=>(p.1 τ).bind λ k=>(zc k).bind λ k'=>(p.2 τ).bind λ v=>(oV ps τ).map ((k',v)::·)
def rL (kvs more:List (Key×D)):List (Key×D):=more.foldl (λ acc kv=>putD acc kv.1 kv.2) kvs
def zV (ps:List (DE×DE)):DE:=λ τ=>(oV ps τ).bind λ kvs=>if kvs.length<=15 then some (.dct (rL [] kvs)) else none
def RpK.merge {K:W.Frag} {H:Hp}:∀ {more:List (Key×V)} {ms:List (Key×D)} {kvs:List (Key×V)} {ds:List (Key×D)},RpK K H more ms->RpK K H kvs ds->RpK K H (kS kvs more) (rL ds ms)
 | _,_,_,_,.nil,h=>h
 | _,_,kvs,ds,@RpK.cons _ _ j x d xs es hv r,h=>show RpK K H (kS (putK kvs j x) xs) (rL (putD ds j d) es) from RpK.merge r (h.put hv)
section
variable {X:Cx} {pos:Pos}
def PPd (X:Cx) (pos:Pos) (keys:List (Option Expr)) (values:List Expr) (ps:List (DE×DE)):Prop:=PPs X pos keys values (ps.map λ p=>(rdE X.K p.1,rdE X.K p.2))
def Cp:PPd X pos [] [] []:=Co
def yB (hk:PEd X k f) (hv:PEd X v g) (hr:PPd X pos ks vs ps):PPd X pos (some k::ks) (v::vs) ((f,g)::ps):=yA hk hv hr
def rC {K:W.Frag} {σ:St} {τ:List Sl} {H0:Hp}:∀ {ps:List (DE×DE)} {Hs H:Hp} {fp:List Addr} {kvs:List (Key×D)} {Q:List (V×V)->Hp->Prop},StR K H0 Hs H σ τ fp->fD Hs H->oV ps τ=some kvs ->
  (∀ ws Hs' H',Ext Hs H Hs' H'->RpK K Hs' ws kvs->Q (ws.map λ kv=>(kV kv.1,kv.2)) H')->qX (ps.map λ p=>(rdE K p.1,rdE K p.2)) σ H Q
 | [],Hs,H,fp,kvs,Q,st,sm,e,k=>by
  have e':[]=kvs:=Zj e;subst e';exact k [] Hs H (.refl sm) .nil
 | p::ps,Hs,H,fp,kvs,Q,st,sm,e,k=>by
  obtain ⟨dk,e1,e⟩:=bind_some (show (p.1 τ).bind _=some kvs from e);obtain ⟨k',e2,e⟩:=bind_some e;obtain ⟨dv,e3,e⟩:=bind_some e;obtain ⟨rest,e4,rfl⟩:=Zm e;refine ⟨H0,Hs,τ,fp,dk,st,sm,e1,λ v Hs1 H1 g1 r1=>?_⟩;refine ⟨H0,Hs1,τ,fp,dv,st.ext g1,g1.sh,e3,λ u Hs2 H2 g2 r2=>?_⟩;refine rC ((st.ext g1).ext g2) g2.sh e4 λ ws Hs3 H3 g3 r3=>?_
  have:=rO r1 e2;subst this;exact k ((k',u)::ws) Hs3 H3 ((g1.trans g2).trans g3) (.cons (r2.same g3.ss) r3)
def Cu (h:PPd X pos keys values ps) (hall:keys.all (·.isSome)=true:=by rfl) (hl:keys.length=values.length:=by rfl) (h0:keys≠[]:=by exact List.cons_ne_nil _ _)
  (h15:keys.length<=15:=by exact Zb rfl):PEo X (.Dict keys values pos) (zV ps):=(CK h hall hl h0 h15).imp λ σ H Q ⟨H0,Hs,τ,fp,d,st,sm,e,k⟩ p hp=>by
 obtain ⟨kvs,e1,e⟩:=bind_some e;split at e
 ·rename_i hk
  cases e;have hsp:=sm.free hp;have g0:Ext Hs H Hs (upd H p (.dK [])):=⟨.refl _,sm.trans (aW hp _),aW hp _,λ _ h _=>h⟩
  refine rC (st.ext g0) g0.sh e1 λ ws Hs' H' g r=>?_
  have hp':=g.hh _ _ aO;have hs':=g.fr p hsp (by rw [aO]; simp);refine ⟨hp',ws,rfl,by rw [r.length]; exact hk,?_⟩;refine k p Hs' _ ⟨g.ss,λ b u z=>?_,λ b u z=>?_,λ b k1 k2=>?_⟩ (.dct aO hs' (r.merge .nil)) hp
  ·have ne:b≠p:=λ y=>by subst y; rw [hs'] at z; cases z
   rw [aH ne]; exact g.sh b u z
  ·have ne:b≠p:=λ y=>by subst y; rw [hp] at z; cases z
   rw [aH ne]; exact g.hh b u (by rw [aH ne]; exact z)
  ·by_cases z:b=p
   · subst z; exact hs'
   · exact g.fr b k1 (by rw [aH z]; exact k2)
 · cases e
end

def oe:D->D->Option D
 | .tup (x::xs),.tup (y::ys)=>if (x::xs).length+(y::ys).length<=100000 then some (.tup (x::xs++y::ys)) else none
 | _,_=>none
section
variable {X:Cx} {tg:Expr} {pos:Pos}
def nW:OpR X (binaryOp .Add) (rdR X.K oe):=C2.imp λ x y H Q ⟨Hs,dx,dy,d,sm,rx,ry,e,k⟩=>by
 cases rx with
 | @tup a xs ds h r=>cases ry with
  | @tup b ys es h' r' =>
   cases ds with
   | nil=>simp [oe] at e
   | cons d1 ds=>cases es with
    | nil=>simp [oe] at e
    | cons e1 es =>
     by_cases hl:(d1::ds).length+(e1::es).length<=100000
     ·have e':D.tup (d1::ds++e1::es)=d:=by simp only [oe] at e; rw [if_pos hl] at e; exact Zj e
      subst e';have hx:xs≠[]:=λ z=>by rw [z] at r; cases r
      have hy:ys≠[]:=λ z=>by rw [z] at r'; cases r'
      refine ⟨a,b,xs,ys,rfl,rfl,sm.tup h,sm.tup h',hx,by rw [r.length,r'.length]; exact vK hl,λ z=>absurd z hy,λ _ p hp=>?_⟩;have g:=Ext.new sm hp (.tup (xs++ys));exact k _ _ _ g (.tup (SqT.of aO) ((r.same g.ss).append (r'.same g.ss)))
     · simp only [oe] at e; rw [if_neg hl] at e; cases e
  | _=>cases ds <;> exact nn e
 | _=>cases ry <;> exact nn e
def tj (hg:Gl X "range") (hm:X.mg "range"=none) (ha:PAd X [a,b] f) (hs:starEach [a,b] X.env=[(false,eval a X.env),(false,eval b X.env)]:=by rfl) (hs2:starEach [b] X.env=[(false,eval b X.env)]:=by rfl):PId X tg (.Call (.Name "range" p) [a,b] [] pos) (jg f) :=
 (uX hg hm ha hs hs2).imp λ σ H R ⟨H0,Hs,τ,fp,ds,st,sm,e,k⟩=>by
   obtain ⟨x,e1,e2⟩:=bind_some e;refine ⟨H0,Hs,τ,fp,x,st,sm,e1,λ v Hs' H' g r=>?_⟩
   match x,r,e2 with
   | [y,z],.cons hy (.cons hz .nil),e2 =>
    cases hy with
    | int i=>cases hz with
     | int j =>
      simp only at e2;split at e2
      ·rename_i hj
       have e':mh i (j - i).toNat=ds:=Zj e2;subst e';exact ⟨i,j,rfl,hj,k _ Hs' H' g (ot _ _)⟩
      · cases e2
     | _=>exact nn e2
    | _=>cases hz <;> exact nn e2
   | [],_,e2=>simp at e2
   | [_],_,e2=>simp at e2
   | _::_::_::_,_,e2=>simp at e2
end
def ES (n:Nat) (lo hi:Option Int):Bool:=decide (HT.sIx n 0 lo=0/\HT.sIx n n hi=n)
def Ii:D->Option Int->Option Int->Option D
 | .tup ds,l,u=>if ES ds.length l u then none else some (.tup (cutD ds l u))
 | _,_,_=>none
def xN (f:DE) (l u:DO):DE:=λ τ=>(f τ).bind λ x=>(l τ).bind λ l'=>(u τ).bind λ u'=>Ii x l' u'
section
variable {X:Cx} {a e i o:Expr} {pos:Pos} {f g:DE}
def FR {lo hi:Option Expr} {p2:Pos} {l u:DO} (ha:PEd X a f) (hl:POd X lo l) (hh:POd X hi u):PEd X (.Subscript a (.Slice lo hi none p2) pos) (xN f l u) :=
 (rB E7 ha hl hh).imp λ σ H Q ⟨H0,Hs,τ,fp,d,st,sm,e,k⟩=>by
   obtain ⟨x,e1,e⟩:=bind_some e;obtain ⟨l',e2,e⟩:=bind_some e;obtain ⟨u',e3,e⟩:=bind_some e;refine ⟨H0,Hs,τ,fp,x,st,sm,e1,λ v Hs1 H1 g1 r1=>?_⟩;refine ⟨H0,Hs1,τ,fp,l',st.ext g1,g1.sh,e2,λ Hs2 H2 g2=>?_⟩;refine ⟨H0,Hs2,τ,fp,u',(st.ext g1).ext g2,g2.sh,e3,λ Hs3 H3 g3=>?_⟩;have g13:=(g1.trans g2).trans g3;have r3:=(r1.same g2.ss).same g3.ss
   cases r3 with
   | @tup a xs ds h r =>
    unfold Ii at e;simp only at e;split at e
    · cases e
    ·rename_i hw
     have e':=Zj e;subst e';refine ⟨a,xs,rfl,g3.sh.tup h,?_,λ p hp=>?_⟩
     ·rw [r.length]
      intro q;exact hw (Zh q)
     ·have g4:=Ext.new g3.sh hp (.tup (zY xs l' u'))
      exact k _ _ _ (g13.trans g4) (.tup (SqT.of aO) ((qF l' u' r).same g4.ss))
   | _=>exact nn e
end
def Itz (K:W.Frag) (l1 l2:Addr):It where
 go:=λ i H=>∃ xs ys x y,SqL K H l1 xs/\SqL K H l2 ys/\xs[i]?=some x/\ys[i]?=some y
 yld:=λ i H v H'=>∃ T x y,v=.ref T/\H T=none/\H'=upd H T (.tup [x,y])/\(∀ xs,SqL K H l1 xs->xs[i]?=some x)/\∀ ys,SqL K H l2 ys->ys[i]?=some y
 stop:=λ i H=>∃ xs ys,SqL K H l1 xs/\SqL K H l2 ys/\(xs.length<=i\/ys.length<=i)
def ZSt (z TI TO i1 i2 l1 l2:Addr) (i:Nat) (h:Heap):Prop:=IsZip h z TI TO .none/\IsPair h TI (.ref i1) (.ref i2)/\(∃ a b,IsPair h TO a b)/\h.IsListIter i1 l1 i/\h.IsListIter i2 l2 i
section
variable {X:Cx} {pins:List (Addr×Obj)} {σ:St} {H:Hp} {s:Shared} {h':Heap}
def Inv.BH {t':Nat} {wr:List Addr} {T:Addr} {xs:List V} (I:Inv X pins σ H s) (hw:∀ b ∈ wr,pD X pins H b) (k:∀ b o,b ∉ wr->s.heap.get? b=some o->h'.get? b=some o)
  (hT:s.heap.objs.size<=T) (new:dZ X.prog X.w (upd H T (.tup xs)) h' T (.tup xs)):Inv X pins σ (upd H T (.tup xs)) { s with heap:=h',toks:=t' }:=by
 have hn:=I.hok.fresh hT;have neT:∀ b u,H b=some u->b≠T:=λ b u e z=>by rw [z,hn] at e; cases e
 have neS:∀ b o,s.heap.get? b=some o->b≠T:=λ b o e z=>by
  have:=Zt e;rw [z] at this;exact absurd (Zz this hT) (Y9 _)
 have nw:∀ b u,H b=some u->b ∉ wr:=λ b u e z=>by rw [(hw b z).1] at e; cases e
 refine I.step (λ b hb=>?_) (λ b o _ _ hc e _=>k b o hc e) (λ b o _ _ hc e _=>⟨o.slots,k b o hc e⟩) (λ b o _ e n=>by rw [aH (neS b o e)]; exact n)
  (λ b o hc e=>⟨o,k b o hc e⟩) (λ b ys e=>by rw [aH (neT b _ e)]; exact e) (λ b o u e=>by rw [aH (neT b _ e)]; exact e) (λ b ps e=>⟨#[],by rw [aH (neT b _ e),e]; simp⟩) (λ m hm=>?_) (λ b u e=>?_) I.bare
 ·obtain ⟨f0,f1,f2,f3,f4,f5⟩:=hw b hb
  exact ⟨f3,f1,f4,f5⟩
 ·obtain ⟨o,es,ep,ho,r⟩:=hm
  exact ⟨o,es,ep,k _ o (λ z=>(hw _ z).2.1 rfl) ho,r⟩
 ·by_cases hb:b=T
  ·subst hb
   rw [aO] at e;cases e;exact new
  ·rw [aH hb] at e
   refine (I.hok b u e).sU (λ c v hc q=>k c v ?_ q) (λ c q=>by rw [aH (neT c _ q)]; exact q) λ c ys q=>by rw [aH (neT c _ q)]; exact q
   rcases hc with z | z
   · rw [z]; exact nw b u e
   · exact nw c _ z
end
def xZ {P:Program} {w:World} {K:W.Frag} {elts:List Expr} {k:Nat} {pos:Pos} {z TI TO i1 i2 l1 l2:Addr} (D:ZipApart z TI TO i1 i2 l1 l2) :
  Turn P w K (.Tuple elts k pos) (Itz K l1 l2) [z,TI,TO,i1,i2] z (ZSt z TI TO i1 i2 l1 l2) where
 mem:=by simp
 obj:=λ i h st b hb=>by
  obtain ⟨s1,s2,⟨a,c,s3⟩,⟨o4,e4,c4,d4⟩,⟨o5,e5,c5,d5⟩⟩:=st;simp only [Zl,Xv,or_false] at hb;rcases hb with rfl | rfl | rfl | rfl | rfl
  · exact ⟨_,s1,λ v z=>by cases z⟩
  · exact ⟨_,s2,λ v z=>by cases z⟩
  · exact ⟨_,s3,λ v z=>by cases z⟩
  · exact ⟨o4,e4,λ v z=>by rw [d4] at z; cases z⟩
  · exact ⟨o5,e5,λ v z=>by rw [d5] at z; cases z⟩
 keep:=λ i h h' st k=>by
  obtain ⟨s1,s2,⟨a,c,s3⟩,s4,s5⟩:=st;exact ⟨k _ (by simp) _ s1,k _ (by simp) _ s2,⟨a,c,k _ (by simp) _ s3⟩,s4.at λ o e=>k _ (by simp) o e,s5.at λ o e=>k _ (by simp) o e⟩
 item:=by
  intro X hP hw hK hc i pins s σ H E I hf st hg;subst hP hw hK;obtain ⟨xs,ys,x,y,hq1,hq2,hx,hy⟩:=hg;obtain ⟨its1,rv1,p1,hz1⟩:=I.list hq1;obtain ⟨its2,rv2,p2,hz2⟩:=I.list hq2;obtain ⟨u1,hu1,ru1⟩:=rv1.get hx;obtain ⟨u2,hu2,ru2⟩:=rv2.get hy;obtain ⟨s1,s2,⟨a,c,s3⟩,s4,s5⟩:=st;refine wpAny_pyNext_zip_item D s1 s2 s3 s4 s5 p1.isList p2.isList (by simpa using hu1) (by simpa using hu2) λ h' a1 a2 a3 a4 a5 a6 hk=>?_
  have fw:∀ b ∈ [z,TO,i1,i2],pD X pins H b:=λ b hb=>hf b (by
   simp only [Zl,Xv,or_false] at hb ⊢
   rcases hb with rfl | rfl | rfl | rfl <;> simp)
  have hk':∀ b o,b ∉ [z,TO,i1,i2]->s.heap.get? b=some o->h'.get? b=some o:=λ b o hb e=>hk b o (λ q=>hb (by simp [q])) (λ q=>hb (by simp [q])) (λ q=>hb (by simp [q])) (λ q=>hb (by simp [q])) e
  have I1:=I.BH (t':=s.toks) fw hk' (Ze _) ⟨by show 2<=sizeLine; decide,[u1,u2],.cons ru1 (.cons ru2 .nil),_,a5,rfl,_,rfl⟩;have hn:=I.hok.fresh (Ze _);have TIk:=hk _ _ D.TIz D.TITO D.TIi1 D.TIi2 s2;refine ⟨.ref s.heap.objs.size,rfl,wpAny_letOwnedTupleGo_zip a1 λ h2 hz2 sb=>?_⟩
  have neT:∀ b ∈ [z,TI,TO,i1,i2],b≠s.heap.objs.size:=λ b hb q=>by
   have lt:∃ o,s.heap.get? b=some o:=by
    obtain ⟨o4,e4,_⟩:=s4;obtain ⟨o5,e5,_⟩:=s5;simp only [Zl,Xv,or_false] at hb;rcases hb with rfl | rfl | rfl | rfl | rfl
    · exact ⟨_,s1⟩
    · exact ⟨_,s2⟩
    · exact ⟨_,s3⟩
    · exact ⟨_,e4⟩
    · exact ⟨_,e5⟩
   obtain ⟨o,e⟩:=lt;rw [q] at e;exact absurd (Zt e) (Y9 _)
  obtain ⟨f0,f1,f2,f3,f4,f5⟩:=hf z (by simp);have I2:=I1.turned (t':=s.toks) (λ b o hb e=>(sb.2 b hb).trans e) (by rw [aH (neT z (by simp))]; exact f0) f1 f3 f4 f5;refine ⟨.ref s.heap.objs.size,_,I2,rfl,⟨s.heap.objs.size,x,y,rfl,hn,rfl,λ zs hz=>by rw [I.mT hz hq1]; exact hx,λ zs hz=>by rw [I.mT hz hq2]; exact hy⟩,?_,λ b hb=>by rw [aH (neT b hb)]; exact (hf b hb).1⟩;exact ⟨hz2,sb.extBut _ _ D.TIz TIk,⟨_,_,sb.extBut _ _ D.TOz a2⟩,a3.extBut sb.extBut D.i1z,a4.extBut sb.extBut D.i2z⟩
 done := by
  intro X hP hw hK hc i pins s σ H E I hf st hg;subst hP hw hK;obtain ⟨xs,ys,hq1,hq2,hx⟩:=hg;obtain ⟨its1,rv1,p1,hz1⟩:=I.list hq1;obtain ⟨its2,rv2,p2,hz2⟩:=I.list hq2;obtain ⟨s1,s2,⟨a,c,s3⟩,s4,s5⟩:=st;have l1:=rv1.length;have l2:=rv2.length;refine wpAny_pyNext_zip_end (I.ok.hd hc) D s1 s2 s3 s4 s5 p1.isList p2.isList ?_ λ h' hk=>⟨rfl,?_⟩
  ·rcases hx with q | q
   · exact .inl (by simp; omega)
   · exact .inr (by simp; omega)
  ·have fw:∀ b ∈ [z,TO,i1,i2],pD X pins H b:=λ b hb=>hf b (by
    simp only [Zl,Xv,or_false] at hb ⊢
    rcases hb with rfl | rfl | rfl | rfl <;> simp)
   refine I.step (t':=s.toks) (ch:=[z,TO,i1,i2]) (λ b hb=>?_) (λ b o _ _ hb e _=>?_) (λ b o _ _ hb e _=>⟨o.slots,?_⟩) (λ _ _ _ _ n=>n) (λ b o hb e=>⟨o,?_⟩) (λ _ _ e=>e) (λ _ _ _ e=>e) (λ b ps e=>⟨#[],by rw [e]; simp⟩) (λ m hm=>?_) (λ b u e=>?_) I.bare
   ·obtain ⟨f0,f1,f2,f3,f4,f5⟩:=fw b hb
    exact ⟨f3,f1,f4,f5⟩
   · exact hk b o (λ q=>hb (by simp [q])) (λ q=>hb (by simp [q])) (λ q=>hb (by simp [q])) (λ q=>hb (by simp [q])) e
   · exact hk b o (λ q=>hb (by simp [q])) (λ q=>hb (by simp [q])) (λ q=>hb (by simp [q])) (λ q=>hb (by simp [q])) e
   · exact hk b o (λ q=>hb (by simp [q])) (λ q=>hb (by simp [q])) (λ q=>hb (by simp [q])) (λ q=>hb (by simp [q])) e
   ·obtain ⟨o,es,ep,ho,r⟩:=hm
    have nb:X.env.locals ∉ [z,TO,i1,i2]:=λ q=>(fw _ q).2.1 rfl
    exact ⟨o,es,ep,hk _ o (λ q=>nb (by simp [q])) (λ q=>nb (by simp [q])) (λ q=>nb (by simp [q])) (λ q=>nb (by simp [q])) ho,r⟩
   ·have nw:∀ b u,H b=some u->b ∉ [z,TO,i1,i2]:=λ b u e q=>by rw [(fw b q).1] at e; cases e
    refine (I.hok b u e).sU (λ c v hc q=>?_) (λ _ q=>q) λ _ _ q=>q
    have nc:c ∉ [z,TO,i1,i2]:=by
     rcases hc with q | q
     · rw [q]; exact nw b u e
     · exact nw c _ q
    exact hk c v (λ q=>nc (by simp [q])) (λ q=>nc (by simp [q])) (λ q=>nc (by simp [q])) (λ q=>nc (by simp [q])) q
 self:=λ _ _ _ _ _ st h=>wpAny_pyIter_zip st.1 h
def boot_zip:bootBuiltins "zip"=some (.type "zip"):=by rfl
def Ol (K:W.Frag) (ta:TA):TI:=λ σ H R=>ta σ H λ vs H1=>∃ l1 l2 xs ys,vs=[.ref l1,.ref l2]/\SqL K H1 l1 xs/\SqL K H1 l2 ys/\R (Itz K l1 l2) H1
def Fx {X:Cx} {a b:Expr} {ta:TA} {elts:List Expr} {k:Nat} {pt p pos:Pos} (hg:Gl X "zip") (hm:X.mg "zip"=none) (ha:PA X [a,b] ta) (hs:starEach [a,b] X.env=[(false,eval a X.env),(false,eval b X.env)]:=by rfl) (hs2:starEach [b] X.env=[(false,eval b X.env)]:=by rfl) :
  PI X (.Tuple elts k pt) (.Call (.Name "zip" p) [a,b] [] pos) (Ol X.K ta):=by
 intro pins s σ H R I h;refine Call_ (je I hg hm boot_zip (Yo (thn (ha pos pins s σ H _ I h) λ us s1 ⟨vs,H1,I1,r1,q1⟩=>?_) (by rw [hs,hs2]) (by rw [hs2]; rfl)));obtain ⟨l1,l2,xs,ys,e,q1,q2,q⟩:=q1;subst e
 cases r1 with
 | cons r rr =>
  cases rr with
  | cons r' rr =>
   cases rr;cases r;cases r';obtain ⟨its1,rv1,p1,hz1⟩:=I1.list q1;obtain ⟨its2,rv2,p2,hz2⟩:=I1.list q2;have a1:l1 < s1.heap.objs.size:=by obtain ⟨_,_,e,_⟩:=p1; exact Zt e
   have a2:l2 < s1.heap.objs.size:=by obtain ⟨_,_,e,_⟩:=p2; exact Zt e
   refine call_zip_2 p1.isList p2.isList λ h' hz hTI hTO hi1 hi2 hsz hk=>?_
   refine wpAny_pyIter_zip hz ?_
   refine ⟨_,[s1.heap.objs.size+4,s1.heap.objs.size+2,s1.heap.objs.size+3,s1.heap.objs.size,s1.heap.objs.size+1],_,_,H1,rfl,I1.kept hk,xZ (zipApart_new a1 a2),⟨hz,hTI,⟨_,_,hTO⟩,hi1,hi2⟩,λ b hb=>?_,q⟩
   have hb':s1.heap.objs.size<=b:=by
    simp only [Zl,Xv,or_false] at hb;rcases hb with rfl | rfl | rfl | rfl | rfl
    · exact Nat.le_add_right _ 4
    · exact Nat.le_add_right _ 2
    · exact Nat.le_add_right _ 3
    · exact Ze _
    · exact Nat.le_add_right _ 1
   exact I1.sj hb' (I1.hok.fresh hb')
def t7 (as bs:List D):List D:=(as.zip bs).map λ p=>D.tup [p.1,p.2]
def DC {K:W.Frag} {a b:Addr} {xs ys:List V} {Hs:Hp} {as bs:List D} (h1:SqL K Hs a xs) (r1:Rps K Hs xs as) (h2:SqL K Hs b ys) (r2:Rps K Hs ys bs):ItR K (Itz K a b) Hs (t7 as bs):=λ Hs1 H g1 g2=>by
 have hq1:=g2.seq (g1.seq h1);have hq2:=g2.seq (g1.seq h2);have l1:=r1.length;have l2:=r2.length;refine ⟨λ i d e=>?_,λ i hi=>⟨xs,ys,hq1,hq2,?_⟩⟩
 ·unfold t7 at e
  rw [List.getElem?_map] at e;obtain ⟨p,ep,ed⟩:=Zm e;obtain ⟨ea,eb⟩:=List.getElem?_zip_eq_some.mp ep;obtain ⟨x,hx,rx⟩:=r1.get ea;obtain ⟨y,hy,ry⟩:=r2.get eb;subst ed;refine ⟨⟨xs,ys,x,y,hq1,hq2,hx,hy⟩,λ v H' ⟨T,vx,vy,e1,hn,e2,f1,f2⟩=>?_⟩;subst e1 e2;have ex:=f1 xs hq1;have ey:=f2 ys hq2;rw [hx] at ex;rw [hy] at ey;cases ex;cases ey;have g:=Ext.new g2 hn (.tup [x,y]);exact ⟨_,g,.tup (SqT.of aO) (.cons ((rx.same g1).same g.ss) (.cons ((ry.same g1).same g.ss) .nil))⟩
 ·have hl:(t7 as bs).length=min as.length bs.length:=by simp [t7]
  rw [hl] at hi;rcases Nat.le_total as.length bs.length with q | q
  · exact .inl (by omega)
  · exact .inr (by omega)
def l5 (f:DA):DI:=λ τ=>(f τ).bind λ ds=>match ds with | [.lst as,.lst bs]=>some (t7 as bs) | _=>none
def Cz (hg:Gl X "zip") (hm:X.mg "zip"=none) (ha:PAd X [a,b] f) (hs:starEach [a,b] X.env=[(false,eval a X.env),(false,eval b X.env)]:=by rfl) (hs2:starEach [b] X.env=[(false,eval b X.env)]:=by rfl) :
   PId X (.Tuple elts k pt) (.Call (.Name "zip" p) [a,b] [] pos) (l5 f) :=
 (Fx hg hm ha hs hs2).imp λ σ H R ⟨H0,Hs,τ,fp,ds,st,sm,e,k⟩=>by
   obtain ⟨x,e1,e2⟩:=bind_some e;refine ⟨H0,Hs,τ,fp,x,st,sm,e1,λ v Hs' H' g r=>?_⟩
   match x,r,e2 with
   | [y,z],.cons hy (.cons hz .nil),e2 =>
    cases hy with
    | @lst a1 xs1 ds1 h1 r1=>cases hz with
     | @lst a2 xs2 ds2 h2 r2 =>
      have e':=Zj e2;subst e';exact ⟨a1,a2,xs1,xs2,rfl,SqL.of (g.sh _ _ h1),SqL.of (g.sh _ _ h2),k _ Hs' H' g (DC (SqL.of h1) r1 (SqL.of h2) r2)⟩
     | _=>exact nn e2
    | _=>cases hz <;> exact nn e2
   | [],_,e2=>simp at e2
   | [_],_,e2=>simp at e2
   | _::_::_::_,_,e2=>simp at e2
structure gO (X:Cx) (scope:Scope) (cl:List (Str×Addr)) (x x2:Str) (cs:List (Str×Nat)):Prop where
 one:cw X scope cl x cs
 Ms:scope.names.lookup x2=some .local
 nd2:(x::x2::cs.map (·.1)).Nodup
section
variable {X:Cx} {pins:List (Addr×Obj)} {σ:St} {H:Hp} {s:Shared} {scope:Scope} {cl:List (Str×Addr)} {x x2:Str} {cs:List (Str×Nat)} {fp:List Addr} {C:Addr} {h':Heap} {t':Nat}
def qH (O:gO X scope cl x x2 cs) (I:Inv X pins σ H s) (f2:∀ b ∈ fp,pD X pins H b) (there:∀ b ∈ fp,b < s.heap.objs.size) (hC:s.heap.objs.size<=C)
  (old:∀ b o,s.heap.get? b=some o->h'.get? b=some o) (hn:h'.Ns C λ _=>none) :
  Inv (bD X scope cl (x::x2::cs.map (·.1)) s H fp C) [] (none::none::aI σ cs) H { s with heap:=h',toks:=t' }:=by
 refine ⟨⟨I.ok.mod,O.one.kind,I.ok.glob,I.ok.blt,hC,λ y z c h1 h2=>I.ok.inj y z c (O.one.sub y c h1) (O.one.sub z c h2),λ y hy=>O.one.has y hy,λ _ _ h=>absurd (h) Zf,I.ok.hd,I.ok.frames,.inl rfl,
    λ b hb=>⟨Z2 (Zz (there b hb) hC),λ y c e=>(f2 b hb).2.2.2.2.1 y c (O.one.sub y c e)⟩,I.bs,Zc I.ok.bsz I.sz,λ b o e hb=>?_,λ b hb z=>?_,I.stack,I.pM⟩,
  rfl,I.bare,Un.kept old,⟨_,hn,λ i y v e1 e2 e3=>?_⟩,λ y c e=>?_,I.hok.fresh hC,λ y c e=>I.k9 y c (O.one.sub y c e),λ p hp=>absurd (show p ∈ ([]:List (Addr×Obj)) from hp) (by simp),I.hok.kept old,?_⟩
 ·rcases (f2 b hb).2.2.2.1 with z | z
  · exact I.ok.EG b o e z
  · exact absurd (Zz (Zt e) (Zc I.ok.bsz z)) (Y9 _)
 · exact (Zl.mp (I.kB b z)).elim (f2 b hb).2.1 (f2 b hb).2.2.1
 ·cases i with
  | zero=>simp at e2
  | succ j=>cases j with
   | zero=>simp at e2
   | succ j =>
    have e1':(cs.map (·.1))[j]?=some y:=by simpa [bD] using e1
    have e2':(aI σ cs)[j]?=some (some v):=by simpa using e2
    unfold aI at e2';rw [List.getElem?_map] at e1' e2'
    cases q:cs[j]? with
    | none=>rw [q] at e1'; cases e1'
    | some p =>
     rw [q] at e1' e2';have ey:p.1=y:=by simpa using e1'
     have ev:(σ[p.2]?).join=some v:=by simpa using e2'
     have ev':σ[p.2]?=some (some v):=by
      cases z:σ[p.2]? with
      | none=>rw [z] at ev; cases ev
      | some o=>rw [z] at ev; exact X4 some ev
     obtain ⟨c1,c2,c3⟩:=O.one.JJ p (List.mem_of_getElem? q);subst ey;obtain ⟨m,hm,hl⟩:=I.loc
     obtain ⟨u,ru,lk⟩:=hl p.2 p.1 v c1 ev' (by
      rcases c2 with c2 | c2
      · exact .inr (.inl c2)
      · exact .inr (.inr c2))
     obtain ⟨c',ec'⟩:=O.one.has p.1 c3;refine ⟨u,ru,.inr ⟨c3,c',ec',?_⟩⟩;rcases lk with ⟨k,_⟩ | ⟨_,c,ec,o,ho,hd⟩
     ·rcases c2 with c2 | c2
      · rw [c2] at k; cases k
      · rw [c2] at k; cases k
     ·have:=O.one.sub p.1 c' ec'
      rw [ec] at this;cases this;exact ⟨o,old _ o ho,hd⟩
 ·obtain ⟨v,o,ho,hd⟩:=I.cell y c (O.one.sub y c e)
  exact ⟨v,o,old c o ho,hd⟩
 · simp [bD,aI]
end
def BK (K:W.Frag) (J:It) (te:TE) (cs:List (Str×Nat)) (σ:St) (Q:VK) (H1:Hp):Prop:=∃ W:Nat->Nat->List V->Hp->Prop,(∃ m,W 0 m [] H1)/\∀ i m ys H',W i m ys H' ->
 (J.stop i H'/\ys.length<=sizeLine/\∀ p,H' p=none->Q (.ref p) (upd H' p (.lst ys))) \/
 (J.go i H'/\ys.length < sizeLine/\∀ v H2,J.yld i H' v H2->∃ T a b,v=.ref T/\SqT K H2 T [a,b]/\te (some a::some b::aI σ cs) H2 λ y H3=>∃ m',m' < m/\W (i+1) m' (ys++[y]) H3)
def Ah (K:W.Frag) (wi:TI) (te:TE) (cs:List (Str×Nat)):TE:=λ σ H Q=>wi σ H λ J H1=>BK K J te cs σ Q H1
section
variable {X:Cx}
def qJ {elt iter:Expr} {x x2:Str} {px px2 pt pos:Pos} {kk:Nat} {scope:Scope} {cl:List (Str×Addr)} {cs:List (Str×Nat)} {te:TE} {pins:List (Addr×Obj)} {σ:St} {H:Hp} {s:Shared} {Q:VK} {it:Addr} {fp:List Addr} {tn:Nat->Heap->Prop} {J:It}
  {RR:Value->Addr->Result->Shared->Prop} {E:Value->Shared->Prop} (hc:X.calm=true) (O:gO X scope cl x x2 cs) (he:∀ s H fp C,PE (bD X scope cl (x::x2::cs.map (·.1)) s H fp C) elt te)
  (I:Inv X pins σ H s) (T:Turn X.prog X.w X.K (.Tuple [.Name x px,.Name x2 px2] kk pt) J fp it tn) (st:tn 0 s.heap) (f2:∀ b ∈ fp,pD X pins H b)
  (h : ∃ W:Nat->Nat->List V->Hp->Prop,(∃ m,W 0 m [] H)/\∀ i m ys H',W i m ys H' ->
    (J.stop i H'/\ys.length<=sizeLine/\∀ p,H' p=none->Q (.ref p) (upd H' p (.lst ys))) \/
    (J.go i H'/\ys.length < sizeLine/\∀ v H2,J.yld i H' v H2->∃ T a b,v=.ref T/\SqT X.K H2 T [a,b]/\te (some a::some b::aI σ cs) H2 λ y H3=>∃ m',m' < m/\W (i+1) m' (ys++[y]) H3))
  (hRR:∀ D C s' H' ys,s.heap.objs.size<=D->s.heap.objs.size<=C->D≠C->(∃ m,s'.heap.Ns C m)->Inv X pins σ (upd H' D (.lst ys)) s'->H' C=none->Q (.ref D) (upd H' D (.lst ys))->RR (.ref D) C (.ok .next) s') :
  wpAny (model X.prog X.w) X.A (newList []) (λ acc s₃=>wpAny (model X.prog X.w) X.A (newFunctionEnv scope X.env.globals cl [] X.env.qual none .none (some X.env)) (λ cenv s₄ =>
    codeAny (model X.prog X.w) X.A (.compStart (.ListComp elt [⟨.Tuple [.Name x px,.Name x2 px2] kk pt,iter,[],0⟩] scope pos) 0 (.ref it) acc { cenv with scope:=relabel scope X.env }) (RR acc cenv.locals) s₄) E s₃) E s:=by
 obtain ⟨W,⟨m0,w0⟩,turn⟩:=h;refine Xk (wpAny_newFunctionEnv O.one.oh (by intro y hy; simp at hy) (λ h₁ hns₁ hsb₁=>?_) O.one.kind);generalize hH2:s.heap.push { cls:=.type "list",dict:=none,data:=.seq ([]:List Value).toArray }=H2 at hns₁ hsb₁ ⊢
 have hC:H2.objs.size=s.heap.objs.size+1:=by rw [<- hH2,Heap.size_push]
 have hDC:s.heap.objs.size≠H2.objs.size:=by rw [hC]; exact Z2 (Wt _)
 have hCle:s.heap.objs.size<=H2.objs.size:=by rw [hC]; exact Nat.le_succ _
 have neC:∀ b,b < s.heap.objs.size->b≠H2.objs.size:=λ b hb=>by rw [hC]; exact Z2 (Nat.lt_succ_of_lt hb)
 have old:∀ b o,s.heap.get? b=some o->h₁.get? b=some o:=λ b o e=>hsb₁.extBut b o (neC b (Zt e)) (Heap.get?_push_of_some _ (hH2 ▸ Heap.get?_push_of_some _ e))
 have hacc:=hsb₁.extBut _ _ hDC (Heap.get?_push_of_some _ (hH2 ▸ Heap.get?_push_size _ rfl))
 have there:∀ b ∈ fp,b < s.heap.objs.size:=λ b hb=>by
  obtain ⟨o,e,_⟩:=T.obj _ _ st b hb;exact Zt e
 have hns:h₁.Ns H2.objs.size λ _=>none:=by
  have e:(λ x=>List.lookup x ([]:List (Str×Value)).reverse)=λ _=>none:=by funext y; rfl
  rw [e] at hns₁
  exact hns₁
 generalize hD:s.heap.objs.size=D at hDC hCle hacc;generalize hCC:H2.objs.size=C at hDC hCle hns ⊢;have FD:=I.sj (b:=D) (by rw [<- hD]; exact Ze _) (I.hok.fresh (by rw [<- hD]; exact Ze _));have nfpD:∀ b ∈ fp,b≠D:=λ b hb=>by rw [<- hD]; exact Z2 (there b hb)
 have nfpC:∀ b ∈ fp,b≠C:=λ b hb=>Z2 (Zz (there b hb) (by rw [hD]; exact hCle))
 have st1:=T.keep _ _ _ st λ b _ o e=>old b o e
 have I1:Inv (bD X scope cl (x::x2::cs.map (·.1)) s H fp C) [] (none::none::aI σ cs) H { s with heap:=h₁,toks:=s.toks+([]:List (Str×Value)).length } :=
  qH O I f2 there (by rw [hD]; exact hCle) old hns
 generalize hY:bD X scope cl (x::x2::cs.map (·.1)) s H fp C=Y at I1
 have pgx:PG Y (.Tuple [.Name x px,.Name x2 px2] kk pt) (MR X.K 2 (DQ (jh 0) (DQ (jh 1) MS))):=by
  subst hY;exact Ao hc (mJ (kJ O.nd2 rfl (.inl (Y2 O.one.own)) (.inr (Y2 O.one.own))) (mJ (kJ O.nd2 rfl (.inl (Y2 O.Ms)) (.inr (Y2 O.Ms))) u0))
 have peY:PE Y elt te:=by subst hY; exact he _ _ _ _
 have Yx:Y.prog=X.prog/\Y.w=X.w/\Y.K=X.K/\Y.A=X.A/\Y.env=compEnvC scope cl C X.env/\Y.calm=X.calm/\Y.xe=(λ _ _=>False)/\Y.pn=[]/\Y.ex=fp/\Y.fs=frs X.stack/\Y.s₀=s/\Y.H₀=H:=by subst hY; exact ⟨rfl,rfl,rfl,rfl,rfl,rfl,rfl,rfl,rfl,rfl,rfl,rfl⟩
 obtain ⟨y1,y2,y3,y4,y5,y6,y7,y8,y9,y10,y11,y12⟩:=Yx;have nstk:∀ b,b≠X.env.locals->b ∉ X.fs->b ∉ Y.fs:=λ b h1 h2 z=>by rw [y10] at z; exact (Zl.mp (I.kB b z)).elim h1 h2
 have yl:Y.env.locals=C:=by rw [y5]; rfl
 have yc:∀ z c,Y.env.cells.lookup z=some c->X.env.cells.lookup z=some c:=λ z c e=>by rw [y5] at e; exact O.one.sub z c e
 have stat:∀ {ps:List (Addr×Obj)} {H':Hp},(∀ b ∈ fp,H' b=none)->(∀ p ∈ ps,p.1=D)->∀ b ∈ fp,pD Y ps H' b:=λ {ps H'} hn hp b hb =>
  ⟨hn b hb,by rw [yl]; exact nfpC b hb,nstk b (f2 b hb).2.1 (f2 b hb).2.2.1,.inl (by rw [y9]; exact hb),λ z c e=>(f2 b hb).2.2.2.2.1 z c (yc z c e),λ p hq=>by
    rw [y8,List.nil_append] at hq;rw [hp p hq]
    exact Ne.symm (nfpD b hb)⟩
 have pinD:∀ {σ':St} {H':Hp} {s':Shared} {ob:Obj},Inv Y [] σ' H' s'->H' D=none->s'.heap.get? D=some ob->(∀ v,ob.data≠.cell v)->Inv Y [(D,ob)] σ' H' s':=λ {σ' H' s' ob} I' hn e hd =>
  I'.fH λ p hp=>by
    have e1:p=(D,ob):=by simpa using hp
    subst e1;exact ⟨e,hn,by rw [yl]; exact hDC,nstk D FD.2.1 FD.2.2.1,hd⟩
 have loop:∀ s₃:Shared,s₃={ s with heap:=h₁,toks:=s.toks+([]:List (Str×Value)).length } ->
    codeAny (model X.prog X.w) X.A (.compLoop (.ListComp elt [⟨.Tuple [.Name x px,.Name x2 px2] kk pt,iter,[],0⟩] scope pos) 0 (.ref it) (.ref D) (compEnvC scope cl C X.env)) (RR (.ref D) C) s₃:=by
  rintro s₃ rfl
  refine jY (λ n s'=>∃ i o o2 H' ys its k,Inv Y [] (o::o2::aI σ cs) H' s'/\tn i s'.heap/\(∀ b ∈ fp,H' b=none)/\H' D=none/\s'.heap.get? D=some { cls:=.type "list",data:=.seq (its:List Value).toArray k }/\cK ys its/\W i n ys H') ?_ m0
    ⟨0,none,none,H,[],[],0,I1,st1,λ b hb=>(f2 b hb).1,FD.1,hacc,.nil,w0⟩
  rintro n s3 ⟨i,o,o2,H3,ys,its,k,I3,st3,fr3,frD,e3,vs3,w3⟩
  have I3p:=pinD I3 frD e3 (by intro v z; cases z)
  have onlyD:∀ p ∈ [(D,({ cls:=.type "list",data:=.seq its.toArray k }:Obj))],p.1=D:=λ p hp=>by
    have e1:=Yj.mp hp;rw [e1]
  rcases turn i n ys H3 w3 with ⟨stop,hz,q⟩ | ⟨go,hz,step⟩
  · have dn:=T.done Y y1 y2 y3 (by rw [y6]; exact hc) i _ s3 (o::o2::aI σ cs) H3 (λ _ _=>False) I3p (stat fr3 onlyD) st3 stop
    rw [y4] at dn;refine thn dn λ r s4 ⟨hr,I4⟩=>?_
    subst hr;obtain ⟨e4,_⟩:=I4.pin (D,_) (Zr _ (Yj.mpr rfl));have b4:=I4.base;rw [y9,y10,y11,y12] at b4;have hk4:=I4.hok;rw [y1,y2] at hk4;have hCn:H3 C=none:=by have:=I4.free; rw [yl] at this; exact this
    refine hRR D C s4 H3 ys (by rw [<- hD]; exact Ze _) (by rw [hD]; exact hCle) hDC (by obtain ⟨m,hm,_⟩:=I4.loc; rw [yl] at hm; exact ⟨m,hm⟩) ?_ hCn (q D frD);have neD:∀ b o,s.heap.get? b=some o->b≠D:=λ b o e=>by rw [<- hD]; exact Z2 (Zt e)
    have neDH:∀ b u,H b=some u->b≠D:=λ b u e=>by rw [<- hD]; exact Z2 (I.hok.lt e)
    refine I.Em (by have:=I4.os; rw [y11] at this; exact this) ⟨b4.keep,b4.slot,λ b o e n hx=>?_,b4.there,λ b xs e=>?_,λ b o u e=>?_,λ b ps e=>?_⟩ (λ b u e=>?_) I4.bare λ b hb=>?_
    · rw [aH (neD b o e)]; exact b4.free b o e n hx
    · rw [aH (neDH b _ e)]; exact b4.uk b xs e
    · rw [aH (neDH b _ e)]; exact b4.t9 b o u e
    · rw [aH (neDH b _ e)]; exact b4.uo b ps e
    ·have t1:∀ c u,H3 c=some u->upd H3 D (.lst ys) c=some u:=λ c u z=>by
      rw [aH (λ zz=>by rw [zz,frD] at z; cases z)];exact z
     by_cases hb:b=D
     ·subst hb
      rw [aO] at e;cases e;exact ⟨hz,its,k,vs3,e4⟩
     ·rw [aH hb] at e
      exact (hk4 b u e).sU (λ _ _ _ z=>z) (λ c z=>t1 c _ z) λ c xs z=>t1 c _ z
    · exact ⟨(f2 b hb).2.2.2.1,(f2 b hb).2.1,(f2 b hb).2.2.2.2.1,(f2 b hb).2.2.2.2.2⟩
  · have im:=T.item Y y1 y2 y3 (by rw [y6]; exact hc) i _ s3 (o::o2::aI σ cs) H3 (λ _ _=>False) I3p (stat fr3 onlyD) st3 go
    rw [y4] at im;refine thn im λ r s4 ⟨u,hr,h4⟩=>?_
    subst hr;refine thn h4 λ _ s5 ⟨v,H5,I5,r5,y5',st5,fr5⟩=>?_
    have I5':=I5.pinned (stat fr5 onlyD) (T.obj _ _ st5);obtain ⟨T5,va,vb,ev5,sq5,step5⟩:=step v H5 y5';have as:=pgx _ s5 (o::o2::aI σ cs) H5 v u (λ σ' H'=>σ'=some va::some vb::aI σ cs/\H'=H5) I5' r5 ⟨T5,[va,vb],ev5,sq5,rfl,va,[vb],rfl,vb,[],rfl,rfl,rfl,rfl⟩;rw [y1,y2,y4,y5,y7] at as;refine thn as λ _ s6 ⟨σ6,H6,I6,e6,e6'⟩=>?_
    subst e6 e6';have el:=peY _ s6 _ H6 _ I6 step5;rw [y1,y2,y4,y5,y7] at el;refine thn el λ u7 s7 ⟨y7',H7,I7,r7,m',hm',w7⟩=>?_
    obtain ⟨e7,n7,_⟩:=I7.pin (D,_) (Zr _ (Ys _ (Yj.mpr rfl)));have hl3:=vs3.length;refine call_meets F.slot_list_append ⟨_,e7,rfl⟩ Wx (Wo _ _) (PySem.list_append D its.toArray k u7 (by rw [Zp]; omega)) ⟨e7,?_⟩;obtain ⟨k',up⟩:∃ k',(s7.heap.update D (Obj.mapSeq (·.push u7))).get? D=some { cls:=.type "list",data:=.seq (its.toArray.push u7) k' }:=⟨_,PySem.IsL.update e7 (·.push u7)⟩
    have fpk:∀ b ∈ fp,∀ o,s5.heap.get? b=some o->s7.heap.get? b=some o/\H7 b=none:=λ b hb o e=>by
     obtain ⟨z1,z2,_⟩:=I7.pin (b,o) (Zr _ (Zr _ (eD hb e)));exact ⟨z1,z2⟩
    have I7n:Inv Y [] (some va::some vb::aI σ cs) H7 s7:=I7.fH λ p hp=>absurd hp (by simp)
    refine ⟨m',hm',i+1,some va,some vb,H7,ys++[y7'],its++[u7],k',?_,?_,?_,n7,?_,vs3.append (.cons r7 .nil),w7⟩
    ·refine I7n.turned (λ b o hb e=>(Heap.get?_update_other s7.heap (Obj.mapSeq (·.push u7)) (Ne.symm hb)).trans e) n7 (by rw [yl]; exact hDC) (.inr (by rw [y11,<- hD]; exact Ze _)) (λ z c e=>FD.2.2.2.2.1 z c (yc z c e)) λ p hp=>?_
     rw [y8] at hp;exact absurd hp (by simp)
    ·refine T.keep _ _ _ st5 λ b hb o e=>?_
     exact (Heap.get?_update_other s7.heap (Obj.mapSeq (·.push u7)) (Ne.symm (nfpD b hb))).trans (fpk b hb o e).1
    ·intro b hb
     obtain ⟨o',e',_⟩:=T.obj _ _ st5 b hb;exact (fpk b hb o' e').2
    ·rw [List.push_toArray] at up
     exact up
 exact codeAny_compStart_list (loop _ rfl) (T.self _ 0 _ _ _ st1 (loop _ rfl))
def rq {elt iter:Expr} {x x2 y:Str} {px px2 pt py pos spos:Pos} {kk:Nat} {i:Nat} {scope:Scope} {cl:List (Str×Addr)} {cs:List (Str×Nat)} {wi:TI} {te:TE} (hN:X.N.Nodup) (hy:X.N[i]?=some y) (hx:Loc X.env.scope y)
  (hc:X.calm=true) (O:gO X scope cl x x2 cs) (hi:PI X (.Tuple [.Name x px,.Name x2 px2] kk pt) iter wi)
  (he:∀ s H fp C,PE (bD X scope cl (x::x2::cs.map (·.1)) s H fp C) elt te) (hs:∀ x,foldedSetIterable iter X.env x=pure x:=by intro _; rfl)
  (hsw:swapsWith (.ListComp elt [⟨.Tuple [.Name x px,.Name x2 px2] kk pt,iter,[],0⟩] scope pos) (some (.Name y py)) spos.line X.env=pure true:=by rfl)
  (hf:X.fn y=true\/X.env.scope.names.lookup y=some .local:=by first | exact .inl rfl | exact .inr rfl | assumption) :
  PS X (.Assign [.Name y py] (.ListComp elt [⟨.Tuple [.Name x px,.Name x2 px2] kk pt,iter,[],0⟩] scope pos) spos) (E4 (Ah X.K wi te cs) (jh i)):=by
 intro pins s σ H Dd I h;rw [exec_Assign_Name_used _ _ _ _ hsw];refine Zi (Wy (Zi ?_))
 refine Zi (Yt (Xg rfl hs O.one.Ek O.one.kind O.one.names (thn (hi pins s σ H _ I h) λ v s1 h1=>thn h1 λ itv s2 h2=>?_))
  (λ _ s' hq=>Z0 (Z0 hq)) λ _ _ e=>e)
 obtain ⟨it,fp,tn,J,H2,rfl,I2,T,st2,f2,hw⟩:=h2;refine qJ (Q:=λ v H1=>jh i v σ H1 Dd.nx) hc O he I2 T st2 f2 hw λ D C s' H' ys hD hC hDC ⟨m,hm⟩ I' hn q=>?_
 have hn':upd H' D (.lst ys) C=none:=by rw [aH (Ne.symm hDC)]; exact hn
 have FC:=I2.sj hC hn';refine wpAny_assign_Name (iZ I' hN hy hx (v:=.ref D) rfl (λ s'' I'' ⟨a,hsb,ha⟩=>?_) hf)
 have na:C≠a:=by
  rcases ha with ha | ha
  · rw [ha]; exact FC.2.1
  · exact Ne.symm (FC.2.2.2.2.1 y a ha)
 refine ⟨m,hm.sameBut hsb na,λ h' hs'=>?_⟩;exact ⟨σ.set i (some (.ref D)),upd H' D (.lst ys),I''.turned (λ b o hb e=>(hs'.2 b hb).trans e) hn' FC.2.1 FC.2.2.2.1 FC.2.2.2.2.1 FC.2.2.2.2.2,q⟩
end
def pairD (g:DE) (τ:List Sl) (cs:List (Str×Nat)):D->Option D
 | .tup [a,b]=>g (.shr a::.shr b::fq τ cs)
 | _=>none
def gz (it:DI) (g:DE) (cs:List (Str×Nat)):DE:=λ τ=>(it τ).bind λ ds=>if ds.length<=100000 then (kj (pairD g τ cs) ds).map .lst else none
section
variable {X:Cx} {e:Expr} {es:List Expr} {pos:Pos}
def sL {K:W.Frag} {it:DI} {g:DE} {cs:List (Str×Nat)} {σ:St} {H:Hp} {Q:VK} (h:rdO K (gz it g cs) σ H Q):Ah K (rdI K it) (rdE K g) cs σ H Q:=by
 obtain ⟨H0,Hs,τ,fp,d,st,sm,e,k⟩:=h;obtain ⟨ds,e1,e2⟩:=bind_some e;split at e2
 ·rename_i hl
  obtain ⟨full,e3,rfl⟩:=Zm e2;refine ⟨H0,Hs,τ,fp,ds,st,sm,e1,λ J Hs1 H1 g1 hJ=>?_⟩;refine ⟨λ i m ys H'=>m=ds.length - i/\i<=ds.length/\∃ Hs2 es rest,Ext Hs1 H1 Hs2 H'/\Rps K Hs2 ys es/\es.length=i/\kj (pairD g τ cs) (ds.drop i)=some rest/\es++rest=full,⟨ds.length,by simp,Zs _,Hs1,[],full,.refl g1.sh,.nil,rfl,by simpa using e3,rfl⟩,?_⟩
  rintro i m ys H2 ⟨rfl,hi,Hs2,es,rest,g2,ry,ley,e4,e5⟩
  obtain ⟨hgo,hstop⟩:=hJ Hs2 H2 g2.ss g2.sh;have ly:ys.length=i:=by rw [ry.length,ley]
  by_cases hlt:i < ds.length
  ·have ed:=Yl hlt
   rw [ed] at e4;obtain ⟨x,q1,q2⟩:=bind_some e4;obtain ⟨xs,q3,q4⟩:=bind_some q2;have eq:=Zj q4;subst eq;obtain ⟨go,yl⟩:=hgo i ds[i] (List.getElem?_eq_getElem hlt);refine .inr ⟨go,by rw [ly]; exact le5 (by omega),λ v H3 y=>?_⟩;obtain ⟨Hs3,g3,rv⟩:=yl v H3 y;have g13:=(g1.trans g2).trans g3
   have key:∃ d1 d2,ds[i]=.tup [d1,d2]/\g (.shr d1::.shr d2::fq τ cs)=some x:=by
    generalize ds[i]=dd at q1
    cases dd with
    | tup es=>match es,q1 with
     | [d1,d2],q1=>exact ⟨d1,d2,rfl,q1⟩
     | [],q1=>simp [pairD] at q1
     | [_],q1=>simp [pairD] at q1
     | _::_::_::_,q1=>simp [pairD] at q1
    | _=>simp [pairD] at q1
   obtain ⟨d1,d2,ed12,q1'⟩:=key;rw [ed12] at rv
   cases rv with
   | @tup T xs3 _ hsq rr=>cases rr with
    | @cons v1 _ xs4 _ rv1 rr=>cases rr with
     | @cons v2 _ xs5 _ rv2 rr=>cases rr with
      | nil =>
   refine ⟨T,v1,v2,rfl,g3.sh.tup hsq,?_⟩;refine ⟨H0,Hs3,.shr d1::.shr d2::fq τ cs,[],x,.shr rv1 (.shr rv2 (kA (st.ext g13) cs)),g3.sh,q1',λ v4 Hs4 H4 g4 r4=>?_⟩;exact ⟨ds.length - (i+1),by omega,rfl,hlt,Hs4,es++[x],xs,(g2.trans g3).trans g4,((ry.same g3.ss).same g4.ss).append (.cons r4 .nil),by simp [ley],q3,by rw [<- e5]; simp⟩
  ·have e0:i=ds.length:=by omega
   subst e0;rw [Wa] at e4;have er:=Zj e4;subst er;rw [Yi] at e5;subst e5;refine .inl ⟨hstop _ (Ze _),by rw [ly]; exact vK hl,λ p hp=>?_⟩;have g12:=g1.trans g2;exact k p Hs2 _ ⟨g12.ss,g12.sh.trans (aW hp _),g12.hh.trans (aW hp _),g12.fr⟩ (.lst aO (g12.sh.free hp) ry) (g12.hh.free hp)
 · cases e2
end
section
variable {K:W.Frag} {H0 Hs H Hs' H':Hp} {σ:List (Option V)} {τ:List Sl} {fp:List Addr}
def StR.Nn (h:StR K H0 Hs H σ τ fp):∃ fp',(∀ a ∈ fp',a ∈ fp)/\StR K H0 Hs H (σ.set i o) (τ.set i .no) fp':=by
 induction h generalizing i with
 | nil=>exact ⟨[],λ _ h=>h,.nil⟩
 | @no o' σ τ fp r ih =>
  cases i with
  | zero=>exact ⟨fp,λ _ h=>h,.no r⟩
  | succ i=>obtain ⟨fp',h1,h2⟩:=ih; exact ⟨fp',h1,.no h2⟩
 | @shr v d σ τ fp h r ih =>
  cases i with
  | zero=>exact ⟨fp,λ _ h=>h,.no r⟩
  | succ i=>obtain ⟨fp',h1,h2⟩:=ih (i:=i); exact ⟨fp',h1,.shr h h2⟩
 | @own b d' σ τ fp h z m r ih =>
  cases i with
  | zero=>exact ⟨fp,λ a q=>Zg _ q,.no r⟩
  | succ i =>
   obtain ⟨fp',h1,h2⟩:=ih (i:=i);refine ⟨b::fp',λ c hc=>?_,.own h z (λ q=>m (h1 _ q)) h2⟩;rcases Zl.mp hc with e | e
   · subst e; exact Zo ..
   · exact Zg _ (h1 c e)
def StR.take (h:StR K H0 Hs H σ τ fp):τ[i]?=some (.own d)->∃ a fp',σ[i]?=some (some (.ref a))/\Ow K Hs H a d/\H0 a=none/\a ∉ fp'/\(∀ b ∈ fp',b ∈ fp)/\StR K H0 Hs H σ (τ.set i .no) fp':=by
 induction h generalizing i with
 | nil=>intro e; simp at e
 | @no o' σ τ fp r ih =>
  cases i with
  | zero=>intro e; simp at e
  | succ i =>
   intro e;obtain ⟨a,fp',h1,h2,h3,h4,h5,h6⟩:=ih (by simpa using e);exact ⟨a,fp',by simpa using h1,h2,h3,h4,h5,.no h6⟩
 | @shr v d' σ τ fp h r ih =>
  cases i with
  | zero=>intro e; simp at e
  | succ i =>
   intro e;obtain ⟨a,fp',h1,h2,h3,h4,h5,h6⟩:=ih (i:=i) (by simpa using e);exact ⟨a,fp',by simpa using h1,h2,h3,h4,h5,.shr h h6⟩
 | @own b d' σ τ fp h z m r ih =>
  cases i with
  | zero =>
   intro e;have e':d'=d:=by simpa using e
   subst e';exact ⟨b,fp,rfl,h,z,m,λ c q=>Zg _ q,.no r⟩
  | succ i =>
   intro e;obtain ⟨a,fp',h1,h2,h3,h4,h5,h6⟩:=ih (i:=i) (by simpa using e)
   have ha:a ∈ fp:=by
    obtain ⟨a',q1,_,_,q4⟩:=r.A9 (i:=i) (by simpa using e);have q1':σ[i]?=some (some (.ref a)):=by simpa using h1
    rw [q1'] at q1;cases q1;exact q4
   refine ⟨a,b::fp',by simpa using h1,h2,h3,λ q=>?_,λ c hc=>?_,.own h z (λ q=>m (h5 _ q)) h6⟩
   ·rcases Zl.mp q with e | e
    · subst e; exact m ha
    · exact h4 e
   ·rcases Zl.mp hc with e | e
    · subst e; exact Zo ..
    · exact Zg _ (h5 c e)
end
def EF (w b:Nat) (c:DT):DS:=λ τ=>if w < τ.length then match τ[b]? with
 | some (.own d)=>(c τ).bind λ k=>if k=true then some (.next (τ.set w .no)) else some (.next ((τ.set b .no).set w (.own d)))
 | _=>none else none
def h9 (j:Nat) (f g:DE):DS:=λ τ=>(f τ).bind λ v=>(g τ).bind λ y=>match y,τ[j]? with
 | .int k,some (.own (.lst ds))=>(ixN ds.length k).map λ n=>.next (τ.set j (.own (.lst (ds.set n v))))
 | _,_=>none
def j9 (i:Nat) (f:DE):DE:=λ τ=>match τ[i]? with
 | some (.own d0)=>(f (τ.set i (.shr d0))).bind λ d=>match d with
  | .lst ds=>if jk ds=true then some (.lst ds) else none
  | _=>none
 | _=>f τ
def xE {K:W.Frag} {i:Nat} {f:DE} {σ:St} {H:Hp} {Q:VK} (h:rdO K (j9 i f) σ H Q):rdO K f σ H Q:=by
 obtain ⟨H0,Hs,τ,fp,d,st,sm,e,k⟩:=h;unfold j9 at e;split at e
 ·rename_i d0 q
  obtain ⟨d1,e1,e2⟩:=bind_some e
  cases d1 with
  | lst ds =>
   simp only at e2
   by_cases hf:jk ds=true
   ·rw [if_pos hf] at e2
    have e':=Zj e2;subst e';obtain ⟨a,o,fp',h1,h2,h3,h4,h5,h6,h7,h8⟩:=st.frz q;refine ⟨H0,upd Hs a o,_,fp',_,h4,sm.frz h1,e1,λ p Hs' H' g r z=>?_⟩;refine k p (jC a Hs') H' (g.BG h2 h1) ?_ z
    cases r with
    | @lst xs _ hH hn hr =>
     refine .lst hH ?_ (hr.hide (g.ss _ _ aO) (h8.obj h1) hf)
     unfold jC;split
     · rfl
     · exact hn
   · rw [if_neg hf] at e2; cases e2
  | _=>simp at e2
 · exact ⟨H0,Hs,τ,fp,d,st,sm,e,k⟩
section
variable {X:Cx} {e i value:Expr} {es:List Expr} {pos pos':Pos} {f g:DE}
def sZ (j:Nat) {elt iter:Expr} {x x2 y:Str} {px px2 pt py spos:Pos} {kk:Nat} {i:Nat} {scope:Scope} {cl:List (Str×Addr)} {cs:List (Str×Nat)} {it:DI} {g:DE} (hN:X.N.Nodup) (hy:X.N[i]?=some y) (hx:Loc X.env.scope y)
  (hc:X.calm=true) (O:gO X scope cl x x2 cs) (hi:PId X (.Tuple [.Name x px,.Name x2 px2] kk pt) iter it)
  (he:∀ s H fp C,PEd (bD X scope cl (x::x2::cs.map (·.1)) s H fp C) elt g) (hs:∀ x,foldedSetIterable iter X.env x=pure x:=by intro _; rfl)
  (hsw:swapsWith (.ListComp elt [⟨.Tuple [.Name x px,.Name x2 px2] kk pt,iter,[],0⟩] scope pos) (some (.Name y py)) spos.line X.env=pure true:=by rfl)
  (hf:X.fn y=true\/X.env.scope.names.lookup y=some .local:=by first | exact .inl rfl | exact .inr rfl | assumption) :
  PSd X (.Assign [.Name y py] (.ListComp elt [⟨.Tuple [.Name x px,.Name x2 px2] kk pt,iter,[],0⟩] scope pos) spos) (gs i (j9 j (gz it g cs))):=(rq (te:=rdE X.K g) hN hy hx hc O hi he hs hsw hf).imp λ E σ H ⟨Hs0,H0,Hs,τ,o,r,e,k⟩=>by
 unfold gs at e;split at e
 ·rename_i hl
  obtain ⟨d,e1,rfl⟩:=Zm e;obtain ⟨fp,h⟩:=r.st;refine sL (xE ⟨H0,Hs,τ,fp,d,h,r.same,e1,λ v Hs' H' g1 rv z=>?_⟩);obtain ⟨fp',_,h'⟩:=(h.ext g1).Ig rv (r.old z) (kK h z) hl;exact k _ Hs' H' ⟨r.ext.trans g1,fp',h'⟩
 · cases e
def pP (j:Nat) {elt iter:Expr} {x x2 y:Str} {px px2 pt py spos:Pos} {kk:Nat} {i:Nat} {scope:Scope} {cl:List (Str×Addr)} {cs:List (Str×Nat)} {it:DI} {g:DE} (hN:X.N.Nodup) (hy:X.N[i]?=some y) (hx:Loc X.env.scope y)
  (hc:X.calm=true) (O:gO X scope cl x x2 cs) (hi:PId X (.Tuple [.Name x px,.Name x2 px2] kk pt) iter it)
  (he:∀ s H fp C,PEd (bD X scope cl (x::x2::cs.map (·.1)) s H fp C) elt g) (hs:∀ x,foldedSetIterable iter X.env x=pure x:=by intro _; rfl)
  (hsw:swapsWith (.ListComp elt [⟨.Tuple [.Name x px,.Name x2 px2] kk pt,iter,[],0⟩] scope pos) (some (.Name y py)) spos.line X.env=pure true:=by rfl)
  (hf:X.fn y=true\/X.env.scope.names.lookup y=some .local:=by first | exact .inl rfl | exact .inr rfl | assumption) :
  PSd X (.Assign [.Name y py] (.ListComp elt [⟨.Tuple [.Name x px,.Name x2 px2] kk pt,iter,[],0⟩] scope pos) spos) (bA i (j9 j (gz it g cs))):=(rq (te:=rdE X.K g) hN hy hx hc O hi he hs hsw hf).imp λ E σ H ⟨Hs0,H0,Hs,τ,o,r,e,k⟩=>by
 obtain ⟨d,e1,rfl⟩:=Zm e;obtain ⟨fp,h⟩:=r.st;refine sL (xE ⟨H0,Hs,τ,fp,d,h,r.same,e1,λ a Hs' H' g1 rv z=>?_⟩);obtain ⟨Hs2,g2,r2⟩:=SlV.shr (s:=.own d) g1 ⟨a,rfl,rv,z⟩ rfl;obtain ⟨fp',_,h'⟩:=(h.ext g2).ED r2;exact k _ Hs2 H' ⟨r.ext.trans g2,fp',h'⟩
def Cm (c:DT) (hN:X.N.Nodup) (hi:X.N[w]?=some x) (hx:Loc X.env.scope x) (hb:X.N[b]?=some y) (hv:Vis X.env.scope y) (hd:(y == ("__debug__":Str))=false:=by decide) (hcd:(y == ("__classdict__":Str))=false:=by decide)
  (hs:swapsWith (.Name y p) (some (.Name x pos')) pos.line X.env=pure false:=by rfl) (hf:X.fn x=true\/X.env.scope.names.lookup x=some .local:=by first | exact .inl rfl | exact .inr rfl | assumption) :
  PSd X (.Assign [.Name x pos'] (.Name y p) pos) (EF w b c):=(uT hN hi hx (jR hb hv hd hcd) hs hf).imp λ E σ H ⟨Hs0,H0,Hs,τ,o,r,e,k⟩=>by
 unfold EF at e;split at e
 ·rename_i hl
  split at e
  ·rename_i d q
   obtain ⟨kk,e1,e2⟩:=bind_some e;obtain ⟨fp,h⟩:=r.st;obtain ⟨a,fp',h1,h2,h3,h4,h5,h6⟩:=h.take q;refine ⟨_,h1,?_⟩
   by_cases hk:kk=true
   ·rw [if_pos hk] at e2
    cases e2;obtain ⟨fp2,_,h7⟩:=h.Nn;exact k _ Hs H ⟨r.ext,fp2,h7⟩
   ·rw [if_neg hk] at e2
    cases e2;obtain ⟨fp2,_,h7⟩:=h6.Ig (i:=w) h2 h3 h4 (by rw [X3]; exact hl);exact k _ Hs H ⟨r.ext,fp2,h7⟩
  · cases e
 · cases e
def yv (j:Nat) (hN:X.N[j]?=some x) (hv:Vis X.env.scope x) (hval:PEd X value f) (hi:PEd X i g) (hd:(x == ("__debug__":Str))=false:=by decide) (hcd:(x == ("__classdict__":Str))=false:=by decide)
  (ha:∀ v,assign (.Subscript (.Name x p) i pos') X.env v=(do
    let ov <- holding [v] (eval (.Name x p) X.env)
    let iv <- holding [v,ov] (eval i X.env)
    standAt pos'
    holding [v,ov,iv] (setItem ov iv v)
    release [v,ov,iv] []):=by intro _; rfl) (hs:swapsWithSole [.Subscript (.Name x p) i pos'] value pos.line X.env=pure false:=by rfl) (hw:swappedStores [.Subscript (.Name x p) i pos'] value X.env=pure none:=by rfl)
  (h1:(assignEach [.Subscript (.Name x p) i pos'] X.env).map (·.2)=[assign (.Subscript (.Name x p) i pos') X.env]:=by rfl) :
  PSd X (.Assign [.Subscript (.Name x p) i pos'] value pos) (h9 j f g):=(An hval (FA (jR hN hv hd hcd) hi set_list ha) hs hw h1).imp λ E σ H ⟨Hs0,H0,Hs,τ,o,r,e,k⟩=>by
 obtain ⟨dv,e1,e⟩:=bind_some e;obtain ⟨dy,e2,e⟩:=bind_some e;obtain ⟨fp,h⟩:=r.st;split at e
 ·rename_i kk ds q
  obtain ⟨n,en,ee⟩:=Zm e;subst ee;obtain ⟨a,h1,h2,h3,h4⟩:=h.A9 q
  cases h2 with
  | @lst xs _ hH hn hr =>
    refine ⟨H0,Hs,τ,fp,dv,h,r.same,e1,λ v Hs1 H1 g1 rv=>?_⟩;refine ⟨_,h1,?_⟩;refine ⟨H0,Hs1,τ,fp,_,h.ext g1,g1.sh,e2,λ y Hs2 H2 g2 ry=>?_⟩
    cases ry with
    | int _ =>
     have g12:=g1.trans g2;have hH':=g12.hh _ _ hH;have h':=h.ext g12;have n':=g12.fr a hn (jv hH);refine ⟨a,xs,kk,n,rfl,rfl,hH',by rw [hr.length]; exact en,?_⟩;refine k σ Hs2 _ ⟨⟨r.ext.ss.trans g12.ss,λ b u z=>?_,λ b u z=>?_,λ b k1 k2=>?_⟩,fp,h'.mut q h1 (.lst aO n' (Rps.set n (hr.same g12.ss) (rv.same g2.ss)))⟩
     ·have ne:b≠a:=λ y=>by subst y; rw [n'] at z; cases z
      rw [aH ne]; exact g12.sh b u z
     ·have ne:b≠a:=λ y=>by subst y; rw [h3] at z; cases z
      rw [aH ne]; exact g12.hh b u (r.ext.hh b u z)
     · exact g12.fr b (r.ext.fr b k1 k2) (r.ext.hh.live k2)
 · cases e
end
structure Bx (p:Prop):Prop where
 out:p
def Itd (hi:Int) (n:Nat):It:=⟨λ i _=>i < n,λ i H x H'=>H'=H/\x=.int (hi - (i:Int)),λ i _=>n<=i⟩
def nM {P:Program} {w:World} {K:W.Frag} {tg:Expr} (it:Addr) (hi:Int) (n:Nat):Turn P w K tg (Itd hi n) [it] it (λ i h=>IsRangeIter h it (hi - (i:Nat)) ((n:Int) - (i:Nat)) (-1)) where
 mem:=by simp
 obj:=λ i h st b hb=>by
  have e:b=it:=by simpa using hb
  subst e
  exact ⟨_,st,λ v z=>by
   have z':=z
   cases z'⟩
 keep:=λ i h h' st k=>k it (by simp) _ st
 item:=by
  intro X hP hw hK hc i pins s σ H E I hf st hg;subst hP hw hK;have hg':i < n:=hg;obtain ⟨f0,f1,f2,f3,f4,f5⟩:=hf it (by simp);refine wpAny_pyNext_range_item st (by omega) λ h' st' sb=>?_
  have I1:=I.turned (t':=s.toks+1) (λ b o hb e=>(sb.2 b hb).trans e) f0 f1 f3 f4 f5
  have st2:IsRangeIter h' it (hi - ((i+1:Nat):Int)) ((n:Int) - ((i+1:Nat):Int)) (-1):=by
   have e1:hi - (i:Int)+-1=hi - ((i+1:Nat):Int):=by omega
   have e2:(n:Int) - (i:Int) - 1=(n:Int) - ((i+1:Nat):Int):=by omega
   rw [<- e1,<- e2];exact st'
  exact ⟨_,rfl,zE st' rfl rfl (by decide) ⟨.int (hi - (i:Int)),H,I1,⟨_,rfl⟩,⟨rfl,rfl⟩,st2,λ b hb=>(hf b hb).1⟩⟩
 done:=by
  intro X hP hw hK hc i pins s σ H E I hf st hg;subst hP hw hK;obtain ⟨f0,f1,f2,f3,f4,f5⟩:=hf it (by simp);exact wpAny_pyNext_range_end (I.ok.hd hc) st (by have:n<=i:=hg; omega) λ h' eb=>⟨rfl,I.turned (λ b o hb e=>eb b o hb e) f0 f1 f3 f4 f5⟩
 self:=λ _ _ _ _ _ st h=>wpAny_pyIter_rangeiter st h
section
variable {X:Cx} {tg a b c:Expr} {p pos:Pos}
def L5 (ta:TA):TI:=λ σ H R=>ta σ H λ vs H1=>∃ i j,vs=[.int i,.int j,.int (-1)]/\(-1000000<=i/\i<=1000000/\-1000000<=j/\j<=1000000)/\R (Itd i (i - j).toNat) H1
def CF (hg:Gl X "range") (hm:X.mg "range"=none) (ha:PA X [a,b,c] ta) (hs:starEach [a,b,c] X.env=[(false,eval a X.env),(false,eval b X.env),(false,eval c X.env)]:=by rfl) (hs2:starEach [b,c] X.env=[(false,eval b X.env),(false,eval c X.env)]:=by rfl) :
  PI X tg (.Call (.Name "range" p) [a,b,c] [] pos) (L5 ta):=by
 intro pins s σ H R I h;refine Call_ (je I hg hm boot_range (Yo (thn (ha pos pins s σ H _ I h) λ us s1 ⟨vs,H1,I1,r1,q1⟩=>?_) (by rw [hs,hs2]) (by rw [hs2]; rfl)));obtain ⟨i,j,e,⟨b1,b2,b3,b4⟩,q⟩:=q1;subst e
 cases r1 with
 | cons r rr=>cases rr with
  | cons r' rr=>cases rr with
   | cons r'' rr =>
    cases rr;obtain ⟨t,rfl⟩:=r;obtain ⟨t',rfl⟩:=r';obtain ⟨t'',rfl⟩:=r'';refine PySem.call_range_3 (by decide) ?_ (Or.inl (PyProof.noPylong_small (by omega)))
    have rs:Builtin.Range.rangeSize i j (-1)=((i - j).toNat:Int):=by
     unfold Builtin.Range.rangeSize;rw [if_neg (by decide)];split <;> simp <;> omega
    have fl:∀ x:Int,-3000000<=x->x<=3000000->Builtin.Range.rangeFitsLong x=true:=λ x h1 h2=>by
     unfold Builtin.Range.rangeFitsLong;simp only [Yq,decide_eq_true_eq];omega
    refine wpAny_pyIter_range (IsRange.new ..) (by
     unfold Builtin.Range.small;rw [rs,fl i (by omega) (by omega),fl j (by omega) (by omega),fl (-1) (by decide) (by decide),fl ((i - j).toNat:Int) (by omega) (by omega),if_neg (by decide),fl (j+(-1+1)) (by omega) (by omega)]
     simp) ?_
    have I2:Inv X pins σ H1 { s1 with heap:=s1.heap.push { cls:=.type "range",data:=.fields #[.int i t,.int j t',.int (-1) t''] },toks:=s1.toks }:=I1.kept λ b o e=>Heap.get?_push_of_some _ e
    refine ⟨_,[(s1.heap.push { cls:=.type "range",data:=.fields #[.int i t,.int j t',.int (-1) t''] }).objs.size],_,_,H1,rfl,I2.kept λ b o e=>Heap.get?_push_of_some _ e,nM _ i (i - j).toNat,?_,λ b hb=>?_,q⟩
    ·have e1:i - ((0:Nat):Int)=i:=by simp
     have e2:(((i - j).toNat:Nat):Int) - ((0:Nat):Int)=Builtin.Range.rangeSize i j (-1):=by
      unfold Builtin.Range.rangeSize;rw [if_neg (by decide)];split <;> simp <;> omega
     rw [e1,e2];exact Heap.get?_push_size _ rfl
    ·have e:b=(s1.heap.push { cls:=.type "range",data:=.fields #[.int i t,.int j t',.int (-1) t''] }).objs.size:=by simpa using hb
     subst e;exact I2.sj (Ze _) (I2.hok.fresh (Ze _))
def j8 (hi:Int) (n:Nat):List D:=(List.range n).map λ (i:Nat)=>D.int (hi - (i:Int))
def rR {K:W.Frag} {Hs:Hp} (hi:Int) (n:Nat):ItR K (Itd hi n) Hs (j8 hi n):=λ Hs1 H g1 g2=>by
 refine ⟨λ i d e=>?_,λ i hi=>show n<=i by simpa [j8] using hi⟩;unfold j8 at e;rw [List.getElem?_map] at e
 by_cases h:i < n
 ·rw [List.getElem?_range h] at e
  have e':D.int (hi - i)=d:=by simpa using e
  subst e';refine ⟨h,λ x H' ⟨e1,e2⟩=>?_⟩;subst e1 e2;exact ⟨Hs1,.refl g2,.int _⟩
 ·rw [List.getElem?_eq_none (by simpa using h)] at e
  cases e
def gZ (f:DA):DI:=λ τ=>(f τ).bind λ ds=>match ds with | [.int i,.int j,.int k]=>if k=-1/\-1000000<=i/\i<=1000000/\-1000000<=j/\j<=1000000 then some (j8 i (i - j).toNat) else none | _=>none
def yF (hg:Gl X "range") (hm:X.mg "range"=none) (ha:PAd X [a,b,c] f) (hs:starEach [a,b,c] X.env=[(false,eval a X.env),(false,eval b X.env),(false,eval c X.env)]:=by rfl) (hs2:starEach [b,c] X.env=[(false,eval b X.env),(false,eval c X.env)]:=by rfl) :
  PId X tg (.Call (.Name "range" p) [a,b,c] [] pos) (gZ f):=(CF hg hm ha hs hs2).imp λ σ H R ⟨H0,Hs,τ,fp,ds,st,sm,e,k⟩=>by
 obtain ⟨x,e1,e2⟩:=bind_some e;refine ⟨H0,Hs,τ,fp,x,st,sm,e1,λ v Hs' H' g r=>?_⟩
 match x,r,e2 with
 | [x1,x2,x3],.cons h1 (.cons h2 (.cons h3 .nil)),e2 =>
  obtain ⟨i,rfl⟩:∃ i,x1=.int i:=by cases x1 <;> first | exact ⟨_,rfl⟩ | exact nn e2
  obtain ⟨j,rfl⟩:∃ i,x2=.int i:=by cases x2 <;> first | exact ⟨_,rfl⟩ | exact nn e2
  obtain ⟨m,rfl⟩:∃ i,x3=.int i:=by cases x3 <;> first | exact ⟨_,rfl⟩ | exact nn e2
  cases h1; cases h2; cases h3
  simp only at e2;split at e2
  ·rename_i hh
   obtain ⟨hm1,hb⟩:=hh;subst hm1;have e':=Zj e2;subst e';exact ⟨i,j,rfl,hb,k _ Hs' H' g (rR i _)⟩
  · cases e2
 | [],_,e2=>simp at e2
 | [_],_,e2=>simp at e2
 | [_,_],_,e2=>simp at e2
 | _::_::_::_::_,_,e2=>simp at e2
end
end L2
end
section
namespace PySem
open AutoSeq1 (wpAny_loadPart')
section
variable {prog:Program} {w:World} {A:Around} {E:Value->Shared->Prop} {s:Shared}
def kx:isSubtype (.type "range_iterator") (.type "reversed")=pure false:=by rfl
def ma (hr:IsRange s.heap r a b c t u v)
  (hs:(Builtin.Range.rangeFitsLong a&&Builtin.Range.rangeFitsLong b&&Builtin.Range.rangeFitsLong c&&Builtin.Range.rangeFitsLong (-c)&&Builtin.Range.rangeFitsLong (a - c)&&Builtin.Range.rangeFitsLong (Builtin.Range.rangeSize a b c))=true)
  (h:Q (.ref s.heap.objs.size) { s with heap:=s.heap.push { cls:=.type "range_iterator",data:=.fields #[rawInt (a+(Builtin.Range.rangeSize a b c - 1) * c),rawInt (Builtin.Range.rangeSize a b c),rawInt (-c)] } }) :
  wpAny (model prog w) A (call (.builtin "range.__reversed__") [.ref r]) Q E s:=by
 have hT:s.TypeIs (.ref r) "range":=⟨_,hr,rfl⟩
 refine wpAny_call_entry F.slot_range_reversed hT F.entry_range_reversed ?_ (F.args_range_reversed_1 _)
 obtain ⟨hp,g,d,tk,os⟩:=s
 wp_walk using wpAny_loadPart' hr
 rw [hs]
 wp_walk
 exact ⟨_,rfl,h⟩
def jF (hr:IsRange s.heap r a b c t u v)
  (hs:(Builtin.Range.rangeFitsLong a&&Builtin.Range.rangeFitsLong b&&Builtin.Range.rangeFitsLong c&&Builtin.Range.rangeFitsLong (-c)&&Builtin.Range.rangeFitsLong (a - c)&&Builtin.Range.rangeFitsLong (Builtin.Range.rangeSize a b c))=true)
  (h:Q₁ (.ref s.heap.objs.size) { s with heap:=s.heap.push { cls:=.type "range_iterator",data:=.fields #[rawInt (a+(Builtin.Range.rangeSize a b c - 1) * c),rawInt (Builtin.Range.rangeSize a b c),rawInt (-c)] } }) :
  codeAny (model prog w) A (.call (.builtin "reversed.__new__") ⟨[.type "reversed",.ref r],[]⟩) (wants Q₁ E) s:=by
 have hT:s.TypeIs (.ref r) "range":=⟨_,hr,rfl⟩
 refine codeAny_of_tree ?_
 refine Zi (wpAny_of_eq (F.newCall_reversed_1 _) (Z0 ⟨plainId_quiet F.plain_reversed_new _,codeAny_builtin F.entry_reversed_new ?_⟩));rw [Around.under_plainId F.plain_reversed_new _];refine Zi (wpAny_of_eq (newClass_reversed _) ?_);try dsimp only
 refine Zi (wpAny_of_eq (by first | rfl | kernel_rfl) ?_);refine Zi (wpAny_of_eq (a:=()) (by first | rfl | kernel_rfl) ?_);try dsimp only
 refine Zi (wpAny_specialOf hT F.slot_range_reversed.lookup ?_);try dsimp only
 refine Zi (wpAny_of_eq (F.slot_range_reversed.bind _) ?_);try dsimp only
 first
 | rw [if_neg (Zf)]
 | (show wpAny _ _ (if (Value.builtin "range.__reversed__" == Value.none)=true then _ else _) _ _ _; rw [if_neg (show ¬ ((Value.builtin "range.__reversed__" == Value.none)=true) from Zf)])
 refine Zi (wpAny_rule ?_);refine Zi (ma hr hs ?_)
 first
 | exact Z0 h
 | exact Zi (Z0 (Z0 h))
def jG (hr:IsRange s.heap r a b c t u v)
  (hs:(Builtin.Range.rangeFitsLong a&&Builtin.Range.rangeFitsLong b&&Builtin.Range.rangeFitsLong c&&Builtin.Range.rangeFitsLong (-c)&&Builtin.Range.rangeFitsLong (a - c)&&Builtin.Range.rangeFitsLong (Builtin.Range.rangeSize a b c))=true)
  (h:Q (.ref s.heap.objs.size) { s with heap:=s.heap.push { cls:=.type "range_iterator",data:=.fields #[rawInt (a+(Builtin.Range.rangeSize a b c - 1) * c),rawInt (Builtin.Range.rangeSize a b c),rawInt (-c)] } }):wpAny (model prog w) A (call (.type "reversed") [.ref r]) Q E s:=by
 refine callType_other (Q₁:=λ obj s₁=>obj=.ref s.heap.objs.size/\s₁={ s with heap:=s.heap.push { cls:=.type "range_iterator",data:=.fields #[rawInt (a+(Builtin.Range.rangeSize a b c - 1) * c),rawInt (Builtin.Range.rangeSize a b c),rawInt (-c)] } }) (by decide +kernel) F.create_reversed ⟨_,_,F.mro_reversed⟩ F.made_reversed kx (F.typeCall_reversed_1 _) (jF hr hs ⟨rfl,rfl⟩) ?_
 rintro obj s₁ ⟨rfl,rfl⟩
 exact ⟨⟨_,Heap.get?_push_size _ rfl,rfl⟩,h⟩
end
end PySem
namespace L2
open PySem PySem.Spec PyProof.Rows
section
variable {X:Cx} {tg a e:Expr} {p p2 pos pos2:Pos}
def Oo (ta:TA):TI:=λ σ H R=>ta σ H λ vs H1=>∃ n:Int,vs=[.int n]/\(0<=n/\n<=1000000)/\R (Itd (n - 1) n.toNat) H1
def Fz (hg2:Gl X "reversed") (hm2:X.mg "reversed"=none) (hg:Gl X "range") (hm:X.mg "range"=none) (ha:PA X [a] ta)
  (he:starEach [.Call (.Name "range" p) [a] [] pos] X.env=(false,eval (.Call (.Name "range" p) [a] [] pos) X.env)::starEach [] X.env:=by rfl) (hpl:(backTo pos2 (starEach [] X.env)).any (·.1)=false:=by rfl)
  (he2:starEach [a] X.env=(false,eval a X.env)::starEach [] X.env:=by rfl) (hpl2:(backTo pos (starEach [] X.env)).any (·.1)=false:=by rfl) :
  PI X tg (.Call (.Name "reversed" p2) [.Call (.Name "range" p) [a] [] pos] [] pos2) (Oo ta):=by
 intro pins s σ H R I h;refine Xx (je I hg2 hm2 boot_reversed ?_);refine Yo ?_ he hpl;rw [he];refine Calls.spliced_cons ?_
 refine Xx (je I hg hm boot_range ?_);refine Yo (thn (ha pos pins s σ H _ I h) λ us s1 ⟨vs,H1,I1,r1,q1⟩=>?_) he2 hpl2;obtain ⟨n,e,⟨b1,b2⟩,q⟩:=q1;subst e
 cases r1 with
 | cons r rr =>
  cases rr;obtain ⟨t,rfl⟩:=r;refine call_range_1 ?_
  refine Calls.spliced_nil ?_
  have rs:Builtin.Range.rangeSize 0 n 1=n:=by
   unfold Builtin.Range.rangeSize;rw [if_pos (by decide)];split <;> omega
  have fl:∀ x:Int,-3000000<=x->x<=3000000->Builtin.Range.rangeFitsLong x=true:=λ x h1 h2=>by
   unfold Builtin.Range.rangeFitsLong;simp only [Yq,decide_eq_true_eq];omega
  have I2:Inv X pins σ H1 { s1 with heap:=s1.heap.push { cls:=.type "range",data:=.fields #[.int 0 s1.toks,.int n t,.int 1 (s1.toks+1)] },toks:=s1.toks+1+1 }:=I1.kept λ b o e=>Heap.get?_push_of_some _ e
  refine jG (IsRange.new ..) (by rw [rs,fl 0 (by decide) (by decide),fl n (by omega) (by omega),fl 1 (by decide) (by decide),fl (-1) (by decide) (by decide),fl (0 - 1) (by decide) (by decide)]; rfl) ?_
  rw [rs];have I3:=I2.kept (t':=s1.toks+1+1) (h':=(s1.heap.push { cls:=.type "range",data:=.fields #[.int 0 s1.toks,.int n t,.int 1 (s1.toks+1)] }).push { cls:=.type "range_iterator",data:=.fields #[rawInt (0+(n - 1) * 1),rawInt n,rawInt (-1)] }) λ b o e=>Heap.get?_push_of_some _ e
  have st:IsRangeIter ((s1.heap.push { cls:=.type "range",data:=.fields #[.int 0 s1.toks,.int n t,.int 1 (s1.toks+1)] }).push { cls:=.type "range_iterator",data:=.fields #[rawInt (0+(n - 1) * 1),rawInt n,rawInt (-1)] }) (s1.heap.push { cls:=.type "range",data:=.fields #[.int 0 s1.toks,.int n t,.int 1 (s1.toks+1)] }).objs.size (n - 1 - ((0:Nat):Int)) ((n.toNat:Int) - ((0:Nat):Int)) (-1):=by
   have e1:n - 1 - ((0:Nat):Int)=0+(n - 1) * 1:=by simp
   have e2:((n.toNat:Nat):Int) - ((0:Nat):Int)=n:=by omega
   rw [e1,e2];exact Heap.get?_push_size _ rfl
  refine wpAny_pyIter_rangeiter st ?_
  refine ⟨_,[(s1.heap.push { cls:=.type "range",data:=.fields #[.int 0 s1.toks,.int n t,.int 1 (s1.toks+1)] }).objs.size],_,_,H1,rfl,I3,nM _ (n - 1) n.toNat,st,λ b hb=>?_,q⟩;have e:b=(s1.heap.push { cls:=.type "range",data:=.fields #[.int 0 s1.toks,.int n t,.int 1 (s1.toks+1)] }).objs.size:=by simpa using hb
  subst e;exact I2.sj (Ze _) (I2.hok.fresh (Ze _))
def wc (f:DA):DI:=λ τ=>(f τ).bind λ ds=>match ds with | [.int n]=>if 0<=n/\n<=1000000 then some (j8 (n - 1) n.toNat) else none | _=>none
def CC (hg2:Gl X "reversed") (hm2:X.mg "reversed"=none) (hg:Gl X "range") (hm:X.mg "range"=none) (ha:PAd X [a] f)
  (he:starEach [.Call (.Name "range" p) [a] [] pos] X.env=(false,eval (.Call (.Name "range" p) [a] [] pos) X.env)::starEach [] X.env:=by rfl) (hpl:(backTo pos2 (starEach [] X.env)).any (·.1)=false:=by rfl)
  (he2:starEach [a] X.env=(false,eval a X.env)::starEach [] X.env:=by rfl) (hpl2:(backTo pos (starEach [] X.env)).any (·.1)=false:=by rfl) :
  PId X tg (.Call (.Name "reversed" p2) [.Call (.Name "range" p) [a] [] pos] [] pos2) (wc f):=(Fz hg2 hm2 hg hm ha he hpl he2 hpl2).imp λ σ H R ⟨H0,Hs,τ,fp,ds,st,sm,e,k⟩=>by
 obtain ⟨x,e1,e2⟩:=bind_some e;refine ⟨H0,Hs,τ,fp,x,st,sm,e1,λ v Hs' H' g r=>?_⟩
 match x,r,e2 with
 | [x1],.cons h1 .nil,e2 =>
  cases h1 with
  | int n =>
   simp only at e2;split at e2
   ·rename_i hh
    have e':=Zj e2;subst e';exact ⟨n,rfl,hh,k _ Hs' H' g (rR _ _)⟩
   · cases e2
  | _=>exact nn e2
 | [],_,e2=>simp at e2
 | _::_::_,_,e2=>simp at e2
def Fg:DS:=λ τ=>some (.brk τ)
def Cg:PSd X (.Break pos) Fg:=yz.imp λ E σ H ⟨Hs0,H0,Hs,τ,o,r,e,k⟩=>by
 have e':=Zj e;subst e';exact k σ Hs H r
def yg (i:Nat) (f:DE):DS:=λ τ=>(f τ).bind λ d=>match d,τ[i]? with
 | .lst es,some (.own (.lst ds))=>if ds.length+es.length<=100000 then some (.next (τ.set i (.own (.lst (ds++es))))) else none
 | _,_=>none
def HE (h:yg i f τ=some o):∃ es ds,f τ=some (.lst es)/\τ[i]?=some (.own (.lst ds))/\ds.length+es.length<=100000/\o=.next (τ.set i (.own (.lst (ds++es)))):=by
 obtain ⟨d,e1,e⟩:=bind_some h
 cases d with
 | lst es =>
  cases q:τ[i]? with
  | none=>rw [q] at e; cases e
  | some s =>
   rw [q] at e
   cases s with
   | own d=>cases d with
    | lst ds =>
     simp only at e;split at e
     ·rename_i hl
      cases e;exact ⟨es,ds,e1,rfl,hl,rfl⟩
     · cases e
    | _=>simp at e
   | _=>simp at e
 | _=>simp at e
def Cf (i:Nat) (hN:X.N[i]?=some x) (hv:Vis X.env.scope x) (he:PEd X e f) (hd:(x == ("__debug__":Str))=false:=by decide) (hcd:(x == ("__classdict__":Str))=false:=by decide)
   (hbase:attributeBase (.Name x p) "extend" X.env (eval (.Name x p) X.env)=eval (.Name x p) X.env:=by rfl)
   (hfew:((backTo cpos (starEach [e] X.env)).all (λ x=>!x.1)&&(backToKw cpos (keywordEach [] X.env)).all (λ x=>x.1.isSome)
     && decide ([e].length+([]:List Keyword).length+(if ([]:List Keyword).isEmpty then 0 else 1) < 30))=true:=by rfl)
   (hline:(apos.endLine == cpos.line)=true:=by rfl) (hst:starEach [e] X.env=(false,eval e X.env)::starEach [] X.env:=by rfl) (hplain:(backTo cpos (starEach [] X.env)).any (·.1)=false:=by rfl)
   (hs:swapsWith (.Call (.Attribute (.Name x p) "extend" apos) [e] [] cpos) none pos.line X.env=pure false:=by rfl) :
   PSd X (.Expr (.Call (.Attribute (.Name x p) "extend" apos) [e] [] cpos) pos) (yg i f) :=
 (uV (FN PySem.F.plainAttrs_list PySem.F.slot_list_extend PySem.F.type_list_extend vC (jR hN hv hd hcd) (pQ he u4 hst) hbase hfew hline hst hplain) hs).imp λ E σ H ⟨Hs0,H0,Hs,τ,o,r,e,k⟩=>by
   obtain ⟨es,ds,e1,q,hl,rfl⟩:=HE e;obtain ⟨fp,h⟩:=r.st;obtain ⟨a,h1,h2,h3,h4⟩:=h.A9 q
   cases h2 with
   | @lst xs _ hH hn hr =>
     refine ⟨_,h1,.inl ⟨rfl,_,SqL.of hH⟩,?_⟩;refine ⟨H0,Hs,τ,fp,_,h,r.same,e1,λ v Hs' H' g1 rv=>?_⟩;have hH':=g1.hh _ _ hH;have h':=h.ext g1;have n':=g1.fr a hn (jv hH)
     cases rv with
     | @lst b ys _ hB rb =>
      refine ⟨a,b,xs,ys,rfl,rfl,hH',g1.sh _ _ hB,by rw [hr.length,rb.length]; exact vK hl,?_⟩;refine k σ Hs' _ ⟨⟨r.ext.ss.trans g1.ss,λ b u z=>?_,λ b u z=>?_,λ b k1 k2=>?_⟩,fp,h'.mut q h1 (.lst aO n' ((hr.same g1.ss).append rb))⟩
      ·have ne:b≠a:=λ y=>by subst y; rw [n'] at z; cases z
       rw [aH ne]; exact g1.sh b u z
      ·have ne:b≠a:=λ y=>by subst y; rw [h3] at z; cases z
       rw [aH ne]; exact g1.hh b u (r.ext.hh b u z)
      · exact g1.fr b (r.ext.fr b k1 k2) (r.ext.hh.live k2)
end
end L2
end
section
namespace L2
open PySem PySem.Spec PyProof.Rows
section
variable {X:Cx} {c a b:Expr} {pos:Pos} {f g:DE}
def Na (t ta tb:TT):TT:=λ σ H Q=>t σ H λ c H1=>if c=true then ta σ H1 Q else tb σ H1 Q
def ym (hc:PT X c tA) (ha:PT X a ta) (hb:PT X b tb):PT X (.IfExp c a b pos) (Na tA ta tb):=by
 intro pins s σ H Q I h;refine isTrue_IfExp (thn (hc pins s σ H _ I h) λ d s1 ⟨H1,I1,q1⟩=>?_)
 cases d with
 | true=>exact ha pins s1 σ H1 Q I1 q1
 | false=>exact hb pins s1 σ H1 Q I1 q1
def B6 (hc : PTd X c t) (ha : PTd X a (dT f)) (hb : PTd X b (dT g)):PTd X (.IfExp c a b pos) (dT (dIf t f g)) :=
  (ym hc ha hb).imp λ σ H Q ⟨H0, Hs, τ, fp, d, st, sm, e, k⟩ => by
    obtain ⟨y,e1,e2⟩:=bind_some e;obtain ⟨x,e3,e⟩:=bind_some e1;refine ⟨H0,Hs,τ,fp,x,st,sm,e3,λ Hs' H' g1=>?_⟩
    cases x with
    | true => exact ⟨H0, Hs', τ, fp, d, st.ext g1, g1.sh, by have e':f τ=some y:=by simpa using e
                                                             show (f τ).bind _=_; rw [e']; exact e2,λ Hs2 H2 g2=>k Hs2 H2 (g1.trans g2)⟩
    | false => exact ⟨H0, Hs', τ, fp, d, st.ext g1, g1.sh, by have e':g τ=some y:=by simpa using e
                                                              show (g τ).bind _=_; rw [e']; exact e2,λ Hs2 H2 g2=>k Hs2 H2 (g1.trans g2)⟩
end
end L2
end
section
local macro_rules | `(tactic| walk_at "v")=>`(tactic| first | exact .inl rfl | exact .inr rfl | assumption)
local macro_rules | `(tactic| walk_at "w")=>`(tactic| first | exact .inl rfl | exact .inr (.inl rfl) | exact .inr (.inr rfl))
namespace L2
open PySem PySem.Spec PyProof.Rows
abbrev Dg (x:Str):Prop:=(x == ("__debug__":Str))=false
abbrev Dc (x:Str):Prop:=(x == ("__classdict__":Str))=false
abbrev Se (X:Cx) (e:Expr) (es:List Expr):Prop:=starEach (e::es) X.env=(false,eval e X.env)::starEach es X.env
abbrev Sb (X:Cx) (pos:Pos) (es:List Expr):Prop:=(backTo pos (starEach es X.env)).any (·.1)=false
abbrev Fs (X:Cx) (i:Expr):Prop:=∀ x,foldedSetIterable i X.env x=pure x
abbrev Xl (X:Cx) (x:Str):Prop:=X.fn x=true\/X.env.scope.names.lookup x=some .local
abbrev Sw (X:Cx) (e:Expr) (x:Str) (p pos:Pos):Prop:=swapsWith e (some (.Name x p)) pos.line X.env=pure false
def Df (K:W.Frag) (mg:Str->Option Value) (x:Str) (st:Stmt) (ps:List Str):Prop:=∃ a d,Fun K x x st a d/\mg x=some (.ref a)/\Binds K d ps []
def Mf (K:W.Frag) (C:Addr) (x q:Str) (st:Stmt) (ps:List Str):Prop:=∃ a d,Fun K x q st a d/\HY K C x a/\Binds K d ps []
def If (K:W.Frag) (C:Addr) (q:Str) (st:Stmt) (ps:List Str):Prop:=∃ a d,Fun K "__init__" q st a d/\Mk K C a/\Binds K d ps []
structure Go (P:Program) (w:World) (K:W.Frag) (mg:Str->Option Value) (base:Heap) (k:Nat) (x:Str) (sp:Sp):Prop where
 go:∃ f fd ps,mg x=some (.ref f)/\W.keepIn K (.ref f)=true/\Binds K fd ps []/\ko P w K mg base CX0 k f fd ps sp
structure GoM (P:Program) (w:World) (K:W.Frag) (mg:Str->Option Value) (base:Heap) (k:Nat) (C:Addr) (x:Str) (sp:Sp):Prop where
 go:∃ f fd ps,HY K C x f/\Binds K fd ps []/\ko P w K mg base CX0 k f fd ps sp
structure GoI (P:Program) (w:World) (K:W.Frag) (mg:Str->Option Value) (base:Heap) (k:Nat) (C:Addr) (sp:Sp):Prop where
 go:∃ f fd ps,Mk K C f/\Binds K fd ps []/\ko P w K mg base CX0 k f fd ps sp
def aa (i:Nat) (hN:X.N[i]?=some x:=by exact rfl) (hv:Vis X.env.scope x:=by walk_at "w") (hd:Dg x:=by decide) (hcd:Dc x:=by decide):Bx (PEd X (.Name x pos) (ao i)):=⟨FP i hN hv hd hcd⟩
def ai  : Bx (PEd X (.Constant (.int i) j pos) (dC (.int i))):=⟨FX ⟩
def bP  : Bx (PEd X (.Constant (.bool i) j pos) (dC (.bl i))):=⟨Ko ⟩
def ck  : Bx (PEd X (.Constant .none j pos) (dC .non)):=⟨FW ⟩
def aw  : Bx (PEd X (.Constant (.str x) j pos) (dC (.str x))):=⟨FT ⟩
def gB (hm:X.mg x=none) (hg:Gl X x:=by rfl) (hv:bootBuiltins x=some (.type n):=by decide +kernel) (hn:x≠"__name__":=by decide) (hd:Dg x:=by decide):Bx (PEd X (.Name x pos) (dC (.ty n))):=⟨Kk hg hm hv hn hd⟩
def eU (ho:OpR X (binaryOp op) (rdR X.K o)) (ha:Bx (PEd X a f):=by walk_at "g") (hb:Bx (PEd X b g):=by walk_at "g"):Bx (PEd X (.BinOp a op b pos) (dOp o f g)):=⟨Kl ho ha.out hb.out⟩
def En (ho:UnR X (unaryOp op) (rdU X.K o)) (ha:Bx (PEd X a f):=by walk_at "g"):Bx (PEd X (.UnaryOp op a pos) (dUn o f)):=⟨Kj ho ha.out⟩
def ny (ho:OpR X (compareOp op) (rdR X.K o)) (ha:Bx (PEd X a f):=by walk_at "g") (hb:Bx (PEd X b g):=by walk_at "g") (hm:behindInMarks op b=false:=by first | exact As _ | rfl):Bx (PEd X (.Compare a [op] [b] pos) (dOp o f g)):=⟨FZ ho ha.out hb.out hm⟩
def c6 (ho:OpR X (compareOp op) (rdR X.K o)) (ha:Bx (PEd X a f):=by walk_at "g") (hb:Bx (PEd X b g):=by walk_at "g") (hm:behindInMarks op b=false:=by first | exact As _ | rfl):Bx (PTd X (.Compare a [op] [b] pos) (dT (dOp o f g))):=⟨B7 ho ha.out hb.out hm⟩
def bZ  : Bx (PAd X [] aC):=⟨CV ⟩
def aF (ha:Bx (PEd X e f):=by walk_at "g") (hr:Bx (PAd X es g):=by walk_at "a") (hs:Se X e es:=by rfl):Bx (PAd X (e::es) (ah f g)):=⟨yP ha.out hr.out hs⟩
def ay (h:Bx (PAd X es g):=by walk_at "a"):Bx (PEd X (.Tuple es x1 pos) (cY g)):=⟨FQ h.out⟩
def bu (h:Bx (PAd X es g):=by walk_at "a"):Bx (PEo X (.List es pos) (lU g)):=⟨Fw h.out⟩
def aJ (h:Bx (PEo X e f):=by walk_at "o"):Bx (PEd X e f):=⟨PEo.shr h.out⟩
def aE (h:Bx (PEd X e f):=by walk_at "g") (he:∀ whole,isTrue e X.env whole=(do let v <- whole; standAt e.pos; holding [v] (truthy v)):=by intro _; rfl):Bx (PTd X e (dT f)):=⟨B4 h.out he⟩
def bY (h:Bx (PTd X e f):=by walk_at "h"):Bx (PTd X (.UnaryOp .Not e pos) (nj f)):=⟨B5 h.out⟩
def bc (h:Bx (PTd X a f):=by walk_at "h"):Bx (PWd X (.BoolOp .And [a] pos) f):=⟨yk h.out⟩
def cu (h:Bx (PTd X a f):=by walk_at "h"):Bx (PWd X (.BoolOp .Or [a] pos) f):=⟨B1 h.out⟩
def bp (ha:Bx (PTd X a f):=by walk_at "h") (hb:Bx (PWd X (.BoolOp .And (b::es) pos) g):=by walk_at "q"):Bx (PWd X (.BoolOp .And (a::b::es) pos) (fE f g)):=⟨B2 ha.out hb.out⟩
def b8 (ha:Bx (PTd X a f):=by walk_at "h") (hb:Bx (PWd X (.BoolOp .Or (b::es) pos) g):=by walk_at "q"):Bx (PWd X (.BoolOp .Or (a::b::es) pos) (dOr f g)):=⟨Fk ha.out hb.out⟩
def aK (h:Bx (PWd X e f):=by walk_at "q"):Bx (PTd X e f):=⟨PWd.ptd h.out⟩
def z8 (h:Bx (PEd X a f):=by walk_at "g"):Bx (PEd X (.BoolOp op [a] pos) f):=⟨FU h.out⟩
def Aa (ha:Bx (PEd X a f):=by walk_at "g") (hb:Bx (PEd X (.BoolOp .And (b::es) pos) g):=by walk_at "g"):Bx (PEd X (.BoolOp .And (a::b::es) pos) (xb f g)):=⟨F1 ha.out hb.out⟩
def z9 (ha:Bx (PEd X a f):=by walk_at "g"):Bx (PEd X (.UnaryOp .Not a pos) (tS f)):=⟨FV ha.out⟩
def dY (hc:Bx (PTd X c t):=by walk_at "h") (ha:Bx (PEd X a f):=by walk_at "g") (hb:Bx (PEd X b g):=by walk_at "g"):Bx (PEd X (.IfExp c a b pos) (dIf t f g)):=⟨Kn hc.out ha.out hb.out⟩
def aT (ha:Bx (PEd X a f):=by walk_at "g") (hb:Bx (PEd X b g):=by walk_at "g") (hs:qR b:=by exact λ _ _=>rfl):Bx (PEd X (.Subscript a b pos) (dOp oIx f g)):=⟨Km ha.out hb.out hs⟩
def jJ  : Bx (POd X none xO):=⟨yD ⟩
def bF (h:Bx (PEd X e f):=by walk_at "g"):Bx (POd X (some e) (dP f)):=⟨yC h.out⟩
section
variable {X:Cx} {a b c e:Expr} {es:List Expr} {pos:Pos} {f g h:DE}
def gA {lo hi:Option Expr} {p2:Pos} {l u:DO} (ha:Bx (PEd X a f):=by walk_at "g") (hl:Bx (POd X lo l):=by walk_at "l") (hh:Bx (POd X hi u):=by walk_at "l"):Bx (PEo X (.Subscript a (.Slice lo hi none p2) pos) (dSl f l u)):=⟨Ke ha.out hl.out hh.out⟩
end
section
variable {X:Cx} {a b c e:Expr} {es:List Expr} {pos:Pos} {f g h:DE}
def aB {x:Str} {id:String} {p:Pos} {o:List D->Option D} {g:DA} (hc:ij X (.builtin id) (rdL X.K o)) (hm:X.mg x=none) (ha:Bx (PAd X (e::es) g):=by walk_at "a") (hg:Gl X x:=by rfl) (hv:bootBuiltins x=some (.builtin id):=by decide +kernel) (hn:x≠"__name__":=by decide) (hdb:Dg x:=by decide) (he:Se X e es:=by rfl) (hpl:Sb X pos es:=by rfl):Bx (PEd X (.Call (.Name x p) (e::es) [] pos) (bf o g)):=⟨yN hc hg hm hv ha.out hn hdb he hpl⟩
end
def xu (hm:X.mg x=none) (ha:Bx (PAd X (e::es) g):=by walk_at "a") (hg:Gl X x:=by rfl) (hv:bootBuiltins x=some (.type "list"):=by decide +kernel) (hn:x≠"__name__":=by decide) (hdb:Dg x:=by decide) (he:Se X e es:=by rfl) (hpl:Sb X pos es:=by rfl):Bx (PEo X (.Call (.Name x p) (e::es) [] pos) (bf tx g)):=⟨Cs hg hm hv ha.out hn hdb he hpl⟩
def hU (i:Nat) (h:Bx (PEd X e f):=by walk_at "g"):Bx (PEd X e (nk i f)):=⟨F0 i h.out⟩
def jo (i:Nat) (h:Bx (PTd X e f):=by walk_at "h"):Bx (PTd X e (ur i f)):=⟨B8 i h.out⟩
def av  : Bx (mv X [] bg):=⟨yo ⟩
section
variable {X:Cx} {a b c e:Expr} {es:List Expr} {pos:Pos} {st:Stmt} {rest:List Stmt} {f g:DS}
def aj (h:Bx (PSd X st f):=by walk_at "t"):Bx (mv X [st] f):=⟨yn h.out⟩
end
section
variable {X:Cx} {a b c e:Expr} {es:List Expr} {pos:Pos} {st:Stmt} {rest:List Stmt} {f g:DS}
def af (h1:Bx (PSd X st f):=by walk_at "t") (h2:Bx (mv X rest g):=by walk_at "s"):Bx (mv X (st::rest) (aL f g)):=⟨uN h1.out h2.out⟩
end
section
variable {X:Cx} {a b c e:Expr} {es:List Expr} {pos:Pos} {st:Stmt} {rest:List Stmt} {f g:DS}
def qL  : Bx (PSd X st uI):=⟨uR ⟩
end
def aA (hc:Bx (PTd X c t):=by walk_at "h") (ha:Bx (mv X x f):=by walk_at "s") (hb:Bx (mv X y g):=by walk_at "s"):Bx (PSd X (.If c x y pos) (sIf t f g)):=⟨Fp hc.out ha.out hb.out⟩
def au (h:Bx (PEd X e f):=by walk_at "g"):Bx (PSd X (.Return (some e) pos) (dJ f)):=⟨Cc h.out⟩
def g9 (h:Bx (PEo X e f):=by walk_at "o"):Bx (PSd X (.Return (some e) pos) (yf f)):=⟨yu h.out⟩
def fu (i:Nat) (hN:X.N[i]?=some x:=by exact rfl) (hv:Vis X.env.scope x:=by walk_at "w") (hd:Dg x:=by decide) (hcd:Dc x:=by decide):Bx (PSd X (.Return (some (.Name x p)) pos) (pO i)):=⟨yt i hN hv hd hcd⟩
def xp (i:Nat) (hN:X.N.Nodup) (hi:X.N[i]?=some x:=by exact rfl) (he:Bx (PEd X e f):=by walk_at "g") (hx:Loc X.env.scope x:=by walk_at "v") (hs:Sw X e x pos' pos:=by rfl) (hf:Xl X x:=by walk_at "v"):Bx (PSd X (.Assign [.Name x pos'] e pos) (bA i f)):=⟨Cb hN hi hx he.out hs hf⟩
def cb (i:Nat) (hN:X.N.Nodup) (hi:X.N[i]?=some x:=by exact rfl) (he:Bx (PEo X e f):=by walk_at "o") (hx:Loc X.env.scope x:=by walk_at "v") (hs:Sw X e x pos' pos:=by rfl) (hf:Xl X x:=by walk_at "v"):Bx (PSd X (.Assign [.Name x pos'] e pos) (gs i f)):=⟨yq hN hi hx he.out hs hf⟩
section
variable {X:Cx} {a b c e:Expr} {es:List Expr} {pos:Pos} {st:Stmt} {rest:List Stmt} {f g:DS}
def eP (i:Nat) (h:Bx (PSd X st f):=by walk_at "t"):Bx (PSd X st (uK i f)):=⟨Cd i h.out⟩
end
def fA (i:Nat) (hN:X.N[i]?=some x:=by exact rfl) (he:Bx (PEd X e f):=by walk_at "g") (hv:Vis X.env.scope x:=by walk_at "w") (hd:Dg x:=by decide) (hcd:Dc x:=by decide) (hbase:attributeBase (.Name x p) "append" X.env (eval (.Name x p) X.env)=eval (.Name x p) X.env:=by rfl) (hfew:((backTo cpos (starEach [e] X.env)).all (λ x=>!x.1)&&(backToKw cpos (keywordEach [] X.env)).all (λ x=>x.1.isSome)
 && decide ([e].length+([]:List Keyword).length+(if ([]:List Keyword).isEmpty then 0 else 1) < 30))=true:=by rfl) (hline:(apos.endLine == cpos.line)=true:=by rfl) (hst:starEach [e] X.env=(false,eval e X.env)::starEach [] X.env:=by rfl) (hplain:(backTo cpos (starEach [] X.env)).any (·.1)=false:=by rfl) (hs:swapsWith (.Call (.Attribute (.Name x p) "append" apos) [e] [] cpos) none pos.line X.env=pure false:=by rfl):Bx (PSd X (.Expr (.Call (.Attribute (.Name x p) "append" apos) [e] [] cpos) pos) (pF i f)):=⟨Ck i hN hv he.out hd hcd hbase hfew hline hst hplain hs⟩
def aS (h:Bx (PEd X l f):=by walk_at "g"):Bx (PId X tg l (d7 f)):=⟨CB h.out⟩
def xy (h:Bx (PEd X l f):=by walk_at "g"):Bx (PId X tg l (wa f)):=⟨CA h.out⟩
def cD (hm:X.mg "range"=none) (ha:Bx (PAd X [a] f):=by walk_at "a") (hg:Gl X "range":=by rfl) (hs:starEach [a] X.env=[(false,eval a X.env)]:=by rfl):Bx (PId X tg (.Call (.Name "range" p) [a] [] pos) (gy f)):=⟨tp hg hm ha.out hs⟩
def aQ (i:Nat) (hN:X.N.Nodup) (hi:X.N[i]?=some x:=by exact rfl) (hx:Loc X.env.scope x:=by walk_at "v") (hf:Xl X x:=by walk_at "v"):Bx (PGd X (.Name x pos) (gN i)):=⟨yI hN hi hx hf⟩
def jK  : Bx (Bs X [] wm):=⟨yH ⟩
def cO (h1:Bx (PGd X e g):=by walk_at "j") (h2:Bx (Bs X es h):=by walk_at "k") (hs:(assignEach (e::es) X.env).map (·.2)=assign e X.env::(assignEach es X.env).map (·.2):=by rfl):Bx (Bs X (e::es) (k6 g h)):=⟨uZ h1.out h2.out hs⟩
def lE (h:Bx (Bs X es g):=by walk_at "k") (hc:X.calm=true:=by rfl) (hn:(assignEach es X.env).length=n:=by rfl) (hst:(assignEach es X.env).findIdx? (·.1)=none:=by rfl):Bx (PGd X (.Tuple es k' pos) (gT n g)):=⟨CG hc h.out hn hst⟩
def xr (he:Bx (PEd X e f):=by walk_at "g") (hg:Bx (PGd X tg g):=by walk_at "j") (hs:swapsWithSole [tg] e pos.line X.env=pure false:=by rfl) (hw:swappedStores [tg] e X.env=pure none:=by rfl) (h1:(assignEach [tg] X.env).map (·.2)=[assign tg X.env]:=by rfl):Bx (PSd X (.Assign [tg] e pos) (Ih f g)):=⟨Cj he.out hg.out hs hw h1⟩
def bE (hi:Bx (PId X tg iter it):=by walk_at "i") (hg:Bx (PGd X tg g):=by walk_at "j") (hb:Bx (mv X body b):=by walk_at "s") (hp:PassesOwn (model X.prog X.w) X.A X.env X.xe:=by exact .never) (hc:X.calm=true:=by rfl) (hs:Fs X iter:=by intro _; rfl):Bx (PSd X (.For tg iter body [] pos) (nF it g b)):=⟨Ce hp hc hi.out hg.out hb.out hs⟩
def du (hc:Bx (PTd X c t):=by walk_at "h") (hb:Bx (mv X body b):=by walk_at "s") (hp:PassesOwn (model X.prog X.w) X.A X.env X.xe:=by exact .never):Bx (PSd X (.While c body [] pos) (gr t b)):=⟨uP hp hc.out hb.out⟩
def ak (Fo:Go X.prog X.w X.K X.mg X.base k x (spF F X.K)) (hr:gj jj X.A) (ha:Bx (PAd X (e::es) g):=by walk_at "a") (hj:k<=jj:=by decide) (hg:Gl X x:=by rfl) (hdb:Dg x:=by decide) (he:Se X e es:=by rfl) (hpl:Sb X pos es:=by rfl):Bx (PEd X (.Call (.Name x p) (e::es) [] pos) (dFn F g)):=by
 have ⟨f',fd',ps',hm,hk,hb,Fo⟩:=Fo.go;have hr:=hr.mono hj;exact ⟨CU Fo hr hg hm hk hb ha.out hdb he hpl⟩
def xx (Fo:Go X.prog X.w X.K X.mg X.base k x (spF F X.K)) (hr:gj jj X.A) (ha:Bx (PAd X (e::es) g):=by walk_at "a") (hj:k<=jj:=by decide) (hg:Gl X x:=by rfl) (hdb:Dg x:=by decide) (he:Se X e es:=by rfl) (hpl:Sb X pos es:=by rfl):Bx (PEo X (.Call (.Name x p) (e::es) [] pos) (HJ F g)):=by
 have ⟨f',fd',ps',hm,hk,hb,Fo⟩:=Fo.go;have hr:=hr.mono hj;exact ⟨Cy Fo hr hg hm hk hb ha.out hdb he hpl⟩
def c7 (O:cw X scope cl x cs) (hi:Bx (PId X (.Name x px) iter it):=by walk_at "i") (he:∀ s H fp C,Bx (PEd (bD X scope cl (x::cs.map (·.1)) s H fp C) elt g):=by intros; walk_at "g") (hc:X.calm=true:=by rfl) (hs:Fs X iter:=by intro _; rfl):Bx (PEo X (.ListComp elt [⟨.Name x px,iter,[],0⟩] scope pos) (cx it g cs)):=⟨Cw hc O hi.out (λ s H fp C=>(he s H fp C).out) hs⟩
def jI (i:Nat) (hN:X.N.Nodup) (O:cw X scope cl x cs) (hy:X.N[i]?=some y:=by exact rfl) (hi:Bx (PId X (.Name x px) iter it):=by walk_at "i") (he:∀ s H fp C,Bx (PEd (bD X scope cl (x::cs.map (·.1)) s H fp C) elt g):=by intros; walk_at "g") (hx:Loc X.env.scope y:=by walk_at "v") (hc:X.calm=true:=by rfl) (hs:Fs X iter:=by intro _; rfl) (hsw:swapsWith (.ListComp elt [⟨.Name x px,iter,[],0⟩] scope pos) (some (.Name y py)) spos.line X.env=pure true:=by rfl) (hf:Xl X y:=by walk_at "v"):Bx (PSd X (.Assign [.Name y py] (.ListComp elt [⟨.Name x px,iter,[],0⟩] scope pos) spos) (gs i (cx it g cs))):=⟨yr hN hy hx hc O hi.out (λ s H fp C=>(he s H fp C).out) hs hsw hf⟩
def eQ (i:Nat) (ho:PIp X op (ipI fi)) (hoo:∀ x y z,o x y=some z->∃ i j,x=.int i/\y=.int j/\z=.int (fi i j)) (hN:X.N.Nodup) (hi:X.N[i]?=some x:=by exact rfl) (he:Bx (PEd X e f):=by walk_at "g") (hx:Loc X.env.scope x:=by walk_at "v") (hf:Xl X x:=by walk_at "v"):Bx (PSd X (.AugAssign (.Name x pos') op e pos) (lY i o f)):=⟨Ci ho hoo hN hi hx he.out hf⟩
def dw (i:Nat) (hN:X.N.Nodup) (O:cw X scope cl x cs) (hy:X.N[i]?=some y:=by exact rfl) (hi:Bx (PId X (.Name x px) iter it):=by walk_at "i") (he:∀ s H fp C,Bx (PEd (bD X scope cl (x::cs.map (·.1)) s H fp C) elt g):=by intros; walk_at "g") (hx:Loc X.env.scope y:=by walk_at "v") (hc:X.calm=true:=by rfl) (hs:Fs X iter:=by intro _; rfl) (hsw:swapsWith (.ListComp elt [⟨.Name x px,iter,[],0⟩] scope pos) (some (.Name y py)) spos.line X.env=pure true:=by rfl) (hf:Xl X y:=by walk_at "v"):Bx (PSd X (.Assign [.Name y py] (.ListComp elt [⟨.Name x px,iter,[],0⟩] scope pos) spos) (bA i (cx it g cs))):=⟨uQ hN hy hx hc O hi.out (λ s H fp C=>(he s H fp C).out) hs hsw hf⟩
def nv (c:Cls X.K C) (n:jr X.K C f) (he:Bx (PEd X e g):=by walk_at "g") (hb:attributeBase e f X.env (eval e X.env)=eval e X.env:=by rfl):Bx (PEd X (.Attribute e f pos) (dUn (Gh C f) g)):=⟨FY c n he.out hb⟩
def xB (c:Cls X.K C) (Fo:GoM X.prog X.w X.K X.mg X.base k C m (spF F X.K)) (hr:gj jj X.A) (he:Bx (PEd X o g):=by walk_at "g") (ha:Bx (PAd X (e::es) ga):=by walk_at "a") (hj:k<=jj:=by decide) (hst:Se X e es:=by rfl) (hpl:Sb X pos es:=by rfl) (ht:eval (.Call (.Attribute o m apos) (e::es) [] pos) X.env=(do
  let ov <- eval o X.env
  standAt apos.atName
  let (f,first) <- holding [ov] (getMethod ov m pl)
  callWith pos f first (backTo pos (starEach (e::es) X.env)) (backToKw pos (keywordEach [] X.env))):=by rfl):Bx (PEd X (.Call (.Attribute o m apos) (e::es) [] pos) (xa C m F g ga)):=by
 have ⟨f',fd',ps',hm,hb,Fo⟩:=Fo.go;have hr:=hr.mono hj;exact ⟨CP he.out c hm Fo hr hb ha.out hst hpl ht⟩
def xC (Fo:GoI X.prog X.w X.K X.mg X.base k C (ux C ns)) (hr:gj jj X.A) (hm:X.mg x=some (.ref C)) (ha:Bx (PAd X (e::es) ga):=by walk_at "a") (hj:k+1<=jj:=by decide) (hg:Gl X x:=by rfl) (hdb:Dg x:=by decide) (he:Se X e es:=by rfl) (hpl:Sb X pos es:=by rfl):Bx (PEd X (.Call (.Name x p) (e::es) [] pos) (zU C ns ga)):=by
 have ⟨f',fd',ps',M,hb,Fo⟩:=Fo.go;have hr:=hr.mono hj;exact ⟨CQ M Fo hr hg hm hb ha.out hdb he hpl⟩
def tV (O:cw X scope cl x cs) (hi:Bx (PId X (.Name x px) iter it):=by walk_at "i") (hcd:∀ s H fp C,Bx (PTd (bD X scope cl (x::cs.map (·.1)) s H fp C) cnd c):=by intros; walk_at "h") (he:∀ s H fp C,Bx (PEd (bD X scope cl (x::cs.map (·.1)) s H fp C) elt g):=by intros; walk_at "g") (hc:X.calm=true:=by rfl) (hs:Fs X iter:=by intro _; rfl):Bx (PEo X (.ListComp elt [⟨.Name x px,iter,[cnd],0⟩] scope pos) (eO it c g cs)):=⟨yE hc O hi.out (λ s H fp C=>(hcd s H fp C).out) (λ s H fp C=>(he s H fp C).out) hs⟩
def jZ (i:Nat) (hN:X.N.Nodup) (O:cw X scope cl x cs) (hy:X.N[i]?=some y:=by exact rfl) (hi:Bx (PId X (.Name x px) iter it):=by walk_at "i") (hcd:∀ s H fp C,Bx (PTd (bD X scope cl (x::cs.map (·.1)) s H fp C) cnd c):=by intros; walk_at "h") (he:∀ s H fp C,Bx (PEd (bD X scope cl (x::cs.map (·.1)) s H fp C) elt g):=by intros; walk_at "g") (hx:Loc X.env.scope y:=by walk_at "v") (hc:X.calm=true:=by rfl) (hs:Fs X iter:=by intro _; rfl) (hsw:swapsWith (.ListComp elt [⟨.Name x px,iter,[cnd],0⟩] scope pos) (some (.Name y py)) spos.line X.env=pure true:=by rfl) (hf:Xl X y:=by walk_at "v"):Bx (PSd X (.Assign [.Name y py] (.ListComp elt [⟨.Name x px,iter,[cnd],0⟩] scope pos) spos) (bA i (eO it c g cs))):=⟨sY hN hy hx hc O hi.out (λ s H fp C=>(hcd s H fp C).out) (λ s H fp C=>(he s H fp C).out) hs hsw hf⟩
def dQ (hu:X.A.units+64 < cLine) (hs:JL i) (ho:Bx (PEd X o f):=by walk_at "g") (hi:Bx (PEd X i g):=by walk_at "g"):Bx (PEd X (.Subscript o i pos) (dOp eY f g)):=⟨CT hu ho.out hi.out hs⟩
def xv  : Bx (PEo X (.Dict [] [] pos) (dC (.dct []))):=⟨Ct ⟩
def xw (hm:X.mg x=none) (ha:Bx (PAd X (e::es) ga):=by walk_at "a") (hg:Gl X x:=by rfl) (hv:bootBuiltins x=some (.type "dict"):=by decide +kernel) (hn:x≠"__name__":=by decide) (hdb:Dg x:=by decide) (he:Se X e es:=by rfl) (hpl:Sb X pos es:=by rfl):Bx (PEo X (.Call (.Name x p) (e::es) [] pos) (bf vw ga)):=⟨Cv hg hm hv ha.out hn hdb he hpl⟩
def cU (j:Nat) (hu:X.A.units+64 < cLine) (hN:X.N[j]?=some x:=by exact rfl) (hval:Bx (PEd X value f):=by walk_at "g") (hi:Bx (PEd X i g):=by walk_at "g") (hv:Vis X.env.scope x:=by walk_at "w") (hs:swapsWith value (some (.Subscript (.Name x p) i pos')) pos.line X.env=pure false:=by rfl) (hd:Dg x:=by decide) (hcd:Dc x:=by decide):Bx (PSd X (.Assign [.Subscript (.Name x p) i pos'] value pos) (kF j f g)):=⟨yw j hu hN hv hval.out hi.out hs hd hcd⟩
def pd  : Bx (PPd X pos [] [] []):=⟨Cp ⟩
def fB (hk:Bx (PEd X k f):=by walk_at "g") (hv:Bx (PEd X v g):=by walk_at "g") (hr:Bx (PPd X pos ks vs ps):=by walk_at "p"):Bx (PPd X pos (some k::ks) (v::vs) ((f,g)::ps)):=⟨yB hk.out hv.out hr.out⟩
def pe (h:Bx (PPd X pos keys values ps):=by walk_at "p") (hall:keys.all (·.isSome)=true:=by rfl) (hl:keys.length=values.length:=by rfl) (h0:keys≠[]:=by exact List.cons_ne_nil _ _) (h15:keys.length<=15:=by exact Zb rfl):Bx (PEo X (.Dict keys values pos) (zV ps)):=⟨Cu h.out hall hl h0 h15⟩
def j2 (hm:X.mg "range"=none) (ha:Bx (PAd X [a,b] f):=by walk_at "a") (hg:Gl X "range":=by rfl) (hs:starEach [a,b] X.env=[(false,eval a X.env),(false,eval b X.env)]:=by rfl) (hs2:starEach [b] X.env=[(false,eval b X.env)]:=by rfl):Bx (PId X tg (.Call (.Name "range" p) [a,b] [] pos) (jg f)):=⟨tj hg hm ha.out hs hs2⟩
section
variable {X:Cx} {a e i o:Expr} {pos:Pos} {f g:DE}
def sO {lo hi:Option Expr} {p2:Pos} {l u:DO} (ha:Bx (PEd X a f):=by walk_at "g") (hl:Bx (POd X lo l):=by walk_at "l") (hh:Bx (POd X hi u):=by walk_at "l"):Bx (PEd X (.Subscript a (.Slice lo hi none p2) pos) (xN f l u)):=⟨FR ha.out hl.out hh.out⟩
end
def jq (hm:X.mg "zip"=none) (ha:Bx (PAd X [a,b] f):=by walk_at "a") (hg:Gl X "zip":=by rfl) (hs:starEach [a,b] X.env=[(false,eval a X.env),(false,eval b X.env)]:=by rfl) (hs2:starEach [b] X.env=[(false,eval b X.env)]:=by rfl):Bx (PId X (.Tuple elts k pt) (.Call (.Name "zip" p) [a,b] [] pos) (l5 f)):=⟨Cz hg hm ha.out hs hs2⟩
def oZ (i:Nat) (j:Nat) (hN:X.N.Nodup) (O:gO X scope cl x x2 cs) (hy:X.N[i]?=some y:=by exact rfl) (hi:Bx (PId X (.Tuple [.Name x px,.Name x2 px2] kk pt) iter it):=by walk_at "i") (he:∀ s H fp C,Bx (PEd (bD X scope cl (x::x2::cs.map (·.1)) s H fp C) elt g):=by intros; walk_at "g") (hx:Loc X.env.scope y:=by walk_at "v") (hc:X.calm=true:=by rfl) (hs:Fs X iter:=by intro _; rfl) (hsw:swapsWith (.ListComp elt [⟨.Tuple [.Name x px,.Name x2 px2] kk pt,iter,[],0⟩] scope pos) (some (.Name y py)) spos.line X.env=pure true:=by rfl) (hf:Xl X y:=by walk_at "v"):Bx (PSd X (.Assign [.Name y py] (.ListComp elt [⟨.Tuple [.Name x px,.Name x2 px2] kk pt,iter,[],0⟩] scope pos) spos) (gs i (j9 j (gz it g cs)))):=⟨sZ j hN hy hx hc O hi.out (λ s H fp C=>(he s H fp C).out) hs hsw hf⟩
def nu (i:Nat) (j:Nat) (hN:X.N.Nodup) (O:gO X scope cl x x2 cs) (hy:X.N[i]?=some y:=by exact rfl) (hi:Bx (PId X (.Tuple [.Name x px,.Name x2 px2] kk pt) iter it):=by walk_at "i") (he:∀ s H fp C,Bx (PEd (bD X scope cl (x::x2::cs.map (·.1)) s H fp C) elt g):=by intros; walk_at "g") (hx:Loc X.env.scope y:=by walk_at "v") (hc:X.calm=true:=by rfl) (hs:Fs X iter:=by intro _; rfl) (hsw:swapsWith (.ListComp elt [⟨.Tuple [.Name x px,.Name x2 px2] kk pt,iter,[],0⟩] scope pos) (some (.Name y py)) spos.line X.env=pure true:=by rfl) (hf:Xl X y:=by walk_at "v"):Bx (PSd X (.Assign [.Name y py] (.ListComp elt [⟨.Tuple [.Name x px,.Name x2 px2] kk pt,iter,[],0⟩] scope pos) spos) (bA i (j9 j (gz it g cs)))):=⟨pP j hN hy hx hc O hi.out (λ s H fp C=>(he s H fp C).out) hs hsw hf⟩
def xt (c:DT) (hN:X.N.Nodup) (hi:X.N[w]?=some x:=by exact rfl) (hb:X.N[b]?=some y:=by exact rfl) (hx:Loc X.env.scope x:=by walk_at "v") (hv:Vis X.env.scope y:=by walk_at "w") (hd:(y == ("__debug__":Str))=false:=by decide) (hcd:(y == ("__classdict__":Str))=false:=by decide) (hs:swapsWith (.Name y p) (some (.Name x pos')) pos.line X.env=pure false:=by rfl) (hf:Xl X x:=by walk_at "v"):Bx (PSd X (.Assign [.Name x pos'] (.Name y p) pos) (EF w b c)):=⟨Cm c hN hi hx hb hv hd hcd hs hf⟩
def fv (j:Nat) (hN:X.N[j]?=some x:=by exact rfl) (hval:Bx (PEd X value f):=by walk_at "g") (hi:Bx (PEd X i g):=by walk_at "g") (hv:Vis X.env.scope x:=by walk_at "w") (hd:Dg x:=by decide) (hcd:Dc x:=by decide) (ha:∀ v,assign (.Subscript (.Name x p) i pos') X.env v=(do
 let ov <- holding [v] (eval (.Name x p) X.env)
 let iv <- holding [v,ov] (eval i X.env)
 standAt pos'
 holding [v,ov,iv] (setItem ov iv v)
 release [v,ov,iv] []):=by intro _; rfl) (hs:swapsWithSole [.Subscript (.Name x p) i pos'] value pos.line X.env=pure false:=by rfl) (hw:swappedStores [.Subscript (.Name x p) i pos'] value X.env=pure none:=by rfl) (h1:(assignEach [.Subscript (.Name x p) i pos'] X.env).map (·.2)=[assign (.Subscript (.Name x p) i pos') X.env]:=by rfl):Bx (PSd X (.Assign [.Subscript (.Name x p) i pos'] value pos) (h9 j f g)):=⟨yv j hN hv hval.out hi.out hd hcd ha hs hw h1⟩
def tW (hm:X.mg "range"=none) (ha:Bx (PAd X [a,b,c] f):=by walk_at "a") (hg:Gl X "range":=by rfl) (hs:starEach [a,b,c] X.env=[(false,eval a X.env),(false,eval b X.env),(false,eval c X.env)]:=by rfl) (hs2:starEach [b,c] X.env=[(false,eval b X.env),(false,eval c X.env)]:=by rfl):Bx (PId X tg (.Call (.Name "range" p) [a,b,c] [] pos) (gZ f)):=⟨yF hg hm ha.out hs hs2⟩
def xA (hm2:X.mg "reversed"=none) (hm:X.mg "range"=none) (ha:Bx (PAd X [a] f):=by walk_at "a") (hg2:Gl X "reversed":=by rfl) (hg:Gl X "range":=by rfl) (he:starEach [.Call (.Name "range" p) [a] [] pos] X.env=(false,eval (.Call (.Name "range" p) [a] [] pos) X.env)::starEach [] X.env:=by rfl) (hpl:(backTo pos2 (starEach [] X.env)).any (·.1)=false:=by rfl) (he2:starEach [a] X.env=(false,eval a X.env)::starEach [] X.env:=by rfl) (hpl2:(backTo pos (starEach [] X.env)).any (·.1)=false:=by rfl):Bx (PId X tg (.Call (.Name "reversed" p2) [.Call (.Name "range" p) [a] [] pos] [] pos2) (wc f)):=⟨CC hg2 hm2 hg hm ha.out he hpl he2 hpl2⟩
def xq  : Bx (PSd X (.Break pos) Fg):=⟨Cg ⟩
def pb (i:Nat) (hN:X.N[i]?=some x:=by exact rfl) (he:Bx (PEd X e f):=by walk_at "g") (hv:Vis X.env.scope x:=by walk_at "w") (hd:Dg x:=by decide) (hcd:Dc x:=by decide) (hbase:attributeBase (.Name x p) "extend" X.env (eval (.Name x p) X.env)=eval (.Name x p) X.env:=by rfl) (hfew:((backTo cpos (starEach [e] X.env)).all (λ x=>!x.1)&&(backToKw cpos (keywordEach [] X.env)).all (λ x=>x.1.isSome)
 && decide ([e].length+([]:List Keyword).length+(if ([]:List Keyword).isEmpty then 0 else 1) < 30))=true:=by rfl) (hline:(apos.endLine == cpos.line)=true:=by rfl) (hst:starEach [e] X.env=(false,eval e X.env)::starEach [] X.env:=by rfl) (hplain:(backTo cpos (starEach [] X.env)).any (·.1)=false:=by rfl) (hs:swapsWith (.Call (.Attribute (.Name x p) "extend" apos) [e] [] cpos) none pos.line X.env=pure false:=by rfl):Bx (PSd X (.Expr (.Call (.Attribute (.Name x p) "extend" apos) [e] [] cpos) pos) (yg i f)):=⟨Cf i hN hv he.out hd hcd hbase hfew hline hst hplain hs⟩
def xo (hc:Bx (PTd X c t):=by walk_at "h") (ha:Bx (PTd X a (dT f)):=by walk_at "h") (hb:Bx (PTd X b (dT g)):=by walk_at "h"):Bx (PTd X (.IfExp c a b pos) (dT (dIf t f g))):=⟨B6 hc.out ha.out hb.out⟩
def cc (ha:Bx (PEd X a f):=by walk_at "g") (hb:Bx (PEd X b g):=by walk_at "g"):Bx (PEd X (.BinOp a .Add b pos) (dOp cp f g)):=eU KG ha hb
def jL (ha:Bx (PEd X a f):=by walk_at "g") (hb:Bx (PEd X b g):=by walk_at "g"):Bx (PEd X (.BinOp a .Sub b pos) (dOp lT f g)):=eU Kv ha hb
def bM (ha:Bx (PEd X a f):=by walk_at "g") (hb:Bx (PEd X b g):=by walk_at "g"):Bx (PEd X (.BinOp a .Mult b pos) (dOp gi f g)):=eU Kz ha hb
def aG (ha:Bx (PEd X a f):=by walk_at "g") (hb:Bx (PEd X b g):=by walk_at "g"):Bx (PEd X (.BinOp a .FloorDiv b pos) (dOp oDiv f g)):=eU KD ha hb
def cH (ha:Bx (PEd X a f):=by walk_at "g") (hb:Bx (PEd X b g):=by walk_at "g"):Bx (PEd X (.BinOp a .Mod b pos) (dOp oMod f g)):=eU KA ha hb
def Eo (ha:Bx (PEd X a f):=by walk_at "g") (hb:Bx (PEd X b g):=by walk_at "g"):Bx (PEd X (.BinOp a .Pow b pos) (dOp C9 f g)):=eU Kw ha hb
def MY (ha:Bx (PEd X a f):=by walk_at "g") (hb:Bx (PEd X b g):=by walk_at "g"):Bx (PEd X (.Compare a [.Lt] [b] pos) (dOp oLt f g)):=ny Mw ha hb 
def jH (ha:Bx (PEd X a f):=by walk_at "g") (hb:Bx (PEd X b g):=by walk_at "g"):Bx (PTd X (.Compare a [.Lt] [b] pos) (dT (dOp oLt f g))):=c6 Mw ha hb 
def Bl (ha:Bx (PEd X a f):=by walk_at "g") (hb:Bx (PEd X b g):=by walk_at "g"):Bx (PTd X (.Compare a [.LtE] [b] pos) (dT (dOp oLe f g))):=c6 NB ha hb 
def Ml (ha:Bx (PEd X a f):=by walk_at "g") (hb:Bx (PEd X b g):=by walk_at "g"):Bx (PEd X (.Compare a [.Gt] [b] pos) (dOp oGt f g)):=ny Mx ha hb 
def lD (ha:Bx (PEd X a f):=by walk_at "g") (hb:Bx (PEd X b g):=by walk_at "g"):Bx (PTd X (.Compare a [.Gt] [b] pos) (dT (dOp oGt f g))):=c6 Mx ha hb 
def z7 (ha:Bx (PEd X a f):=by walk_at "g") (hb:Bx (PEd X b g):=by walk_at "g"):Bx (PTd X (.Compare a [.Is] [b] pos) (dT (dOp vv f g))):=c6 KC ha hb 
def jn (ha:Bx (PEd X a f):=by walk_at "g") (hb:Bx (PEd X b g):=by walk_at "g"):Bx (PTd X (.Compare a [.IsNot] [b] pos) (dT (dOp kP f g))):=c6 Gb ha hb 
def z6 (ha:Bx (PEd X a f):=by walk_at "g") (hb:Bx (PEd X b g):=by walk_at "g") (hm:behindInMarks .NotIn b=false:=by rfl): Bx (PTd X (.Compare a [.NotIn] [b] pos) (dT (dOp iA f g))):=c6 yQ ha hb hm
def Mm (ha:Bx (PEd X a f):=by walk_at "g") (hb:Bx (PEd X b g):=by walk_at "g") (hr:gj jj X.A:=by assumption):Bx (PEd X (.Compare a [.Eq] [b] pos) (dOp oEq f g)):=ny (Mz hr.units) ha hb 
def cq (ha:Bx (PEd X a f):=by walk_at "g") (hb:Bx (PEd X b g):=by walk_at "g") (hr:gj jj X.A:=by assumption):Bx (PTd X (.Compare a [.Eq] [b] pos) (dT (dOp oEq f g))):=c6 (Mz hr.units) ha hb 
def b7 (ha:Bx (PEd X a f):=by walk_at "g") (hb:Bx (PEd X b g):=by walk_at "g") (hr:gj jj X.A:=by assumption):Bx (PTd X (.Compare a [.NotEq] [b] pos) (dT (dOp oNe f g))):=c6 (Mv hr.units) ha hb 
def gf (ha:Bx (PEd X a f):=by walk_at "g"):Bx (PEd X (.UnaryOp .USub a pos) (dUn ju f)):=En Kx ha
def cE (h:Bx (PEd X e f)) (he:Se X e []:=by rfl):Bx (PAd X [e] (ah f aC)):=aF h bZ he
def aP {e2:Expr} {f2:DE} (h:Bx (PEd X e f)) (h2:Bx (PEd X e2 f2)) (he:Se X e [e2]:=by rfl) (he2:Se X e2 []:=by rfl):Bx (PAd X [e,e2] (ah f (ah f2 aC))):=aF h (cE h2 he2) he
def dh {e2 e3:Expr} {f2 f3:DE} (h:Bx (PEd X e f)) (h2:Bx (PEd X e2 f2)) (h3:Bx (PEd X e3 f3)) (he:Se X e [e2,e3]:=by rfl) (he2:Se X e2 [e3]:=by rfl) (he3:Se X e3 []:=by rfl):Bx (PAd X [e,e2,e3] (ah f (ah f2 (ah f3 aC)))):=aF h (aP h2 h3 he2 he3) he
def a8 (i:Nat) {j:Int} (hN:X.N[i]?=some x:=by exact rfl) (hv:Vis X.env.scope x:=by walk_at "w") (hd:Dg x:=by decide) (hcd:Dc x:=by decide):Bx (PEd X (.Subscript (.Name x p) (.Constant (.int j) k q) r) (dOp oIx (ao i) (dC (.int j)))):=aT (aa i hN hv hd hcd) ai (λ _ _=>rfl)
def bo (i:Nat) {x:Str} {f:DE} {pos':Pos} (hN:X.N.Nodup) (he:Bx (PEd X e f)) (hi:X.N[i]?=some x:=by exact rfl) (hx:Loc X.env.scope x:=by walk_at "v") (hs:Sw X e x pos' pos:=by rfl) (hf:Xl X x:=by walk_at "v"):Bx (PSd X (.Assign [.Name x pos'] e pos) (bA i f)):=xp i hN hi he hx hs hf
def Kc (K:W.Frag) (mg:Str->Option Value) (x:Str) (d:D):Prop:=∃ a,mg x=some (.ref a)/\∀ H,Rp K H (.ref a) d
def OC (h:Kc X.K X.mg x d) (hg:Gl X x:=by rfl) (hd:(x == ("__debug__":Str))=false:=by decide):Bx (PEd X (.Name x pos) (dC d)):=h.elim λ a h=>⟨CS (v:=.ref a) hg h.1 rfl h.2 hd⟩
def ckN {X:Cx} {scope:Scope} {cl:List (Str×Addr)} {x:Str} (cs:List (Str×Nat)) (h0:closureFor scope X.env=pure cl:=by rfl) (h1:scope.kind=.function:=by rfl) (h2:(scope.names.all λ y=>!(y.2 == .cell))=true:=by rfl)
 (h3:(scope.names.all λ y=>!(y.2 == .local)||(scope.names.lookup y.1 == some .local))=true:=by rfl) (h4:scope.names.lookup x=some .local:=by rfl) (h5:EJ X cl:=by repeat' first | exact trivial | rfl | constructor)
 (h6:((relabel scope X.env).names.all λ p=>!(p.2 == .cell||p.2 == .free)||(cl.lookup p.1).isSome)=true:=by rfl)
 (h7:AllP X scope cs:=by repeat' first | exact trivial | rfl | constructor) (h8:(x::cs.map (·.1)).Nodup:=by decide +kernel):cw X scope cl x cs:=Eh cs h0 h1 h2 h3 h4 h5 h6 h7 h8
def ck0 {X:Cx} {scope:Scope} {x:Str} (h1:scope.kind=.function:=by rfl) (h2:∀ y ∈ scope.names,y.2≠.cell:=by decide +kernel) (h3:∀ y ∈ scope.names,y.2≠.free:=by decide +kernel) (h4:∀ y ∈ scope.names,y.2=.local->scope.names.lookup y.1=some .local:=by decide +kernel) (h5:scope.names.lookup x=some .local:=by rfl):cw X scope [] x []:=Ej h1 h2 h3 h4 h5
def ck2 {X:Cx} {scope:Scope} {cl:List (Str×Addr)} {x x2:Str} {cs:List (Str×Nat)} (O:cw X scope cl x cs) (h:scope.names.lookup x2=some .local:=by rfl) (nd:(x::x2::cs.map (·.1)).Nodup:=by decide +kernel):gO X scope cl x x2 cs:=⟨O,h,nd⟩
section
variable {P:Program} {w:World} {K:W.Frag} {mg:Str->Option Value} {base:Heap} {x q:Str} {st:Stmt} {ps:List Str} {k:Nat} {C:Addr}
abbrev Bdy (P:Program) (w:World) (K:W.Frag) (mg:Str->Option Value) (base:Heap) (k:Nat) (q:Str) (st:Stmt) (N:List Str) (J:Cx->List Stmt->Prop):Prop:=∀ {cdv:Value} {A:Around} {outer:List Env} {s:Shared} {H:Hp} {E:XK} {f:Addr},gj k (A.deeper (envOfC q (bq st) s.heap.objs.size f cdv))->N.Nodup->Bx (J (Bh CX0 P w K mg base N q (bq st) f cdv A outer s H E).nox (cC st))
def oD (N:List Str) {b:DS} (D:Df K mg x st ps) (h:Bdy P w K mg base k x st N λ X b'=>mv X b' b:=by intro _ _ _ _ _ _ _ _ _; walk_at "s") (S:iQ N ps (bq st):=by exact ⟨rfl,rfl,rfl,by decide +kernel,rfl,by decide +kernel,by decide +kernel⟩):Go P w K mg base (k+1) x (spF (cL N.length ps.length b) K) :=
 have ⟨a,d,F,m,bi⟩:=D
 ⟨a,d,ps,m,F.kp,bi,F.okD S λ cdv A outer s H E hr=>(h hr S.nd).out⟩
def oDm (N:List Str) {b:DS} (D:Mf K C x q st ps) (h:Bdy P w K mg base k q st N λ X b'=>mv X b' b:=by intro _ _ _ _ _ _ _ _ _; walk_at "s") (S:iQ N ps (bq st):=by exact ⟨rfl,rfl,rfl,by decide +kernel,rfl,by decide +kernel,by decide +kernel⟩):GoM P w K mg base (k+1) C x (spF (cL N.length ps.length b) K) :=
 have ⟨a,d,F,m,bi⟩:=D
 ⟨a,d,ps,m,bi,F.okD S λ cdv A outer s H E hr=>(h hr S.nd).out⟩
def oLD (N:List Str) {b:DS} {a:Addr} {d:FuncData} (F:Fun K x x st a d) (h:Bdy P w K mg base k x st N λ X b'=>mv X b' b:=by intro _ _ _ _ _ _ _ _ _; walk_at "s") (S:iQ N ps (bq st):=by exact ⟨rfl,rfl,rfl,by decide +kernel,rfl,by decide +kernel,by decide +kernel⟩):ko P w K mg base CX0 (k+1) a d ps (spF (cL N.length ps.length b) K):=F.okD S λ cdv A outer s H E hr=>(h hr S.nd).out
def Fn0.df {f:Addr} {h:Heap} (e:Fn0 K x st f) (X:K.In h) (G:h.Ns mainGlobals mg) (hb:∀ (kV doc pm:Value) (an:Option Addr) (cdv ct:Value) (us:List Value),us.length=ps.length->bindArgs (PySem.W.fnOf x x (cX st) (cC st) (bq st) .none kV doc pm an cdv ct) ⟨us,[]⟩=pure (ps.zip us)):Df K mg x st ps :=
 have ⟨d,F,m,b⟩:=e.mk X G hb
 ⟨f,d,F,m,b⟩
def LQ {f:Addr} {oc:Value} {od an:Option Addr} {osl:Array (Option Value)} {kV doc pm cdv ct:Value} (a:W.findIn K (.ref C) x=some (some (.ref f))) (i:PySem.W.isFn K (.ref f)=true) (l:K.lookup f=some ⟨oc,od,.func (PySem.W.fnOf x q (cX st) (cC st) (bq st) .none kV doc pm an cdv ct),osl⟩) (c:PySem.W.codeIn K cdv q=true) (k:W.keepIn K (.ref f)=true) (hb:∀ (kV doc pm:Value) (an:Option Addr) (cdv ct:Value) (us:List Value),us.length=ps.length->bindArgs (PySem.W.fnOf x q (cX st) (cC st) (bq st) .none kV doc pm an cdv ct) ⟨us,[]⟩=pure (ps.zip us)):Mf K C x q st ps :=
 ⟨f,_,k7 (st:=st) l c k,⟨a,i,k⟩,(k7 (st:=st) l c k).binds hb⟩
def LY {f:Addr} {oc:Value} {od an:Option Addr} {osl:Array (Option Value)} {kV doc pm cdv ct:Value} (a:W.findIn K (.ref C) "__init__"=some (some (.ref f))) (i:PySem.W.isFn K (.ref f)=true) (l:K.lookup f=some ⟨oc,od,.func (PySem.W.fnOf "__init__" q (cX st) (cC st) (bq st) .none kV doc pm an cdv ct),osl⟩) (c:PySem.W.codeIn K cdv q=true) (k:W.keepIn K (.ref f)=true) (mk:PySem.W.makesIn K C=true) (kc:W.keepIn K (.ref C)=true) (hb:∀ (kV doc pm:Value) (an:Option Addr) (cdv ct:Value) (us:List Value),us.length=ps.length->bindArgs (PySem.W.fnOf "__init__" q (cX st) (cC st) (bq st) .none kV doc pm an cdv ct) ⟨us,[]⟩=pure (ps.zip us)):If K C q st ps :=
 ⟨f,_,k7 (st:=st) l c k,⟨mk,a,i,kc⟩,(k7 (st:=st) l c k).binds hb⟩
def Lf (K:W.Frag) (mg:Str->Option Value) (x:Str) (st:Stmt) (y:Str):Prop:=∃ a d,Fun K x x st a d/\mg x=some (.ref a)/\∀ (s:Shared) (u:Value),BindsTo s d ⟨[u],[]⟩ [(y,u)]
def LU {f:Addr} {y:Str} {h:Heap} (e:Fn0 K x st f) (X:K.In h) (G:h.Ns mainGlobals mg) (hb:∀ (kV doc pm:Value) (an:Option Addr) (cdv ct:Value) (s:Shared) (u:Value),BindsTo s (PySem.W.fnOf x x (cX st) (cC st) (bq st) .none kV doc pm an cdv ct) ⟨[u],[]⟩ [(y,u)]):Lf K mg x st y:=by
 obtain ⟨od,an,sl,oc,kV,dc,pm,cd,ct,a,l,c,k⟩:=e;exact ⟨_,_,k7 (st:=st) l c k,PySem.W.mg_of X G a,hb _ _ _ _ _ _⟩
end
end L2
end
section
namespace PF
open PySem L2
def nE:D:=(.tup [.int 0,.int 1])
noncomputable def j3:DS :=
 (aL (bA 0 (bf yS (ah (ao 0) aC)))
 (aL (bA 1 (bf yS (ah (ao 1) aC)))
 (aL (gr (dT (dOp oNe (ao 1) (dC (.int 0)))) (aL (bA 2 (dOp oMod (ao 0) (ao 1)))
 (aL (bA 0 (ao 1))
 (bA 1 (ao 2)))))
 (dJ (ao 0)))))
noncomputable def bR:List D->Option Sl:=cL 3 2 j3
noncomputable def Bu:DS :=
 (aL (bA 2 (dFn PF.bR (ah (dOp oIx (ao 0) (dC (.int 1))) (ah (dOp oIx (ao 1) (dC (.int 1))) aC))))
 (aL (bA 3 (dOp oDiv (dOp oIx (ao 1) (dC (.int 1))) (ao 2)))
 (aL (bA 4 (dOp cp (dOp gi (dOp oIx (ao 0) (dC (.int 0))) (ao 3)) (dOp gi (dOp oIx (ao 1) (dC (.int 0))) (dOp oDiv (dOp oIx (ao 0) (dC (.int 1))) (ao 2)))))
 (aL (bA 5 (dFn PF.bR (ah (ao 4) (ah (ao 2) aC))))
 (dJ (cY (ah (dOp oDiv (ao 4) (ao 5)) (ah (dOp gi (dOp oDiv (dOp oIx (ao 0) (dC (.int 1))) (ao 5)) (ao 3)) aC))))))))
noncomputable def js:List D->Option Sl:=cL 6 2 Bu
noncomputable def xH:DS :=
 (aL (bA 2 (dFn PF.bR (ah (dOp oIx (ao 0) (dC (.int 0))) (ah (dOp oIx (ao 1) (dC (.int 1))) aC))))
 (aL (bA 3 (dFn PF.bR (ah (dOp oIx (ao 1) (dC (.int 0))) (ah (dOp oIx (ao 0) (dC (.int 1))) aC))))
 (dJ (cY (ah (dOp gi (dOp oDiv (dOp oIx (ao 0) (dC (.int 0))) (ao 2)) (dOp oDiv (dOp oIx (ao 1) (dC (.int 0))) (ao 3))) (ah (dOp gi (dOp oDiv (dOp oIx (ao 0) (dC (.int 1))) (ao 3)) (dOp oDiv (dOp oIx (ao 1) (dC (.int 1))) (ao 2))) aC))))))
noncomputable def gJ:List D->Option Sl:=cL 4 2 xH
noncomputable def Bv:DS :=
 (dJ (dOp oLt (dOp gi (dOp oIx (ao 0) (dC (.int 0))) (dOp oIx (ao 1) (dC (.int 1)))) (dOp gi (dOp oIx (ao 1) (dC (.int 0))) (dOp oIx (ao 0) (dC (.int 1))))))
noncomputable def iy:List D->Option Sl:=cL 2 2 Bv
noncomputable def Ex:DS :=
 (aL (bA 1 (dC nE))
 (aL (nF (d7 (ao 0)) (gN 2) (bA 1 (dFn PF.js (ah (ao 1) (ah (ao 2) aC)))))
 (dJ (ao 1))))
noncomputable def dB:List D->Option Sl:=cL 3 1 Ex
noncomputable def xI:DS :=
 (dJ (dFn PF.js (ah (ao 0) (ah (cY (ah (dUn ju (dOp oIx (ao 1) (dC (.int 0)))) (ah (dOp oIx (ao 1) (dC (.int 1))) aC))) aC))))
noncomputable def cQ:List D->Option Sl:=cL 2 2 xI
noncomputable def HZ:DS :=
 (aL (sIf (dT (dOp oEq (dOp oIx (ao 1) (dC (.int 0))) (dC (.int 0)))) uI bg)
 (aL (sIf (dT (dOp oLt (dOp oIx (ao 1) (dC (.int 0))) (dC (.int 0)))) (dJ (dFn PF.gJ (ah (ao 0) (ah (cY (ah (dUn ju (dOp oIx (ao 1) (dC (.int 1)))) (ah (dUn ju (dOp oIx (ao 1) (dC (.int 0)))) aC))) aC)))) bg)
 (dJ (dFn PF.gJ (ah (ao 0) (ah (cY (ah (dOp oIx (ao 1) (dC (.int 1))) (ah (dOp oIx (ao 1) (dC (.int 0))) aC))) aC))))))
noncomputable def mw:List D->Option Sl:=cL 2 2 HZ
noncomputable def Bw:DS :=
 (aL (sIf (dT (dFn PF.iy (ah (ao 0) (ah (ao 1) aC)))) (dJ (ao 1)) bg)
 (aL (sIf (dT (dOp vv (ao 2) (dC .non))) (dJ (ao 0)) bg)
 (aL (bA 3 (dIf (dT (dFn PF.iy (ah (ao 2) (ah (ao 1) aC)))) (ao 1) (ao 2)))
 (aL (sIf (dT (dFn PF.iy (ah (ao 3) (ah (ao 0) aC)))) (dJ (ao 3)) bg)
 (dJ (ao 0))))))
noncomputable def mx:List D->Option Sl:=cL 4 3 Bw
end PF
end
section
namespace PF
open PySem L2
noncomputable def xK:DS :=
 (aL (gs 1 (lU aC))
 (aL (bA 2 (dC (.int 0)))
 (aL (gr (dT (dOp oLt (ao 2) (bf d6 (ah (ao 0) aC)))) (aL (pF 1 (dOp lT (dOp oIx (ao 0) (ao 2)) (ao 2)))
 (bA 2 (dOp oIx (ao 0) (ao 2)))))
 (pO 1))))
noncomputable def pE:List D->Option Sl:=cL 3 1 xK
noncomputable def Ey:DS :=
 (aL (bA 2 (dOp lT (bf d6 (ah (ao 0) aC)) (dC (.int 2))))
 (aL (bA 3 (dOp lT (dOp oIx (ao 0) (dUn ju (dC (.int 1)))) (dOp oIx (ao 0) (ao 1))))
 (aL (bA 4 (dOp cp (ao 1) (dC (.int 1))))
 (aL (gr (fE (dT (dOp oLt (ao 4) (ao 2))) (dT (dOp oLe (dOp cp (dOp oIx (ao 0) (dUn ju (dC (.int 2)))) (dOp oIx (ao 0) (ao 4))) (ao 3)))) (aL (lY 3 mV (dOp cp (dOp oIx (ao 0) (dUn ju (dC (.int 2)))) (dOp oIx (ao 0) (ao 4))))
 (lY 4 j7 (dC (.int 1)))))
 (dJ (ao 4))))))
noncomputable def eV:List D->Option Sl:=cL 5 2 Ey
noncomputable def Af:DS :=
 (aL (bA 3 (dC (.int 1)))
 (aL (nF (d7 (dOp cp (ao 0) (lU (ah (ao 1) (ah (ao 2) aC))))) (gN 4) (bA 3 (dOp gi (dOp oDiv (ao 3) (dFn PF.bR (ah (ao 3) (ah (dOp oIx (ao 4) (dC (.int 1))) aC)))) (dOp oIx (ao 4) (dC (.int 1))))))
 (dJ (cx (d7 (dOp cp (ao 0) (lU (ah (ao 1) (ah (ao 2) aC))))) (dOp gi (dOp oIx (ao 0) (dC (.int 0))) (dOp oDiv (ao 1) (dOp oIx (ao 0) (dC (.int 1))))) [("scale",3)]))))
noncomputable def ku:List D->Option Sl:=cL 5 3 Af
noncomputable def pB:DS :=
 (aL (bA 3 (dFn PF.ku (ah (ao 0) (ah (ao 1) (ah (ao 2) aC)))))
 (dJ (cx (gy (ah (bf d6 (ah (ao 0) aC)) aC)) (dFn PF.eV (ah (ao 1) (ah (ao 0) aC))) [("numbers",3)])))
noncomputable def j4:List D->Option Sl:=cL 4 3 pB
end PF
end
section
namespace PF
open PySem L2
noncomputable def pC:DS :=
 (dJ (dIf (fE (dT (dOp kP (dOp oIx (ao 0) (dC (.int 2))) (dC .non))) (dT (dFn PF.iy (ah (dOp oIx (ao 0) (dC (.int 2))) (ah (dOp oIx (ao 0) (dC (.int 1))) aC))))) (dOp oIx (ao 0) (dC (.int 1))) (dOp oIx (ao 0) (dC (.int 2)))))
noncomputable def gK:List D->Option Sl:=cL 1 1 pC
noncomputable def Ae:DS :=
 (aL (sIf (dT (dOp vv (ao 0) (dC .non))) (dJ (dC .non)) bg)
 (aL (bA 2 (dFn PF.cQ (ah (ao 0) (ah (ao 1) aC))))
 (dJ (cY (ah (bf yS (ah (dOp oIx (ao 2) (dC (.int 0))) aC)) (ah (dOp oIx (ao 2) (dC (.int 1))) aC))))))
noncomputable def kr:List D->Option Sl:=cL 3 2 Ae
noncomputable def Ez:DS :=
 (aL (bA 4 (dFn PF.gJ (ah (ao 1) (ah (ao 2) aC))))
 (dJ (dIf (dT (ao 3)) (dFn PF.js (ah (ao 0) (ah (ao 4) aC))) (dFn PF.cQ (ah (ao 0) (ah (ao 4) aC))))))
noncomputable def nB:List D->Option Sl:=cL 5 4 Ez
noncomputable def lL:DS :=
 (aL (sIf (dT (dOp vv (ao 0) (dC .non))) (dJ (dC (.bl false))) bg)
 (dJ (dFn PF.iy (ah (ao 0) (ah (cY (ah (dOp gi (dOp oIx (ao 1) (dC (.int 0))) (dOp oIx (ao 2) (dC (.int 0)))) (ah (dOp gi (dOp oIx (ao 1) (dC (.int 1))) (dOp oIx (ao 2) (dC (.int 1)))) aC))) aC)))))
noncomputable def dD:List D->Option Sl:=cL 3 3 lL
noncomputable def lH:DS :=
 (aL (bA 3 (eO (gy (ah (bf d6 (ah (ao 1) aC)) aC)) (dT (dOp oNe (dOp oIx (ao 1) (ao 0)) (cY (ah (dC (.int 0)) (ah (dC (.int 1)) aC))))) (ao 0) [("shares",1)]))
 (aL (bA 4 (dFn PF.dB (ah (cx (d7 (ao 3)) (dOp oIx (ao 1) (ao 0)) [("shares",1)]) aC)))
 (aL (gs 5 (lU aC))
 (aL (gr (dT (dOp oNe (ao 3) (lU aC))) (aL (bA 6 (cY (ah (dOp gi (dOp oIx (ao 2) (dC (.int 0))) (dOp oIx (ao 4) (dC (.int 1)))) (ah (dOp gi (dOp oIx (ao 2) (dC (.int 1))) (dOp oIx (ao 4) (dC (.int 0)))) aC))))
 (aL (bA 7 (eO (d7 (ao 3)) (dT (dFn PF.dD (ah (dOp oIx (ao 2) (ao 0)) (ah (dOp oIx (ao 3) (ao 0)) (ah (ao 1) aC))))) (ao 0) [("level",6),("ways",0),("shares",1)]))
 (aL (sIf (dT (dOp oEq (ao 7) (lU aC))) (uK 5 (dJ (cY (ah (dFn PF.mw (ah (ao 2) (ah (ao 4) aC))) (ah (ao 5) aC))))) bg)
 (aL (pF 5 (ao 7))
 (aL (bA 2 (dFn PF.cQ (ah (ao 2) (ah (dFn PF.dB (ah (cx (d7 (ao 7)) (dOp oIx (ao 1) (ao 0)) [("ways",0)]) aC)) aC))))
 (aL (bA 4 (dFn PF.cQ (ah (ao 4) (ah (dFn PF.dB (ah (cx (d7 (ao 7)) (dOp oIx (ao 1) (ao 0)) [("shares",1)]) aC)) aC))))
 (bA 3 (eO (d7 (ao 3)) (dT (dOp iA (ao 0) (ao 1))) (ao 0) [("beyond",7)])))))))))
 (uK 5 (dJ (cY (ah (dC .non) (ah (ao 5) aC)))))))))
noncomputable def f6:List D->Option Sl:=cL 8 3 lH
noncomputable def xJ:DS :=
 (aL (gs 2 (cx (d7 (ao 0)) (dFn PF.mx (ah (dOp oIx (ao 0) (dC (.int 0))) (ah (dOp oIx (ao 0) (dC (.int 1))) (ah (dOp oIx (ao 0) (dC (.int 2))) aC)))) []))
 (aL (bA 3 (nk 2 (dFn PF.cQ (ah (ao 1) (ah (dFn PF.dB (ah (ao 2) aC)) aC)))))
 (aL (sIf (dT (dOp oEq (ao 3) (cY (ah (dC (.int 0)) (ah (dC (.int 1)) aC))))) (uK 2 (dJ (cY (ah (ao 2) (ah (cY (ah (dC (.int 0)) (ah (dC (.int 1)) aC))) (ah (lU aC) aC)))))) bg)
 (aL (bA 4 (dOp oGt (dOp oIx (ao 3) (dC (.int 0))) (dC (.int 0))))
 (aL (bA 5 (cx (d7 (ao 0)) (dIf (dT (ao 1)) (dOp oIx (ao 0) (dC (.int 3))) (dOp oIx (ao 0) (dC (.int 4)))) [("grows",4)]))
 (aL (bA 6 (cx (d7 (ao 0)) (dIf (dT (ao 1)) (dFn PF.gK (ah (ao 0) aC)) (dOp oIx (ao 0) (dC (.int 1)))) [("grows",4)]))
 (aL (bA 7 (j9 2 (gz (l5 (ah (ao 6) (ah (ao 2) aC))) (dFn PF.kr (ah (ao 0) (ah (ao 1) aC))) [])))
 (aL (bA 8 (dFn PF.f6 (ah (ao 7) (ah (ao 5) (ah (cY (ah (bf yS (ah (dOp oIx (ao 3) (dC (.int 0))) aC)) (ah (dOp oIx (ao 3) (dC (.int 1))) aC))) aC)))))
 (aL (EF 9 2 (dT (dOp kP (dOp oIx (ao 8) (dC (.int 0))) (dC .non))))
 (aL (sIf (dT (dOp kP (dOp oIx (ao 8) (dC (.int 0))) (dC .non))) (gs 9 (j9 2 (gz (l5 (ah (ao 2) (ah (ao 5) aC))) (dFn PF.nB (ah (ao 0) (ah (ao 1) (ah (dOp oIx (ao 3) (dC (.int 0))) (ah (ao 2) aC))))) [("grows",4),("found",8)]))) bg)
 (aL (nF (d7 (dOp oIx (ao 8) (dC (.int 1)))) (gN 10) (nF (d7 (ao 10)) (gN 11) (h9 9 (dOp oIx (ao 6) (ao 11)) (ao 11))))
 (uK 9 (dJ (cY (ah (ao 9) (ah (dOp oIx (ao 8) (dC (.int 0))) (ah (dOp oIx (ao 8) (dC (.int 1))) aC)))))))))))))))))
noncomputable def iR:List D->Option Sl:=cL 12 2 xJ
end PF
end
section
namespace PF
open PySem L2
noncomputable def t5:DS :=
 (aL (bA 3 (dOp lT (dOp oIx (ao 0) (dUn ju (dC (.int 1)))) (dOp oIx (ao 0) (ao 2))))
 (aL (bA 4 (dC .non))
 (aL (nF (jg (ah (dOp cp (ao 2) (dC (.int 1))) (ah (dOp cp (dFn PF.eV (ah (ao 0) (ah (ao 2) aC))) (dC (.int 1))) aC))) (gN 5) (aL (bA 6 (dOp cp (dOp gi (bf mQ (ah (ao 3) (ah (dC (.int 0)) aC))) (bf mQ (ah (ao 3) (ah (dC (.int 0)) aC)))) (dOp oIx (ao 1) (ao 5))))
 (aL (sIf (dOr (dT (dOp vv (ao 4) (dC .non))) (dT (dOp oLe (ao 6) (dOp oIx (ao 4) (dC (.int 0)))))) (bA 4 (cY (ah (ao 6) (ah (ao 5) aC)))) bg)
 (lY 3 mV (dOp cp (dOp oIx (ao 0) (dUn ju (dC (.int 2)))) (dOp oIx (ao 0) (ao 5)))))))
 (dJ (ao 4)))))
noncomputable def hZ:List D->Option Sl:=cL 7 3 t5
noncomputable def qT:DS :=
 (aL (bA 3 (dFn PF.ku (ah (ao 0) (ah (ao 1) (ah (ao 2) aC)))))
 (aL (bA 4 (bf d6 (ah (ao 0) aC)))
 (aL (gs 5 (cx (gy (ah (dOp cp (ao 4) (dC (.int 1))) aC)) (dC (.int 0)) []))
 (aL (gs 6 (cx (gy (ah (ao 4) aC)) (ao 1) [("length",4)]))
 (aL (nF (gZ (ah (dOp lT (ao 4) (dC (.int 1))) (ah (dUn ju (dC (.int 1))) (ah (dUn ju (dC (.int 1))) aC)))) (gN 7) (sIf (dT (dOp oLt (dFn PF.eV (ah (ao 3) (ah (ao 7) aC))) (ao 4))) (aL (bA 8 (nk 5 (dFn PF.hZ (ah (ao 3) (ah (ao 5) (ah (ao 7) aC))))))
 (aL (h9 5 (dOp oIx (ao 8) (dC (.int 0))) (ao 7))
 (h9 6 (dOp oIx (ao 8) (dC (.int 1))) (ao 7)))) bg))
 (pO 6))))))
noncomputable def iT:List D->Option Sl:=cL 9 3 qT
end PF
end
section
local macro_rules | `(tactic| walk_at "v")=>`(tactic| first | exact .inl rfl | exact .inr rfl | assumption)
local macro_rules | `(tactic| walk_at "w")=>`(tactic| first | exact .inl rfl | exact .inr (.inl rfl) | exact .inr (.inr rfl))
namespace N36
open PySem L2
def nE:D:=(.tup [.int 0,.int 1])
def top (i:Nat):Stmt:=PySem.Challenge.pw_stylehouse_k36_lined_by_levels.main.body.getD i (.Pass ⟨0,0,0,0⟩)
structure Adr where
 gC:Addr
structure Txt (K:W.Frag) (mg:Str->Option Value) (t:Adr):Prop where
 GZ:mg "Flow"=some (.ref t.gC)
 lC:Cls K t.gC
 fc:jr K t.gC "word"
 wJ:Df K mg "counted" (top 24) ["ends"]
 qo:Df K mg "number_of" (top 31) ["value"]
 wD:Df K mg "most_of" (top 16) ["item"]
 D0:Df K mg "total" (top 11) ["some"]
 wI:Df K mg "flow_of" (top 23) ["word"]
 tQ:Df K mg "_law_sum" (top 47) ["_law_some"]
 Mb:Lf K mg "law" (top 61) "_law_script"
 oB:Df K mg "divisor_of" (top 6) ["one","other"]
 HC:Df K mg "less" (top 12) ["one","other"]
 D2:Df K mg "reach" (top 27) ["numbers","place"]
 qA:Df K mg "_law_cell" (top 40) ["_law_script","_law_k"]
 m8:Df K mg "_law_lowest" (top 42) ["_law_top","_law_bottom"]
 oH:Df K mg "_law_under" (top 46) ["_law_one","_law_other"]
 HA:Df K mg "plus" (top 7) ["one","other"]
 D1:Df K mg "times" (top 9) ["one","other"]
 oJ:Df K mg "_law_mixed" (top 41) ["_law_script","_law_k"]
 qv:Df K mg "_law_plus" (top 43) ["_law_one","_law_other"]
 oK:Df K mg "_law_minus" (top 44) ["_law_one","_law_other"]
 oI:Df K mg "_law_times" (top 45) ["_law_one","_law_other"]
 iH:Df K mg "_law_is_fractions" (top 52) ["_law_found","_law_many"]
 D4:Df K mg "minus" (top 8) ["one","other"]
 HB:Df K mg "over" (top 10) ["one","other"]
 tP:Df K mg "ahead_of" (top 38) ["spread","left"]
 zI:Df K mg "way_to" (top 17) ["bound","begin"]
 wC:Df K mg "room_of" (top 32) ["values","width"]
 wG:Df K mg "item_of" (top 33) ["wish","room"]
 qw:Df K mg "_law_item" (top 51) ["_law_wish_here","_law_room"]
 qy:Df K mg "_law_come" (top 53) ["_law_begins","_law_gap"]
 D6:Df K mg "dealt" (top 15) ["items","room"]
 HD:Df K mg "held" (top 13) ["one","low","high"]
 qp:Df K mg "is_beyond" (top 20) ["way","share","level"]
 zJ:Df K mg "scaled" (top 25) ["widths","gap","room"]
 tO:Df K mg "cheapest" (top 29) ["numbers","prices","place"]
 oA:Df K mg "reaches_of" (top 26) ["widths","gap","room"]
 qq:Df K mg "best_ends" (top 28) ["widths","gap","room"]
 wH:Df K mg "in_room" (top 34) ["value","room","other"]
 m9:Df K mg "_law_length" (top 48) ["_law_script","_law_k","_law_scale"]
 ng:Df K mg "_law_amount" (top 50) ["_law_value","_law_room","_law_other"]
 oO:Df K mg "_law_level" (top 56) ["_law_items","_law_widths","_law_grows"]
 qm:Df K mg "rounds_of" (top 19) ["ways","shares","amount"]
 wF:Df K mg "left_of" (top 37) ["line","gap","room"]
 oP:Df K mg "_law_dealt" (top 57) ["_law_items","_law_widths","_law_inner"]
 qx:Df K mg "_law_fair" (top 54) ["_law_begins","_law_gap","_law_room"]
 D5:Df K mg "lined" (top 35) ["values","width","wishes"]
 D3:Df K mg "moved" (top 18) ["begin","share","level","grows"]
 qu:Df K mg "_law_wish" (top 49) ["_law_script","_law_k","_law_scale","_law_parts"]
 m7:Df K mg "_law_values" (top 60) ["_law_head","_law_gap","_law_pad","_law_flow","_law_spread"]
 qr:Df K mg "begins_of" (top 36) ["line","spread","gap","edge","room"]
 jl:Df K mg "_law_counts_good" (top 55) ["_law_counts","_law_flow","_law_begins","_law_gap","_law_room"]
 l9:Df K mg "_law_xs_good" (top 58) ["_law_xs","_law_widths","_law_spread","_law_edge","_law_gap","_law_inner"]
 jE:Df K mg "_law_lines_good" (top 59) ["_law_found","_law_items","_law_flow","_law_spread","_law_edge","_law_gap","_law_room"]
 lj:If K t.gC "Flow.__init__" (inClass (top 22) 0) ["self","word"]
 nh:Mf K t.gC "counts" "Flow.counts" (inClass (top 22) 1) ["self","widths","gap","room"]
 ue:mg "abs"=none
 Ag:mg "bool"=none
 EN:mg "dict"=none
 EM:mg "int"=none
 cf:mg "isinstance"=none
 cW:mg "len"=none
 ud:mg "list"=none
 EL:mg "max"=none
 eE:mg "range"=none
 sQ:mg "reversed"=none
 uc:mg "tuple"=none
 xR:mg "zip"=none
 yj:Kc K mg "NOUGHT" nE
abbrev gOD (f:∀ (P:Program) (w:World) (K:W.Frag) (mg:Str->Option Value) (base:Heap),DS->Prop) (t:Adr):Type:={G:DS // ∀ {P w K mg base},Txt K mg t->f P w K mg base G}
abbrev gO0 (f:∀ (P:Program) (w:World) (K:W.Frag) (mg:Str->Option Value) (base:Heap),DS->Prop):Type:={G:DS // ∀ {t P w K mg base},Txt K mg t->f P w K mg base G}
abbrev gFD (k:Nat) (x:Str) (n m:Nat) (P:Program) (w:World) (K:W.Frag) (mg:Str->Option Value) (base:Heap) (G:DS):Prop:=Go P w K mg base k x (spF (cL n m G) K)
abbrev gMD (k:Nat) (C:Addr) (x:Str) (n m:Nat) (P:Program) (w:World) (K:W.Frag) (mg:Str->Option Value) (base:Heap) (G:DS):Prop:=GoM P w K mg base k C x (spF (cL n m G) K)
section
variable {P:Program} {w:World} {K:W.Frag} {mg:Str->Option Value} {base:Heap} {t:Adr}
set_option maxHeartbeats 4000000
def dM (T:Txt K mg t):Go P w K mg base 1 "divisor_of" (spF PF.bR K):=oD ["one","other","rest"] T.oB λ hr nd =>
 (af (bo 0 nd (aB xk T.ue (cE (aa 0)))) (af (bo 1 nd (aB xk T.ue (cE (aa 1)))) (af (du (b7 (aa 1) ai) (af (bo 2 nd (cH (aa 0) (aa 1))) (af (bo 0 nd (aa 1)) (aj (bo 1 nd (aa 2)))))) (aj (au (aa 0))))))
def mi (T:Txt K mg t):Go P w K mg base 1 "less" (spF PF.iy K):=oD ["one","other"] T.HC λ hr nd =>
 (aj (au (MY (bM (a8 0) (a8 1)) (bM (a8 1) (a8 0)))))
def kO (T:Txt K mg t):GoI P w K mg base 1 t.gC (ux t.gC ["word"]):=by
 obtain ⟨a,d,F,m,bi⟩:=T.lj;refine ⟨a,d,_,m,bi,?_⟩;refine F.ok (N:=["self","word"]) ⟨rfl,rfl,rfl,by decide +kernel,rfl,by decide +kernel,by decide +kernel⟩ (λ vs H Q E h=>?_) (λ cdv A outer s H vs Q E hr h=>?_)
 ·obtain ⟨x,ws,dx,rfl,hl,_⟩:=h
  exact X4 (·+1) hl
 obtain ⟨x,ws,dx,rfl,hl,hH,q⟩:=h
 obtain ⟨v0,rfl⟩:∃ v0:V,ws=[v0]:=by
  match ws,hl with
  | [v0],_=>exact ⟨v0,rfl⟩
 refine ⟨_,(uO (Ft (pv 0) (pv 1) rfl)),?_⟩;refine ⟨_,rfl,_,rfl,x,_,dx,_,rfl,hH,T.lC,T.fc,(by show 0 < 1000; decide),?_⟩;exact q
def vn (T:Txt K mg t):Go P w K mg base 1 "counted" (spF PF.pE K):=oD ["ends","counts","place"] T.wJ λ hr nd =>
 (af (cb 1 nd (he:=bu bZ)) (af (bo 2 nd ai) (af (du (jH (aa 2) (aB cZ T.cW (cE (aa 0)))) (af (fA 1 (he:=jL (aT (aa 0) (aa 2)) (aa 2))) (aj (bo 2 nd (aT (aa 0) (aa 2)))))) (aj (fu 1)))))
def pT (T:Txt K mg t):Go P w K mg base 1 "reach" (spF PF.eV K):=oD ["numbers","place","length","left","end"] T.D2 λ hr nd =>
 (af (bo 2 nd (jL (aB cZ T.cW (cE (aa 0))) ai)) (af (bo 3 nd (jL (aT (aa 0) (gf ai)) (aT (aa 0) (aa 1)))) (af (bo 4 nd (cc (aa 1) ai)) (af (du (aK (bp (jH (aa 4) (aa 2)) (bc (Bl (cc (aT (aa 0) (gf ai)) (aT (aa 0) (aa 4))) (aa 3))))) (af (eQ 3 A4 rV nd (he:=cc (aT (aa 0) (gf ai)) (aT (aa 0) (aa 4)))) (aj (eQ 4 ox jf nd (he:=ai))))) (aj (au (aa 4)))))))
noncomputable def fT:gO0 (gFD 1 "number_of" 1 1):=⟨_,λ T=>oD ["value"] T.qo λ hr nd =>
 (aj (au (ay (aP (a8 0) (a8 0)))))⟩
noncomputable def eW:=cL 1 1 (fT).1
def dj (T:Txt K mg t):Go P w K mg base 1 "number_of" (spF (eW) K):=(fT).2 T
noncomputable def iO:gO0 (gFD 1 "_law_cell" 2 2):=⟨_,λ T=>oD ["_law_script","_law_k"] T.qA λ hr nd =>
 (af (aA (jH (aa 1) (aB cZ T.cW (cE (aa 0)))) (aj (au (aT (aa 0) (aa 1)))) av) (af (aA (cq (aB cZ T.cW (cE (aa 0))) ai) (aj (au (aa 1))) av) (aj (au (cc (bM (aT (aa 0) (cH (aa 1) (aB cZ T.cW (cE (aa 0))))) ai) (aa 1))))))⟩
noncomputable def iV:=cL 2 2 (iO).1
def iz (T:Txt K mg t):Go P w K mg base 1 "_law_cell" (spF (iV) K):=(iO).2 T
noncomputable def fW:gO0 (gFD 1 "_law_lowest" 5 2):=⟨_,λ T=>oD ["_law_top","_law_bottom","_law_one","_law_other","_law_rest"] T.m8 λ hr nd =>
 (af (bo 2 nd (aB xk T.ue (cE (aa 0)))) (af (bo 3 nd (aa 1)) (af (du (b7 (aa 3) ai) (af (bo 4 nd (cH (aa 2) (aa 3))) (af (bo 2 nd (aa 3)) (aj (bo 3 nd (aa 4)))))) (aj (au (ay (aP (aG (aa 0) (aa 2)) (aG (aa 1) (aa 2)))))))))⟩
noncomputable def bh:=cL 5 2 (fW).1
def bO (T:Txt K mg t):Go P w K mg base 1 "_law_lowest" (spF (bh) K):=(fW).2 T
noncomputable def gD:gO0 (gFD 1 "_law_under" 2 2):=⟨_,λ T=>oD ["_law_one","_law_other"] T.oH λ hr nd =>
 (aj (au (MY (bM (a8 0) (a8 1)) (bM (a8 1) (a8 0)))))⟩
noncomputable def aZ:=cL 2 2 (gD).1
def bQ (T:Txt K mg t):Go P w K mg base 1 "_law_under" (spF (aZ) K):=(gD).2 T
noncomputable def fU:gO0 (gFD 1 "_law_values" 7 5):=⟨_,λ T=>oD ["_law_head","_law_gap","_law_pad","_law_flow","_law_spread","_law_values_here","_law_prop"] T.m7 λ hr nd =>
 (af (cb 5 nd (he:=pe (fB aw (ay (aP aw aw)) (fB aw (ay (dh aw ai ai)) (fB aw (eU nW (ay (cE aw)) (aa 1)) (fB aw (eU nW (ay (cE aw)) (aa 2)) pd)))))) (af (cU 5 hr.units (hval:=ay (aP aw aw)) (hi:=aw)) (af (cU 5 hr.units (hval:=ay (aP aw aw)) (hi:=aw)) (af (bE (aS (aJ (bu (aF aw (dh aw aw aw))))) (aQ 6 nd) (aj (cU 5 hr.units (hval:=ay (dh aw (cH (aG (aa 0) ai) ai) ai)) (hi:=aa 6)))) (af (cU 5 hr.units (hval:=ay (aP aw (aa 3))) (hi:=aw)) (af (cU 5 hr.units (hval:=ay (aP aw (aa 4))) (hi:=aw)) (af (cU 5 hr.units (hval:=ay (aP aw aw)) (hi:=aw)) (aj (fu 5)))))))))⟩
noncomputable def d8:=cL 7 5 (fU).1
def mN (T:Txt K mg t):Go P w K mg base 1 "_law_values" (spF (d8) K):=(fU).2 T
def nY (T:Txt K mg t):Go P w K mg base 2 "plus" (spF PF.js K):=oD ["one","other","shared","rest","top","left"] T.HA λ hr nd =>
 (af (bo 2 nd (ak (dM T) hr (aP (a8 0) (a8 1)))) (af (bo 3 nd (aG (a8 1) (aa 2))) (af (bo 4 nd (cc (bM (a8 0) (aa 3)) (bM (a8 1) (aG (a8 0) (aa 2))))) (af (bo 5 nd (ak (dM T) hr (aP (aa 4) (aa 2)))) (aj (au (ay (aP (aG (aa 4) (aa 5)) (bM (aG (a8 0) (aa 5)) (aa 3))))))))))
def fI (T:Txt K mg t):Go P w K mg base 2 "times" (spF PF.gJ K):=oD ["one","other","first","second"] T.D1 λ hr nd =>
 (af (bo 2 nd (ak (dM T) hr (aP (a8 0) (a8 1)))) (af (bo 3 nd (ak (dM T) hr (aP (a8 1) (a8 0)))) (aj (au (ay (aP (bM (aG (a8 0) (aa 2)) (aG (a8 1) (aa 3))) (bM (aG (a8 0) (aa 3)) (aG (a8 1) (aa 2)))))))))
def Ar (T:Txt K mg t):Go P w K mg base 2 "held" (spF PF.mx K):=oD ["one","low","high","bound"] T.HD λ hr nd =>
 (af (aA (aE (ak (mi T) hr (aP (aa 0) (aa 1)))) (aj (au (aa 1))) av) (af (aA (z7 (aa 2) ck) (aj (au (aa 0))) av) (af (bo 3 nd (dY (aE (ak (mi T) hr (aP (aa 2) (aa 1)))) (aa 1) (aa 2))) (af (aA (aE (ak (mi T) hr (aP (aa 3) (aa 0)))) (aj (au (aa 3))) av) (aj (au (aa 0)))))))
def vi (T:Txt K mg t):Go P w K mg base 2 "most_of" (spF PF.gK K):=oD ["item"] T.wD λ hr nd =>
 (aj (au (dY (aK (bp (jn (a8 0) ck) (bc (aE (ak (mi T) hr (aP (a8 0) (a8 0))))))) (a8 0) (a8 0))))
def pU (T:Txt K mg t):Go P w K mg base 2 "is_beyond" (spF PF.dD K):=oD ["way","share","level"] T.qp λ hr nd =>
 (af (aA (z7 (aa 0) ck) (aj (au bP)) av) (aj (au (ak (mi T) hr (aP (aa 0) (ay (aP (bM (a8 1) (a8 2)) (bM (a8 1) (a8 2)))))))))
def rF (T:Txt K mg t):Go P w K mg base 2 "scaled" (spF PF.ku K):=oD ["widths","gap","room","scale","one"] T.zJ λ hr nd =>
 (af (bo 3 nd ai) (af (bE (aS (cc (aa 0) (aJ (bu (aP (aa 1) (aa 2)))))) (aQ 4 nd) (aj (bo 3 nd (bM (aG (aa 3) (ak (dM T) hr (aP (aa 3) (a8 4)))) (a8 4))))) (aj (au (aJ (c7 (ckN [("scale",3)]) (aS (cc (aa 0) (aJ (bu (aP (aa 1) (aa 2)))))) (λ _ _ _ _=>(bM (a8 0) (aG (aa 1) (a8 0))))))))))
def tu (T:Txt K mg t):Go P w K mg base 2 "cheapest" (spF PF.hZ K):=oD ["numbers","prices","place","left","best","end","price"] T.tO λ hr nd =>
 (af (bo 3 nd (jL (aT (aa 0) (gf ai)) (aT (aa 0) (aa 2)))) (af (bo 4 nd ck) (af (bE (j2 T.eE (aP (cc (aa 2) ai) (cc (ak (pT T) hr (aP (aa 0) (aa 2))) ai))) (aQ 5 nd) (af (bo 6 nd (cc (bM (aB (Bj rfl) T.EL (aP (aa 3) ai)) (aB (Bj rfl) T.EL (aP (aa 3) ai))) (aT (aa 1) (aa 5)))) (af (aA (aK (b8 (z7 (aa 4) ck) (cu (Bl (aa 6) (a8 4))))) (aj (bo 4 nd (ay (aP (aa 6) (aa 5))))) av) (aj (eQ 3 A4 rV nd (he:=cc (aT (aa 0) (gf ai)) (aT (aa 0) (aa 5)))))))) (aj (au (aa 4))))))
noncomputable def gF:gO0 (gFD 2 "_law_mixed" 2 2):=⟨_,λ T=>oD ["_law_script","_law_k"] T.oJ λ hr nd =>
 (aj (au (cH (cc (bM (cH (ak (iz T) hr (aP (aa 0) (aa 1))) ai) ai) ai) ai)))⟩
noncomputable def gL:=cL 2 2 (gF).1
def gw (T:Txt K mg t):Go P w K mg base 2 "_law_mixed" (spF (gL) K):=(gF).2 T
noncomputable def fV:gO0 (gFD 2 "_law_plus" 2 2):=⟨_,λ T=>oD ["_law_one","_law_other"] T.qv λ hr nd =>
 (aj (au (ak (bO T) hr (aP (cc (bM (a8 0) (a8 1)) (bM (a8 1) (a8 0))) (bM (a8 0) (a8 1))))))⟩
noncomputable def bC:=cL 2 2 (fV).1
def b5 (T:Txt K mg t):Go P w K mg base 2 "_law_plus" (spF (bC) K):=(fV).2 T
noncomputable def gG:gO0 (gFD 2 "_law_minus" 2 2):=⟨_,λ T=>oD ["_law_one","_law_other"] T.oK λ hr nd =>
 (aj (au (ak (bO T) hr (aP (jL (bM (a8 0) (a8 1)) (bM (a8 1) (a8 0))) (bM (a8 0) (a8 1))))))⟩
noncomputable def cF:=cL 2 2 (gG).1
def cz (T:Txt K mg t):Go P w K mg base 2 "_law_minus" (spF (cF) K):=(gG).2 T
noncomputable def gE:gO0 (gFD 2 "_law_times" 2 2):=⟨_,λ T=>oD ["_law_one","_law_other"] T.oI λ hr nd =>
 (aj (au (ak (bO T) hr (aP (bM (a8 0) (a8 1)) (bM (a8 0) (a8 1))))))⟩
noncomputable def a7:=cL 2 2 (gE).1
def bI (T:Txt K mg t):Go P w K mg base 2 "_law_times" (spF (a7) K):=(gE).2 T
noncomputable def cP:gO0 (gFD 2 "_law_is_fractions" 4 2):=⟨_,λ T=>oD ["_law_found","_law_many","_law_one","_law_part"] T.iH λ hr nd =>
 (af (aA (aK (b8 (bY (aE (aB oX T.cf (aP (aa 0) (gB (n:="list") T.ud))))) (cu (b7 (aB cZ T.cW (cE (aa 0))) (aa 1))))) (aj (au bP)) av) (af (bE (aS (aa 0)) (aQ 2 nd) (af (aA (aK (b8 (bY (aE (aB oX T.cf (aP (aa 2) (gB (n:="tuple") T.uc))))) (cu (b7 (aB cZ T.cW (cE (aa 2))) ai)))) (aj (au bP)) av) (af (bE (xy (aa 2)) (aQ 3 nd) (aj (aA (aK (b8 (bY (aE (aB oX T.cf (aP (aa 3) (gB (n:="int") T.EM))))) (cu (aE (aB oX T.cf (aP (aa 3) (gB (n:="bool") T.Ag))))))) (aj (au bP)) av))) (aj (aA (aK (b8 (jH (a8 2) ai) (cu (b7 (ak (bO T) hr (aP (a8 2) (a8 2))) (aa 2))))) (aj (au bP)) av))))) (aj (au bP))))⟩
noncomputable def bU:=cL 4 2 (cP).1
def eJ (T:Txt K mg t):Go P w K mg base 2 "_law_is_fractions" (spF (bU) K):=(cP).2 T
def fJ (T:Txt K mg t):Go P w K mg base 3 "minus" (spF PF.cQ K):=oD ["one","other"] T.D4 λ hr nd =>
 (aj (au (ak (nY T) hr (aP (aa 0) (ay (aP (gf (a8 1)) (a8 1)))))))
def Aq (T:Txt K mg t):Go P w K mg base 3 "over" (spF PF.mw K):=oD ["one","other"] T.HB λ hr nd =>
 (af (aA (cq (a8 1) ai) (aj qL) av) (af (aA (jH (a8 1) ai) (aj (au (ak (fI T) hr (aP (aa 0) (ay (aP (gf (a8 1)) (gf (a8 1)))))))) av) (aj (au (ak (fI T) hr (aP (aa 0) (ay (aP (a8 1) (a8 1)))))))))
def jy (T:Txt K mg t):Go P w K mg base 3 "total" (spF PF.dB K):=oD ["some","result","one"] T.D0 λ hr nd =>
 (af (bo 1 nd (OC T.yj)) (af (bE (aS (aa 0)) (aQ 2 nd) (aj (bo 1 nd (ak (nY T) hr (aP (aa 1) (aa 2)))))) (aj (au (aa 1)))))
noncomputable def lN (t:Adr):gOD (gFD 3 "flow_of" 1 1) t:=⟨_,λ T=>oD ["word"] T.wI λ hr nd =>
 (aj (au (xC (kO T) hr T.GZ (cE (aa 0)))))⟩
noncomputable def lR (t:Adr):=cL 1 1 (lN t).1
def vm (T:Txt K mg t):Go P w K mg base 3 "flow_of" (spF (lR t) K):=(lN t).2 T
def nX (T:Txt K mg t):Go P w K mg base 3 "reaches_of" (spF PF.j4 K):=oD ["widths","gap","room","numbers"] T.oA λ hr nd =>
 (af (bo 3 nd (ak (rF T) hr (dh (aa 0) (aa 1) (aa 2)))) (aj (au (aJ (c7 (ckN [("numbers",3)]) (cD T.eE (cE (aB cZ T.cW (cE (aa 0))))) (λ _ _ _ _=>(ak (pT T) hr (aP (aa 1) (aa 0)))))))))
def pV (T:Txt K mg t):Go P w K mg base 3 "best_ends" (spF PF.iT K):=oD ["widths","gap","room","numbers","length","prices","ends","place","best"] T.qq λ hr nd =>
 (af (bo 3 nd (ak (rF T) hr (dh (aa 0) (aa 1) (aa 2)))) (af (bo 4 nd (aB cZ T.cW (cE (aa 0)))) (af (jI 5 nd ck0 (hi:=cD T.eE (cE (cc (aa 4) ai))) (he:=(λ _ _ _ _=>ai))) (af (jI 6 nd (ckN [("length",4)]) (hi:=cD T.eE (cE (aa 4))) (he:=(λ _ _ _ _=>(aa 1)))) (af (bE (tW T.eE (dh (jL (aa 4) ai) (gf ai) (gf ai))) (aQ 7 nd) (aj (aA (jH (ak (pT T) hr (aP (aa 3) (aa 7))) (aa 4)) (af (bo 8 nd (hU 5 (ak (tu T) hr (dh (aa 3) (aa 5) (aa 7))))) (af (fv 5 (hval:=a8 8) (hi:=aa 7)) (aj (fv 6 (hval:=a8 8) (hi:=aa 7))))) av))) (aj (fu 6)))))))
noncomputable def lM:gO0 (gFD 3 "in_room" 3 3):=⟨_,λ T=>oD ["value","room","other"] T.wH λ hr nd =>
 (af (aA (cq (a8 0) aw) (aj (au (ak (dj T) hr (cE (aa 0))))) av) (af (aA (cq (a8 0) aw) (aj (au (ak (fI T) hr (aP (ak (dj T) hr (cE (aa 0))) (aa 1))))) av) (aj (au (aa 2)))))⟩
noncomputable def lQ:=cL 3 3 (lM).1
def kM (T:Txt K mg t):Go P w K mg base 3 "in_room" (spF (lQ) K):=(lM).2 T
noncomputable def jM:gO0 (gFD 3 "ahead_of" 2 2):=⟨_,λ T=>oD ["spread","left"] T.tP λ hr nd =>
 (af (aA (cq (aa 0) aw) (aj (au (aa 1))) av) (af (aA (cq (aa 0) aw) (aj (au (ak (fI T) hr (aP (aa 1) (ay (aP ai ai)))))) av) (aj (au (ay (aP ai ai))))))⟩
noncomputable def jO:=cL 2 2 (jM).1
def tw (T:Txt K mg t):Go P w K mg base 3 "ahead_of" (spF (jO) K):=(jM).2 T
noncomputable def jN:gO0 (gFD 3 "_law_sum" 3 1):=⟨_,λ T=>oD ["_law_some","_law_found","_law_one"] T.tQ λ hr nd =>
 (af (bo 1 nd (ay (aP ai ai))) (af (bE (aS (aa 0)) (aQ 2 nd) (aj (bo 1 nd (ak (b5 T) hr (aP (aa 1) (aa 2)))))) (aj (au (aa 1)))))⟩
noncomputable def jP:=cL 3 1 (jN).1
def gX (T:Txt K mg t):Go P w K mg base 3 "_law_sum" (spF (jP) K):=(jN).2 T
noncomputable def fX:gO0 (gFD 3 "_law_length" 5 3):=⟨_,λ T=>oD ["_law_script","_law_k","_law_scale","_law_cell_here","_law_mixed_here"] T.m9 λ hr nd =>
 (af (bo 3 nd (ak (iz T) hr (aP (aa 0) (aa 1)))) (af (aA (cq (aa 2) ai) (aj (au (ak (bO T) hr (aP (cH (aa 3) (Eo ai ai)) (cc ai (cH (bM (aa 3) ai) (Eo ai ai))))))) av) (af (bo 4 nd (ak (gw T) hr (aP (aa 0) (aa 1)))) (aj (au (ak (bO T) hr (aP (bM (cH (aG (aa 4) ai) ai) (aa 2)) (cc ai (bM (aG (cH (aG (aa 4) ai) ai) ai) (cH (aG (aa 4) ai) ai))))))))))⟩
noncomputable def cn:=cL 5 3 (fX).1
def cg (T:Txt K mg t):Go P w K mg base 3 "_law_length" (spF (cn) K):=(fX).2 T
noncomputable def fY:gO0 (gFD 3 "_law_amount" 3 3):=⟨_,λ T=>oD ["_law_value","_law_room","_law_other"] T.ng λ hr nd =>
 (af (aA (cq (a8 0) aw) (aj (au (ay (aP (a8 0) (a8 0))))) av) (af (aA (cq (a8 0) aw) (aj (au (ak (bI T) hr (aP (ay (aP (a8 0) (a8 0))) (aa 1))))) av) (aj (au (aa 2)))))⟩
noncomputable def f9:=cL 3 3 (fY).1
def fL (T:Txt K mg t):Go P w K mg base 3 "_law_amount" (spF (f9) K):=(fY).2 T
noncomputable def gH:gO0 (gFD 3 "_law_level" 8 3):=⟨_,λ T=>oD ["_law_items","_law_widths","_law_grows","_law_level_here","_law_item_here","_law_width","_law_share","_law_gain"] T.oO λ hr nd =>
 (af (bo 3 nd (ay (aP ai ai))) (af (bE (jq T.xR (aP (aa 0) (aa 1))) (lE (n:=2) (cO (aQ 4 nd) (cO (aQ 5 nd) jK))) (af (bo 6 nd (dY (aE (aa 2)) (a8 4) (a8 4))) (af (bo 7 nd (ak (cz T) hr (aP (aa 5) (a8 4)))) (af (aA (bY (aE (aa 2))) (aj (bo 7 nd (ay (aP (gf (a8 7)) (a8 7))))) av) (aj (aA (aK (bp (lD (a8 6) ai) (bc (aE (ak (bQ T) hr (aP (aa 3) (ak (bI T) hr (aP (aa 7) (ay (aP (a8 6) (a8 6))))))))))) (aj (bo 3 nd (ak (bI T) hr (aP (aa 7) (ay (aP (a8 6) (a8 6))))))) av)))))) (aj (au (aa 3)))))⟩
noncomputable def gM:=cL 8 3 (gH).1
def nZ (T:Txt K mg t):Go P w K mg base 3 "_law_level" (spF (gM) K):=(gH).2 T
def yR (T:Txt K mg t):Go P w K mg base 4 "way_to" (spF PF.kr K):=oD ["bound","begin","way"] T.zI λ hr nd =>
 (af (aA (z7 (aa 0) ck) (aj (au ck)) av) (af (bo 2 nd (ak (fJ T) hr (aP (aa 0) (aa 1)))) (aj (au (ay (aP (aB xk T.ue (cE (a8 2))) (a8 2)))))))
def C6 (T:Txt K mg t):Go P w K mg base 4 "moved" (spF PF.nB K):=oD ["begin","share","level","grows","way"] T.D3 λ hr nd =>
 (af (bo 4 nd (ak (fI T) hr (aP (aa 1) (aa 2)))) (aj (au (dY (aE (aa 3)) (ak (nY T) hr (aP (aa 0) (aa 4))) (ak (fJ T) hr (aP (aa 0) (aa 4)))))))
def pS (T:Txt K mg t):Go P w K mg base 4 "rounds_of" (spF PF.f6 K):=oD ["ways","shares","amount","loose","weight","rounds","level","beyond"] T.qm λ hr nd =>
 (af (jZ 3 nd (ckN [("shares",1)]) (hi:=cD T.eE (cE (aB cZ T.cW (cE (aa 1))))) (hcd:=(λ _ _ _ _=>(b7 (aT (aa 1) (aa 0)) (ay (aP ai ai))))) (he:=(λ _ _ _ _=>(aa 0)))) (af (bo 4 nd (ak (jy T) hr (cE (aJ (c7 (ckN [("shares",1)]) (aS (aa 3)) (λ _ _ _ _=>(aT (aa 1) (aa 0)))))))) (af (cb 5 nd (he:=bu bZ)) (af (du (b7 (aa 3) (aJ (bu bZ))) (af (bo 6 nd (ay (aP (bM (a8 2) (a8 4)) (bM (a8 2) (a8 4))))) (af (bo 7 nd (aJ (tV (ckN [("level",6),("ways",0),("shares",1)]) (aS (aa 3)) (λ _ _ _ _=>(aE (ak (pU T) hr (dh (aT (aa 2) (aa 0)) (aT (aa 3) (aa 0)) (aa 1))))) (λ _ _ _ _=>(aa 0))))) (af (aA (cq (aa 7) (aJ (bu bZ))) (aj (eP 5 (au (ay (aP (ak (Aq T) hr (aP (aa 2) (aa 4))) (aa 5)))))) av) (af (fA 5 (he:=aa 7)) (af (bo 2 nd (ak (fJ T) hr (aP (aa 2) (ak (jy T) hr (cE (aJ (c7 (ckN [("ways",0)]) (aS (aa 7)) (λ _ _ _ _=>(aT (aa 1) (aa 0)))))))))) (af (bo 4 nd (ak (fJ T) hr (aP (aa 4) (ak (jy T) hr (cE (aJ (c7 (ckN [("shares",1)]) (aS (aa 7)) (λ _ _ _ _=>(aT (aa 1) (aa 0)))))))))) (aj (jZ 3 nd (ckN [("beyond",7)]) (hi:=aS (aa 3)) (hcd:=(λ _ _ _ _=>(z6 (aa 0) (aa 1)))) (he:=(λ _ _ _ _=>(aa 0)))))))))))) (aj (eP 5 (au (ay (aP ck (aa 5))))))))))
noncomputable def fZ (t:Adr):gOD (gMD 4 t.gC "counts" 5 4) t:=⟨_,λ T=>oDm ["self","widths","gap","room","ends"] T.nh λ hr nd =>
 (af (aA (cq (aa 1) (aJ (bu bZ))) (aj (g9 (bu bZ))) av) (af (aA (cq (nv T.lC T.fc (aa 0)) aw) (aj (g9 (c7 ck0 (aS (aa 1)) (λ _ _ _ _=>ai)))) av) (af (aA (cq (nv T.lC T.fc (aa 0)) aw) (aj (g9 (bu (cE (aB cZ T.cW (cE (aa 1))))))) av) (af (bo 4 nd (dY (cq (nv T.lC T.fc (aa 0)) aw) (ak (nX T) hr (dh (aa 1) (aa 2) (aa 3))) (ak (pV T) hr (dh (aa 1) (aa 2) (aa 3))))) (aj (g9 (xx (vn T) hr (cE (aa 4)))))))))⟩
noncomputable def gb (t:Adr):=cL 5 4 (fZ t).1
def mO (T:Txt K mg t):GoM P w K mg base 4 t.gC "counts" (spF (gb t) K):=(fZ t).2 T
noncomputable def lI:gO0 (gFD 4 "room_of" 5 2):=⟨_,λ T=>oD ["values","width","pad","half","edge"] T.wC λ hr nd =>
 (af (bo 2 nd (ak (dj T) hr (cE (dQ hr.units (λ _ _=>rfl) (aa 0) aw)))) (af (bo 3 nd (ak (fI T) hr (aP (aa 1) (ay (aP ai ai))))) (af (bo 4 nd (dY (aE (ak (mi T) hr (aP (aa 3) (aa 2)))) (aa 3) (aa 2))) (aj (au (ay (aP (aa 4) (ak (fJ T) hr (aP (aa 1) (ak (fI T) hr (aP (ay (aP ai ai)) (aa 4))))))))))))⟩
noncomputable def lO:=cL 5 2 (lI).1
def vh (T:Txt K mg t):Go P w K mg base 4 "room_of" (spF (lO) K):=(lI).2 T
noncomputable def lK:gO0 (gFD 4 "item_of" 2 2):=⟨_,λ T=>oD ["wish","room"] T.wG λ hr nd =>
 (aj (au (ay (aF (ak (kM T) hr (dh (a8 0) (aa 1) (a8 0))) (aF (ak (kM T) hr (dh (a8 0) (aa 1) ck)) (dh (ak (kM T) hr (dh (a8 0) (aa 1) ck)) (ak (dj T) hr (cE (a8 0))) (ak (dj T) hr (cE (a8 0)))))))))⟩
noncomputable def jt:=cL 2 2 (lK).1
def vk (T:Txt K mg t):Go P w K mg base 4 "item_of" (spF (jt) K):=(lK).2 T
noncomputable def lJ:gO0 (gFD 4 "left_of" 4 3):=⟨_,λ T=>oD ["line","gap","room","left"] T.wF λ hr nd =>
 (af (bo 3 nd (ak (fJ T) hr (aP (ak (fJ T) hr (aP (aa 2) (ak (jy T) hr (cE (aa 0))))) (ak (fI T) hr (aP (aa 1) (ay (aP (jL (aB cZ T.cW (cE (aa 0))) ai) ai))))))) (aj (au (dY (lD (a8 3) ai) (aa 3) (ay (aP ai ai))))))⟩
noncomputable def lP:=cL 4 3 (lJ).1
def vj (T:Txt K mg t):Go P w K mg base 4 "left_of" (spF (lP) K):=(lJ).2 T
noncomputable def iJ:gO0 (gFD 4 "_law_wish" 13 4):=⟨_,λ T=>oD ["_law_script","_law_k","_law_scale","_law_parts","_law_mixed_here","_law_natural","_law_wide","_law_share","_law_heads","_law_told","_law_j","_law_pair","_law_other"] T.qu λ hr nd =>
 (af (bo 4 nd (ak (gw T) hr (aP (aa 0) (aa 1)))) (af (bo 5 nd (ak (cg T) hr (dh (aa 0) (aa 1) (aa 2)))) (af (bo 6 nd (ak (cg T) hr (dh (aa 0) (cc (aa 1) ai) (aa 2)))) (af (aA (cq (cH (aa 4) ai) ai) (aj (au (ay (aF (eU nW (ay (cE aw)) (aa 6)) (aF (ay (dh aw ai ai)) (aF (ay (aP aw aw)) (dh (ay (dh aw ai ai)) (ay (dh aw ai ai)) (aa 6)))))))) av) (af (bo 7 nd (ak (bO T) hr (aP (cH (aG (aa 4) ai) ai) (cc ai (cH (aG (aa 4) ai) ai))))) (af (aA (aK (bp (cq (aa 2) ai) (bc (lD (cH (aG (aa 4) ai) ai) ai)))) (aj (bo 7 nd (ak (cg T) hr (dh (aa 0) (cc (aa 1) ai) (aa 2))))) av) (af (cb 8 nd (he:=bu (aP (aT (aJ (bu (dh aw aw aw))) (cH (aG (aa 4) ai) ai)) (aT (aJ (bu (dh aw aw aw))) (cH (aG (aa 4) ai) ai))))) (af (fA 8 (he:=aT (aJ (bu (aF aw (dh aw aw aw)))) (cH (aG (aa 4) ai) ai))) (af (cb 9 nd (he:=bu bZ)) (af (bE (cD T.eE (cE ai)) (aQ 10 nd) (af (bo 11 nd (ak (cg T) hr (dh (aa 0) (cc (cc (aa 1) ai) (aa 10)) (aa 2)))) (af (aA (aK (bp (cq (aa 10) ai) (bc (cq (cH (aG (aa 4) ai) ai) ai)))) (aj (bo 11 nd (ay (aP ai ai)))) av) (af (aA (jo 8 (aK (bp (cq (aT (aa 8) (aa 10)) aw) (bc (aE (aa 3)))))) (aj (bo 11 nd (ak (bO T) hr (aP (cH (a8 11) ai) (cc ai (cH (a8 11) ai)))))) (aj (aA (jo 8 (cq (aT (aa 8) (aa 10)) aw)) (aj (fv 8 (hval:=aw) (hi:=aa 10))) av))) (af (fA 9 (he:=hU 8 (ay (dh (aT (aa 8) (aa 10)) (a8 11) (a8 11))))) (aj (aA (jo 8 (cq (aT (aa 8) (aa 10)) aw)) (aj (fv 9 (hval:=ay (aP aw (aT (aJ (bu (dh aw aw aw))) (aa 10)))) (hi:=aa 10))) av))))))) (af (bo 12 nd (ak (bO T) hr (aP (cH (aG (aa 4) ai) ai) (cc ai (cH (aG (aa 4) ai) ai))))) (aj (eP 9 (au (ay (aF (a8 9) (aF (a8 9) (aF (a8 9) (dh (eU nW (ay (cE aw)) (aa 7)) (eU nW (ay (cE aw)) (aa 12)) (aa 5))))))))))))))))))))⟩
noncomputable def f7:=cL 13 4 (iJ).1
def pX (T:Txt K mg t):Go P w K mg base 4 "_law_wish" (spF (f7) K):=(iJ).2 T
noncomputable def iK:gO0 (gFD 4 "_law_item" 5 2):=⟨_,λ T=>oD ["_law_wish_here","_law_room","_law_base","_law_least","_law_most"] T.qw λ hr nd =>
 (af (bo 2 nd (ak (fL T) hr (dh (a8 0) (aa 1) (a8 0)))) (af (bo 3 nd (ak (fL T) hr (dh (a8 0) (aa 1) (ay (aP ai ai))))) (af (bo 4 nd (ak (fL T) hr (dh (a8 0) (aa 1) ck))) (af (aA (aK (bp (jn (aa 4) ck) (bc (aE (ak (bQ T) hr (aP (aa 4) (aa 3))))))) (aj (bo 4 nd (aa 3))) av) (af (aA (aK (bp (jn (aa 4) ck) (bc (aE (ak (bQ T) hr (aP (aa 4) (aa 2))))))) (aj (bo 2 nd (aa 4))) av) (af (aA (aE (ak (bQ T) hr (aP (aa 2) (aa 3)))) (aj (bo 2 nd (aa 3))) av) (aj (au (ay (aF (aa 2) (aF (aa 3) (dh (aa 4) (sO (a8 0) (bF ai) jJ) (sO (a8 0) (bF ai) jJ)))))))))))))⟩
noncomputable def cR:=cL 5 2 (iK).1
def kN (T:Txt K mg t):Go P w K mg base 4 "_law_item" (spF (cR) K):=(iK).2 T
noncomputable def iN:gO0 (gFD 4 "_law_come" 2 2):=⟨_,λ T=>oD ["_law_begins","_law_gap"] T.qy λ hr nd =>
 (af (aA (cq (aa 0) (aJ (bu bZ))) (aj (au (ay (aP ai ai)))) av) (aj (au (ak (b5 T) hr (aP (ak (gX T) hr (cE (aa 0))) (ak (bI T) hr (aP (aa 1) (ay (aP (jL (aB cZ T.cW (cE (aa 0))) ai) ai)))))))))⟩
noncomputable def cS:=cL 2 2 (iN).1
def fK (T:Txt K mg t):Go P w K mg base 4 "_law_come" (spF (cS) K):=(iN).2 T
noncomputable def gI:gO0 (gFD 4 "_law_dealt" 14 3):=⟨_,λ T=>oD ["_law_items","_law_widths","_law_inner","_law_missing","_law_grows","_law_turn","_law_level_here","_law_bound_all","_law_item_here","_law_width","_law_share","_law_bound","_law_due","_law_left"] T.oP λ hr nd =>
 (af (bo 3 nd (ak (cz T) hr (aP (aa 2) (ak (gX T) hr (cE (aJ (c7 ck0 (aS (aa 0)) (λ _ _ _ _=>(aT (aa 0) ai))))))))) (af (bo 4 nd (Ml (a8 3) ai)) (af (bo 5 nd (dY (aE (aa 4)) ai (gf ai))) (af (bo 6 nd (ak (nZ T) hr (dh (aa 0) (aa 1) (aa 4)))) (af (bo 7 nd bP) (af (bE (jq T.xR (aP (aa 0) (aa 1))) (lE (n:=2) (cO (aQ 8 nd) (cO (aQ 9 nd) jK))) (af (bo 10 nd (dY (aE (aa 4)) (a8 8) (a8 8))) (af (bo 11 nd (dY (aE (aa 4)) (a8 8) (a8 8))) (af (bo 12 nd (ak (b5 T) hr (aP (a8 8) (ay (aP (bM (bM (aa 5) (a8 10)) (a8 6)) (bM (a8 10) (a8 6))))))) (af (aA (aK (bp (jn (aa 11) ck) (bc (xo (aE (aa 4)) (aE (ak (bQ T) hr (aP (aa 11) (aa 12)))) (aE (ak (bQ T) hr (aP (aa 12) (aa 11)))))))) (aj (bo 12 nd (aa 11))) av) (af (aA (aK (b8 (b7 (aa 9) (aa 12)) (cu (aK (bp (cq (a8 3) ai) (bc (b7 (aa 12) (a8 8)))))))) (aj (au bP)) av) (aj (aA (aK (bp (b7 (aa 12) (aa 11)) (bc (lD (a8 10) ai)))) (aj (bo 7 nd bP)) av)))))))) (af (bo 13 nd (ak (cz T) hr (aP (aa 2) (ak (gX T) hr (cE (aa 1)))))) (af (aA (cq (a8 13) ai) (aj (au bP)) av) (aj (au (Aa (aa 7) (z8 (Mm (Ml (a8 13) ai) (aa 4))))))))))))))⟩
noncomputable def dR:=cL 14 3 (gI).1
def oa (T:Txt K mg t):Go P w K mg base 4 "_law_dealt" (spF (dR) K):=(gI).2 T
noncomputable def fg:gO0 (gFD 4 "_law_xs_good" 9 6):=⟨_,λ T=>oD ["_law_xs","_law_widths","_law_spread","_law_edge","_law_gap","_law_inner","_law_left","_law_at","_law_k"] T.l9 λ hr nd =>
 (af (bo 6 nd (ak (cz T) hr (aP (aa 5) (ak (gX T) hr (cE (aa 1)))))) (af (aA (jH (a8 6) ai) (aj (bo 6 nd (ay (aP ai ai)))) av) (af (bo 7 nd (aa 3)) (af (aA (cq (aa 2) aw) (aj (bo 7 nd (ak (b5 T) hr (aP (aa 3) (aa 6))))) av) (af (aA (cq (aa 2) aw) (aj (bo 7 nd (ak (b5 T) hr (aP (aa 3) (ak (bI T) hr (aP (aa 6) (ay (aP ai ai)))))))) av) (af (aA (aK (bp (cq (aa 2) aw) (bc (lD (aB cZ T.cW (cE (aa 1))) ai)))) (aj (bo 4 nd (ak (b5 T) hr (aP (aa 4) (ak (bI T) hr (aP (aa 6) (ay (aP ai (jL (aB cZ T.cW (cE (aa 1))) ai))))))))) av) (af (bE (cD T.eE (cE (aB cZ T.cW (cE (aa 1))))) (aQ 8 nd) (af (aA (b7 (aT (aa 0) (aa 8)) (aa 7)) (aj (au bP)) av) (aj (bo 7 nd (ak (b5 T) hr (aP (ak (b5 T) hr (aP (aa 7) (aT (aa 1) (aa 8)))) (aa 4))))))) (aj (au bP)))))))))⟩
noncomputable def dH:=cL 9 6 (fg).1
def lZ (T:Txt K mg t):Go P w K mg base 4 "_law_xs_good" (spF (dH) K):=(fg).2 T
def C8 (T:Txt K mg t):Go P w K mg base 5 "dealt" (spF PF.iR K):=oD ["items","room","begins","missing","grows","shares","bounds","ways","found","widths","some","place"] T.D6 λ hr nd =>
 (af (jI 2 nd ck0 (hi:=aS (aa 0)) (he:=(λ _ _ _ _=>(ak (Ar T) hr (dh (a8 0) (a8 0) (a8 0)))))) (af (bo 3 nd (hU 2 (ak (fJ T) hr (aP (aa 1) (ak (jy T) hr (cE (aa 2))))))) (af (aA (cq (aa 3) (ay (aP ai ai))) (aj (eP 2 (au (ay (dh (aa 2) (ay (aP ai ai)) (aJ (bu bZ))))))) av) (af (bo 4 nd (Ml (a8 3) ai)) (af (dw 5 nd (ckN [("grows",4)]) (hi:=aS (aa 0)) (he:=(λ _ _ _ _=>(dY (aE (aa 1)) (a8 0) (a8 0))))) (af (dw 6 nd (ckN [("grows",4)]) (hi:=aS (aa 0)) (he:=(λ _ _ _ _=>(dY (aE (aa 1)) (ak (vi T) hr (cE (aa 0))) (a8 0))))) (af (nu 7 2 nd (ck2 ck0) (hi:=jq T.xR (aP (aa 6) (aa 2))) (he:=(λ _ _ _ _=>(ak (yR T) hr (aP (aa 0) (aa 1)))))) (af (bo 8 nd (ak (pS T) hr (dh (aa 7) (aa 5) (ay (aP (aB xk T.ue (cE (a8 3))) (a8 3)))))) (af (xt (w:=9) (b:=2) (dT (dOp kP (dOp oIx (ao 8) (dC (.int 0))) (dC .non))) nd) (af (aA (jn (a8 8) ck) (aj (oZ 9 2 nd (ck2 (ckN [("grows",4),("found",8)])) (hi:=jq T.xR (aP (aa 2) (aa 5))) (he:=(λ _ _ _ _=>(ak (C6 T) hr (aF (aa 0) (dh (aa 1) (a8 3) (aa 2)))))))) av) (af (bE (aS (a8 8)) (aQ 10 nd) (aj (bE (aS (aa 10)) (aQ 11 nd) (aj (fv 9 (hval:=aT (aa 6) (aa 11)) (hi:=aa 11)))))) (aj (eP 9 (au (ay (dh (aa 9) (a8 8) (a8 8)))))))))))))))))
noncomputable def iI:gO0 (gFD 5 "begins_of" 10 5):=⟨_,λ T=>oD ["line","spread","gap","edge","room","left","begin","between","found","width"] T.qr λ hr nd =>
 (af (bo 5 nd (ak (vj T) hr (dh (aa 0) (aa 2) (aa 4)))) (af (bo 6 nd (ak (nY T) hr (aP (aa 3) (ak (tw T) hr (aP (aa 1) (aa 5)))))) (af (bo 7 nd (aa 2)) (af (aA (aK (bp (cq (aa 1) aw) (bc (lD (aB cZ T.cW (cE (aa 0))) ai)))) (aj (bo 7 nd (ak (nY T) hr (aP (aa 2) (ak (Aq T) hr (aP (aa 5) (ay (aP (jL (aB cZ T.cW (cE (aa 0))) ai) ai)))))))) av) (af (cb 8 nd (he:=bu bZ)) (af (bE (aS (aa 0)) (aQ 9 nd) (af (fA 8 (he:=aa 6)) (aj (bo 6 nd (ak (jy T) hr (cE (aJ (bu (dh (aa 6) (aa 9) (aa 7)))))))))) (aj (fu 8))))))))⟩
noncomputable def eX:=cL 10 5 (iI).1
def pW (T:Txt K mg t):Go P w K mg base 5 "begins_of" (spF (eX) K):=(iI).2 T
noncomputable def iM:gO0 (gFD 5 "_law_fair" 10 3):=⟨_,λ T=>oD ["_law_begins","_law_gap","_law_room","_law_prices","_law_firsts","_law_at","_law_many","_law_left","_law_cost","_law_counts"] T.qx λ hr nd =>
 (af (cb 3 nd (he:=pe (fB (aB cZ T.cW (cE (aa 0))) (ay (aP ai ai)) pd))) (af (cb 4 nd (he:=xv)) (af (bE (xA T.sQ T.eE (cE (aB cZ T.cW (cE (aa 0))))) (aQ 5 nd) (aj (bE (j2 T.eE (aP ai (cc (jL (aB cZ T.cW (cE (aa 0))) (aa 5)) ai))) (aQ 6 nd) (af (bo 7 nd (ak (cz T) hr (aP (aa 2) (ak (fK T) hr (aP (aJ (gA (aa 0) (bF (aa 5)) (bF (cc (aa 5) (aa 6))))) (aa 1)))))) (af (aA (aK (bp (lD (aa 6) ai) (bc (jH (a8 7) ai)))) (aj xq) av) (af (bo 8 nd (hU 3 (dQ hr.units (λ _ _=>rfl) (aa 3) (cc (aa 5) (aa 6))))) (af (aA (aK (bp (jH (cc (aa 5) (aa 6)) (aB cZ T.cW (cE (aa 0)))) (bc (lD (a8 7) ai)))) (aj (bo 8 nd (ak (b5 T) hr (aP (aa 8) (ak (bI T) hr (aP (aa 7) (aa 7))))))) av) (aj (aA (jo 3 (aK (b8 (cq (aa 6) ai) (cu (bY (aE (ak (bQ T) hr (aP (dQ hr.units (λ _ _=>rfl) (aa 3) (aa 5)) (aa 8))))))))) (af (cU 3 hr.units (hval:=aa 8) (hi:=aa 5)) (aj (cU 4 hr.units (hval:=aa 6) (hi:=aa 5)))) av))))))))) (af (cb 9 nd (he:=bu bZ)) (af (bo 5 nd ai) (af (du (jH (aa 5) (aB cZ T.cW (cE (aa 0)))) (af (fA 9 (he:=hU 4 (dQ hr.units (λ _ _=>rfl) (aa 4) (aa 5)))) (aj (eQ 5 ox jf nd (he:=hU 4 (dQ hr.units (λ _ _=>rfl) (aa 4) (aa 5))))))) (aj (fu 9))))))))⟩
noncomputable def iU:=cL 10 3 (iM).1
def pY (T:Txt K mg t):Go P w K mg base 5 "_law_fair" (spF (iU) K):=(iM).2 T
noncomputable def qS (t:Adr):gOD (gFD 6 "lined" 16 3) t:=⟨_,λ T=>oD ["values","width","wishes","found","edge","room","gap","items","bases","counts","widths","xs","place","count","gaps","line"] T.D5 λ hr nd =>
 (af (bo 3 nd (ak (vh T) hr (aP (aa 0) (aa 1)))) (af (bo 4 nd (a8 3)) (af (bo 5 nd (a8 3)) (af (bo 6 nd (ak (dj T) hr (cE (dQ hr.units (λ _ _=>rfl) (aa 0) aw)))) (af (dw 7 nd (ckN [("room",5)]) (hi:=aS (aa 2)) (he:=(λ _ _ _ _=>(ak (vk T) hr (aP (aa 0) (aa 1)))))) (af (dw 8 nd ck0 (hi:=aS (aa 7)) (he:=(λ _ _ _ _=>(ak (Ar T) hr (dh (a8 0) (a8 0) (a8 0)))))) (af (bo 9 nd (xB T.lC (mO T) hr (ak (vm T) hr (cE (aT (dQ hr.units (λ _ _=>rfl) (aa 0) aw) ai))) (dh (aa 8) (aa 6) (aa 5)))) (af (cb 10 nd (he:=bu bZ)) (af (cb 11 nd (he:=bu bZ)) (af (bo 12 nd ai) (af (bE (aS (aa 9)) (aQ 13 nd) (af (bo 14 nd (ak (fI T) hr (aP (aa 6) (ay (aP (jL (aa 13) ai) ai))))) (af (bo 15 nd (aT (ak (C8 T) hr (aP (aJ (gA (aa 7) (bF (aa 12)) (bF (cc (aa 12) (aa 13))))) (ak (fJ T) hr (aP (aa 5) (aa 14))))) ai)) (af (pb 10 (he:=aa 15)) (af (pb 11 (he:=ak (pW T) hr (aF (aa 15) (aF (aT (dQ hr.units (λ _ _=>rfl) (aa 0) aw) ai) (dh (aa 6) (aa 4) (aa 5)))))) (aj (eQ 12 ox jf nd (he:=aa 13)))))))) (aj (eP 11 (eP 10 (au (ay (dh (aa 9) (aa 10) (aa 11))))))))))))))))))⟩
noncomputable def nC (t:Adr):=cL 16 3 (qS t).1
def C7 (T:Txt K mg t):Go P w K mg base 6 "lined" (spF (nC t) K):=(qS t).2 T
noncomputable def c8:gO0 (gFD 6 "_law_counts_good" 7 5):=⟨_,λ T=>oD ["_law_counts","_law_flow","_law_begins","_law_gap","_law_room","_law_at","_law_many"] T.jl λ hr nd =>
 (af (aA (bY (aE (aB oX T.cf (aP (aa 0) (gB (n:="list") T.ud))))) (aj (au bP)) av) (af (aA (aK (bp (cq (aa 1) aw) (bp (jH (aB cZ T.cW (cE (aa 2))) ai) (bc (b7 (aa 0) (ak (pY T) hr (dh (aa 2) (aa 3) (aa 4)))))))) (aj (au bP)) av) (af (bo 5 nd ai) (af (bE (aS (aa 0)) (aQ 6 nd) (af (aA (aK (b8 (bY (aE (aB oX T.cf (aP (aa 6) (gB (n:="int") T.EM))))) (b8 (aE (aB oX T.cf (aP (aa 6) (gB (n:="bool") T.Ag)))) (b8 (jH (aa 6) ai) (cu (lD (cc (aa 5) (aa 6)) (aB cZ T.cW (cE (aa 2))))))))) (aj (au bP)) av) (af (aA (aK (b8 (aK (bp (cq (aa 1) aw) (bc (b7 (aa 6) ai)))) (cu (aK (bp (cq (aa 1) aw) (bc (b7 (aa 6) (aB cZ T.cW (cE (aa 2)))))))))) (aj (au bP)) av) (af (aA (aK (b8 (cq (aa 1) aw) (cu (cq (aa 1) aw)))) (aj (aA (aK (bp (lD (aa 6) ai) (bc (aE (ak (bQ T) hr (aP (aa 4) (ak (fK T) hr (aP (aJ (gA (aa 2) (bF (aa 5)) (bF (cc (aa 5) (aa 6))))) (aa 3))))))))) (aj (au bP)) av)) av) (af (aA (aK (bp (cq (aa 1) aw) (bc (jH (cc (aa 5) (aa 6)) (aB cZ T.cW (cE (aa 2))))))) (aj (aA (bY (aE (ak (bQ T) hr (aP (aa 4) (ak (fK T) hr (aP (aJ (gA (aa 2) (bF (aa 5)) (bF (cc (cc (aa 5) (aa 6)) ai)))) (aa 3))))))) (aj (au bP)) av)) av) (aj (eQ 5 ox jf nd (he:=aa 6)))))))) (aj (au (Mm (aa 5) (aB cZ T.cW (cE (aa 2))))))))))⟩
noncomputable def c9:=cL 7 5 (c8).1
def jc (T:Txt K mg t):Go P w K mg base 6 "_law_counts_good" (spF (c9) K):=(c8).2 T
noncomputable def dA:gO0 (gFD 7 "_law_lines_good" 14 7):=⟨_,λ T=>oD ["_law_found","_law_items","_law_flow","_law_spread","_law_edge","_law_gap","_law_room","_law_counts","_law_widths","_law_xs","_law_at","_law_many","_law_inner","_law_line"] T.jE λ hr nd =>
 (af (xr (aa 0) (lE (n:=3) (cO (aQ 7 nd) (cO (aQ 8 nd) (cO (aQ 9 nd) jK))))) (af (aA (bY (aE (ak (jc T) hr (aF (aa 7) (aF (aa 2) (dh (aJ (c7 ck0 (aS (aa 1)) (λ _ _ _ _=>(aT (aa 0) ai)))) (aa 5) (aa 6))))))) (aj (au bP)) av) (af (bo 10 nd ai) (af (bE (aS (aa 7)) (aQ 11 nd) (af (bo 12 nd (ak (cz T) hr (aP (aa 6) (ak (bI T) hr (aP (aa 5) (ay (aP (jL (aa 11) ai) ai))))))) (af (bo 13 nd (aJ (gA (aa 8) (bF (aa 10)) (bF (cc (aa 10) (aa 11)))))) (af (aA (bY (aE (ak (oa T) hr (dh (aJ (gA (aa 1) (bF (aa 10)) (bF (cc (aa 10) (aa 11))))) (aa 13) (aa 12))))) (aj (au bP)) av) (af (aA (bY (aE (ak (lZ T) hr (aF (aJ (gA (aa 9) (bF (aa 10)) (bF (cc (aa 10) (aa 11))))) (aF (aa 13) (aF (aa 3) (dh (aa 4) (aa 5) (aa 12)))))))) (aj (au bP)) av) (aj (eQ 10 ox jf nd (he:=aa 11)))))))) (aj (au bP))))))⟩
noncomputable def cI:=cL 14 7 (dA).1
def jz (T:Txt K mg t):Go P w K mg base 7 "_law_lines_good" (spF (cI) K):=(dA).2 T
noncomputable def EA (t:Adr):{G:DS // ∀ {P w K mg base a d},Txt K mg t->Fun K "law" "law" (top 61) a d->ko P w K mg base CX0 8 a d ["_law_script"] (spF (cL 18 1 G) K)}:=⟨_,λ T F=>oLD ["_law_script","_law_head","_law_scale","_law_many","_law_exact","_law_flow","_law_spread","_law_gap","_law_pad","_law_wishes","_law_width","_law_first","_law_edge","_law_room","_law_values_here","_law_handed","_law_row","_law_found"] F λ hr nd =>
 (af (bo 1 nd (ak (gw T) hr (aP (aa 0) ai))) (af (bo 2 nd ai) (af (aA (lD (cH (aa 1) ai) ai) (aj (bo 2 nd (cc ai (cH (ak (iz T) hr (aP (aa 0) ai)) (Eo ai ai))))) av) (af (bo 3 nd (cH (aG (aa 1) ai) ai)) (af (aA (cq (cH (aG (aa 1) ai) ai) ai) (af (bo 2 nd ai) (aj (bo 3 nd (cH (aa 3) ai)))) av) (af (aA (cq (cH (aG (aa 1) ai) ai) ai) (af (bo 2 nd ai) (aj (bo 3 nd (cc ai (aa 3))))) av) (af (bo 4 nd (Mm (cH (aG (aa 1) ai) ai) ai)) (af (bo 5 nd (aT (aJ (bu (aF aw (aF aw (aF aw (dh aw aw aw)))))) (cH (aG (aa 1) ai) ai))) (af (bo 6 nd (aT (aJ (bu (aF aw (dh aw aw aw)))) (cH (aG (aa 1) ai) ai))) (af (bo 7 nd (ak (cg T) hr (dh (aa 0) ai (aa 2)))) (af (bo 8 nd (ak (cg T) hr (dh (aa 0) ai (aa 2)))) (af (dw 9 nd (ckN [("_law_script",0),("_law_scale",2),("_law_exact",4)]) (hi:=cD T.eE (cE (aa 3))) (he:=(λ _ _ _ _=>(ak (pX T) hr (aF (aa 1) (dh (cc ai (bM ai (aa 0))) (aa 2) (z9 (aa 3)))))))) (af (bo 10 nd (ak (bI T) hr (aP (ak (cg T) hr (dh (aa 0) ai (aa 2))) (ay (aP (cc ai (cH (aG (aa 1) ai) ai)) ai))))) (af (aA (aE (aa 4)) (af (dw 11 nd ck0 (hi:=aS (aJ (gA (aa 9) jJ (bF (cc ai (cH (aG (aa 1) ai) ai)))))) (he:=(λ _ _ _ _=>(aT (ak (kN T) hr (aP (aa 0) (ay (aP ai ai)))) ai)))) (aj (bo 10 nd (ak (b5 T) hr (aP (ak (fK T) hr (aP (aa 11) (aa 7))) (ak (bI T) hr (aP (aa 8) (ay (aP ai ai))))))))) av) (af (bo 12 nd (ak (bI T) hr (aP (aa 10) (ay (aP ai ai))))) (af (aA (aE (ak (bQ T) hr (aP (aa 8) (aa 12)))) (aj (bo 12 nd (aa 8))) av) (af (bo 13 nd (ak (cz T) hr (aP (aa 10) (ak (bI T) hr (aP (aa 12) (ay (aP ai ai))))))) (af (bo 14 nd (ak (mN T) hr (aF (aa 1) (aF (aa 7) (dh (aa 8) (aa 5) (aa 6)))))) (af (bo 15 nd (aJ (xw T.EN (cE (aa 14))))) (af (bo 16 nd (aJ (xu T.ud (cE (aa 9))))) (af (bo 17 nd (ak (C7 T) hr (dh (aa 15) (aa 10) (aa 16)))) (af (aA (aK (b8 (c6 (Ky hr.units) (aa 15) (aa 14)) (b8 (b7 (aa 16) (aa 9)) (b8 (bY (aE (aB oX T.cf (aP (aa 17) (gB (n:="tuple") T.uc))))) (cu (b7 (aB cZ T.cW (cE (aa 17))) ai)))))) (aj (au bP)) av) (af (aA (aK (b8 (bY (aE (ak (eJ T) hr (aP (a8 17) (aa 3))))) (cu (bY (aE (ak (eJ T) hr (aP (a8 17) (aa 3)))))))) (aj (au bP)) av) (aj (au (ak (jz T) hr (aF (aa 17) (aF (aJ (c7 (ckN [("_law_room",13)]) (aS (aa 9)) (λ _ _ _ _=>(ak (kN T) hr (aP (aa 0) (aa 1)))))) (aF (aa 5) (aF (aa 6) (dh (aa 12) (aa 7) (aa 13))))))))))))))))))))))))))))))))⟩
noncomputable def H9 (t:Adr):=cL 18 1 (EA t).1
end
end N36
end
section
namespace L2
open PySem
section
variable {τ τ':List Sl} {f g h:DE} {x y z d:D}
def ag {i:Nat} (q:τ[i]?=some (.shr d)):ao i τ=some d:=by unfold ao; rw [q]
def e_v {i:Nat} (q:τ[i]?=some (.shr d):=by rfl):ao i τ=some d:=ag q
def e_c:dC d τ=some d:=rfl
def ar {o:D->D->Option D} (h1:f τ=some x) (h2:g τ=some y) (h3:o x y=some z):dOp o f g τ=some z:=by unfold dOp; rw [h1,h2]; exact h3
def wO {o:D->Option D} (h1:f τ=some x) (h3:o x=some z):dUn o f τ=some z:=by unfold dUn; rw [h1]; exact h3
def aq:aC τ=some []:=rfl
def ae {ga:DA} {xs:List D} (h1:f τ=some x) (h2:ga τ=some xs):ah f ga τ=some (x::xs):=by unfold ah; rw [h1,h2]; rfl
def aU {o:List D->Option D} {ga:DA} {xs:List D} (h1:ga τ=some xs) (h2:o xs=some z):bf o ga τ=some z:=by unfold bf; rw [h1]; exact h2
def a9 {ga:DA} {xs:List D} (h1:ga τ=some xs) (h2:xs.length<=100000):cY ga τ=some (.tup xs):=by unfold cY; rw [h1]; exact if_pos h2
def cB {ga:DA} {xs:List D} (h1:ga τ=some xs) (h2:xs.length<=100000):lU ga τ=some (.lst xs):=by unfold lU; rw [h1]; exact if_pos h2
def aV {F:List D->Option Sl} {ga:DA} {xs:List D} {s:Sl} (h1:ga τ=some xs) (h2:F xs=some s) (h3:slD s=some z):dFn F ga τ=some z:=by unfold dFn; rw [h1]; show (F xs).bind slD=_; rw [h2]; exact h3
def HG {F:List D->Option Sl} {ga:DA} {xs:List D} {s:Sl} (h1:ga τ=some xs) (h2:F xs=some s) (h3:slO s=some z):HJ F ga τ=some z:=by unfold HJ; rw [h1]; show (F xs).bind slO=_; rw [h2]; exact h3
def sA {c:DT} {b:Bool} (h1:c τ=some b) (h2:b=true->f τ=some z) (h3:b=false->g τ=some z):dIf c f g τ=some z:=by
 unfold dIf; rw [h1]
 cases b with
 | true=>exact h2 rfl
 | false=>exact h3 rfl
def Md {b:Bool} (h1:f τ=some (.bl b)) (h2:b=true->g τ=some z) (h3:b=false->z=.bl false):xb f g τ=some z:=by
 unfold xb; rw [h1]
 cases b with
 | true=>exact h2 rfl
 | false=>rw [h3 rfl]; rfl
def Mc {b:Bool} (h1:f τ=some (.bl b)):tS f τ=some (.bl (!b)):=by unfold tS; rw [h1]; rfl
def ax {b:Bool} (h1:f τ=some (.bl b)):dT f τ=some b:=by unfold dT; rw [h1]; rfl
def de {f g:DT} {b c:Bool} (h1:f τ=some b) (h2:b=true->g τ=some c) (h3:b=false->c=false):fE f g τ=some c:=by
 unfold fE; rw [h1]
 cases b with
 | true=>exact h2 rfl
 | false=>rw [h3 rfl]; rfl
def nN {f g:DT} {b c:Bool} (h1:f τ=some b) (h2:b=false->g τ=some c) (h3:b=true->c=true):dOr f g τ=some c:=by
 unfold dOr; rw [h1]
 cases b with
 | false=>exact h2 rfl
 | true=>rw [h3 rfl]; rfl
def gh {f:DT} {b:Bool} (h1:f τ=some b):nj f τ=some (!b):=by unfold nj; rw [h1]; rfl
def CW:xO τ=some none:=rfl
def cy {i:Int} (h:f τ=some (.int i)):dP f τ=some (some i):=by unfold dP; rw [h]; rfl
def tR {l u:DO} {lo hi:Option Int} (h1:f τ=some x) (h2:l τ=some lo) (h3:u τ=some hi) (h4:oSl x lo hi=some z):dSl f l u τ=some z:=by unfold dSl; rw [h1]; show (l τ).bind _=_; rw [h2]; show (u τ).bind _=_; rw [h3]; exact h4
def di {it:DI} {g:DE} {cs:List (Str×Nat)} {ds es:List D} (h1:it τ=some ds) (hl:ds.length<=100000) (h2:kj (λ d=>g (.shr d::fq τ cs)) ds=some es):cx it g cs τ=some (.lst es):=by
 unfold cx; rw [h1]; show (if ds.length<=100000 then _ else _)=_; rw [if_pos hl,h2]; rfl
def wQ {C:Addr} {n:Str} {fs:List (Str×D)} (h1:f τ=some (.obj C fs)) (h2:fs.lookup n=some z):dUn (Gh C n) f τ=some z:=by unfold dUn; rw [h1]; show (if C=C then _ else _)=_; rw [if_pos rfl]; exact h2
def oT {C:Addr} {m:Str} {F:List D->Option Sl} {o:DE} {ga:DA} {fs:List (Str×D)} {xs:List D} {s:Sl} (h1:o τ=some (.obj C fs)) (h2:ga τ=some xs) (h0:fs.lookup m=none) (h3:F (.obj C fs::xs)=some s) (h4:slD s=some z):xa C m F o ga τ=some z:=by
 unfold xa; rw [h1]; show (ga τ).bind _=_; rw [h2]; show (if C=C/\_ then _ else _)=_; rw [if_pos ⟨rfl,h0⟩,h3]; exact h4
def oU {C:Addr} {ns:List Str} {ga:DA} {xs:List D} (h1:ga τ=some xs) (h2:xs.length=ns.length):zU C ns ga τ=some (.obj C (ns.zip xs)):=by unfold zU; rw [h1]; exact if_pos h2
def dO {ds:List D} (h:f τ=some (.lst ds)):d7 f τ=some ds:=by unfold d7; rw [h]; rfl
def LZ {ds:List D} (h:f τ=some (.tup ds)):wa f τ=some ds:=by unfold wa; rw [h]; rfl
def qh {ga:DA} {j:Int} (h:ga τ=some [.int j]) (h1:-(2 ^ 62)<=j/\j < 2 ^ 62):gy ga τ=some (mh 0 j.toNat):=by unfold gy; rw [h]; exact if_pos h1
def ni {i:Nat} {d0:D} (q:τ[i]?=some (.own d0)) (h:f (τ.set i (.shr d0))=some z) (hf:iF z=true):nk i f τ=some z:=by unfold nk; rw [q]; show (f _).bind _=_; rw [h]; exact if_pos hf
def lV {i:Nat} {d0:D} {f:DT} {b:Bool} (q:τ[i]?=some (.own d0)) (h:f (τ.set i (.shr d0))=some b):ur i f τ=some b:=by unfold ur; rw [q]; exact h
end
section
variable {τ τ':List Sl} {f g:DS} {e:DE} {d:D} {o:Out}
def az (h:f τ=some (.next τ')) (h2:g τ'=some o):aL f g τ=some o:=by simp only [aL,h]; exact h2
def Fc {s:Sl} (h:f τ=some (.ret s)):aL f g τ=some (.ret s):=by simp only [aL,h]
def aD {i:Nat} (h:e τ=some d):bA i e τ=some (.next (τ.set i (.shr d))):=by unfold bA; rw [h]; rfl
def cT {i:Nat} (h:e τ=some d) (hi:i < τ.length):gs i e τ=some (.next (τ.set i (.own d))):=by unfold gs; rw [if_pos hi,h]; rfl
def bz (h:e τ=some d):dJ e τ=some (.ret (.shr d)):=by unfold dJ; rw [h]; rfl
def nQ (h:e τ=some d):yf e τ=some (.ret (.own d)):=by unfold yf; rw [h]; rfl
def jb {i:Nat} (q:τ[i]?=some (.own d)):pO i τ=some (.ret (.own d)):=by unfold pO; rw [q]
def fh {c:DT} {b:Bool} {r:Option Out} (h:c τ=some b) (h1:b=true->f τ=r) (h2:b=false->g τ=r):sIf c f g τ=r:=by
 unfold sIf; rw [h]
 cases b with
 | true=>exact h1 rfl
 | false=>exact h2 rfl
def kE {i:Nat} {ds:List D} (h:e τ=some d) (q:τ[i]?=some (.own (.lst ds))) (hl:ds.length < 100000):pF i e τ=some (.next (τ.set i (.own (.lst (ds++[d]))))):=by unfold pF; rw [h]; show (match τ[i]? with | some (.own (.lst ds))=>_ | _=>_)=_; rw [q]; exact if_pos hl
def nR {i:Nat} (q:τ[i]?=some (.own d)) (h:f (τ.set i (.shr d))=some o):uK i f τ=some o:=by unfold uK; rw [q]; exact h
def kD {i:Nat} {oo:D->D->Option D} {x z:D} (h1:ao i τ=some x) (h2:e τ=some d) (h3:oo x d=some z):lY i oo e τ=some (.next (τ.set i (.shr z))):=by unfold lY; rw [h1]; show (e τ).bind _=_; rw [h2]; show (oo x d).map _=_; rw [h3]; rfl
def uF {it:DI} {gg:DG} {ds:List D} {r:Option Out} (h1:it τ=some ds) (h2:oz (λ d τ=>(gg d τ).bind f) ds τ=r):nF it gg f τ=r:=by unfold nF; rw [h1]; exact h2
def J5 {gg:DG} (h1:e τ=some d) (h2:gg d τ=some τ'):Ih e gg τ=some (.next τ'):=by unfold Ih; rw [h1]; show (gg d τ).map _=_; rw [h2]; rfl
def bj {n m:Nat} {b:DS} {ds:List D} {s:Sl} (h:b (kC n ds)=some (.ret s)) (hl:ds.length=m:=by rfl):cL n m b ds=some s:=by
 unfold cL;rw [if_pos hl,h]
def cM {it:DI} {gg:DG} {ds:List D} (P:Nat->List Sl->Prop) (h1:it τ=some ds) (h0:P 0 τ) (hs:∀ j d τ,ds[j]?=some d->P j τ->∃ τ1 τ2,gg d τ=some τ1/\f τ1=some (.next τ2)/\P (j+1) τ2):∃ τ',nF it gg f τ=some (.next τ')/\P ds.length τ':=by
 obtain ⟨τ',e,p⟩:=m3 (o:=.next []) (b:=λ d τ=>(gg d τ).bind f) P 0 h0 (λ j d τ hd p=>by
  rw [Xr] at *;obtain ⟨τ1,τ2,e1,e2,p2⟩:=hs j d τ hd p
  exact ⟨τ2,by rw [e1]; exact e2,p2⟩)
 rw [Xr] at p;exact ⟨τ',uF h1 e,p⟩
def vF {gg:D->Option D} {P:Nat->D->Prop}:∀ {ds:List D} (i:Nat),(∀ j d,ds[j]?=some d->∃ x,gg d=some x/\P (i+j) x)->∃ xs,kj gg ds=some xs/\xs.length=ds.length/\∀ j x,xs[j]?=some x->P (i+j) x
 | [],i,_=>⟨[],rfl,rfl,λ j x h=>by simp at h⟩
 | d::ds,i,h=>by
  obtain ⟨x,e1,p1⟩:=h 0 d rfl
  obtain ⟨xs,e2,l2,p2⟩:=vF (gg:=gg) (P:=P) (ds:=ds) (i+1) λ j d' hj=>by
   have:=h (j+1) d' (by simpa using hj);rw [show i+(j+1)=i+1+j by omega] at this;exact this
  refine ⟨x::xs,by simp only [kj,e1,e2]; rfl,by simp [l2],λ j y hj=>?_⟩
  cases j with
  | zero=>simp at hj; subst hj; exact p1
  | succ j=>rw [show i+(j+1)=i+1+j by omega]; exact p2 j y (by simpa using hj)
def jw {lo:Int} {n j:Nat} {d:D} (h:(mh lo n)[j]?=some d):d=.int (lo+j)/\j < n:=by
 unfold mh at h;rw [List.getElem?_map] at h
 by_cases hj:j < n
 ·rw [List.getElem?_range hj] at h
  exact ⟨by simpa using h.symm,hj⟩
 ·rw [List.getElem?_eq_none (by simpa using hj)] at h
  cases h
def dX {lo:Int} {n:Nat}:(mh lo n).length=n:=by simp [mh]
end
def dF (i j:Int):cp (.int i) (.int j)=some (.int (i+j)):=rfl
def gY (i j:Int):lT (.int i) (.int j)=some (.int (i - j)):=rfl
def b9 (i j:Int):oLt (.int i) (.int j)=some (.bl (decide (i < j))):=rfl
def aM {i j:Int} (h:0 < j):oMod (.int i) (.int j)=some (.int (i % j)):=by
 simp only [oMod,Ne.symm (Int.ne_of_lt h),ne_eq,not_false_eq_true,if_true,Int.fmod_eq_emod_of_nonneg _ (X5 h)]
def be {i j:Int} (h:0 < j) (z:Sz j):oDiv (.int i) (.int j)=some (.int (i / j)):=by
 simp only [oDiv,Ne.symm (Int.ne_of_lt h),ne_eq,not_false_eq_true,z,and_self,if_true,Int.fdiv_eq_ediv_of_nonneg _ (X5 h)]
def tz {i j:Int} (h:j≠0) (z:Sz j):oDiv (.int i) (.int j)=some (.int (i.fdiv j)):=by simp only [oDiv,h,ne_eq,not_false_eq_true,z,and_self,if_true]
def bB {i j:Int} (h:Sz i) (z:Sz j):gi (.int i) (.int j)=some (.int (i * j)):=by simp only [gi,h,z,and_self,or_true,if_true]
def kQ {i j:Int} (h:-(2 ^ 64) < j) (z:j < 2 ^ 64):gi (.int i) (.int j)=some (.int (i * j)):=by
 have:By i j:=.inr ⟨h,z⟩;simp only [gi,this,true_or,if_true]
def kR {i j:Int} (h:-(2 ^ 64) < i) (z:i < 2 ^ 64):gi (.int i) (.int j)=some (.int (i * j)):=by
 have:By i j:=.inl ⟨h,z⟩;simp only [gi,this,true_or,if_true]
def pZ {i j:Int} (h:Ib i j):C9 (.int i) (.int j)=some (.int (i ^ j.toNat)):=by
 exact if_pos h
def bT (i j:Int):oEq (.int i) (.int j)=some (.bl (decide (i=j))):=rfl
def eK (i j:Int):oNe (.int i) (.int j)=some (.bl (!decide (i=j))):=rfl
def aX (i j:Str):oEq (.str i) (.str j)=some (.bl (decide (i=j))):=rfl
def mP (i j:Str):oNe (.str i) (.str j)=some (.bl (!decide (i=j))):=rfl
def pA {α:Type} (x:α) (xs:List α):atI (x::xs) 0=some x:=by simp [atI,ixN]
def pw {α:Type} (x y:α) (xs:List α):atI (x::y::xs) 1=some y:=by
 have:(1:Int) < ((xs.length+1+1:Nat):Int):=by omega
 simp only [atI,ixN,Zw,this,if_true];rfl
def tX {α:Type} (x y z:α) (xs:List α):atI (x::y::z::xs) 2=some z:=by
 have:(2:Int) < ((xs.length+1+1+1:Nat):Int):=by omega
 simp only [atI,ixN,Zw,this,if_true];rfl
def qY {n:Int} (h:n.natAbs<=100000):Sz n:=by
 unfold Sz;omega
def mH (d:D):slD (.shr d)=some d:=rfl
def aN (x:D) (xs:List D):oIx (.tup (x::xs)) (.int 0)=some x:=pA _ _
def aY (x y:D) (xs:List D):oIx (.tup (x::y::xs)) (.int 1)=some y:=pw _ _ _
def jS (x y z:D) (xs:List D):oIx (.tup (x::y::z::xs)) (.int 2)=some z:=tX _ _ _ _
def aR {τ:List Sl} {c:DT} {f g:DS} {r:Option Out} (h:c τ=some false) (h2:g τ=r):aL (sIf c f bg) g τ=r:=by
 simp only [aL,sIf,h,Z7,Zv,Yp,bg];exact h2
def uG {τ:List Sl} {c:DT} {f g:DS} {r:Option Out} {b:Bool} (P:List Sl->Prop) (h:c τ=some b) (h1:b=true->∃ τ1,f τ=some (.next τ1)/\P τ1) (h2:b=false->P τ) (h3:∀ τ1,P τ1->g τ1=r):aL (sIf c f bg) g τ=r:=by
 cases b with
 | true =>
  obtain ⟨τ1,e,p⟩:=h1 rfl;simp only [aL,sIf,h,Z7,if_true,e];exact h3 _ p
 | false =>
  simp only [aL,sIf,h,Z7,Zv,Yp,bg];exact h3 _ (h2 rfl)
def cJ {τ:List Sl} {c:DT} {f g:DS} {s:Sl} (h:c τ=some true) (h2:f τ=some (.ret s)):aL (sIf c f bg) g τ=some (.ret s):=by
 simp only [aL,sIf,h,Z7,if_true,h2]
def me {τ τ':List Sl} {c:DT} {f g:DS} {r:Option Out} (h:c τ=some true) (h1:f τ=some (.next τ')) (h2:g τ'=r):aL (sIf c f bg) g τ=r:=by
 simp only [aL,sIf,h,Z7,if_true,h1];exact h2
end L2
end
section
namespace L2
open PySem
section
variable {τ τ':List Sl} {f g:DS} {e e2 e3:DE} {c:DT} {b:Bool} {d x y z:D} {P:D->Prop} {R:List Sl->Prop}
def iq {f g:DT} {b c:Bool} (h1:f τ=some b) (h2:g τ=some c):fE f g τ=some (b&&c):=by
 unfold fE; rw [h1]; cases b <;> simp [h2]
def ya {f g:DT} {b c:Bool} (h1:f τ=some b) (h2:g τ=some c):dOr f g τ=some (b||c):=by
 unfold dOr; rw [h1]; cases b <;> simp [h2]
def gq {j:Nat} {kvs:List (Key×D)} {k:Key} (h1:e τ=some d) (h2:e2 τ=some y) (q:τ[j]?=some (.own (.dct kvs))) (hk:zc y=some k) (hl:kvs.length < 100000):kF j e e2 τ=some (.next (τ.set j (.own (.dct (putD kvs k d))))):=by
 unfold kF; rw [h1]; show (e2 τ).bind _=_; rw [h2]; show (match τ[j]? with | some (.own (.dct kvs))=>_ | _=>_)=_; rw [q]; show (zc y).bind _=_; rw [hk]; exact if_pos hl
def Be {ps:List (DE×DE)} {kvs:List (Key×D)} (h:oV ps τ=some kvs) (hl:kvs.length<=15):zV ps τ=some (.dct (rL [] kvs)):=by
 unfold zV; rw [h]; exact if_pos hl
end
def has (kvs:List (Key×D)) (k:Key):Bool:=kvs.any λ kv=>decide (kv.1=k)
def DK {kvs:List (Key×D)} {k:Key}:(cV kvs k).isSome=has kvs k:=by
 unfold cV has;rw [Option.isSome_map,List.isSome_find?]
def DM {kvs:List (Key×D)} {k:Key} (h:has kvs k=true):∃ d,cV kvs k=some d:=by
 rw [<- DK] at h;exact Yz.mp h
def B3 {kvs:List (Key×D)} {k:Key} {v:D} {kv:Key×D} (h:kv ∈ putD kvs k v):kv.2=v\/kv ∈ kvs:=by
 unfold putD at h;split at h
 ·obtain ⟨q,m,e⟩:=Yw.mp h
  split at e
  · subst e; exact .inl rfl
  · subst e; exact .inr m
 ·rcases Y5.mp h with m | m
  · exact .inr m
  · rw [Yj] at m; subst m; exact .inl rfl
def gu {kvs:List (Key×D)} {k:Key} {v:D}:(putD kvs k v).length<=kvs.length+1:=by
 unfold putD;split <;> simp
def mM {n:Nat}:∀ {ds:List D},(∀ d ∈ ds,okD n d=true)->kL n ds=true
 | [],_=>rfl
 | d::ds,h=>by
  rw [kL,h d (Zo ..),mM λ e m=>h e (Zg _ m)];rfl
def De {xs ys:List D} (h:kL 8 xs=true) (h':kL 8 ys=true):oEq (.lst xs) (.lst ys)=some (.bl (eqB (.lst xs) (.lst ys))):=by
 unfold oEq eqO;rw [if_pos ⟨h,h'⟩]; rfl
def vo {xs ys:List D} (h:kL 8 xs=true) (h':kL 8 ys=true):oNe (.lst xs) (.lst ys)=some (.bl (!eqB (.lst xs) (.lst ys))):=by
 unfold oNe eqO;rw [if_pos ⟨h,h'⟩]; rfl
def sy {xs:List D}:eqB (.lst xs) (.lst [])=xs.isEmpty:=by
 cases xs with
 | nil=>exact g6 _
 | cons x xs=>exact oS (λ h=>by injection h with h; cases h)
def vt {kvs:List (Key×D)} (h:u9 kvs=true):Gg (.dct kvs) (.dct kvs)=some (.bl false):=by
 unfold Gg rG;simp [h]
def HR {α:Type} {xs:List α} {j:Int} (h0:0<=j) (h1:j < xs.length):∃ (h:j.toNat < xs.length),atI xs j=some xs[j.toNat]:=by
 refine ⟨by omega,?_⟩;have e:=fS (xs:=xs) (j:=j.toNat) (List.getElem?_eq_getElem (by omega));rw [show ((j.toNat:Nat):Int)=j by omega] at e;exact e
end L2
end
section
namespace S1
def rZ {a b:Int} (ha:0<=a) (hb:0 < b):Int.gcd b (a % b)=Int.gcd a b:=by
 obtain ⟨m,rfl⟩:=Int.eq_ofNat_of_zero_le ha;obtain ⟨n,rfl⟩:=Int.eq_ofNat_of_zero_le (X5 hb);have e:((m:Int) % (n:Int))=((m % n:Nat):Int):=by omega
 rw [e];show Nat.gcd n (m % n)=Nat.gcd m n;rw [Nat.gcd_comm m n,Nat.gcd_rec n m,Nat.gcd_comm]
def wt {a:Int} (ha:0<=a):((Int.gcd a 0:Nat):Int)=a:=by
 rw [Int.gcd_zero_right];omega
def DN (a b:Int):Int.gcd (if a < 0 then -a else a) (if b < 0 then -b else b)=Int.gcd a b:=by
 split <;> split <;> simp
def qj {a b:Int} (h:b≠0):0 < Int.gcd a b:=by simp_all
structure Low (n d a b:Int):Prop where
 pos:0 < d
 one:Int.gcd n d=1
 eq:n * b=a * d
def b6 {k m n:Int} (h:Int.gcd k n=1) (d:k ∣ m * n):k ∣ m:=by
 have d':k.natAbs ∣ m.natAbs * n.natAbs:=by rw [<- Z9]; exact Wl.mpr d
 have c:=h;exact Wl.mp (Nat.Coprime.dvd_of_dvd_mul_right c d')
def Low.Dh {n d a b:Int} (h:Low n d a b):n ∣ a:=b6 h.one ⟨b,h.eq.symm⟩
def Low.Ed {n d a b:Int} (h:Low n d a b):d ∣ b:=by
 have c:Int.gcd d n=1:=by rw [Int.gcd_comm]; exact h.one
 exact b6 c ⟨a,by rw [Z5 b n,h.eq,Z5]⟩
def Low.unique {n d n' d' a b:Int} (h:Low n d a b) (h':Low n' d' a b) (hb:b≠0):n=n'/\d=d':=by
 have e:n * d'=n' * d:=by
  have e1:(n * d') * b=(n' * d) * b:=by
   have p:=h.eq;have p':=h'.eq;have q:(n * d') * b=d' * (n * b):=by rw [Z5 n d',Ye]
   have q':(n' * d) * b=d * (n' * b):=by rw [Z5 n' d,Ye]
   rw [q,q',p,p',<- Ye,<- Ye,Z5 d' a,Z5 d a,Ye,Ye,Z5 d' d]
  exact Int.eq_of_mul_eq_mul_right hb e1
 have c:Int.gcd d n=1:=by rw [Int.gcd_comm]; exact h.one
 have c':Int.gcd d' n'=1:=by rw [Int.gcd_comm]; exact h'.one
 have d1:=b6 c ⟨n',by rw [Z5 d' n,e,Z5]⟩;have d2:=b6 c' ⟨n,by rw [Z5 d n',<- e,Z5]⟩;have ed:=Int.dvd_antisymm (X5 h.pos) (X5 h'.pos) d1 d2;refine ⟨?_,ed⟩;rw [<- ed] at e;exact Int.eq_of_mul_eq_mul_right (Z3 h.pos) e
def bV {x y:Int} (h:x ∣ y) (hy:y≠0):x.natAbs<=y.natAbs:=Wk (by omega) (Wl.mpr h)
def Low.rJ {n d a b:Int} (h:Low n d a b) (hb:b≠0):n.natAbs<=a.natAbs:=by
 by_cases z:a=0
 ·have e:=h.eq
  rw [z,Int.zero_mul] at e;rcases Int.mul_eq_zero.mp e with e | e
  · rw [e]; exact Zs _
  · exact absurd e hb
 · exact bV h.Dh z
def Low.sF {n d a b:Int} (h:Low n d a b) (hb:b≠0):d.natAbs<=b.natAbs:=bV h.Ed hb
def G4 {a b g:Int} (hb:b≠0) (hg:g=if b < 0 then -((Int.gcd a b:Nat):Int) else ((Int.gcd a b:Nat):Int)):Low (a.fdiv g) (b.fdiv g) a b:=by
 have p:0 < ((Int.gcd a b:Nat):Int):=by have:=qj (a:=a) hb; omega
 have g0:g≠0:=by rw [hg]; split <;> omega
 have da:g ∣ a:=by
  rw [hg];split
  · exact Int.neg_dvd.mpr (Int.gcd_dvd_left a b)
  · exact Int.gcd_dvd_left a b
 have db:g ∣ b:=by
  rw [hg];split
  · exact Int.neg_dvd.mpr (Wm a b)
  · exact Wm a b
 obtain ⟨x,hx⟩:=da;obtain ⟨y,hy⟩:=db;have ex:a.fdiv g=x:=by rw [hx]; exact Xh x g0
 have ey:b.fdiv g=y:=by rw [hy]; exact Xh y g0
 rw [ex,ey];have gn:g.natAbs=Int.gcd a b:=by rw [hg]; split <;> omega
 refine ⟨?_,?_,?_⟩
 ·-- y > 0
  have s:(b < 0/\g < 0)\/(0 < b/\0 < g):=by
   by_cases hb0:b < 0
   · rw [if_pos hb0] at hg; exact .inl ⟨hb0,by omega⟩
   · rw [if_neg hb0] at hg; exact .inr ⟨by omega,by omega⟩
  rcases s with ⟨s1,s2⟩ | ⟨s1,s2⟩
  ·rcases (by omega:y=0\/0 < y\/y < 0) with z | z | z
   · rw [z,Int.mul_zero] at hy; omega
   · exact z
   · have:=Int.mul_pos_of_neg_of_neg s2 z; omega
  ·rcases (by omega:y=0\/0 < y\/y < 0) with z | z | z
   · rw [z,Int.mul_zero] at hy; omega
   · exact z
   · have:=Int.mul_neg_of_pos_of_neg s2 z; omega
 ·have e:Int.gcd a b=g.natAbs * Int.gcd x y:=by
   have e0:Int.gcd a b=Int.gcd (g * x) (g * y):=by rw [<- hx,<- hy]
   rw [e0,Int.gcd_mul_left]
  have q:g.natAbs * 1=g.natAbs * Int.gcd x y:=by rw [Nat.mul_one,<- e,gn]
  exact (Nat.eq_of_mul_eq_mul_left (by omega) q).symm
 · rw [hx,hy,<- Ye,Z5 x g]
end S1
end
section
namespace S1
def qG {x y k:Int} (h:Int.gcd x y=1) (h1:k ∣ x) (h2:k ∣ y):k ∣ 1:=by
 have e:=Int.dvd_coe_gcd h1 h2;rw [h] at e;exact e
def lu {x y:Int} (h:∀ k:Int,k ∣ x->k ∣ y->k ∣ 1):Int.gcd x y=1:=by
 have e:=h _ (Int.gcd_dvd_left x y) (Wm x y);have:=Wl.mpr e;simp at this;exact this
def nr {x y z:Int} (h1:Int.gcd x y=1) (h2:Int.gcd x z=1):Int.gcd x (y * z)=1:=by
 have c1:=h1;have c2:=h2;show Nat.Coprime x.natAbs (y * z).natAbs;rw [Z9];exact Nat.Coprime.mul_right c1 c2
def km {x y:Int} (h:Int.gcd x y=1):Int.gcd y x=1:=by rw [Int.gcd_comm]; exact h
def sI {x y z:Int} (h1:Int.gcd x z=1) (h2:Int.gcd y z=1):Int.gcd (x * y) z=1:=km (nr (km h1) (km h2))
def nq {x y x' y':Int} (h:Int.gcd x y=1) (h1:x' ∣ x) (h2:y' ∣ y):Int.gcd x' y'=1:=lu λ k a b=>qG h (Xs a h1) (Xs b h2)
def i9 {x y:Int} (hy:y≠0):∃ x' y' g:Int,g=((Int.gcd x y:Nat):Int)/\0 < g/\x=g * x'/\y=g * y'/\Int.gcd x' y'=1/\x.fdiv g=x'/\y.fdiv g=y':=by
 have p:0 < ((Int.gcd x y:Nat):Int):=by have:=qj (a:=x) hy; omega
 obtain ⟨x',hx⟩:=Int.gcd_dvd_left x y;obtain ⟨y',hy'⟩:=Wm x y;refine ⟨x',y',_,rfl,p,hx,hy',?_,?_,?_⟩
 ·have e:Int.gcd x y=((Int.gcd x y:Nat):Int).natAbs * Int.gcd x' y':=by
   have e0:Int.gcd x y=Int.gcd (((Int.gcd x y:Nat):Int) * x') (((Int.gcd x y:Nat):Int) * y'):=by rw [<- hx,<- hy']
   rw [Int.gcd_mul_left] at e0;exact e0
  have q:(Int.gcd x y) * 1=(Int.gcd x y) * Int.gcd x' y':=by
   rw [Nat.mul_one];exact e
  exact (Nat.eq_of_mul_eq_mul_left (by omega) q).symm
 ·have:=Xh x' (Z3 p)
  rw [<- hx] at this;exact this
 ·have:=Xh y' (Z3 p)
  rw [<- hy'] at this;exact this
def m6 {x y g:Int} (hg:0 < g) (h:x=g * y):x.fdiv g=y:=by rw [h]; exact Xh y (Z3 hg)
def fj {g x:Int} (hg:0 < g) (h:0 < g * x):0 < x:=by
 rcases (by omega:x=0\/0 < x\/x < 0) with z | z | z
 · rw [z,Int.mul_zero] at h; omega
 · exact z
 · have:=Int.mul_neg_of_pos_of_neg hg z; omega
def yW {a b c d:Int} (hb:0 < b) (hd:0 < d) (hab:Int.gcd a b=1) (hcd:Int.gcd c d=1) :
    ∃ g r u l:Int,g=((Int.gcd b d:Nat):Int)/\0 < g/\g.natAbs<=b.natAbs/\r=d.fdiv g/\u=b.fdiv g/\r.natAbs<=d.natAbs/\u.natAbs<=b.natAbs/\l=((Int.gcd (a * r+c * u) g:Nat):Int)/\0 < l/\l.natAbs<=b.natAbs/\(b.fdiv l).natAbs<=b.natAbs /\
      Low ((a * r+c * u).fdiv l) (b.fdiv l * r) (a * d+c * b) (b * d):=by
  obtain ⟨b',d',g,hg,gp,eb,ed,cop,qb,qd⟩:=i9 (y:=d) (by omega);have hb':=fj gp (by rw [<- eb]; exact hb);have hd':=fj gp (by rw [<- ed]; exact hd);obtain ⟨t',g',l,hl,lp,et,eg,cop2,qt,qg⟩:=i9 (y:=g) (by omega);have hg':=fj lp (by rw [<- eg]; exact gp);have bl:b.fdiv l=g' * b':=m6 lp (by rw [eb,eg,Ye]);have le:∀ {x y:Int},0 < y->x ∣ y->x.natAbs<=y.natAbs:=λ hy h=>bV h (by omega)
  refine ⟨g,d',b',l,hg,gp,le hb ⟨b',eb⟩,qd.symm,qb.symm,le hd ⟨g,by rw [ed,Z5]⟩,le hb ⟨g,by rw [eb,Z5]⟩,hl,lp,?_,?_,?_⟩
  · exact le hb (Xs ⟨g',eg⟩ ⟨b',eb⟩)
  · rw [bl]
    exact le hb ⟨l,by rw [eb,eg,Z5 (g' * b') l,Ye]⟩
  rw [qt,bl];have db:b' ∣ b:=⟨g,by rw [eb,Z5]⟩
  have dd:d' ∣ d:=⟨g,by rw [ed,Z5]⟩
  have tt:t' ∣ a * d'+c * b':=⟨l,by rw [et,Z5]⟩
  have c1:=lu λ k h1 h2=>by
    have k1:=Xs h1 tt;have k2:=(Int.dvd_iff_dvd_of_dvd_add k1).mpr (Xs h2 (Int.dvd_mul_left c b'));have k3:=nq cop h2 (Int.dvd_refl d');exact qG hab (b6 k3 k2) (Xs h2 db)
  have c2:=lu λ k h1 h2=>by
    have k1:k ∣ a * d'+c * b':=Xs h1 tt;have k2:=(Int.dvd_iff_dvd_of_dvd_add k1).mp (Xs h2 (Int.dvd_mul_left a d'));have k3:=nq (km cop) h2 (Int.dvd_refl b');exact qG hcd (b6 k3 k2) (Xs h2 dd)
  refine ⟨Y8 (Y8 hg' hb') hd',nr (nr cop2 c1) c2,?_⟩
  have es:a * d+c * b=g * (l * t'):=by
    rw [<- et,ed,eb,Int.mul_add];rw [<- Ye a g d',<- Ye c g b',Z5 a g,Z5 c g,Ye,Ye]
  rw [es,eb,ed];have e2:=eg
  calc t' * (g * b' * (g * d'))=g * t' * b' * d' * g:=by
        simp only [Ye,Z5,Int.mul_left_comm]
    _=g * t' * b' * d' * (l * g'):=by rw [<- e2]
    _=g * (l * t') * (g' * b' * d'):=by simp only [Ye,Z5,Int.mul_left_comm]
def vG {a b c d:Int} (hb:0 < b) (hd:0 < d) (hab:Int.gcd a b=1) (hcd:Int.gcd c d=1) :
    ∃ f s:Int,f=((Int.gcd a d:Nat):Int)/\s=((Int.gcd c b:Nat):Int)/\0 < f/\0 < s/\f.natAbs<=d.natAbs/\s.natAbs<=b.natAbs /\
      (a.fdiv f).natAbs<=a.natAbs/\(c.fdiv s).natAbs<=c.natAbs/\(b.fdiv s).natAbs<=b.natAbs/\(d.fdiv f).natAbs<=d.natAbs /\
      Low (a.fdiv f * c.fdiv s) (b.fdiv s * d.fdiv f) (a * c) (b * d):=by
  obtain ⟨a',d',f,hf,fp,ea,ed,c1,qa,qd⟩:=i9 (x:=a) (y:=d) (by omega);obtain ⟨c',b',s,hs,sp,ec,eb,c2,qc,qb⟩:=i9 (x:=c) (y:=b) (by omega);have hb':=fj sp (by rw [<- eb]; exact hb);have hd':=fj fp (by rw [<- ed]; exact hd);have da:a' ∣ a:=⟨f,by rw [ea,Z5]⟩
  have db:b' ∣ b:=⟨s,by rw [eb,Z5]⟩
  have dc:c' ∣ c:=⟨s,by rw [ec,Z5]⟩
  have dd:d' ∣ d:=⟨f,by rw [ed,Z5]⟩
  have le:∀ {x y z:Int},0 < z->y=z * x->x.natAbs<=y.natAbs:=λ {x y z} hz h=>by
    rw [h,Z9];exact Nat.le_mul_of_pos_left _ (by omega)
  refine ⟨f,s,hf,hs,fp,sp,bV ⟨d',ed⟩ (by omega),bV ⟨b',eb⟩ (by omega),?_,?_,?_,?_,?_⟩
  · rw [qa]; exact le fp ea
  · rw [qc]; exact le sp ec
  · rw [qb]; exact le sp eb
  · rw [qd]; exact le fp ed
  rw [qa,qb,qc,qd];have ab:=nq hab da db;have cd:=nq hcd dc dd;refine ⟨Y8 hb' hd',nr (sI ab c2) (sI c1 cd),?_⟩;rw [ea,eb,ec,ed];simp only [Ye,Z5,Int.mul_left_comm]
end S1
end
section
namespace PF
open PySem L2
local macro_rules | `(tactic| walk_at "ev")=>`(tactic| simp only [cL,kC,aL,bA,dJ,sIf,bg,ao,dC,dOp,dUn,bf,cY,lU,ah,aC,dFn,dT,dIf,fE,dOr,nj,xb,OA,tS,slD,oIx,d6,yS,tx,vv,kP,ju,lT,cp,oLt,oLe,oGt,oGe,pA,pw,tX,bT,eK,aX,mP,
 Zw,Xm,Z8,Wv,List.replicate,Wc,We,List.getElem?_cons_zero,List.getElem?_cons_succ,List.cons_append,List.nil_append,Z7,Xn,Nat.reduceAdd,Nat.reduceSub,Nat.reduceLeDiff,if_true,Yp,reduceIte,Bool.not_true,Bool.not_false,decide_true,decide_false,Zv])
def r9 (c:DT) (b:DS) (hc:c=dT (dOp oNe (ao 1) (dC (.int 0)))) (hb:b=aL (bA 2 (dOp oMod (ao 0) (ao 1))) (aL (bA 0 (ao 1)) (bA 1 (ao 2)))) :
  ∀ (n:Nat) (x y:Int) (r:Sl),0<=x->0<=y->y.toNat < n->∃ r',bH c b n [.shr (.int x),.shr (.int y),r]=some (.next [.shr (.int (Int.gcd x y:Nat)),.shr (.int 0),r'])
 | 0,_,_,_,_,_,h=>by omega
 | n + 1,x,y,r,hx,hy,h=>by
  by_cases z:y=0
  ·subst z
   refine ⟨r,?_⟩;rw [S1.wt hx];simp only [bH,hc]
   walk_at "ev"
  ·have py:0 < y:=by omega
   have m0:=Z4 x (Z3 py);have m1:=Zy x py;obtain ⟨r',e⟩:=r9 c b hc hb n y (x % y) (.shr (.int (x % y))) hy m0 (by omega);refine ⟨r',?_⟩;rw [S1.rZ hx py] at e;rw [<- e]
   conv=>lhs; unfold bH
   have t1:c [.shr (.int x),.shr (.int y),r]=some true:=by
    rw [hc]
    walk_at "ev"
    simp [z]
   have t2:b [.shr (.int x),.shr (.int y),r]=some (.next [.shr (.int y),.shr (.int (x % y)),.shr (.int (x % y))]):=by
    rw [hb];simp only [aL,bA,dOp,ao,List.getElem?_cons_zero,List.getElem?_cons_succ,Z7,aM py,Xn,Wc,We]
   rw [t1,t2]
def fR (a b:Int):bR [.int a,.int b]=some (.shr (.int (Int.gcd a b:Nat))):=by
 obtain ⟨r',e⟩:=r9 _ _ rfl rfl (((if b < 0 then -b else b)).toNat+1) (if a < 0 then -a else a) (if b < 0 then -b else b) .no (by split <;> omega) (by split <;> omega) (by omega);rw [S1.DN] at e;have w:=eI e;unfold bR j3
 walk_at "ev"
 rw [w];rfl
def Ai {f g:DS} {τ τ':List Sl} {o:Out} (h:f τ=some (.next τ')) (h2:g τ'=some o):aL f g τ=some o:=by simp only [aL,h]; exact h2
def kG {n m:Nat} {b:DS} {ds:List D} {s:Sl} (hl:ds.length=m) (h:b (kC n ds)=some (.ret s)):cL n m b ds=some s:=by
 unfold cL;rw [if_pos hl,h]
def fr (q:Rat):D:=.tup [.int q.num,.int q.den]
structure SzQ (q:Rat):Prop where
 n:Sz q.num
 d:Sz q.den
def den_pos (q:Rat):(0:Int) < q.den:=Int.natCast_pos.mpr q.den_pos
def G5 {n d a b:Int} {q:Rat} (h:S1.Low n d a b) (hb:b≠0) (e:q.num * b=a * q.den):n=q.num/\d=q.den:=h.unique ⟨den_pos q,q.reduced,e⟩ hb
def xf (q:Rat):Int.gcd q.num q.den=1:=q.reduced
def Fj {q:Rat} {a b:Int} (hb:b≠0) (e:q.num * b=a * q.den):q=Rat.divInt a b:=by
 rw [<- Zk q];exact (Rat.divInt_eq_divInt_iff (Z3 (den_pos q)) hb).mpr e
def jW (a:Int) {b:Int} (hb:b≠0):(Rat.divInt a b).num * b=a * (Rat.divInt a b).den:=by
 have:=(Zk (Rat.divInt a b))
 exact (Rat.divInt_eq_divInt_iff (Z3 (den_pos _)) hb).mp this
def rN {n d a b:Int} (h:S1.Low n d a b) (hb:b≠0):D.tup [.int n,.int d]=fr (Rat.divInt a b):=by
 obtain ⟨e1,e2⟩:=G5 h hb (jW a hb);rw [e1,e2];rfl
def nT {p q:Rat} (sp:SzQ p) (sq:SzQ q):js [fr p,fr q]=some (.shr (fr (p+q))):=by
 obtain ⟨g,r,u,l,hg,gp,zg,hr1,hu1,zr,zu,hl,lp,zl,zbl,L⟩:=S1.yW (den_pos p) (den_pos q) (xf p) (xf q);have g0:=Z3 gp;have l0:=Z3 lp;have sg:=sp.d.of_le zg;have sl:=sp.d.of_le zl;unfold js Bu fr;refine kG rfl ?_
 subst hr1;subst hu1;have sr:=sq.d.of_le zr;have su:=sp.d.of_le zu;have sb:=sp.d.of_le zbl
 walk_at "ev"
 simp only [fR,<- hg,tz g0 sg,bB sp.n sr,bB sq.n su,Z7,cp,slD,Xn,<- hl,tz l0 sl,bB sb sr,Zw,Xm,Nat.reduceAdd,Nat.reduceLeDiff,if_true,List.getElem?_cons_zero,List.getElem?_cons_succ,Wc,We,pA,pw];rw [rN L (Int.mul_ne_zero (Z3 (den_pos p)) (Z3 (den_pos q)))];rw [<- Xz _ _ (Z3 (den_pos p)) (Z3 (den_pos q)),Zk,Zk];rfl
def gk {p q:Rat} (sp:SzQ p) (sq:SzQ q):gJ [fr p,fr q]=some (.shr (fr (p * q))):=by
 obtain ⟨f,s',hf,hs,fp,sp',zf,zs,z1,z2,z3,z4,L⟩:=S1.vG (den_pos p) (den_pos q) (xf p) (xf q);have f0:=Z3 fp;have s0:=Z3 sp';have sf:=sq.d.of_le zf;have ss:=sp.d.of_le zs;unfold gJ xH fr;refine kG rfl ?_
 walk_at "ev"
 simp only [fR,<- hf,<- hs,tz f0 sf,tz s0 ss,bB (sp.n.of_le z1) (sq.n.of_le z2),bB (sp.d.of_le z3) (sq.d.of_le z4),Z7,slD,Xn,Zw,Xm,Nat.reduceAdd,Nat.reduceLeDiff,if_true,List.getElem?_cons_zero,List.getElem?_cons_succ,Wc,We,pA,pw];rw [rN L (Int.mul_ne_zero (Z3 (den_pos p)) (Z3 (den_pos q)))];rw [<- Yk,Zk,Zk];rfl
def oq {p q:Rat} (sp:SzQ p) (sq:SzQ q):iy [fr p,fr q]=some (.shr (.bl (decide (p < q)))):=by
 unfold iy Bv fr;refine kG rfl ?_
 walk_at "ev"
 simp only [bB sp.n sq.d,bB sq.n sp.d,Z7,oLt,Xn,Rat.lt_iff]
def Hv (q:Rat):D.tup [.int (-q.num),.int q.den]=fr (-q):=rfl
def SzQ.neg {q:Rat} (h:SzQ q):SzQ (-q):=⟨h.n.neg,h.d⟩
def fN {p q:Rat} (sp:SzQ p) (sq:SzQ q):cQ [fr p,fr q]=some (.shr (fr (p - q))):=by
 have e:js [fr p,.tup [.int (-q.num),.int q.den]]=some (.shr (fr (p - q))):=by
  rw [Hv,nT sp sq.neg,Rat.sub_eq_add_neg]
 unfold cQ xI;refine kG rfl ?_
 walk_at "ev"
 rw [show fr q=D.tup [.int q.num,.int q.den] from rfl]
 walk_at "ev"
 rw [e];rfl
structure In (N M:Nat) (q:Rat):Prop where
 dv:q.den ∣ N
 lo:-(M:Rat)<=q
 hi:q<=(M:Rat)
def g8 {r:Rat} {x:Int} {N:Nat} (hN:0 < N) (e:r=Rat.divInt x N):r.den ∣ N:=by
 have h:r.num * N=x * r.den:=by
  have:=jW x (b:=N) (by omega);rw [<- e] at this;exact this
 have c:Int.gcd r.den r.num=1:=by rw [Int.gcd_comm]; exact xf r
 have d:=S1.b6 c ⟨x,by rw [Z5 (N:Int) r.num,h,Z5]⟩;exact Int.natCast_dvd_natCast.mp d
def fm {r:Rat} {N:Nat} (hN:0 < N) (h:r.den ∣ N):∃ x:Int,r=Rat.divInt x N:=by
 obtain ⟨k,rfl⟩:=h;refine ⟨r.num * k,Fj (by omega) ?_⟩;rw [Xo];simp only [Ye,Z5,Int.mul_left_comm]
def In.add {N a b:Nat} {p q:Rat} (hN:0 < N) (hp:In N a p) (hq:In N b q):In N (a+b) (p+q):=by
 obtain ⟨x,ex⟩:=fm hN hp.dv;obtain ⟨y,ey⟩:=fm hN hq.dv;have n0:(N:Int)≠0:=by omega
 refine ⟨g8 (x:=x+y) hN ?_,?_,?_⟩
 ·have h:p+q=Rat.divInt (x * N+y * N) ((N:Int) * N):=by rw [ex,ey,Xz _ _ n0 n0]
  rw [h,<- Int.add_mul,Rat.divInt_mul_right n0]
 · have:=hp.lo; have:=hq.lo; rw [Rat.natCast_add]; grind
 · have:=hp.hi; have:=hq.hi; rw [Rat.natCast_add]; grind
def In.mono {N a b:Nat} {q:Rat} (h:In N a q) (l:a<=b):In N b q:=by
 have l':=Rat.natCast_le_natCast.mpr l;exact ⟨h.dv,by have:=h.lo; grind,by have:=h.hi; grind⟩
def In.zero (N:Nat):In N 0 0:=⟨Nat.one_dvd N,by decide,by decide⟩
def In.abs {N M:Nat} {q:Rat} (h:In N M q):q.num.natAbs<=M * q.den:=by
 have h1:=h.hi;have h2:=h.lo;rw [Rat.le_iff] at h1 h2;rw [Rat.neg_num,Rat.neg_den] at h2;simp only [Rat.num_natCast,Rat.den_natCast] at h1 h2;have e:((M:Int) * (q.den:Int))=((M * q.den:Nat):Int):=by rw [Xo]
 rw [Int.neg_mul] at h2;rw [e] at h1 h2;omega
def bX (qs:List Rat):Rat:=qs.foldl (·+·) 0
def nO (qs:List Rat) (q:Rat):bX (qs++[q])=bX qs+q:=by unfold bX; rw [List.foldl_append]; rfl
def iY {qs:List Rat} {i:Nat} {q:Rat} (h:qs[i]?=some q):bX (qs.take (i+1))=bX (qs.take i)+q:=by
 rw [Wn,h];exact nO _ _
def In.sum {N M:Nat} {qs:List Rat} (hN:0 < N) (h:∀ q ∈ qs,In N M q):∀ i,i<=qs.length->In N (i * M) (bX (qs.take i))
 | 0,_=>by rw [Nat.zero_mul,List.take_zero]; exact In.zero N
 | i+1,hi=>by
  have e:qs[i]?=some qs[i]:=List.getElem?_eq_getElem (by omega);rw [iY e,Nat.succ_mul];exact (In.sum hN h i (by omega)).add hN (h _ (Z1 _))
def frs (qs:List Rat):List D:=qs.map fr
def iE {qs:List Rat} {i:Nat} {d:D} (h:(frs qs)[i]?=some d):∃ q,qs[i]?=some q/\d=fr q:=by
 unfold frs at h;rw [List.getElem?_map] at h
 cases e:qs[i]? with
 | none=>rw [e] at h; cases h
 | some q=>rw [e] at h; exact ⟨q,rfl,(Zj h).symm⟩
def mE {qs:List Rat} (h1:∀ q ∈ qs,SzQ q) (h2:∀ i,i<=qs.length->SzQ (bX (qs.take i))):dB [.lst (frs qs)]=some (.shr (fr (bX qs))):=by
 refine kG rfl ?_
 refine Ai rfl ?_
 obtain ⟨τ',e,r,rfl⟩:=m3 (o:=.next []) (b:=λ d τ=>(gN 2 d τ).bind (bA 1 (dFn PF.js (ah (ao 1) (ah (ao 2) aC)))))
  (λ i τ=>∃ r,τ=[.shr (.lst (frs qs)),.shr (fr (bX (qs.take i))),r]) 0 ⟨.no,rfl⟩ (λ j d τ hd ⟨r,hτ⟩=>by
    subst hτ;obtain ⟨q,hq,rfl⟩:=iE hd;have hj:=(List.getElem?_eq_some_iff.mp hq).1;rw [Xr] at *;refine ⟨_,?_,.shr (fr q),rfl⟩;rw [iY hq]
    simp only [gN,Z7,bA,dFn,ah,aC,ao,Wc,We,List.getElem?_cons_zero,List.getElem?_cons_succ,nT (h2 j (by omega)) (h1 q (List.mem_of_getElem? hq)),slD,Xn])
 have l:(frs qs).length=qs.length:=Zd _;refine Ai (τ':=[.shr (.lst (frs qs)),.shr (fr (bX qs)),r]) ?_ rfl;rw [Xr,l,Ym] at e;exact e
def sz0:SzQ 0:=⟨by decide +kernel,by decide +kernel⟩
def vd (n:Nat) (q:Rat):okD (n+1) (fr q)=true:=by rfl
def rE (n:Nat):∀ qs:List Rat,kL (n+1) (frs qs)=true
 | []=>by simp [frs,kL]
 | q::qs=>by
  have:=rE n qs;unfold frs at *;simp only [Z8,kL,vd,this,Bool.and_self]
def C4 (qs:List Rat):okD 9 (.lst (frs qs))=true:=by rw [okD]; exact rE 7 qs
def wK {a b:List D} (ha:okD 9 (.lst a)=true) (hb:okD 9 (.lst b)=true):eqO (.lst a) (.lst b)=some (eqB (.lst a) (.lst b)):=by
 unfold eqO;rw [show eqS (.lst a) (.lst b)=none from rfl];simp only [ha,hb,and_self,if_true]
def wL (p q:Rat):eqO (fr p) (fr q)=some (eqB (fr p) (fr q)):=by rfl
def Hx {p q:Rat} (h:fr p=fr q):p=q:=by
 unfold fr at h;simp at h;exact Rat.ext h.1 (Int.ofNat.inj h.2)
def wN (p q:Rat):eqB (fr p) (fr q)=decide (p=q):=by
 by_cases h:p=q
 · subst h; rw [g6]; simp
 · rw [oS λ z=>h (Hx z)]; simp [h]
def D7 (qs:List Rat):eqB (.lst (frs qs)) (.lst [])=decide (qs=[]):=by
 cases qs with
 | nil=>rw [show frs []=[] from rfl,g6]; simp
 | cons q qs=>rw [oS (by simp [frs])]; simp
end PF
end
local macro_rules | `(tactic| walk_at "ee")=>`(tactic| first
 | with_reducible assumption
 | with_reducible exact L2.e_c
 | ((with_reducible apply L2.ag); exact rfl)
 | with_reducible exact L2.aq
 | ((with_reducible apply L2.ae) <;> walk_at "ee")
 | ((with_reducible apply L2.ar) <;> walk_at "ee")
 | ((with_reducible apply L2.a9) <;> walk_at "ee")
 | ((with_reducible apply L2.cB) <;> walk_at "ee")
 | ((with_reducible apply L2.wQ) <;> walk_at "ee")
 | ((with_reducible apply L2.wO) <;> walk_at "ee")
 | ((with_reducible apply L2.aU) <;> walk_at "ee")
 | ((with_reducible apply L2.aV) <;> walk_at "ee")
 | ((with_reducible apply L2.oU) <;> walk_at "ee")
 | ((with_reducible apply L2.oT) <;> walk_at "ee")
 | ((with_reducible apply L2.ax) <;> walk_at "ee")
 | ((with_reducible apply L2.gh) <;> walk_at "ee")
 | with_reducible exact L2.CW
 | ((with_reducible apply L2.cy) <;> walk_at "ee")
 | ((with_reducible apply L2.tR) <;> walk_at "ee")
 | ((with_reducible apply L2.iq) <;> walk_at "ee")
 | ((with_reducible apply L2.ya) <;> walk_at "ee")
 | ((with_reducible apply e_and2) <;> walk_at "ee")
 | ((with_reducible apply e_or2) <;> walk_at "ee")
 | ((with_reducible apply e_get2) <;> walk_at "ee")
 | with_reducible exact L2.mH _
 | with_reducible exact slD_own _
 | with_reducible exact L2.aN _ _
 | with_reducible exact L2.aY _ _ _
 | with_reducible exact L2.jS _ _ _ _
 | with_reducible exact L2.dF _ _
 | with_reducible exact L2.gY _ _
 | with_reducible exact L2.bT _ _
 | with_reducible exact L2.eK _ _
 | with_reducible exact L2.b9 _ _
 | with_reducible exact L2.aX _ _
 | with_reducible exact L2.mP _ _
 | with_reducible exact L2.aM (by decide)
 | with_reducible exact L2.be (by decide) (by decide +kernel)
 | with_reducible exact L2.kQ (by decide) (by decide)
 | with_reducible exact L2.kR (by decide) (by decide)
 | with_reducible exact L2.pA _ _
 | with_reducible exact L2.pw _ _ _
 | with_reducible exact L2.tX _ _ _ _
 | exact rfl
 | exact Zb rfl
 | skip)
local macro_rules | `(tactic| walk_at "st")=>`(tactic| first
 | ((with_reducible apply L2.aD) <;> walk_at "ee")
 | ((with_reducible apply L2.cT) <;> walk_at "ee")
 | ((with_reducible apply s_drop) <;> walk_at "ee")
 | ((with_reducible apply L2.gq) <;> walk_at "ee")
 | ((with_reducible apply L2.kE) <;> walk_at "ee")
 | ((with_reducible apply L2.kD) <;> walk_at "ee")
 | with_reducible exact s_next)
local macro_rules | `(tactic| walk_at "ss")=>`(tactic| first
 | ((with_reducible apply L2.az); (focus (walk_at "st")); walk_at "ss")
 | ((with_reducible apply L2.bz) <;> walk_at "ee")
 | ((with_reducible apply L2.jb); exact rfl)
 | walk_at "st"
 | (apply Eq.trans; (focus (walk_at "st")); exact rfl)
 | skip)
section
namespace PF
open PySem L2
def scr (ns:List Int):D:=.fz (ns.map .int)
def sP {ns:List Int} {j:Int} (h0:0<=j) (h1:j < ns.length):∃ c:Int,atI (ns.map D.int) j=some (.int c):=by
 refine ⟨ns[j.toNat]'(by omega),?_⟩;have e:=fS (xs:=ns.map D.int) (j:=j.toNat) (by rw [List.getElem?_map,List.getElem?_eq_getElem (by omega)]; rfl);rw [show ((j.toNat:Nat):Int)=j by omega] at e;exact e
def rM (c:DT) (b:DS) (hc:c=dT (dOp oNe (ao 3) (dC (.int 0)))) (hb:b=aL (bA 4 (dOp oMod (ao 2) (ao 3))) (aL (bA 2 (ao 3)) (bA 3 (ao 4)))) (s0 s1:Sl) :
  ∀ (n:Nat) (x y:Int) (r:Sl),0<=x->0<=y->y.toNat < n->∃ r',bH c b n [s0,s1,.shr (.int x),.shr (.int y),r]=some (.next [s0,s1,.shr (.int (Int.gcd x y:Nat)),.shr (.int 0),r'])
 | 0,_,_,_,_,_,h=>by omega
 | n + 1,x,y,r,hx,hy,h=>by
  by_cases z:y=0
  ·subst z
   refine ⟨r,?_⟩;rw [S1.wt hx];have t1:c [s0,s1,.shr (.int x),.shr (.int 0),r]=some false:=by rw [hc]; rfl
   conv=>lhs; unfold bH
   rw [t1]
  ·have py:0 < y:=by omega
   have m0:=Z4 x (Z3 py);have m1:=Zy x py;obtain ⟨r',e⟩:=rM c b hc hb s0 s1 n y (x % y) (.shr (.int (x % y))) hy m0 (by omega);refine ⟨r',?_⟩;rw [S1.rZ hx py] at e;rw [<- e]
   conv=>lhs; unfold bH
   have t1:c [s0,s1,.shr (.int x),.shr (.int y),r]=some true:=by
    have e1:oNe (.int y) (.int 0)=some (.bl true):=by rw [eK,Za z]; rfl
    rw [hc]
    walk_at "ee"
   have t2:b [s0,s1,.shr (.int x),.shr (.int y),r]=some (.next [s0,s1,.shr (.int y),.shr (.int (x % y)),.shr (.int (x % y))]):=by
    have e2:=aM (i:=x) py;rw [hb]
    walk_at "ss"
   rw [t1,t2]
def In.sub {N a b:Nat} {p q:Rat} (hN:0 < N) (hp:In N a p) (hq:In N b q):In N (a+b) (p - q):=by
 rw [Rat.sub_eq_add_neg];exact hp.add hN ⟨hq.dv,by have:=hq.hi; rw [Rat.neg_le_neg_iff]; exact this,by have:=hq.lo; grind⟩
def In.AY {N M:Nat} {g:Rat} (hN:0 < N) (h:In N M g):∀ k:Nat,In N (k * M) (g * ((k:Int):Rat))
 | 0=>by
  rw [Nat.zero_mul];have:g * (((0:Nat):Int):Rat)=0:=by simp
  rw [this];exact In.zero N
 | k+1=>by
  have e:g * (((k+1:Nat):Int):Rat)=g * ((k:Int):Rat)+g:=by
   rw [show (((k+1:Nat):Int):Rat)=((k:Int):Rat)+1 by rw [Int.natCast_add,Wg]; rfl,Rat.mul_add,Rat.mul_one]
  rw [e,Nat.succ_mul];exact (In.AY hN h k).add hN h
def cm (g:Rat) (qs:List Rat):Rat:=if qs=[] then 0 else bX qs+g * (((qs.length - 1:Nat):Int):Rat)
def A3 {qs:List Rat} {j:Nat} {q:Rat} (h:qs[j]?=some q):oIx (.lst (PF.frs qs)) (.int (0+(j:Int)))=some (fr q):=by
 rw [Int.zero_add];exact fS (by unfold PF.frs; rw [List.getElem?_map,h]; rfl)
def vQ {ns:List Int} {j:Nat} {n:Int} (h:ns[j]?=some n):oIx (.lst (ns.map .int)) (.int (j:Int))=some (.int n):=fS (by rw [List.getElem?_map,h]; rfl)
def Eg (qs:List Rat) (lo hi:Option Int):cutD (PF.frs qs) lo hi=PF.frs ((qs.drop (HT.sIx qs.length 0 lo)).take (HT.sIx qs.length qs.length hi - HT.sIx qs.length 0 lo)):=by
 unfold cutD PF.frs;rw [Zd,List.map_take,List.map_drop]
def sH (qs:List Rat) {a b:Nat} (h1:a<=b) (h2:b<=qs.length):cutD (PF.frs qs) (some (a:Int)) (some (b:Int))=PF.frs ((qs.drop a).take (b - a)):=by
 rw [Eg,HT.uJ,HT.uJ,Nat.min_eq_left h2,Nat.min_eq_left (by omega)]
def vX (i:Int):pH [.int i,.ty "int"]=some (.bl true):=rfl
def rT (i:Int):pH [.int i,.ty "bool"]=some (.bl false):=rfl
def vW (ds:List D):pH [.lst ds,.ty "list"]=some (.bl true):=rfl
def cA (qs:List Rat):(PF.frs qs).length=qs.length:=Zd _
def eq_nil (qs:List Rat):oEq (.lst (PF.frs qs)) (.lst [])=some (.bl (decide (qs=[]))):=by
 unfold oEq;rw [wK (C4 qs) rfl,D7];rfl
end PF
end
section
namespace PF
open PySem L2
def sc (S:Nat) (q:Rat):Int:=q.num * ((S / q.den:Nat):Int)
def sX {S:Nat} {q:Rat} (h:q.den ∣ S):((sc S q:Int):Rat)=q * ((S:Int):Rat):=by
 obtain ⟨k,rfl⟩:=h;unfold sc;rw [Nat.mul_div_cancel_left k q.den_pos]
 have e:q=((q.num:Int):Rat) / ((q.den:Int):Rat):=by
  rw [<- Rat.divInt_eq_div]; exact (Zk q).symm
 have d0:((q.den:Int):Rat)≠0:=by
  intro h;have:=Rat.intCast_inj.mp (h.trans (Rat.intCast_zero).symm);have:=den_pos q;omega
 rw [Xo,Wh,Wh];generalize ((q.num:Int):Rat)=a at *;generalize ((q.den:Int):Rat)=b at *;generalize ((k:Int):Rat)=c at *;subst e;grind
def yY {S N d:Nat} (hS:S ∣ N) (hd:d ∣ N) (S0:0 < S) (d0:0 < d):S / Nat.gcd S d * d ∣ N/\S ∣ S / Nat.gcd S d * d/\d ∣ S / Nat.gcd S d * d/\0 < S / Nat.gcd S d * d:=by
 have e:S / Nat.gcd S d * d=Nat.lcm S d:=by
  unfold Nat.lcm;rw [Nat.div_mul_right_comm (Nat.gcd_dvd_left S d)]
 rw [e];exact ⟨Nat.lcm_dvd hS hd,Nat.dvd_lcm_left S d,Nat.dvd_lcm_right S d,Nat.lcm_pos S0 d0⟩
def uu {S N:Nat} (h:S ∣ N) (hN:0 < N) (b:N < 2 ^ 4000):Sz (S:Int):=by
 have:=Wk hN h;unfold Sz;omega
def rh {N:Nat} {qs:List Rat} {g r:Rat} (hN:0 < N) (bN:N < 2 ^ 4000) (h:∀ q ∈ qs++[g,r],q.den ∣ N/\SzQ q) (hl:qs.length<=1000) :
  ∃ S,0 < S/\S ∣ N/\(∀ q ∈ qs++[g,r],q.den ∣ S)/\ku [.lst (PF.frs qs),fr g,fr r]=some (.shr (.lst (((qs++[g,r]).map (sc S)).map .int))):=by
 have hx:dOp cp (ao 0) (lU (ah (ao 1) (ah (ao 2) aC))) [.shr (.lst (PF.frs qs)),.shr (fr g),.shr (fr r),.shr (.int 1),.no]=some (.lst (PF.frs (qs++[g,r]))):=by
  have e:cp (.lst (PF.frs qs)) (.lst [fr g,fr r])=some (.lst (PF.frs (qs++[g,r]))):=by
    have:(PF.frs qs).length+[fr g,fr r].length<=100000:=by rw [cA]; simp; omega
    show (if _ then _ else _)=_;rw [if_pos this];unfold PF.frs;rw [Wz];rfl
  exact ar e_v (cB (ae e_v (ae e_v aq)) (Zb rfl)) e
 generalize hps:qs++[g,r]=ps at *;have lps:ps.length<=1002:=by rw [<- hps,Zu]; simp; omega
 obtain ⟨τ',e1,S,r4,S0,SN,dS,rfl⟩:=cM (f:=bA 3 (dOp gi (dOp oDiv (ao 3) (dFn PF.bR (ah (ao 3) (ah (dOp oIx (ao 4) (dC (.int 1))) aC)))) (dOp oIx (ao 4) (dC (.int 1))))) (gg:=gN 4)
   
  (λ i τ=>∃ (S:Nat) (r4:Sl),0 < S/\S ∣ N/\(∀ q ∈ ps.take i,q.den ∣ S)/\τ=[.shr (.lst (PF.frs qs)),.shr (fr g),.shr (fr r),.shr (.int (S:Int)),r4])
  (dO hx) ⟨1,.no,by decide,Nat.one_dvd N,by simp,rfl⟩ (by
    rintro j d τ hd ⟨S,r4,S0,SN,dS,rfl⟩
    obtain ⟨q,hq,rfl⟩:=iE hd;obtain ⟨qN,qz⟩:=h q (List.mem_of_getElem? hq);obtain ⟨l1,l2,l3,l4⟩:=yY SN qN S0 q.den_pos;have eg:bR [.int (S:Int),.int (q.den:Int)]=some (.shr (.int ((Nat.gcd S q.den:Nat):Int))):=fR _ _;have gp:0 < Nat.gcd S q.den:=Nat.gcd_pos_of_pos_left _ S0
    have e2:oDiv (.int (S:Int)) (.int ((Nat.gcd S q.den:Nat):Int))=some (.int ((S / Nat.gcd S q.den:Nat):Int)):=by
     rw [be (by omega) (uu (Yg (Nat.gcd_dvd_left S q.den) SN) hN bN)];rw [Int.natCast_ediv]
    have e3:gi (.int ((S / Nat.gcd S q.den:Nat):Int)) (.int (q.den:Int))=some (.int ((S / Nat.gcd S q.den * q.den:Nat):Int)):=by
     rw [bB (uu (Yg (Nat.div_dvd_of_dvd (Nat.gcd_dvd_left S q.den)) SN) hN bN) qz.d,Xo]
    refine ⟨_,_,rfl,aD (ar (ar e_v (aV (ae e_v (ae (ar e_v e_c (aY _ _ _)) aq)) eg rfl) e2) (ar e_v e_c (aY _ _ _)) e3),_,_,l4,l1,?_,rfl⟩;intro q' hq';rw [Wn,hq] at hq';rcases Y5.mp hq' with m | m
    · exact Yg (dS q' m) l2
    ·have:q'=q:=by simpa using m
     subst this; exact l3)
 rw [cA,Ym] at dS;refine ⟨S,S0,SN,dS,?_⟩
 have em:kj (λ d=>dOp gi (dOp oIx (ao 0) (dC (.int 0))) (dOp oDiv (ao 1) (dOp oIx (ao 0) (dC (.int 1)))) (.shr d::fq [.shr (.lst (PF.frs qs)),.shr (fr g),.shr (fr r),.shr (.int (S:Int)),r4] [("scale",3)])) (PF.frs ps)=some ((ps.map (sc S)).map .int):=by
  have step:∀ q ∈ ps,(λ d=>dOp gi (dOp oIx (ao 0) (dC (.int 0))) (dOp oDiv (ao 1) (dOp oIx (ao 0) (dC (.int 1)))) (.shr d::fq [.shr (.lst (PF.frs qs)),.shr (fr g),.shr (fr r),.shr (.int (S:Int)),r4] [("scale",3)])) (fr q)=some (.int (sc S q)):=λ q hq=>by
    obtain ⟨qN,qz⟩:=h q hq
    have e2:oDiv (.int (S:Int)) (.int (q.den:Int))=some (.int ((S / q.den:Nat):Int)):=by
     rw [be (den_pos q) qz.d,Int.natCast_ediv]
    have e3:=bB qz.n (uu (Yg (Nat.div_dvd_of_dvd (dS q hq)) SN) hN bN);exact ar (ar e_v e_c (aN _ _)) (ar e_v (ar e_v e_c (aY _ _ _)) e2) e3
  clear e1 lps hps h hx dS
  induction ps with
  | nil=>rfl
  | cons q ps ih =>
    have h1:=step q (Zo ..);have h2:=ih λ q' hq'=>step q' (Zg _ hq')
    show kj _ (fr q::PF.frs ps)=_;simp only [kj];simp only at h1;rw [h1];rw [h2];rfl
 have hx2:dOp cp (ao 0) (lU (ah (ao 1) (ah (ao 2) aC))) [.shr (.lst (PF.frs qs)),.shr (fr g),.shr (fr r),.shr (.int (S:Int)),r4]=some (.lst (PF.frs ps)):=by
  rw [<- hx]; rfl
 refine bj (az (aD e_c) (az e1 (bz (di (dO hx2) (by rw [cA]; omega) em))))
def Bi (g q:Rat):cm g [q]=q:=by
 unfold cm;rw [if_neg (by simp)];show bX [q]+g * (((0:Nat):Int):Rat)=q;have:bX [q]=0+q:=rfl;rw [this];have z:(((0:Nat):Int):Rat)=0:=rfl;rw [z];grind
def qK (g q:Rat) {qs:List Rat} (h:qs≠[]):cm g (qs++[q])=cm g qs+(g+q):=by
 have lp:=X9.mpr h;unfold cm;rw [if_neg (by simp),if_neg h,nO,Zu]
 have e:(((qs.length+[q].length - 1:Nat):Int):Rat)=(((qs.length - 1:Nat):Int):Rat)+1:=by
  rw [show ((qs.length+[q].length - 1:Nat):Int)=((qs.length - 1:Nat):Int)+1 by simp; omega,Wg]; rfl
 rw [e];generalize (((qs.length - 1:Nat):Int):Rat)=k;grind
def seg (qs:List Rat) (p e:Nat):List Rat:=(qs.drop p).take (e - p)
def uB {qs:List Rat} {p:Nat} {q:Rat} (h:qs[p]?=some q):seg qs p (p+1)=[q]:=by
 unfold seg;rw [show p+1 - p=1 by omega];have hp:=(List.getElem?_eq_some_iff.mp h).1;rw [Yl hp];have:qs[p]=q:=(List.getElem?_eq_some_iff.mp h).2;simp [this]
def mI {qs:List Rat} {p e:Nat} {q:Rat} (hp:p<=e) (h:qs[e]?=some q):seg qs p (e+1)=seg qs p e++[q]:=by
 unfold seg;rw [show e+1 - p=e - p+1 by omega,Wn,List.getElem?_drop,show p+(e - p)=e by omega,h];rfl
def uC {qs:List Rat} {p e:Nat} (h:p < e) (h2:e<=qs.length):seg qs p e≠[]:=by
 intro z;have:(seg qs p e).length=0:=by rw [z]; rfl
 unfold seg at this;rw [Xu,Wu] at this;omega
def Bp {α:Type} (xs:List α) (a b:α):atI (xs++[a,b]) (-1)=some b:=by
 unfold atI ixN;rw [if_neg (by decide),if_pos (by rw [Zu]; simp; omega)];simp only [Zu,Zw,Xm];rw [show ((-1:Int)+((xs.length+(0+1+1):Nat):Int)).toNat=xs.length+1 by omega];simp
def Bo {α:Type} (xs:List α) (a b:α):atI (xs++[a,b]) (-2)=some a:=by
 unfold atI ixN;rw [if_neg (by decide),if_pos (by rw [Zu]; simp; omega)];simp only [Zu,Zw,Xm];rw [show ((-2:Int)+((xs.length+(0+1+1):Nat):Int)).toNat=xs.length by omega];simp
def zs (S:Nat) (qs:List Rat) (g r:Rat):D:=.lst (((qs++[g,r]).map (sc S)).map .int)
def xP (S:Nat) (qs:List Rat) (g r:Rat):zs S qs g r=.lst ((qs.map (sc S)).map .int++[.int (sc S g),.int (sc S r)]):=by
 unfold zs;rw [Wz,Wz];rfl
def xQ {S:Nat} {qs:List Rat} {g r q:Rat} {j:Nat} (h:qs[j]?=some q):oIx (zs S qs g r) (.int (j:Int))=some (.int (sc S q)):=by
 have hj:=(List.getElem?_eq_some_iff.mp h).1;refine vQ ?_
 rw [List.getElem?_map,List.getElem?_append_left hj,h];rfl
def kI {a b:Int} {x y s:Rat} (ha:(a:Rat)=x * s) (hb:(b:Rat)=y * s) (s0:0 < s):(a<=b)↔x<=y:=by
 rw [<- Rat.intCast_le_intCast,ha,hb];exact ⟨λ h=>Rat.le_of_mul_le_mul_right h s0,λ h=>Xd h (Y6 s0)⟩
def uM {S:Nat} {qs:List Rat} {g r:Rat} (S0:0 < S) (hd:∀ q ∈ qs++[g,r],q.den ∣ S) {p:Nat} (hp:p < qs.length) :
    ∃ e:Nat,p < e/\e<=qs.length/\(e=p+1\/cm g (seg qs p e)<=r)/\(e=qs.length\/r < cm g (seg qs p (e+1)))/\eV [zs S qs g r,.int (p:Int)]=some (.shr (.int (e:Int))):=by
  have s0:(0:Rat) < ((S:Int):Rat):=by
    have:((0:Int):Rat) < ((S:Int):Rat):=Xa.mpr (by omega);exact this
  have hg:=sX (hd g (by simp));have hr:=sX (hd r (by simp));have hq:∀ j q,qs[j]?=some q->((sc S q:Int):Rat)=q * ((S:Int):Rat):=λ j q h=>sX (hd q (Ys _ (List.mem_of_getElem? h)))
  have i1:oIx (zs S qs g r) (.int (-1))=some (.int (sc S r)):=by rw [xP]; exact Bp _ _ _
  have i2:oIx (zs S qs g r) (.int (-2))=some (.int (sc S g)):=by rw [xP]; exact Bo _ _ _
  have il:d6 [zs S qs g r]=some (.int ((qs.length+2:Nat):Int)):=by
    show some (D.int ((((qs++[g,r]).map (sc S)).map D.int).length:Nat))=_;rw [Zd,Zd,Zu];rfl
  have loop:∀ (k e:Nat) (L:Int),qs.length - e=k->p < e->e<=qs.length->((L:Int):Rat)=(r - cm g (seg qs p e)) * ((S:Int):Rat)->(e=p+1\/cm g (seg qs p e)<=r) ->
      ∃ (e':Nat) (L':Int),p < e'/\e'<=qs.length/\(e'=p+1\/cm g (seg qs p e')<=r)/\(e'=qs.length\/r < cm g (seg qs p (e'+1))) /\
        bH (fE (dT (dOp oLt (ao 4) (ao 2))) (dT (dOp oLe (dOp cp (dOp oIx (ao 0) (dUn ju (dC (.int 2)))) (dOp oIx (ao 0) (ao 4))) (ao 3)))) (aL (lY 3 mV (dOp cp (dOp oIx (ao 0) (dUn ju (dC (.int 2)))) (dOp oIx (ao 0) (ao 4))))
    (lY 4 j7 (dC (.int 1)))) (k+1) [.shr (zs S qs g r),.shr (.int (p:Int)),.shr (.int (qs.length:Int)),.shr (.int L),.shr (.int (e:Int))]=some (.next [.shr (zs S qs g r),.shr (.int (p:Int)),.shr (.int (qs.length:Int)),.shr (.int L'),.shr (.int (e':Int))]):=by
    intro k
    induction k with
    | zero =>
      intro e L hk h1 h2 hL h3;have ee:e=qs.length:=by omega
      refine ⟨e,L,h1,h2,h3,.inl ee,?_⟩
      have t1:fE (dT (dOp oLt (ao 4) (ao 2))) (dT (dOp oLe (dOp cp (dOp oIx (ao 0) (dUn ju (dC (.int 2)))) (dOp oIx (ao 0) (ao 4))) (ao 3))) [.shr (zs S qs g r),.shr (.int (p:Int)),.shr (.int (qs.length:Int)),.shr (.int L),.shr (.int (e:Int))]=some false:=by
        refine de (b:=false) (ax (ar e_v e_v ?_)) nofun (λ _=>rfl);rw [b9,Za (by omega)]
      unfold bH;rw [t1]
    | succ k ih =>
      intro e L hk h1 h2 hL h3;have he:e < qs.length:=by omega
      have hqe:=List.getElem?_eq_getElem he;have ie:=xQ (S:=S) (g:=g) (r:=r) hqe;have se:=mI (p:=p) (by omega) hqe;have ce:cm g (seg qs p (e+1))=cm g (seg qs p e)+(g+qs[e]):=by rw [se,qK _ _ (uC h1 h2)]
      have hs:((sc S g+sc S qs[e]:Int):Rat)=(g+qs[e]) * ((S:Int):Rat):=by
        rw [Wg,hg,hq e _ hqe,Rat.add_mul]
      have cmp:=kI hs hL s0;have cmp2:(g+qs[e]<=r - cm g (seg qs p e))↔cm g (seg qs p (e+1))<=r:=by rw [ce]; constructor <;> intro h <;> grind
      have ev:dOp cp (dOp oIx (ao 0) (dUn ju (dC (.int 2)))) (dOp oIx (ao 0) (ao 4)) [.shr (zs S qs g r),.shr (.int (p:Int)),.shr (.int (qs.length:Int)),.shr (.int L),.shr (.int (e:Int))]=some (.int (sc S g+sc S qs[e])) :=
        ar (ar e_v (wO e_c rfl) i2) (ar e_v e_v ie) rfl
      have lt:dT (dOp oLt (ao 4) (ao 2)) [.shr (zs S qs g r),.shr (.int (p:Int)),.shr (.int (qs.length:Int)),.shr (.int L),.shr (.int (e:Int))]=some true:=by
        refine ax (ar e_v e_v ?_);rw [b9,Zh (by omega)]
      by_cases c:sc S g+sc S qs[e]<=L
      · have c':=cmp2.mp (cmp.mp c)
        have hL':((L - (sc S g+sc S qs[e]):Int):Rat)=(r - cm g (seg qs p (e+1))) * ((S:Int):Rat):=by
          rw [Rat.intCast_sub,hL,hs,ce];grind
        obtain ⟨e',L',q1,q2,q3,q4,q5⟩:=ih (e+1) (L - (sc S g+sc S qs[e])) (by omega) (by omega) (by omega) hL' (.inr c');refine ⟨e',L',q1,q2,q3,q4,?_⟩
        have t1:fE (dT (dOp oLt (ao 4) (ao 2))) (dT (dOp oLe (dOp cp (dOp oIx (ao 0) (dUn ju (dC (.int 2)))) (dOp oIx (ao 0) (ao 4))) (ao 3))) [.shr (zs S qs g r),.shr (.int (p:Int)),.shr (.int (qs.length:Int)),.shr (.int L),.shr (.int (e:Int))]=some true:=by
          refine de lt (λ _=>ax (ar ev e_v ?_)) nofun;show some (D.bl (decide (sc S g+sc S qs[e]<=L)))=_;rw [Zh c]
        have t2:aL (lY 3 mV (dOp cp (dOp oIx (ao 0) (dUn ju (dC (.int 2)))) (dOp oIx (ao 0) (ao 4)))) (lY 4 j7 (dC (.int 1))) [.shr (zs S qs g r),.shr (.int (p:Int)),.shr (.int (qs.length:Int)),.shr (.int L),.shr (.int (e:Int))]=some (.next [.shr (zs S qs g r),.shr (.int (p:Int)),.shr (.int (qs.length:Int)),.shr (.int (L - (sc S g+sc S qs[e]))),.shr (.int ((e+1:Nat):Int))]) :=
          az (kD e_v ev rfl) (kD e_v e_c rfl)
        conv=>lhs; unfold bH
        rw [t1,t2];exact q5
      · refine ⟨e,L,h1,h2,h3,.inr ?_,?_⟩
        · have:=λ z=>c (cmp.mpr (cmp2.mpr z))
          exact Rat.not_le.mp this
        have t1:fE (dT (dOp oLt (ao 4) (ao 2))) (dT (dOp oLe (dOp cp (dOp oIx (ao 0) (dUn ju (dC (.int 2)))) (dOp oIx (ao 0) (ao 4))) (ao 3))) [.shr (zs S qs g r),.shr (.int (p:Int)),.shr (.int (qs.length:Int)),.shr (.int L),.shr (.int (e:Int))]=some false:=by
          refine de lt (λ _=>ax (ar ev e_v ?_)) nofun;show some (D.bl (decide (sc S g+sc S qs[e]<=L)))=_;rw [Za c]
        unfold bH;rw [t1]
  have hqp:=List.getElem?_eq_getElem hp
  obtain ⟨e',L',q1,q2,q3,q4,q5⟩:=loop (qs.length - (p+1)) (p+1) (sc S r - sc S qs[p]) rfl (by omega) (by omega) (by
    rw [uB hqp,Bi,Rat.intCast_sub,hr,hq p _ hqp]
    grind) (.inl rfl)
  refine ⟨e',q1,q2,q3,q4,?_⟩;refine bj ?_
  refine az (aD (ar (aU (ae e_v aq) il) e_c (by rw [gY,show ((qs.length+2:Nat):Int) - 2=(qs.length:Int) by omega]))) ?_
  refine az (aD (ar (ar e_v (wO e_c rfl) i1) (ar e_v e_v (xQ hqp)) rfl)) ?_
  refine az (aD (ar e_v e_c rfl)) ?_
  exact az (eI q5) (bz e_v)
end PF
end
section
namespace PF
open PySem L2
structure Wr (qs:List Rat) (g r:Rat) (p e:Nat):Prop where
 lt:p < e
 le:e<=qs.length
 fit:e=p+1\/cm g (seg qs p e)<=r
 most:e=qs.length\/r < cm g (seg qs p (e+1))
def nD (es:List Nat):List D:=es.map λ (e:Nat)=>D.int (e:Int)
def LK {xs:List D} {Q:Nat->Nat->Prop}:∀ (i:Nat),(∀ (j:Nat) x,xs[j]?=some x->∃ e:Nat,Q (i+j) e/\x=.int (e:Int))->∃ es,xs=nD es/\∀ j e,es[j]?=some e->Q (i+j) e:=by
 induction xs with
 | nil=>exact λ i _=>⟨[],rfl,λ j e h=>by simp at h⟩
 | cons x xs ih =>
  intro i h;obtain ⟨e,he,rfl⟩:=h 0 x rfl
  obtain ⟨es,rfl,hs⟩:=ih (i+1) λ j y hj=>by
   have:=h (j+1) y (by simpa using hj);rw [show i+(j+1)=i+1+j by omega] at this;exact this
  refine ⟨e::es,rfl,λ j e' hj=>?_⟩
  cases j with
  | zero=>simp at hj; subst hj; exact he
  | succ j=>rw [show i+(j+1)=i+1+j by omega]; exact hs j e' (by simpa using hj)
def LM {es:List Nat} {j e:Nat} (h:es[j]?=some e):oIx (.lst (nD es)) (.int (j:Int))=some (.int (e:Int)):=fS (by unfold nD; rw [List.getElem?_map,h]; rfl)
def oi (es:List Nat):(nD es).length=es.length:=Zd _
def uL {N:Nat} {qs:List Rat} {g r:Rat} (hN:0 < N) (bN:N < 2 ^ 4000) (h:∀ q ∈ qs++[g,r],q.den ∣ N/\SzQ q) (hl:qs.length<=1000) :
  ∃ es:List Nat,es.length=qs.length/\(∀ p e,es[p]?=some e->Wr qs g r p e)/\j4 [.lst (PF.frs qs),fr g,fr r]=some (.shr (.lst (nD es))):=by
 obtain ⟨S,S0,SN,dS,e1⟩:=rh hN bN h hl
 have il:d6 [.lst (PF.frs qs)]=some (.int (qs.length:Int)):=by
  show some (D.int ((PF.frs qs).length:Nat))=_;rw [cA]
 obtain ⟨xs,ex,lx,px⟩:=vF (gg:=λ d=>dFn PF.eV (ah (ao 1) (ah (ao 0) aC)) (.shr d::fq [.shr (.lst (PF.frs qs)),.shr (fr g),.shr (fr r),.shr (zs S qs g r)] [("numbers",3)]))
  (P := λ j x=>∃ e:Nat,Wr qs g r j e/\x=.int (e:Int)) 0 (λ j d hd=>by
    obtain ⟨rfl,hj⟩:=jw hd;obtain ⟨e,q1,q2,q3,q4,q5⟩:=uM S0 dS hj;rw [Xr,Int.zero_add]
    exact ⟨_,aV (ae e_v (ae e_v aq)) q5 rfl,e,⟨q1,q2,q3,q4⟩,rfl⟩)
 obtain ⟨es,rfl,he⟩:=LK 0 px;rw [dX] at lx;refine ⟨es,by rw [<- oi]; exact lx,λ p e hpe=>by have:=he p e hpe; rw [Xr] at this; exact this,?_⟩;refine bj (az (aD (aV (ae e_v (ae e_v (ae e_v aq))) e1 rfl)) (bz (di (qh (ae (aU (ae e_v aq) il) aq) (by omega)) ?_ ?_)))
 · rw [dX]; omega
 · rw [Yr]; exact ex
inductive Ch (E:Nat->Nat->Prop) (n:Nat):Nat->List Nat->Prop where
 | nil:Ch E n n []
 | cons {p e:Nat} {cs:List Nat} (h:E p e) (l:p < e) (m:e<=n) (r:Ch E n e cs):Ch E n p ((e - p)::cs)
def oW {es:List Nat} {E:Nat->Nat->Prop} {n:Nat} (hn:n<=1000) (hl:es.length=n) (h:∀ p e,es[p]?=some e->E p e/\p < e/\e<=n) :
  ∃ cs,Ch E n 0 cs/\pE [.lst (nD es)]=some (.own (.lst (nD cs))):=by
 have il:d6 [.lst (nD es)]=some (.int (n:Int)):=by
  show some (D.int ((nD es).length:Nat))=_;rw [oi,hl]
 have loop:∀ (k p:Nat) (acc:List D),n - p<=k->p<=n->acc.length<=p->∃ cs,Ch E n p cs/\bH (dT (dOp oLt (ao 2) (bf d6 (ah (ao 0) aC)))) (aL (pF 1 (dOp lT (dOp oIx (ao 0) (ao 2)) (ao 2))) (bA 2 (dOp oIx (ao 0) (ao 2)))) (k+1)
   [.shr (.lst (nD es)),.own (.lst acc),.shr (.int (p:Int))]=some (.next [.shr (.lst (nD es)),.own (.lst (acc++nD cs)),.shr (.int (n:Int))]):=by
  intro k
  induction k with
  | zero =>
   intro p acc hk hp ha;have ep:p=n:=by omega
   subst ep;refine ⟨[],.nil,?_⟩
   have t1:dT (dOp oLt (ao 2) (bf d6 (ah (ao 0) aC))) [.shr (.lst (nD es)),.own (.lst acc),.shr (.int (p:Int))]=some false:=by
    refine ax (ar e_v (aU (ae e_v aq) il) ?_);rw [b9,Za (by omega)]
   unfold bH;rw [t1];show _=some (Out.next [_,.own (.lst (acc++[])),_]);rw [Yi]
  | succ k ih =>
   intro p acc hk hp ha
   by_cases ep:p=n
   ·subst ep
    refine ⟨[],.nil,?_⟩
    have t1:dT (dOp oLt (ao 2) (bf d6 (ah (ao 0) aC))) [.shr (.lst (nD es)),.own (.lst acc),.shr (.int (p:Int))]=some false:=by
     refine ax (ar e_v (aU (ae e_v aq) il) ?_);rw [b9,Za (by omega)]
    unfold bH;rw [t1];show _=some (Out.next [_,.own (.lst (acc++[])),_]);rw [Yi]
   ·have hlt:p < es.length:=by omega
    have he:=List.getElem?_eq_getElem hlt;obtain ⟨h1,h2,h3⟩:=h p _ he;have ix:=LM he;generalize es[p]=e at *;obtain ⟨cs,c1,c2⟩:=ih e (acc++[.int ((e - p:Nat):Int)]) (by omega) h3 (by rw [Zu]; simp; omega);refine ⟨(e - p)::cs,.cons h1 h2 h3 c1,?_⟩
    have t1:dT (dOp oLt (ao 2) (bf d6 (ah (ao 0) aC))) [.shr (.lst (nD es)),.own (.lst acc),.shr (.int (p:Int))]=some true:=by
     refine ax (ar e_v (aU (ae e_v aq) il) ?_);rw [b9,Zh (by omega)]
    have t2:aL (pF 1 (dOp lT (dOp oIx (ao 0) (ao 2)) (ao 2))) (bA 2 (dOp oIx (ao 0) (ao 2))) [.shr (.lst (nD es)),.own (.lst acc),.shr (.int (p:Int))]=some (.next [.shr (.lst (nD es)),.own (.lst (acc++[.int ((e - p:Nat):Int)])),.shr (.int (e:Int))]):=by
     refine az (kE (ar (ar e_v e_v ix) e_v ?_) rfl (by omega)) (aD (ar e_v e_v ix));rw [gY,show (e:Int) - (p:Int)=((e - p:Nat):Int) by omega]
    conv=>lhs; unfold bH
    rw [t1,t2];simp only;rw [c2];rw [X6];rfl
 obtain ⟨cs,c1,c2⟩:=loop n 0 [] (by omega) (Zs _) (Zs _);refine ⟨cs,c1,?_⟩;refine bj (az (cT (cB aq (Zs _)) (Zb rfl)) (az (aD e_c) (az (eI c2) ?_)));exact jb rfl
end PF
end
section
namespace PF
open PySem L2
def A7 {τ:List Sl} {ga:DA} {i j:Int} (h:ga τ=some [.int i,.int j]) (h1:-(2 ^ 62)<=i/\i < 2 ^ 62/\-(2 ^ 62)<=j/\j < 2 ^ 62):jg ga τ=some (mh i (j - i).toNat):=by unfold jg; rw [h]; exact if_pos h1
def Hl {τ:List Sl} {ga:DA} {i j:Int} (h:ga τ=some [.int i,.int j,.int (-1)]) (h1:-1000000<=i/\i<=1000000/\-1000000<=j/\j<=1000000):gZ ga τ=some (j8 i (i - j).toNat):=by unfold gZ; rw [h]; exact if_pos ⟨rfl,h1⟩
def sD {hi:Int} {n j:Nat} {d:D} (h:(j8 hi n)[j]?=some d):d=.int (hi - j)/\j < n:=by
 unfold j8 at h;rw [List.getElem?_map] at h
 by_cases hj:j < n
 ·rw [List.getElem?_range hj] at h
  exact ⟨(Zj h).symm,hj⟩
 ·rw [List.getElem?_eq_none (by simpa using hj)] at h
  cases h
def sC {hi:Int} {n:Nat}:(j8 hi n).length=n:=by simp [j8]
def rP {n j:Nat} (h:j < n):ixN n (j:Int)=some j:=by
 unfold ixN;rw [if_pos (by omega),if_pos (by omega),Yr]
def ye {τ:List Sl} {f g:DE} {v:D} {j n:Nat} {k:Int} {ds:List D} (h1:f τ=some v) (h2:g τ=some (.int k)) (q:τ[j]?=some (.own (.lst ds))) (hk:ixN ds.length k=some n):h9 j f g τ=some (.next (τ.set j (.own (.lst (ds.set n v))))):=by
 unfold h9;rw [h1];rw [h2];rw [q];show (ixN ds.length k).map _=_;rw [hk];rfl
def lc (g r:Rat) (ps:List Rat):Rat:=if cm g ps < r then (r - cm g ps) * (r - cm g ps) else 0
def J2 (x:Rat):0<=x * x:=by
 rcases Rat.le_total with h | h
 · exact Wq h h
 ·have h':0<=-x:=by grind
  have:=Wq h' h';grind
def Hc (g r:Rat) (ps:List Rat):0<=lc g r ps:=by
 unfold lc;split
 · exact J2 _
 · exact Yh
structure lS (c:Nat->Rat) (p k:Nat) (v:Rat) (e:Nat):Prop where
 lt:p < e
 le:e<=p+k
 eq:v=c e
 least:∀ e',p < e'->e'<=p+k->v<=c e'
 far:∀ e',e < e'->e'<=p+k->v < c e'
def lS.one {c:Nat->Rat} {p:Nat}:lS c p 1 (c (p+1)) (p+1):=by
 refine ⟨by omega,by omega,rfl,λ e' h1 h2=>?_,λ e' h1 h2=>by omega⟩;have:e'=p+1:=by omega
 rw [this];exact Yh
def lS.new {c:Nat->Rat} {p k:Nat} {v:Rat} {e:Nat} (h:lS c p k v e) (n:c (p+k+1)<=v):lS c p (k+1) (c (p+k+1)) (p+k+1):=by
 refine ⟨by omega,by omega,rfl,λ e' h1 h2=>?_,λ e' h1 h2=>by omega⟩
 by_cases z:e'=p+k+1
 · rw [z]; exact Yh
 · exact Wf n (h.least e' h1 (by omega))
def lS.old {c:Nat->Rat} {p k:Nat} {v:Rat} {e:Nat} (h:lS c p k v e) (n:v < c (p+k+1)):lS c p (k+1) v e:=by
 refine ⟨h.lt,by have:=h.le; omega,h.eq,λ e' h1 h2=>?_,λ e' h1 h2=>?_⟩
 ·by_cases z:e'=p+k+1
  · rw [z]; exact Y6 n
  · exact h.least e' h1 (by omega)
 ·by_cases z:e'=p+k+1
  · rw [z]; exact n
  · exact h.far e' h1 (by omega)
def lS.congr {c c':Nat->Rat} {p k:Nat} {v:Rat} {e:Nat} (h:lS c p k v e) (q:∀ e',p < e'->e'<=p+k->c' e'=c e'):lS c' p k v e :=
 ⟨h.lt,h.le,by rw [q e h.lt h.le]; exact h.eq,λ e' h1 h2=>by rw [q e' h1 h2]; exact h.least e' h1 h2,λ e' h1 h2=>by rw [q e' (by have:=h.lt; omega) h2]; exact h.far e' h1 h2⟩
def Dx {S:Nat} {g r:Rat} {ps:List Rat} {L z:Int} {P:Rat} (s0:(0:Rat) < ((S:Int):Rat)) (hL:(L:Rat)=(r - cm g ps) * ((S:Int):Rat)) (hz:(z:Rat)=P * (((S:Int):Rat) * ((S:Int):Rat))) :
  (((if (0:Int) > L then 0 else L) * (if (0:Int) > L then 0 else L)+z:Int):Rat)=(lc g r ps+P) * (((S:Int):Rat) * ((S:Int):Rat)):=by
 have cmp:((0:Int)<=L)↔(0:Rat)<=r - cm g ps:=kI (by simp) hL s0;rw [Wg,Wh,hz];unfold lc
 by_cases h:(0:Int) > L
 ·rw [if_pos h]
  have:¬ cm g ps < r:=λ q=>by
   have:=cmp.mpr (by grind);omega
  rw [if_neg this];have z0:((0:Int):Rat)=0:=rfl;rw [z0];grind
 ·rw [if_neg h,hL]
  have h0:=cmp.mp (by omega)
  by_cases q:cm g ps < r
  ·rw [if_pos q]
   grind
  ·rw [if_neg q]
   have:r - cm g ps=0:=by
    exact Rat.le_antisymm (by grind) h0
   rw [this];grind
def Dw {S M B:Nat} {x:Rat} {L:Int} (hL:(L:Rat)=x * ((S:Int):Rat)) (h1:-(M:Rat)<=x) (h2:x<=(M:Rat)) (hB:M * S<=B):L.natAbs<=B:=by
 have s0:(0:Rat)<=((S:Int):Rat):=by
  have:((0:Int):Rat)<=((S:Int):Rat):=Rat.intCast_le_intCast.mpr (by omega);exact this
 have e:(((M * S:Nat):Int):Rat)=(M:Rat) * ((S:Int):Rat):=by
  rw [Xo,Wh]; rfl
 have u:(L:Rat)<=(((M * S:Nat):Int):Rat):=by
  rw [hL,e]; exact Xd h2 s0
 have l:((-((M * S:Nat):Int):Int):Rat)<=(L:Rat):=by
  rw [Rat.intCast_neg,hL,e,<- Rat.neg_mul]; exact Xd h1 s0
 rw [Rat.intCast_le_intCast] at u l;omega
structure M2 (qs:List Rat) (g r:Rat) (S M:Nat):Prop where
 s0:0 < S
 hd:∀ q ∈ qs++[g,r],q.den ∣ S
 hi:∀ p e,p < e->e<=qs.length->-(M:Rat)<=r - cm g (seg qs p e)/\r - cm g (seg qs p e)<=(M:Rat)
 sz:M * S < 2 ^ 4000
def tT {qs : List Rat} {g r:Rat} {S M:Nat} (H:M2 qs g r S M) {p R:Nat} (hl:qs.length<=1000) (hp:p < R) (hR:R < qs.length) (eR:eV [zs S qs g r,.int (p:Int)]=some (.shr (.int (R:Int))))
    {ws:List Int} {P:Nat->Rat} (hw:∀ e,p < e->e<=qs.length->∃ z:Int,ws[e]?=some z/\(z:Rat)=P e * (((S:Int):Rat) * ((S:Int):Rat))) :
    ∃ (v:Int) (V:Rat) (e:Nat),hZ [zs S qs g r,.lst (ws.map .int),.int (p:Int)]=some (.shr (.tup [.int v,.int (e:Int)]))/\lS (λ e=>lc g r (seg qs p e)+P e) p (R - p) V e/\(v:Rat)=V * (((S:Int):Rat) * ((S:Int):Rat)):=by
  have s0:(0:Rat) < ((S:Int):Rat):=by
    have:((0:Int):Rat) < ((S:Int):Rat):=Xa.mpr (by have:=H.s0; omega);exact this
  have ss0:=Rat.mul_pos s0 s0;have hg:=sX (H.hd g (by simp));have hr:=sX (H.hd r (by simp));have hq:∀ j q,qs[j]?=some q->((sc S q:Int):Rat)=q * ((S:Int):Rat):=λ j q h=>sX (H.hd q (Ys _ (List.mem_of_getElem? h)))
  have i1:oIx (zs S qs g r) (.int (-1))=some (.int (sc S r)):=by rw [xP]; exact Bp _ _ _
  have i2:oIx (zs S qs g r) (.int (-2))=some (.int (sc S g)):=by rw [xP]; exact Bo _ _ _
  have hqp:qs[p]?=some qs[p]:=List.getElem?_eq_getElem (by omega)
  obtain ⟨τ', e1,L',x5,x6,hb,hrest⟩:=cM (f:=aL (bA 6 (dOp cp (dOp gi (bf mQ (ah (ao 3) (ah (dC (.int 0)) aC))) (bf mQ (ah (ao 3) (ah (dC (.int 0)) aC)))) (dOp oIx (ao 1) (ao 5))))
    (aL (sIf (dOr (dT (dOp vv (ao 4) (dC .non))) (dT (dOp oLe (ao 6) (dOp oIx (ao 4) (dC (.int 0)))))) (bA 4 (cY (ah (ao 6) (ah (ao 5) aC)))) bg)
    (lY 3 mV (dOp cp (dOp oIx (ao 0) (dUn ju (dC (.int 2)))) (dOp oIx (ao 0) (ao 5))))))
    (it:=jg (ah (dOp cp (ao 2) (dC (.int 1))) (ah (dOp cp (dFn PF.eV (ah (ao 0) (ah (ao 2) aC))) (dC (.int 1))) aC)))
    (τ:=[.shr (zs S qs g r),.shr (.lst (ws.map .int)),.shr (.int (p:Int)),.shr (.int (sc S r - sc S qs[p])),.shr .non,.no,.no])
    (λ j τ=>∃ (L:Int) (x5 x6:Sl),(L:Rat)=(r - cm g (seg qs p (p+1+j))) * ((S:Int):Rat)/\∃ b:D,τ=[.shr (zs S qs g r),.shr (.lst (ws.map .int)),.shr (.int (p:Int)),.shr (.int L),.shr b,x5,x6] /\
      ((j=0/\b=.non)\/∃ (v:Int) (V:Rat) (e:Nat),b=.tup [.int v,.int (e:Int)]/\lS (λ e=>lc g r (seg qs p e)+P e) p j V e/\(v:Rat)=V * (((S:Int):Rat) * ((S:Int):Rat))))
    (A7 (ae (ar e_v e_c rfl) (ae (ar (aV (ae e_v (ae e_v aq)) eR rfl) e_c rfl) aq)) (by omega))
    ⟨_, .no, .no,by
      rw [Nat.add_zero,uB hqp,Bi,Rat.intCast_sub,hr,hq p _ hqp]
      grind,.non,rfl,.inl ⟨rfl,rfl⟩⟩ (by
      rintro j d τ hd ⟨L,x5,x6,hL,b,rfl,hb⟩
      obtain ⟨rfl,hj⟩:=jw hd;obtain ⟨z,hz1,hz2⟩:=hw (p+1+j) (by omega) (by omega);have ee:(p:Int)+1+(j:Int)=((p+1+j:Nat):Int):=by omega
      have hqe:qs[p+1+j]?=some qs[p+1+j]:=List.getElem?_eq_getElem (by omega);have ie:=xQ (S:=S) (g:=g) (r:=r) hqe;have ix:=vQ hz1;have hb2:=H.hi p (p+1+j) (by omega) (by omega)
      have zL:Sz L:=by
        have:=Dw hL hb2.1 hb2.2 (Ze _);exact Yv this H.sz
      have zm:Sz (if (0:Int) > L then 0 else L):=by
        split
        · exact qY (by decide)
        · exact zL
      have pr:=Dx s0 hL hz2
      have eprice:dOp cp (dOp gi (bf mQ (ah (ao 3) (ah (dC (.int 0)) aC))) (bf mQ (ah (ao 3) (ah (dC (.int 0)) aC)))) (dOp oIx (ao 1) (ao 5)) [.shr (zs S qs g r),.shr (.lst (ws.map .int)),.shr (.int (p:Int)),.shr (.int L),.shr b,.shr (.int ((p+1+j:Nat):Int)),x6]
          = some (.int ((if (0:Int) > L then 0 else L) * (if (0:Int) > L then 0 else L)+z)) :=
        ar (ar (aU (ae e_v (ae e_c aq)) rfl) (aU (ae e_v (ae e_c aq)) rfl) (bB zm zm)) (ar e_v e_v ix) rfl
      generalize hpz:(if (0:Int) > L then 0 else L) * (if (0:Int) > L then 0 else L)+z=pz at *;have se:=mI (p:=p) (by omega) hqe;have ce:cm g (seg qs p (p+1+j+1))=cm g (seg qs p (p+1+j))+(g+qs[p+1+j]):=by rw [se,qK _ _ (uC (by omega) (by omega))]
      have hL':((L - (sc S g+sc S qs[p+1+j]):Int):Rat)=(r - cm g (seg qs p (p+1+j+1))) * ((S:Int):Rat):=by
        rw [Rat.intCast_sub,Wg,hL,hg,hq _ _ hqe,ce];grind
      have eaug:∀ b':D,lY 3 mV (dOp cp (dOp oIx (ao 0) (dUn ju (dC (.int 2)))) (dOp oIx (ao 0) (ao 5))) [.shr (zs S qs g r),.shr (.lst (ws.map .int)),.shr (.int (p:Int)),.shr (.int L),.shr b',.shr (.int ((p+1+j:Nat):Int)),.shr (.int pz)]
          = some (.next [.shr (zs S qs g r),.shr (.lst (ws.map .int)),.shr (.int (p:Int)),.shr (.int (L - (sc S g+sc S qs[p+1+j]))),.shr b',.shr (.int ((p+1+j:Nat):Int)),.shr (.int pz)]):=λ b' =>
        kD e_v (ar (ar e_v (wO e_c rfl) i2) (ar e_v e_v ie) rfl) rfl
      refine ⟨[.shr (zs S qs g r),.shr (.lst (ws.map .int)),.shr (.int (p:Int)),.shr (.int L),.shr b,.shr (.int ((p+1+j:Nat):Int)),x6],?_⟩
      have eg:gN 5 (.int ((p:Int)+1+(j:Int))) [.shr (zs S qs g r),.shr (.lst (ws.map .int)),.shr (.int (p:Int)),.shr (.int L),.shr b,x5,x6]=some [.shr (zs S qs g r),.shr (.lst (ws.map .int)),.shr (.int (p:Int)),.shr (.int L),.shr b,.shr (.int ((p+1+j:Nat):Int)),x6]:=by
        rw [ee]; rfl
      have fin : ∀ (b':D) (c:Bool),dOr (dT (dOp vv (ao 4) (dC .non))) (dT (dOp oLe (ao 6) (dOp oIx (ao 4) (dC (.int 0))))) [.shr (zs S qs g r),.shr (.lst (ws.map .int)),.shr (.int (p:Int)),.shr (.int L),.shr b,.shr (.int ((p+1+j:Nat):Int)),.shr (.int pz)]=some c ->
          b'=(if c=true then .tup [.int pz,.int ((p+1+j:Nat):Int)] else b) ->
          (∃ (v:Int) (V:Rat) (e:Nat),b'=.tup [.int v,.int (e:Int)]/\lS (λ e=>lc g r (seg qs p e)+P e) p (j+1) V e/\(v:Rat)=V * (((S:Int):Rat) * ((S:Int):Rat))) ->
          ∃ τ2,gN 5 (.int ((p:Int)+1+(j:Int))) [.shr (zs S qs g r),.shr (.lst (ws.map .int)),.shr (.int (p:Int)),.shr (.int L),.shr b,x5,x6]=some [.shr (zs S qs g r),.shr (.lst (ws.map .int)),.shr (.int (p:Int)),.shr (.int L),.shr b,.shr (.int ((p+1+j:Nat):Int)),x6] /\
            aL (bA 6 (dOp cp (dOp gi (bf mQ (ah (ao 3) (ah (dC (.int 0)) aC))) (bf mQ (ah (ao 3) (ah (dC (.int 0)) aC)))) (dOp oIx (ao 1) (ao 5))))
              (aL (sIf (dOr (dT (dOp vv (ao 4) (dC .non))) (dT (dOp oLe (ao 6) (dOp oIx (ao 4) (dC (.int 0)))))) (bA 4 (cY (ah (ao 6) (ah (ao 5) aC)))) bg)
              (lY 3 mV (dOp cp (dOp oIx (ao 0) (dUn ju (dC (.int 2)))) (dOp oIx (ao 0) (ao 5))))) [.shr (zs S qs g r),.shr (.lst (ws.map .int)),.shr (.int (p:Int)),.shr (.int L),.shr b,.shr (.int ((p+1+j:Nat):Int)),x6]=some (.next τ2) /\
            ∃ (L:Int) (x5 x6:Sl),(L:Rat)=(r - cm g (seg qs p (p+1+(j+1)))) * ((S:Int):Rat)/\∃ b:D,τ2=[.shr (zs S qs g r),.shr (.lst (ws.map .int)),.shr (.int (p:Int)),.shr (.int L),.shr b,x5,x6] /\
              ((j+1=0/\b=.non)\/∃ (v:Int) (V:Rat) (e:Nat),b=.tup [.int v,.int (e:Int)]/\lS (λ e=>lc g r (seg qs p e)+P e) p (j+1) V e/\(v:Rat)=V * (((S:Int):Rat) * ((S:Int):Rat))):=λ b' c hc hb' hB=>by
        refine ⟨_,eg,az (aD eprice) (az (fh hc (λ h=>?_) (λ h=>?_)) (eaug b')),_,_,_,hL',b',rfl,.inr hB⟩
        · rw [h,if_pos rfl] at hb'
          rw [hb'];exact aD (a9 (ae e_v (ae e_v aq)) (Zb rfl))
        · rw [h,if_neg (by decide)] at hb'
          rw [hb'];rfl
      rcases hb with ⟨rfl,rfl⟩ | ⟨v,V,e,rfl,hB,hv⟩
      · refine fin _ true (nN (b:=true) (ax (ar e_v e_c rfl)) nofun (λ _=>rfl)) rfl ⟨pz,_,p+1,by rw [if_pos rfl],lS.one,?_⟩
        exact pr
      · have cmp:=kI pr hv ss0
        have hc:dOr (dT (dOp vv (ao 4) (dC .non))) (dT (dOp oLe (ao 6) (dOp oIx (ao 4) (dC (.int 0))))) [.shr (zs S qs g r),.shr (.lst (ws.map .int)),.shr (.int (p:Int)),.shr (.int L),.shr (.tup [.int v,.int (e:Int)]),.shr (.int ((p+1+j:Nat):Int)),.shr (.int pz)]=some (decide (pz<=v)) :=
          nN (b:=false) (ax (ar e_v e_c rfl)) (λ _=>ax (ar e_v (ar e_v e_c (aN _ _)) rfl)) nofun
        have ej:p+j+1=p+1+j:=by omega
        by_cases c:pz<=v
        · rw [Zh c] at hc
          refine fin _ true hc rfl ⟨pz,_,p+1+j,by rw [if_pos rfl],?_,pr⟩;have:=hB.new (by rw [ej]; exact cmp.mp c);rw [ej] at this;exact this
        · rw [Za c] at hc
          refine fin _ false hc rfl ⟨v,V,e,by rw [if_neg (by decide)],?_,hv⟩
          exact hB.old (by rw [ej]; exact Rat.not_le.mp λ z=>c (cmp.mpr z)))
  obtain ⟨b,rfl,hb⟩:=hrest;rw [dX] at hb;have em:((R:Int)+1 - ((p:Int)+1)).toNat=R - p:=by omega
  rw [em] at hb;rcases hb with ⟨h0,_⟩ | ⟨v,V,e,rfl,hB,hv⟩
  · omega
  refine ⟨v,V,e,?_,hB,hv⟩;exact bj (az (aD (ar (ar e_v (wO e_c rfl) i1) (ar e_v e_v (xQ hqp)) rfl)) (az (aD e_c) (az e1 (bz e_v))))
def jB {f:D->Option D} {d:D} (h:∀ x,f x=some d):∀ ds:List D,kj f ds=some (List.replicate ds.length d)
 | []=>rfl
 | x::ds=>by
  have ih:=jB h ds;simp only [kj,h,ih,Z7];rfl
def Stl (n:Nat) (c:Nat->Nat->Rat) (R:Nat->Nat) (P:Nat->Rat) (p e:Nat):Prop:=(R p=n/\P p=0/\e=n)\/(R p < n/\lS (λ e=>c p e+P e) p (R p - p) (P p) e)
def Stl.congr {n:Nat} {c:Nat->Nat->Rat} {R:Nat->Nat} {P P':Nat->Rat} {p e:Nat} (h:Stl n c R P p e) (q:∀ x,p<=x->P' x=P x):Stl n c R P' p e:=by
 rcases h with ⟨h1,h2,h3⟩ | ⟨h1,h2⟩
 · exact .inl ⟨h1,by rw [q p (Ze _)]; exact h2,h3⟩
 ·refine .inr ⟨h1,?_⟩
  rw [q p (Ze _)];exact h2.congr λ e' l1 _=>by rw [q e' (by omega)]
structure j5 (qs:List Rat) (g r:Rat) (R:Nat->Nat) (P:Nat->Rat) (es:List Nat):Prop where
 len:es.length=qs.length
 wr:∀ p,p < qs.length->Wr qs g r p (R p)
 last:P qs.length=0
 at_:∀ p,p < qs.length->∃ e,es[p]?=some e/\Stl qs.length (λ p e=>lc g r (seg qs p e)) R P p e
def GU (es:List Nat) (p e:Nat):(nD es).set p (.int (e:Int))=nD (es.set p e):=by unfold nD; rw [List.map_set]
def HM {N M:Nat} {qs:List Rat} {g r:Rat} (hN:0 < N) (bN:N < 2 ^ 4000) (h:∀ q ∈ qs++[g,r],q.den ∣ N/\SzQ q) (hl:qs.length<=1000)
  (hi:∀ p e,p < e->e<=qs.length->-(M:Rat)<=r - cm g (seg qs p e)/\r - cm g (seg qs p e)<=(M:Rat)) (sz:M * N < 2 ^ 4000) :
  ∃ (R:Nat->Nat) (P:Nat->Rat) (es:List Nat),j5 qs g r R P es/\iT [.lst (PF.frs qs),fr g,fr r]=some (.own (.lst (nD es))):=by
 obtain ⟨S,S0,SN,dS,e1⟩:=rh hN bN h hl;have H:M2 qs g r S M:=⟨S0,dS,hi,Yv (Y1 M (Wk hN SN)) sz⟩
 have il:d6 [.lst (PF.frs qs)]=some (.int (qs.length:Int)):=by
  show some (D.int ((PF.frs qs).length:Nat))=_;rw [cA]
 have hR:∀ p,∃ e,p < qs.length->Wr qs g r p e/\eV [zs S qs g r,.int (p:Int)]=some (.shr (.int (e:Int))):=λ p=>by
  by_cases hp:p < qs.length
  · obtain ⟨e,q1,q2,q3,q4,q5⟩:=uM S0 dS hp
    exact ⟨e,λ _=>⟨⟨q1,q2,q3,q4⟩,q5⟩⟩
  · exact ⟨0,λ z=>absurd z hp⟩
 obtain ⟨R,hR⟩:=Classical.axiomOfChoice hR;generalize hn:qs.length=n at *
 obtain ⟨τ',e2,ws,es,P,x7,x8,w1,w2,w3,w4,w5,w6,rfl⟩:=cM (f:=sIf (dT (dOp oLt (dFn PF.eV (ah (ao 3) (ah (ao 7) aC))) (ao 4))) (aL (bA 8 (nk 5 (dFn PF.hZ (ah (ao 3) (ah (ao 5) (ah (ao 7) aC))))))
  (aL (h9 5 (dOp oIx (ao 8) (dC (.int 0))) (ao 7))
  (h9 6 (dOp oIx (ao 8) (dC (.int 1))) (ao 7)))) bg) (gg:=gN 7)
  (it:=gZ (ah (dOp lT (ao 4) (dC (.int 1))) (ah (dUn ju (dC (.int 1))) (ah (dUn ju (dC (.int 1))) aC))))
  (τ:=[.shr (.lst (PF.frs qs)),.shr (fr g),.shr (fr r),.shr (zs S qs g r),.shr (.int (n:Int)),.own (.lst ((List.replicate (n+1) (0:Int)).map .int)),.own (.lst (nD (List.replicate n n))),.no,.no])
  (λ j τ=>∃ (ws:List Int) (es:List Nat) (P:Nat->Rat) (x7 x8:Sl),ws.length=n+1/\es.length=n /\
    (∀ e,n - j<=e->e<=n->∃ z:Int,ws[e]?=some z/\(z:Rat)=P e * (((S:Int):Rat) * ((S:Int):Rat)))/\(∀ p,p < n - j->ws[p]?=some 0/\es[p]?=some n)/\P n=0 /\
    (∀ p,n - j<=p->p < n->∃ e,es[p]?=some e/\Stl n (λ p e=>lc g r (seg qs p e)) R P p e) /\
    τ=[.shr (.lst (PF.frs qs)),.shr (fr g),.shr (fr r),.shr (zs S qs g r),.shr (.int (n:Int)),.own (.lst (ws.map .int)),.own (.lst (nD es)),x7,x8])
  (Hl (ae (ar e_v e_c rfl) (ae (wO e_c rfl) (ae (wO e_c rfl) aq))) (by omega))
  ⟨_, _, λ _=>0,.no,.no,by simp,by simp,λ e h1 h2=>⟨0,by rw [List.getElem?_replicate,if_pos (by omega)],by simp⟩,λ p hp=>⟨by rw [List.getElem?_replicate,if_pos (by omega)],by rw [List.getElem?_replicate,if_pos (by omega)]⟩,rfl,λ p h1 h2=>by omega,rfl⟩ (by
    rintro j d τ hd ⟨ws,es,P,x7,x8,w1,w2,w3,w4,w5,w6,rfl⟩
    obtain ⟨rfl,hj⟩:=sD hd;obtain ⟨p,hp⟩:∃ p,p=n - 1 - j:=⟨_,rfl⟩
    have ep:(n:Int) - 1 - (j:Int)=(p:Int):=by omega
    have hpn:p < n:=by omega
    rw [ep];obtain ⟨hW,eR⟩:=hR p hpn;have hnj:n - (j+1)=p:=by omega
    have hnj2:n - j=p+1:=by omega
    rw [hnj];rw [hnj2] at w3 w4 w6;have lt:=hW.lt;have le:=hW.le;rw [hn] at le
    have et:dT (dOp oLt (dFn PF.eV (ah (ao 3) (ah (ao 7) aC))) (ao 4)) [.shr (.lst (PF.frs qs)),.shr (fr g),.shr (fr r),.shr (zs S qs g r),.shr (.int (n:Int)),.own (.lst (ws.map .int)),.own (.lst (nD es)),.shr (.int (p:Int)),x8]=some (decide ((R p:Int) < (n:Int))) :=
     ax (ar (aV (ae e_v (ae e_v aq)) eR rfl) e_v rfl)
    refine ⟨[.shr (.lst (PF.frs qs)),.shr (fr g),.shr (fr r),.shr (zs S qs g r),.shr (.int (n:Int)),.own (.lst (ws.map .int)),.own (.lst (nD es)),.shr (.int (p:Int)),x8],?_⟩
    by_cases c:R p < n
    ·obtain ⟨v,V,e,eC,hB,hv⟩:=tT H (by omega) lt (by omega) eR (λ e h1 h2=>w3 e (by omega) (by omega))
     rw [Zh (by omega)] at et;have ixp:ixN (ws.map D.int).length (p:Int)=some p:=rP (by rw [Zd]; omega);have ixp2:ixN (nD es).length (p:Int)=some p:=rP (by rw [oi]; omega);refine ⟨[.shr (.lst (PF.frs qs)),.shr (fr g),.shr (fr r),.shr (zs S qs g r),.shr (.int (n:Int)),.own (.lst ((ws.set p v).map .int)),.own (.lst (nD (es.set p e))),.shr (.int (p:Int)),.shr (.tup [.int v,.int (e:Int)])],rfl,?_,?_⟩
     ·refine fh et (λ _=>?_) nofun
      rw [List.map_set,<- GU];refine az (aD (ni rfl (aV (ae e_v (ae e_v (ae e_v aq))) eC rfl) rfl)) ?_
      refine az (ye (ar e_v e_c (aN _ _)) e_v rfl ixp) ?_
      exact ye (n:=p) (ar e_v e_c (aY _ _ _)) e_v rfl ixp2
     ·refine ⟨ws.set p v,es.set p e,λ x=>if x=p then V else P x,_,_,by rw [X3]; exact w1,by rw [X3]; exact w2,λ e' h1 h2=>?_,λ p' h1=>?_,?_,λ q h1 h2=>?_,rfl⟩
      ·by_cases z:e'=p
       ·subst z
        exact ⟨v,by rw [List.getElem?_set_self (by omega)],by dsimp only; rw [if_pos rfl]; exact hv⟩
       ·obtain ⟨z',a1,a2⟩:=w3 e' (by omega) h2
        exact ⟨z',by rw [List.getElem?_set_ne (by omega)]; exact a1,by dsimp only; rw [if_neg z]; exact a2⟩
      ·rw [List.getElem?_set_ne (by omega),List.getElem?_set_ne (by omega)]
       exact w4 p' (by omega)
      ·show (if n=p then V else P n)=0
       rw [if_neg (by omega)]; exact w5
      ·by_cases z:q=p
       ·subst z
        refine ⟨e,by rw [List.getElem?_set_self (by omega)],.inr ⟨c,?_⟩⟩;dsimp only;rw [if_pos rfl]
        exact hB.congr λ e' l1 _=>by
         rw [if_neg (by omega)]
       ·obtain ⟨e',a1,a2⟩:=w6 q (by omega) h2
        refine ⟨e',by rw [List.getElem?_set_ne (by omega)]; exact a1,a2.congr λ x hx=>?_⟩;rw [if_neg (by omega)]
    ·rw [Za (by omega)] at et
     have eRn:R p=n:=by omega
     obtain ⟨a1,a2⟩:=w4 p (by omega);refine ⟨_,rfl,fh et nofun (λ _=>rfl),ws,es,λ x=>if x=p then 0 else P x,_,_,w1,w2,λ e' h1 h2=>?_,λ p' h1=>w4 p' (by omega),?_,λ q h1 h2=>?_,rfl⟩
     ·by_cases z:e'=p
      ·subst z
       exact ⟨0,a1,by dsimp only; rw [if_pos rfl]; simp⟩
      ·obtain ⟨z',b1,b2⟩:=w3 e' (by omega) h2
       exact ⟨z',b1,by dsimp only; rw [if_neg z]; exact b2⟩
     ·show (if n=p then 0 else P n)=0
      rw [if_neg (by omega)]; exact w5
     ·by_cases z:q=p
      ·subst z
       exact ⟨n,a2,.inl ⟨eRn,by dsimp only; rw [if_pos rfl],rfl⟩⟩
      ·obtain ⟨e',b1,b2⟩:=w6 q (by omega) h2
       refine ⟨e',b1,b2.congr λ x hx=>?_⟩
       rw [if_neg (by omega)])
 rw [sC] at w3 w4 w6;have e0:n - ((n:Int) - 1 - -1).toNat=0:=by omega
 rw [e0] at w3 w4 w6;refine ⟨R,P,es,⟨by rw [hn]; exact w2,λ p hp=>(hR p (by omega)).1,by rw [hn]; exact w5,λ p hp=>by rw [hn]; exact w6 p (Zs _) (by omega)⟩,?_⟩;refine bj (az (aD (aV (ae e_v (ae e_v (ae e_v aq))) e1 rfl)) ?_);refine az (aD (aU (ae e_v aq) il)) ?_
 refine az (cT (d:=.lst ((List.replicate (n+1) (0:Int)).map .int)) (di (qh (ae (ar e_v e_c rfl) aq) (by omega)) (by rw [dX]; omega) ?_) (Zb rfl)) ?_
 ·refine (jB (λ x=>rfl) _).trans ?_
  rw [dX,List.map_replicate,show ((n:Int)+1).toNat=n+1 by omega]
 refine az (cT (d:=.lst (nD (List.replicate n n))) (di (qh (ae e_v aq) (by omega)) (by rw [dX]; omega) ?_) (Zb rfl)) ?_
 ·refine (jB (λ x=>ag rfl) _).trans ?_
  rw [dX,Yr];unfold nD;rw [List.map_replicate]
 exact az e2 (jb rfl)
end PF
end
section
namespace MU
open PySem L2 PF
def Dv (ns:List Int):d6 [scr ns]=some (.int ns.length):=by
 show some (D.int ((ns.map D.int).length:Nat))=_;rw [Zd]
def abs_eq (a:Int):yS [.int a]=some (.int (a.natAbs:Int)):=by
 show some (D.int (if a < 0 then -a else a))=_;congr 2;split <;> omega
structure Pr (n d:Int) (q:Rat):Prop where
 pos:0 < d
 is:Rat.divInt n d=q
 zn:Sz n
 zd:Sz d
def pL:SzQ (Rat.divInt 1 2):=⟨by decide +kernel,by decide +kernel⟩
def mZ:D.tup [.int 1,.int 2]=PF.fr (Rat.divInt 1 2):=by rfl
def BP {l h:Rat}:Rat.divInt (l.num * h.den - h.num * l.den) (l.den * h.den)=l - h:=by
 rw [<- Rat.divInt_sub_divInt _ _ (Z3 (den_pos l)) (Z3 (den_pos h)),Zk,Zk]
def Sz.of2 {n:Int} {k:Nat} (h:n.natAbs<=2 ^ k) (hk:k < 4000):Sz n:=by
 have:2 ^ k < 2 ^ 4000:=Wp (by decide) hk;unfold Sz; omega
def cN {a b k l:Nat} (h1:a<=2 ^ k) (h2:b<=2 ^ l):a * b<=2 ^ (k+l):=by rw [Nat.pow_add]; exact Nat.mul_le_mul h1 h2
abbrev MM:Nat:=10 ^ 30
def k5 {N M:Nat} {q:Rat} (hN:0 < N) (h:In N M q):In (2 * N) M (q * Rat.divInt 1 2):=by
 obtain ⟨x,e⟩:=fm hN h.dv;have h2:Rat.divInt 1 2+Rat.divInt 1 2=1:=by decide +kernel
 have h3:q * Rat.divInt 1 2+q * Rat.divInt 1 2=q:=by rw [<- Rat.mul_add,h2,Rat.mul_one]
 have lo:=h.lo;have hi:=h.hi;refine ⟨?_,?_,?_⟩
 ·refine g8 (x:=x) (by omega) ?_
  rw [e,Yk,Int.mul_one,Xo,Z5];rfl
 ·generalize q * Rat.divInt 1 2=w at *
  grind
 ·generalize q * Rat.divInt 1 2=w at *
  grind
def zG (a:List Rat) (q:Rat):PF.frs a++[PF.fr q]=PF.frs (a++[q]):=by simp [PF.frs]
def okN (a b:Int):okD 9 (.tup [.str "number",.int a,.int b])=true:=by
 show (PyData.strOk "number"&&(true&&(true&&true)))=true;decide +kernel
def okW {x:Str} (h:PyData.strOk x=true):okD 9 (.tup [.str "word",.str x])=true:=by
 show (PyData.strOk "word"&&(PyData.strOk x&&true))=true;rw [h]; decide +kernel
def gW {kvs:List (Key×D)} {k:Key} {v:D} (h:u9 kvs=true) (hv:okD 9 v=true):u9 (putD kvs k v)=true:=by
 unfold u9 at *;rw [List.all_eq_true] at *;intro kv m;rcases B3 m with e | m
 · rw [e]; exact hv
 · exact h kv m
def fG {p:Key×D} {r:List (Key×D)} {k:Key} (e:p.1=k):cV (p::r) k=some p.2:=by simp [cV,e]
def val_neg {p:Key×D} {r:List (Key×D)} {k:Key} (e:¬ p.1=k):cV (p::r) k=cV r k:=by simp [cV,e]
def ug (k j:Key) (y:D):∀ kvs:List (Key×D),cV (kvs.map λ kv=>if kv.1=k then (kv.1,y) else kv) j=(cV kvs j).map λ x=>if j=k then y else x
 | []=>rfl
 | kv::r=>by
  rw [Z8]
  by_cases e:kv.1=j
  ·rw [fG (p:=kv) e]
   by_cases q:kv.1=k
   ·rw [if_pos q,fG (p:=(kv.1,y)) e]
    show some y=some (if j=k then y else kv.2);rw [if_pos (by rw [<- e,q])]
   ·rw [if_neg q,fG (p:=kv) e]
    show some kv.2=some (if j=k then y else kv.2);rw [if_neg (λ z=>q (by rw [e]; exact z))]
  ·rw [val_neg (p:=kv) e]
   have:cV ((if kv.1=k then (kv.1,y) else kv)::r.map λ kv=>if kv.1=k then (kv.1,y) else kv) j=cV (r.map λ kv=>if kv.1=k then (kv.1,y) else kv) j:=val_neg (by split <;> exact e);rw [this,ug k j y r]
def qV (k j:Key) (y:D):∀ kvs:List (Key×D),has kvs k=false->cV (kvs++[(k,y)]) j=if j=k then some y else cV kvs j
 | [],_=>by
  show cV [(k,y)] j=_
  by_cases q:j=k
  · rw [if_pos q,fG q.symm]
  · rw [if_neg q,val_neg (λ z=>q z.symm)]
 | kv::r,h=>by
  have h':¬ kv.1=k/\has r k=false:=by simpa [has] using h
  rw [List.cons_append]
  by_cases e:kv.1=j
  · rw [fG e,fG e,if_neg (λ z=>h'.1 (by rw [e,z]))]
  · rw [val_neg e,val_neg e,qV k j y r h'.2]
def uf {kvs:List (Key×D)} {k j:Key} {v:D}:cV (putD kvs k v) j=if j=k then some v else cV kvs j:=by
 unfold putD;split
 ·rename_i h
  rw [ug]
  by_cases q:j=k
  ·subst q
   obtain ⟨d,e⟩:=DM h;rw [e,if_pos rfl]; simp
  ·simp only [q,Yp]
   cases cV kvs j <;> rfl
 ·rename_i h
  exact qV k j v kvs (Bool.eq_false_iff.mpr h)
def kf {kvs:List (Key×D)} {k:Key} {v:D}:cV (putD kvs k v) k=some v:=by rw [uf,if_pos rfl]
def bJ {kvs:List (Key×D)} {k j:Key} {v:D} {r:Option D} (h:j≠k) (e:cV kvs j=r):cV (putD kvs k v) j=r:=by rw [uf,if_neg h]; exact e
def BX {n:Nat} {d:D} (h:d ∈ mh 0 n):∃ j:Nat,j < n/\d=.int (j:Int):=by
 obtain ⟨i,hi,e⟩:=List.mem_iff_getElem.mp h;have:=jw (by rw [List.getElem?_eq_getElem hi,e]);exact ⟨i,this.2,by rw [this.1,Int.zero_add]⟩
def cG (qs:List Rat):Nat:=qs.foldr (λ q n=>q.den * n) 1
def g7:∀ qs:List Rat,0 < cG qs
 | []=>Nat.one_pos
 | q::qs=>Xi q.den_pos (g7 qs)
def dG:∀ {qs:List Rat} {q:Rat},q ∈ qs->q.den ∣ cG qs
 | x::qs,q,h=>by
  show _ ∣ x.den * cG qs;rcases Zl.mp h with rfl | h
  · exact Yb _ _
  · exact Yg (dG h) (Yn _ _)
def gc {N M:Nat} {q:Rat} {k:Nat} (h:In k M q) (e:q.den ∣ N):In N M q:=⟨e,h.lo,h.hi⟩
def ji {b:D->DS} {d:D} {ds:List D} {τ τ':List Sl} {r:Option Out} (h:b d τ=some (.next τ')) (h2:oz b ds τ'=r):oz b (d::ds) τ=r:=by
 rw [oz,h]; exact h2
def jU (q:Rat):D:=.tup [.str "number",.int q.num,.int q.den]
def nA (q:Rat):oe (.tup [.str "number"]) (PF.fr q)=some (jU q):=rfl
def fo (cs:List Nat):List D:=cs.map λ (c:Nat)=>.int (c:Int)
def yU {cs:List Nat} {i:Nat} {d:D} (h:(fo cs)[i]?=some d):∃ c,cs[i]?=some c/\d=.int (c:Int):=by
 unfold fo at h;rw [List.getElem?_map] at h;obtain ⟨c,e,r⟩:=Zm h;exact ⟨c,e,r.symm⟩
def fM (cs:List Nat):(fo cs).length=cs.length:=Zd _
def vB (cs:List Nat):kL 8 (fo cs)=true:=mM λ d m=>by
 obtain ⟨c,_,rfl⟩:=Yw.mp m;rfl
def Ea {τ:List Sl} {f:DE} {l u:DO} {x z:D} {lo hi:Option Int} (h1:f τ=some x) (h2:l τ=some lo) (h3:u τ=some hi) (h4:Ii x lo hi=some z):xN f l u τ=some z:=by unfold xN; rw [h1]; show (l τ).bind _=_; rw [h2]; show (u τ).bind _=_; rw [h3]; exact h4
def JP (h:Str) (a b:D):Ii (.tup [.str h,a,b]) (some 1) none=some (.tup [a,b]):=rfl
structure OkQ (q:Rat):Prop where
 is:In q.den MM q
 big:q.den<=MM
 pos:0<=q
def Ga {a b:Int} (ha:0<=a) (ha2:a<=10 ^ 30) (hb:0 < b) (hb2:b<=10 ^ 30):OkQ (Rat.divInt a b)/\(Rat.divInt a b).den ∣ b.toNat:=by
 have d:(Rat.divInt a b).den ∣ b.toNat:=g8 (by omega) (by rw [show ((b.toNat:Nat):Int)=b by omega]);have n0:=Rat.divInt_nonneg ha (X5 hb);have e3:((MM:Nat):Int)=10 ^ 30:=by decide +kernel
 have hle:=Wk (by omega) d;refine ⟨⟨⟨Ww _,?_,?_⟩,by omega,n0⟩,d⟩
 ·have:(0:Rat)<=((MM:Nat):Rat):=Rat.natCast_nonneg
  generalize ((MM:Nat):Rat)=M at *;grind
 ·have e:=jW a (b:=b) (by omega)
  have hd:=den_pos (Rat.divInt a b);have hn:=Xb.mpr n0;rw [Rat.le_iff];simp only [Rat.num_natCast,Rat.den_natCast];have t:(Rat.divInt a b).num * 1<=(Rat.divInt a b).num * b:=Wb (by omega) hn;have t2:=Int.mul_le_mul_of_nonneg_right ha2 (X5 hd);rw [e3,show ((1:Nat):Int)=1 from rfl];generalize (10:Int) ^ 30 * (Rat.divInt a b).den=y at *;omega
def l6 (o l:Rat) (m:Option Rat):Rat:=if o < l then l else match m with
 | none=>o
 | some h=>if (if h < l then l else h) < o then (if h < l then l else h) else o
def mD:Option Rat->D
 | none=>.non
 | some h=>PF.fr h
def wj {o l:Rat} {m:Option Rat} (so:SzQ o) (sl:SzQ l) (sm:∀ h,m=some h->SzQ h):PF.mx [PF.fr o,PF.fr l,mD m]=some (.shr (PF.fr (l6 o l m))):=by
 have e1:=oq so sl;unfold PF.mx PF.Bw l6
 by_cases z:o < l
 ·rw [if_pos z]
  rw [Zh z] at e1;exact bj (cJ (by walk_at "ee") (by walk_at "ss"))
 ·rw [if_neg z]
  rw [Za z] at e1
  cases m with
  | none=>exact bj (aR (by walk_at "ee") (cJ (by walk_at "ee") (by walk_at "ss")))
  | some h =>
   have sh:=sm h rfl;show cL _ _ _ _=some (.shr (PF.fr (if (if h < l then l else h) < o then (if h < l then l else h) else o)));have e2:=oq sh sl
   have e3:dIf (dT (dFn PF.iy (ah (ao 2) (ah (ao 1) aC)))) (ao 1) (ao 2) [.shr (PF.fr o),.shr (PF.fr l),.shr (PF.fr h),.no]=some (PF.fr (if h < l then l else h)):=by
    refine sA (by walk_at "ee") (λ hb=>?_) (λ hb=>?_)
    · rw [if_pos (Zx hb)]; rfl
    · rw [if_neg (Y3 hb)]; rfl
   have sb:SzQ (if h < l then l else h):=by split <;> assumption
   generalize (if h < l then l else h)=b at *;have e4:=oq sb so;refine bj (aR (by walk_at "ee") (aR (by walk_at "ee") (az (aD e3) ?_)))
   by_cases y:b < o
   ·rw [if_pos y]
    rw [Zh y] at e4;exact cJ (by walk_at "ee") (by walk_at "ss")
   ·rw [if_neg y]
    rw [Za y] at e4;exact aR (by walk_at "ee") (by walk_at "ss")
end MU
end
section
namespace DL
open PySem L2 PF MU
def G1 {a b c d:Int} (hb:0 < b) (hd:0 < d):decide (Rat.divInt a b < Rat.divInt c d)=decide (a * d < c * b):=by
 have hb':=Xa.mpr hb;have hd':=Xa.mpr hd;have e:(c:Rat) / (d:Rat) * (b:Rat)=((c * b:Int):Rat) / (d:Rat):=by rw [Ws,Ws,Wh]; grind
 rw [Xe,Rat.divInt_eq_div,Rat.divInt_eq_div,Rat.div_lt_iff hb',e,Rat.lt_div_iff hd',<- Wh,Xa]
def p6 {q:Rat} (h:q < 0):q.num < 0:=by
 refine Int.not_le.mp λ h2=>?_
 have:=Xb.mp h2;grind
def jA {q:Rat} (h:0 < q):0 < q.num:=by
 have:=p6 (q:=-q) (by grind);have e:(-q).num=-q.num:=rfl;rw [e] at this;omega
structure Item where
 base:Rat
 least:Rat
 most:Option Rat
 grow:Rat
 shrink:Rat
def itD (i:Item):D:=.tup [PF.fr i.base,PF.fr i.least,mD i.most,PF.fr i.grow,PF.fr i.shrink]
def bG (i:Item):Rat:=l6 i.base i.least i.most
def oj (i:Item):Option Rat:=match i.most with
 | some m=>some (if m < i.least then i.least else m)
 | none=>none
def fC (g:Bool) (i:Item):Option Rat:=if g then oj i else some i.least
def shQ (g:Bool) (i:Item):Rat:=if g then i.grow else i.shrink
def pJ (q:Rat):Rat:=if q < 0 then -q else q
def dW (g:Bool) (i:Item):Option Rat:=(fC g i).map λ b=>pJ (b - bG i)
def HP {i:Item} {b:Rat} (h:oj i=some b):bG i<=b:=by
 unfold oj at h;unfold bG l6
 cases e:i.most with
 | none=>rw [e] at h; cases h
 | some m =>
  rw [e] at h;simp only [Option.some.injEq] at h;subst h;grind
def A1 (i:Item):i.least<=bG i:=by
 unfold bG l6
 cases i.most with
 | none=>simp only; grind
 | some m=>simp only; grind
def xS {i:Item} {b:Rat} (h:fC true i=some b):dW true i=some (b - bG i)/\0<=b - bG i:=by
 have:=HP (h);unfold dW;rw [h];unfold pJ;simp only [Xn];refine ⟨?_,by grind⟩;rw [if_neg (by grind)]
def sR (i:Item):dW false i=some (bG i - i.least)/\0<=bG i - i.least:=by
 have:=A1 i;unfold dW pJ;rw [show fC false i=some i.least from rfl];simp only [Xn];refine ⟨?_,by grind⟩
 by_cases z:i.least - bG i < 0
 · rw [if_pos z]; congr 1; grind
 · rw [if_neg z]; congr 1; grind
def Bq (q:Rat):D.tup [.int (q.num.natAbs:Int),.int q.den]=PF.fr (pJ q):=by
 unfold pJ
 by_cases z:q < 0
 ·rw [if_pos z]
  have:q.num < 0:=p6 z;rw [show (q.num.natAbs:Int)=-q.num by omega];rfl
 ·rw [if_neg z]
  have:0<=q.num:=Xb.mpr (by grind);rw [show (q.num.natAbs:Int)=q.num by omega];rfl
def p5 (m:Option Rat):kP (mD m) .non=some (.bl m.isSome):=by cases m <;> rfl
structure M1 (i:Item):Prop where
 b:SzQ i.base
 l:SzQ i.least
 m:∀ h,i.most=some h->SzQ h
 g:SzQ i.grow
 s:SzQ i.shrink
def ix0 (i:Item):oIx (itD i) (.int 0)=some (PF.fr i.base):=rfl
def ix1 (i:Item):oIx (itD i) (.int 1)=some (PF.fr i.least):=rfl
def ix2 (i:Item):oIx (itD i) (.int 2)=some (mD i.most):=rfl
def ix3 (i:Item):oIx (itD i) (.int 3)=some (PF.fr i.grow):=rfl
def ix4 (i:Item):oIx (itD i) (.int 4)=some (PF.fr i.shrink):=rfl
def GY {i:Item} (z:M1 i):gK [itD i]=some (.shr (mD (oj i))):=by
 have i1:=ix1 i;have i2:=ix2 i;unfold gK pC oj;refine bj ?_
 cases e:i.most with
 | none =>
  rw [e] at i2;refine bz (sA (de (b:=false) (ax (ar (ar e_v e_c i2) e_c (p5 none))) (λ h=>nomatch h) (λ _=>rfl)) (λ h=>nomatch h) (λ _=>ar e_v e_c i2))
 | some m =>
  rw [e] at i2;have el:=oq (z.m m e) z.l;refine bz (sA (de (ax (ar (ar e_v e_c i2) e_c (p5 (some m)))) (λ _=>ax (aV (ae (ar e_v e_c i2) (ae (ar e_v e_c i1) aq)) el rfl)) (λ h=>nomatch h)) (λ hb=>?_) (λ hb=>?_))
  ·simp only
   rw [if_pos (Zx hb)];exact ar e_v e_c i1
  ·simp only
   rw [if_neg (Y3 hb)];exact ar e_v e_c i2
def JM {b:Option Rat} {g:Rat} (sb:∀ h,b=some h->SzQ h) (sg:SzQ g):kr [mD b,PF.fr g]=some (.shr (mD (b.map λ b=>pJ (b - g)))):=by
 refine bj ?_
 cases b with
 | none=>exact cJ (ax (ar e_v e_c rfl)) (bz e_c)
 | some h =>
  have em:=fN (sb h rfl) sg;refine aR (ax (ar e_v e_c rfl)) ?_
  refine az (aD (aV (ae e_v (ae e_v aq)) em rfl)) ?_
  have i0:oIx (PF.fr (h - g)) (.int 0)=some (.int (h - g).num):=aN _ _;have i1:oIx (PF.fr (h - g)) (.int 1)=some (.int (h - g).den):=aY _ _ _;show _=some (Out.ret (.shr (PF.fr (pJ (h - g)))));rw [<- Bq];exact bz (a9 (ae (aU (ae (ar e_v e_c i0) aq) (abs_eq _)) (ae (ar e_v e_c i1) aq)) (by simp))
def rW {w:Rat} (hw:0 < w):D.tup [.int w.den,.int w.num]=PF.fr w⁻¹:=by
 have hn:=jA hw;rw [<- Zk w,Rat.inv_divInt];rw [Zk w];exact rN ⟨hn,by rw [Int.gcd_comm]; exact w.reduced,by rw [Z5]⟩ (by omega)
def Ap {a w:Rat} (hw:0 < w) (sa:SzQ a) (sw:SzQ w):mw [PF.fr a,PF.fr w]=some (.shr (PF.fr (a / w))):=by
 have hn:=jA hw;have i0:oIx (PF.fr w) (.int 0)=some (.int w.num):=aN _ _;have i1:oIx (PF.fr w) (.int 1)=some (.int w.den):=aY _ _ _;have e1:oEq (.int w.num) (.int 0)=some (.bl false):=by rw [bT,Za (by omega)]
 have e2:oLt (.int w.num) (.int 0)=some (.bl false):=by rw [b9,Za (by omega)]
 have hi:=rW hw
 have si:SzQ w⁻¹:=by
  have h1:(w⁻¹).num=w.den/\((w⁻¹).den:Int)=w.num:=by
   have:D.tup [.int w.den,.int w.num]=D.tup [.int (w⁻¹).num,.int ((w⁻¹).den:Int)]:=hi;simp only [D.tup.injEq,List.cons.injEq,D.int.injEq,and_true] at this;exact ⟨this.1.symm,this.2.symm⟩
  exact ⟨by rw [h1.1]; exact sw.d,by rw [h1.2]; exact sw.n⟩
 have et:=gk sa si;rw [<- Ws] at et;refine bj ?_
 refine aR (ax (ar (ar e_v e_c i0) e_c e1)) (aR (ax (ar (ar e_v e_c i0) e_c e2)) ?_);exact bz (aV (ae e_v (ae (by rw [<- hi]; exact a9 (ae (ar e_v e_c i1) (ae (ar e_v e_c i0) aq)) (by simp)) aq)) et rfl)
def Dl {b s lam:Rat} (g:Bool) (sb:SzQ b) (ss:SzQ s) (sl:SzQ lam) (sm:SzQ (s * lam)):nB [PF.fr b,PF.fr s,PF.fr lam,.bl g]=some (.shr (PF.fr (if g then b+s * lam else b - s * lam))):=by
 have et:=gk ss sl;have ep:=nT sb sm;have em:=fN sb sm;refine bj ?_
 refine az (aD (aV (ae e_v (ae e_v aq)) et rfl)) ?_
 refine bz (sA (ax e_v) (λ h=>?_) (λ h=>?_))
 ·subst h
  exact aV (ae e_v (ae e_v aq)) ep rfl
 ·subst h
  exact aV (ae e_v (ae e_v aq)) em rfl
section
variable (ws:List (Option Rat)) (ss:List Rat)
def wo (j:Nat):Option Rat:=ws.getD j none
def wv (j:Nat):Rat:=(wo ws j).getD 0
def sv (j:Nat):Rat:=ss.getD j 0
def dU (lam:Rat) (j:Nat):Bool:=match wo ws j with
 | some w=>decide (w < sv ss j * lam)
 | none=>false
end
def sm (f:Nat->Rat):List Nat->Rat
 | []=>0
 | j::l=>f j+sm f l
def BN (f:Nat->Rat) (l:List Nat):bX (l.map f)=sm f l:=by
 have all:∀ (l:List Nat) (a:Rat),(l.map f).foldl (·+·) a=a+sm f l:=by
  intro l
  induction l with
  | nil=>intro a; simp only [Wv,List.foldl_nil,sm]; grind
  | cons j l ih=>intro a; rw [Z8,List.foldl_cons,ih,sm]; grind
 unfold bX;rw [all];grind
def gP (f:Nat->Rat) (p:Nat->Bool):∀ l:List Nat,sm f l=sm f (l.filter p)+sm f (l.filter λ j=>!p j)
 | []=>by simp only [List.filter_nil,sm]; grind
 | j::l=>by
  have:=gP f p l;rw [sm]
  by_cases h:p j=true
  ·simp only [Xf,h,if_true,Bool.not_true,Zv,Yp,sm]
   grind
  ·have h':p j=false:=by simpa using h
   simp only [Xf,h',Zv,Yp,Bool.not_false,if_true,sm];grind
def Eu (x y:Rat):x+y - x=y:=by grind
def rf {f:Nat->Rat}:∀ {l:List Nat},(∀ j ∈ l,0 < f j)->l≠[]->0 < sm f l
 | [j],h,_=>by
  have:=h j (Zo ..);simp only [sm]; grind
 | j::k::l,h,_=>by
  have h1:=h j (Zo ..);have h2:=rf (f:=f) (l:=k::l) (λ x hx=>h x (Zg _ hx)) (by simp);rw [sm]; grind
inductive Run (ws:List (Option Rat)) (ss:List Rat):List Nat->Rat->Rat->Option Rat->List (List Nat)->Prop
 | done (a w:Rat):Run ws ss [] a w none []
 | level {l:List Nat} {a w:Rat} (h:l≠[]) (e:l.filter (dU ws ss (a / w))=[]):Run ws ss l a w (some (a / w)) []
 | round {l b:List Nat} {a w:Rat} {r:Option Rat} {qs:List (List Nat)} (h:b=l.filter (dU ws ss (a / w))) (hb:b≠[]) (k:Run ws ss (l.filter λ j=>!dU ws ss (a / w) j) (a - sm (wv ws) b) (w - sm (sv ss) b) r qs):Run ws ss l a w r (b::qs)
def rows (rs:List (List Nat)):List D:=rs.map λ l=>.lst (fo l)
structure Lim (N S:Nat) (ws:List (Option Rat)) (ss:List Rat):Prop where
 n0:0 < N
 s0:0 < S
 nb:N<=2 ^ 600
 sb:S<=2 ^ 200
 len:ws.length=ss.length
 few:ss.length<=30
 w:∀ j v,wo ws j=some v->In N (2 * 10 ^ 32) v
 s:∀ j,j < ss.length->In S (10 ^ 32) (sv ss j)
 sp:∀ j,j < ss.length->0<=sv ss j
def DH {N M k:Nat} {q:Rat} (h:In N M q) (hN:0 < N) (hb:N<=2 ^ k):q.num.natAbs<=M * 2 ^ k/\q.den<=2 ^ k:=by
 have a:=h.abs;have b:=Wk hN h.dv;have c:=Zc b hb;exact ⟨Zc a (Y1 _ c),c⟩
structure Bt (k l:Nat) (q:Rat):Prop where
 n:q.num.natAbs<=2 ^ k
 d:q.den<=2 ^ l
def Bt.sz {k l:Nat} {q:Rat} (h:Bt k l q) (hk:k < 4000) (hl:l < 4000):SzQ q:=⟨Sz.of2 h.n hk,Sz.of2 (by have:=h.d; omega) hl⟩
def Bt.of {N M k m:Nat} {q:Rat} (h:In N M q) (hN:0 < N) (hb:N<=2 ^ k) (hM:M<=2 ^ m):Bt (m+k) k q:=by
 obtain ⟨a,b⟩:=DH h hN hb;exact ⟨Zc a (by rw [Nat.pow_add]; exact Zn _ hM),b⟩
section
variable {N S:Nat} {ws:List (Option Rat)} {ss:List Rat}
def Lim.bw (L:Lim N S ws ss) {j:Nat} {v:Rat} (h:wo ws j=some v):Bt 708 600 v:=Bt.of (L.w j v h) L.n0 L.nb (by decide +kernel)
def Lim.bs (L:Lim N S ws ss) {j:Nat} (h:j < ss.length):Bt 307 200 (sv ss j):=Bt.of (L.s j h) L.s0 L.sb (by decide +kernel)
def ixw {j:Nat} (h:j < ws.length):oIx (.lst (ws.map mD)) (.int (j:Int))=some (mD (wo ws j)):=by
 unfold wo;rw [List.getD_eq_getElem?_getD,List.getElem?_eq_getElem h];exact fS (by rw [List.getElem?_map,List.getElem?_eq_getElem h]; rfl)
def ixs {j:Nat} (h:j < ss.length):oIx (.lst (PF.frs ss)) (.int (j:Int))=some (PF.fr (sv ss j)):=by
 unfold sv;rw [List.getD_eq_getElem?_getD,List.getElem?_eq_getElem h];exact fS (by unfold PF.frs; rw [List.getElem?_map,List.getElem?_eq_getElem h]; rfl)
def Ab (L:Lim N S ws ss) {a w:Rat} (hw:0 < w) (ba:Bt 750 600 a) (bw:Bt 340 200 w) {j:Nat} (hj:j < ss.length) :
  dD [mD (wo ws j),PF.fr (sv ss j),.tup [.int (a.num * w.den),.int (a.den * w.num)]]=some (.shr (.bl (dU ws ss (a / w) j))):=by
 have hn:=jA hw;have bs:=L.bs hj;have i0:oIx (PF.fr (sv ss j)) (.int 0)=some (.int (sv ss j).num):=aN _ _;have i1:oIx (PF.fr (sv ss j)) (.int 1)=some (.int (sv ss j).den):=aY _ _ _;have k0:oIx (.tup [.int (a.num * w.den),.int (a.den * w.num)]) (.int 0)=some (.int (a.num * w.den)):=aN _ _;have k1:oIx (.tup [.int (a.num * w.den),.int (a.den * w.num)]) (.int 1)=some (.int (a.den * w.num)):=aY _ _ _;have n1:(a.num * w.den).natAbs<=2 ^ (750+200):=by rw [Z9]; exact cN ba.n bw.d
 have n2:((a.den:Int) * w.num).natAbs<=2 ^ (600+340):=by rw [Z9]; exact cN ba.d bw.n
 have z1:=Sz.of2 n1 (by decide);have z2:=Sz.of2 n2 (by decide);have m1:=bB (bs.sz (by decide) (by decide)).n z1;have m2:=bB (bs.sz (by decide) (by decide)).d z2;have n3:((sv ss j).num * (a.num * w.den)).natAbs<=2 ^ (307+(750+200)):=by rw [Z9]; exact cN bs.n n1
 have n4:(((sv ss j).den:Int) * ((a.den:Int) * w.num)).natAbs<=2 ^ (200+(600+340)):=by rw [Z9]; exact cN bs.d n2
 unfold dD lL dU;refine bj ?_
 cases e:wo ws j with
 | none=>exact cJ (ax (ar e_v e_c rfl)) (bz e_c)
 | some v =>
  have bv:=L.bw e;have d0:0 < ((sv ss j).den:Int) * ((a.den:Int) * w.num):=Y8 (den_pos _) (Y8 (den_pos _) hn)
  have ev:sv ss j * (a / w)=Rat.divInt ((sv ss j).num * (a.num * w.den)) (((sv ss j).den:Int) * ((a.den:Int) * w.num)):=by
   have h1:a / w=Rat.divInt (a.num * w.den) (a.den * w.num):=by
    rw [Ws];have:w⁻¹=Rat.divInt w.den w.num:=by rw [<- Zk w,Rat.inv_divInt,Zk w]
    rw [this];have h2:=(Zk a).symm
    conv=>lhs; rw [h2]
    rw [Yk]
   have h3:sv ss j=Rat.divInt (sv ss j).num (sv ss j).den:=(Zk _).symm;rw [h1]
   conv=>lhs; rw [h3]
   rw [Yk]
  have el:iy [PF.fr v,.tup [.int ((sv ss j).num * (a.num * w.den)),.int (((sv ss j).den:Int) * ((a.den:Int) * w.num))]]=some (.shr (.bl (decide (v < sv ss j * (a / w))))):=by
   have x1:=bB (bv.sz (by decide) (by decide)).n (Sz.of2 n4 (by decide));have x2:=bB (Sz.of2 n3 (by decide)) (bv.sz (by decide) (by decide)).d;have j0:oIx (PF.fr v) (.int 0)=some (.int v.num):=aN _ _;have j1:oIx (PF.fr v) (.int 1)=some (.int v.den):=aY _ _ _
   have hlt:decide (v < sv ss j * (a / w))=decide (v.num * (((sv ss j).den:Int) * ((a.den:Int) * w.num)) < (sv ss j).num * (a.num * w.den) * v.den):=by
    rw [ev];have h4:=(Zk v).symm
    conv=>lhs; rw [h4]
    rw [G1 (den_pos v) d0]
   rw [hlt];refine bj ?_
   exact bz (ar (ar (ar e_v e_c j0) (ar e_v e_c (aY _ _ _)) x1) (ar (ar e_v e_c (aN _ _)) (ar e_v e_c j1) x2) (b9 _ _))
  refine aR (ax (ar e_v e_c rfl)) (bz (aV (ae e_v (ae (a9 (ae (ar (ar e_v e_c i0) (ar e_v e_c k0) m1) (ae (ar (ar e_v e_c i1) (ar e_v e_c k1) m2) aq)) (by simp)) aq)) el rfl))
def kl {c:D->Option Bool} {g:D->Option D} {p:Nat->Bool}:∀ {l:List Nat},(∀ j ∈ l,c (.int (j:Int))=some (p j)/\g (.int (j:Int))=some (.int (j:Int)))->Ba c g (fo l)=some (fo (l.filter p))
 | [],_=>rfl
 | j::l,h=>by
  have ih:=kl (c:=c) (g:=g) (p:=p) (l:=l) λ k hk=>h k (Zg _ hk)
  obtain ⟨h1,h2⟩:=h j (Zo ..);show (c (.int (j:Int))).bind _=_;rw [h1,Z7]
  by_cases q:p j=true
  ·rw [if_pos q,h2,Z7]
   show (Ba c g (fo l)).bind _=_;rw [ih,Z7,Xf,if_pos q];rfl
  ·rw [if_neg q]
   show Ba c g (fo l)=_;rw [ih,Xf,if_neg q]
def ki {g:D->Option D} {f:Nat->D}:∀ {l:List Nat},(∀ j ∈ l,g (.int (j:Int))=some (f j))->kj g (fo l)=some (l.map f)
 | [],_=>rfl
 | j::l,h=>by
  have ih:=ki (g:=g) (f:=f) (l:=l) λ k hk=>h k (Zg _ hk)
  show (g (.int (j:Int))).bind _=_;rw [h j (Zo ..),Z7];show (kj g (fo l)).bind _=_;rw [ih];rfl
def rj:∀ l:List Nat,EE (fo l)=some (l.map λ (k:Nat)=>V.int (k:Int))
 | []=>rfl
 | k::l=>by
  show (scD (.int (k:Int))).bind (λ v=>(EE (fo l)).map (v::·))=_;rw [rj l];rfl
def v9 (j:Nat):∀ l:List Nat,inV (.int (j:Int)) (l.map λ (k:Nat)=>V.int (k:Int))=decide (j ∈ l)
 | []=>by simp [inV]
 | k::l=>by
  have ih:=v9 j l;unfold inV at *;simp only [Z8,Wj,ih,Zl,Bool.decide_or];congr 1;show decide ((k:Int)=(j:Int))=decide (j=k);rw [Xe];omega
def DJ (j:Nat) (l:List Nat):inS (.int (j:Int)) (fo l)=some (decide (j ∈ l)):=by
 unfold inS;rw [rj];show some (inV (.int (j:Int)) _)=_;rw [v9]
def vA (j:Nat) (l:List Nat):iA (.int (j:Int)) (.lst (fo l))=some (.bl (!decide (j ∈ l))):=by
 show (inS (.int (j:Int)) (fo l)).map _=_;rw [DJ];rfl
def Au (l:List Nat):oNe (.lst (fo l)) (.lst [])=some (.bl (!decide (l=[]))):=by
 rw [vo (vB l) rfl,sy];cases l <;> rfl
def Bb (l:List Nat):oEq (.lst (fo l)) (.lst [])=some (.bl (decide (l=[]))):=by
 rw [De (vB l) rfl,sy];cases l <;> rfl
def HL {a w:Rat} (hw:0 < w) (ba:Bt 750 600 a) (bw:Bt 340 200 w):Bt 950 940 (a / w):=by
 have hn:=jA hw
 have h1:a / w=Rat.divInt (a.num * w.den) (a.den * w.num):=by
  rw [Ws];have:w⁻¹=Rat.divInt w.den w.num:=by rw [<- Zk w,Rat.inv_divInt,Zk w]
  rw [this];have h2:=(Zk a).symm
  conv=>lhs; rw [h2]
  rw [Yk]
 have d0:(a.den:Int) * w.num≠0:=Z3 (Y8 (den_pos _) hn);have n1:(a.num * w.den).natAbs<=2 ^ (750+200):=by rw [Z9]; exact cN ba.n bw.d
 have n2:((a.den:Int) * w.num).natAbs<=2 ^ (600+340):=by rw [Z9]; exact cN ba.d bw.n
 have Lw:S1.Low (a / w).num (a / w).den (a.num * w.den) ((a.den:Int) * w.num):=by rw [h1]; exact ⟨den_pos _,Rat.reduced _,jW _ d0⟩
 exact ⟨Zc (Lw.rJ d0) n1,by have:=Zc (Lw.sF d0) n2; omega⟩
structure Mid (N S:Nat) (ss:List Rat) (l:List Nat) (a w:Rat) (A:Nat):Prop where
 mem:∀ j ∈ l,j < ss.length/\0 < sv ss j
 hw:w=sm (sv ss) l
 ia:In N (A * 10 ^ 32) a
 hA:A+2 * l.length<=300
def zo {N M:Nat} {f:Nat->Rat} (hN:0 < N):∀ {l:List Nat},(∀ j ∈ l,In N M (f j))->In N (l.length * M) (sm f l)
 | [],_=>by simpa [sm] using In.zero N
 | j::l,h=>by
  have:=(h j (Zo ..)).add hN (zo (f:=f) (l:=l) hN λ k hk=>h k (Zg _ hk));refine this.mono ?_
  rw [Zw,Nat.add_mul]; omega
def Mid.few {l:List Nat} {a w:Rat} {A:Nat} (M:Mid N S ss l a w A):A<=300/\l.length<=150:=by have:=M.hA; omega
def Mid.ba {l:List Nat} {a w:Rat} {A:Nat} (L:Lim N S ws ss) (M:Mid N S ss l a w A):Bt 750 600 a:=by
 have h:=Bt.of (m:=116) M.ia L.n0 L.nb (Zc (Zn _ M.few.1) (by decide +kernel));exact ⟨Zc h.n (Yc (by decide) (by decide)),h.d⟩
def Mid.iw {l:List Nat} {a w:Rat} {A:Nat} (L:Lim N S ws ss) (M:Mid N S ss l a w A):In S (l.length * 10 ^ 32) w:=by
 rw [M.hw];exact zo L.s0 λ j hj=>L.s j (M.mem j hj).1
def Mid.bw {l:List Nat} {a w:Rat} {A:Nat} (L:Lim N S ws ss) (M:Mid N S ss l a w A):Bt 340 200 w:=by
 have h:=Bt.of (m:=115) (M.iw L) L.s0 L.sb (Zc (Zn _ M.few.2) (by decide +kernel));exact ⟨Zc h.n (Yc (by decide) (by decide)),h.d⟩
def mC {N M k m:Nat} {f:Nat->Rat} {l:List Nat} (hN:0 < N) (hb:N<=2 ^ k) (h:∀ j ∈ l,In N M (f j)) (hM:l.length * M<=2 ^ m) (hm:m+k < 4000):dB [.lst (PF.frs (l.map f))]=some (.shr (PF.fr (sm f l))):=by
 rw [<- BN]
 have hh:∀ q ∈ l.map f,In N M q:=λ q hq=>by
  obtain ⟨j,hj,rfl⟩:=Yw.mp hq;exact h j hj
 have sz:∀ i,i<=(l.map f).length->SzQ (bX ((l.map f).take i)):=λ i hi=>by
  rw [Zd] at hi;exact (Bt.of (In.sum hN hh i (by rw [Zd]; exact hi)) hN hb (Zc (Zn _ hi) hM)).sz hm (by omega)
 refine mE (λ q hq=>?_) sz
 have hl:1<=l.length:=by
  cases l with
  | nil=>simp at hq
  | cons j l=>simp
 exact (Bt.of (m:=m) (hh q hq) hN hb (Zc (by have:=Zn M hl; omega) hM)).sz hm (by omega)
noncomputable abbrev rdC:DT:=dT (dOp oNe (ao 3) (lU aC))
noncomputable abbrev rdB:DS:=(aL (bA 6 (cY (ah (dOp gi (dOp oIx (ao 2) (dC (.int 0))) (dOp oIx (ao 4) (dC (.int 1)))) (ah (dOp gi (dOp oIx (ao 2) (dC (.int 1))) (dOp oIx (ao 4) (dC (.int 0)))) aC))))
 (aL (bA 7 (eO (d7 (ao 3)) (dT (dFn dD (ah (dOp oIx (ao 2) (ao 0)) (ah (dOp oIx (ao 3) (ao 0)) (ah (ao 1) aC))))) (ao 0) [("level",6),("ways",0),("shares",1)]))
 (aL (sIf (dT (dOp oEq (ao 7) (lU aC))) (uK 5 (dJ (cY (ah (dFn mw (ah (ao 2) (ah (ao 4) aC))) (ah (ao 5) aC))))) bg)
 (aL (pF 5 (ao 7))
 (aL (bA 2 (dFn PF.cQ (ah (ao 2) (ah (dFn PF.dB (ah (cx (d7 (ao 7)) (dOp oIx (ao 1) (ao 0)) [("ways",0)]) aC)) aC))))
 (aL (bA 4 (dFn PF.cQ (ah (ao 4) (ah (dFn PF.dB (ah (cx (d7 (ao 7)) (dOp oIx (ao 1) (ao 0)) [("shares",1)]) aC)) aC))))
 (bA 3 (eO (d7 (ao 3)) (dT (dOp iA (ao 0) (ao 1))) (ao 0) [("beyond",7)]))))))))
noncomputable def rst (ws:List (Option Rat)) (ss:List Rat) (l:List Nat) (a w:Rat) (rs:List (List Nat)) (x6 x7:Sl):List Sl:=[.shr (.lst (ws.map mD)),.shr (.lst (PF.frs ss)),.shr (PF.fr a),.shr (.lst (fo l)),.shr (PF.fr w),.own (.lst (rows rs)),x6,x7]
def rl (rs:List (List Nat)):(rows rs).length=rs.length:=Zd _
def qk (f:Nat->Rat) (l:List Nat):l.map (λ j=>PF.fr (f j))=PF.frs (l.map f):=by unfold PF.frs; rw [Yu]; rfl
def kH (L : Lim N S ws ss):∀ (n:Nat) (l:List Nat) (a w:Rat) (A:Nat) (rs:List (List Nat)) (x6 x7:Sl),l.length < n->Mid N S ss l a w A->rs.length+l.length<=1000 ->
    ∃ r qs,Run ws ss l a w r qs/\((∃ lam,r=some lam/\Bt 950 940 lam/\bH rdC rdB n (rst ws ss l a w rs x6 x7)=some (.ret (.shr (.tup [PF.fr lam,.lst (rows (rs++qs))])))) \/
      (r=none/\∃ a' w' y6 y7,bH rdC rdB n (rst ws ss l a w rs x6 x7)=some (.next (rst ws ss [] a' w' (rs++qs) y6 y7))))
  | 0,_,_,_,_,_,_,_,h,_,_=>by omega
  | n + 1, l, a, w,A,rs,x6,x7,h,M,hr=>by
    have fw:=M.few;have few:=L.few
    by_cases z:l=[]
    · subst z
      refine ⟨none,[],.done a w,.inr ⟨rfl,a,w,x6,x7,?_⟩⟩
      have t1:rdC (rst ws ss [] a w rs x6 x7)=some false:=by
        have:=Au [];exact ax (ar (ag rfl) (cB aq (Zs _)) this)
      conv=>lhs; unfold bH
      rw [t1,Yi]
    · have hw:0 < w:=by rw [M.hw]; exact rf (λ j hj=>(M.mem j hj).2) z
      have ba:=M.ba L;have bw:=M.bw L
      have t1:rdC (rst ws ss l a w rs x6 x7)=some true:=by
        have:=Au l;rw [Za z] at this;exact ax (ar (ag rfl) (cB aq (Zs _)) this)
      have sa:=ba.sz (by decide) (by decide);have sw:=bw.sz (by decide) (by decide);have m1:=bB sa.n sw.d;have m2:=bB sa.d sw.n;have a0:oIx (PF.fr a) (.int 0)=some (.int a.num):=aN _ _;have a1:oIx (PF.fr a) (.int 1)=some (.int a.den):=aY _ _ _;have w0:oIx (PF.fr w) (.int 0)=some (.int w.num):=aN _ _;have w1:oIx (PF.fr w) (.int 1)=some (.int w.den):=aY _ _ _
      have eb:eO (d7 (ao 3)) (dT (dFn dD (ah (dOp oIx (ao 2) (ao 0)) (ah (dOp oIx (ao 3) (ao 0)) (ah (ao 1) aC))))) (ao 0) [("level",6),("ways",0),("shares",1)]
          [.shr (.lst (ws.map mD)),.shr (.lst (PF.frs ss)),.shr (PF.fr a),.shr (.lst (fo l)),.shr (PF.fr w),.own (.lst (rows rs)),.shr (.tup [.int (a.num * w.den),.int (a.den * w.num)]),x7]=some (.lst (fo (l.filter (dU ws ss (a / w))))):=by
        refine qC (dO rfl) (by rw [fM]; omega) (kl λ j hj=>⟨?_,rfl⟩);have hj':=(M.mem j hj).1;have i1:=ixw (ws:=ws) (j:=j) (by rw [L.len]; exact hj');have i2:=ixs hj';have e:=Ab L hw ba bw hj';exact ax (aV (ae (ar (ag rfl) (ag rfl) i1) (ae (ar (ag rfl) (ag rfl) i2) (ae (ag rfl) aq))) e rfl)
      have st2:∀ o,(aL (sIf (dT (dOp oEq (ao 7) (lU aC))) (uK 5 (dJ (cY (ah (dFn mw (ah (ao 2) (ah (ao 4) aC))) (ah (ao 5) aC))))) bg)
    (aL (pF 5 (ao 7))
    (aL (bA 2 (dFn PF.cQ (ah (ao 2) (ah (dFn PF.dB (ah (cx (d7 (ao 7)) (dOp oIx (ao 1) (ao 0)) [("ways",0)]) aC)) aC))))
    (aL (bA 4 (dFn PF.cQ (ah (ao 4) (ah (dFn PF.dB (ah (cx (d7 (ao 7)) (dOp oIx (ao 1) (ao 0)) [("shares",1)]) aC)) aC))))
    (bA 3 (eO (d7 (ao 3)) (dT (dOp iA (ao 0) (ao 1))) (ao 0) [("beyond",7)])))))) [.shr (.lst (ws.map mD)),.shr (.lst (PF.frs ss)),.shr (PF.fr a),.shr (.lst (fo l)),.shr (PF.fr w),.own (.lst (rows rs)),.shr (.tup [.int (a.num * w.den),.int (a.den * w.num)]),.shr (.lst (fo (l.filter (dU ws ss (a / w)))))]=some o ->
          rdB (rst ws ss l a w rs x6 x7)=some o:=λ o ho=>by
        refine az (aD (a9 (ae (ar (ar (ag rfl) e_c a0) (ar (ag rfl) e_c w1) m1) (ae (ar (ar (ag rfl) e_c a1) (ar (ag rfl) e_c w0) m2) aq)) (by simp))) ?_
        exact az (aD eb) ho
      by_cases y:l.filter (dU ws ss (a / w))=[]
      · refine ⟨some (a / w),[],.level z y,.inl ⟨_,rfl,HL hw ba bw,?_⟩⟩
        have t2:=st2 (.ret (.shr (.tup [PF.fr (a / w),.lst (rows (rs++[]))]))) (by
          have e1:=Bb (l.filter (dU ws ss (a / w)));rw [Zh y] at e1;have eo:=Ap hw sa sw;rw [Yi];refine cJ (ax (ar (ag rfl) (cB aq (Zs _)) e1)) ?_
          refine nR rfl ?_
          exact bz (a9 (ae (aV (ae (ag rfl) (ae (ag rfl) aq)) eo rfl) (ae (ag rfl) aq)) (by simp)))
        conv=>lhs; unfold bH
        rw [t1,t2]
      · -- a round
        generalize hB:l.filter (dU ws ss (a / w))=B at *;have memB:∀ j ∈ B,j ∈ l/\dU ws ss (a / w) j=true:=λ j hj=>by rw [<- hB] at hj; exact Z6.mp hj
        have hsplit:=gP (sv ss) (dU ws ss (a / w)) l;rw [hB] at hsplit
        have lenB:B.length+(l.filter λ j=>!dU ws ss (a / w) j).length=l.length:=by
          have : ∀ l:List Nat,(l.filter (dU ws ss (a / w))).length+(l.filter λ j=>!dU ws ss (a / w) j).length=l.length:=by
            intro l
            induction l with
            | nil=>rfl
            | cons j l ih =>
              by_cases q:dU ws ss (a / w) j=true
              · simp only [Xf,q,if_true,Bool.not_true,Zv,Yp,Zw]; omega
              · have q':dU ws ss (a / w) j=false:=by simpa using q
                simp only [Xf,q',Zv,Yp,Bool.not_false,if_true,Zw]; omega
          rw [<- hB]; exact this l
        have lB:1<=B.length:=X9.mpr y
        have wB:∀ j ∈ B,wo ws j=some (wv ws j)/\In N (2 * 10 ^ 32) (wv ws j):=λ j hj=>by
          obtain ⟨_,hb⟩:=memB j hj;unfold dU at hb
          cases e:wo ws j with
          | none=>rw [e] at hb; cases hb
          | some v=>unfold wv; rw [e]; exact ⟨rfl,L.w j v e⟩
        have sB:∀ j ∈ B,In S (10 ^ 32) (sv ss j):=λ j hj=>L.s j (M.mem j (memB j hj).1).1
        have eT1:=mC (m:=116) L.n0 L.nb (λ j hj=>(wB j hj).2) (Zc (Zn _ (show B.length<=150 by omega)) (by decide +kernel)) (by decide);have eT2:=mC (m:=115) L.s0 L.sb sB (Zc (Zn _ (show B.length<=150 by omega)) (by decide +kernel)) (by decide);have iW:=zo L.n0 λ j hj=>(wB j hj).2
        have iS:=zo L.s0 sB;have bW:Bt (116+600) 600 (sm (wv ws) B):=Bt.of (m:=116) iW L.n0 L.nb (Zc (Zn _ (show B.length<=150 by omega)) (by decide +kernel));have bS:Bt (115+200) 200 (sm (sv ss) B):=Bt.of (m:=115) iS L.s0 L.sb (Zc (Zn _ (show B.length<=150 by omega)) (by decide +kernel));have eM1:=fN sa (bW.sz (by decide) (by decide));have eM2:=fN sw (bS.sz (by decide) (by decide))
        have M':Mid N S ss (l.filter λ j=>!dU ws ss (a / w) j) (a - sm (wv ws) B) (w - sm (sv ss) B) (A+2 * B.length):=by
          refine ⟨λ j hj=>M.mem j (Z6.mp hj).1,?_,?_,by have:=M.hA; omega⟩
          · have e:=M.hw
            rw [hsplit] at e;have g1:=Eu (sm (sv ss) B) (sm (sv ss) (l.filter λ j=>!dU ws ss (a / w) j));rw [<- e] at g1;exact g1
          · have:=M.ia.sub L.n0 iW
            refine this.mono ?_
            rw [Nat.add_mul,Nat.mul_assoc,Nat.mul_comm 2,<- Nat.mul_assoc,<- Nat.mul_assoc];have:B.length * 2 * 10 ^ 32=B.length * (2 * 10 ^ 32):=Nat.mul_assoc _ _ _;omega
        obtain ⟨r,qs,hR,hO⟩:=kH L n (l.filter λ j=>!dU ws ss (a / w) j) (a - sm (wv ws) B) (w - sm (sv ss) B) (A+2 * B.length) (rs++[B]) (.shr (.tup [.int (a.num * w.den),.int (a.den * w.num)])) (.shr (.lst (fo B))) (by omega) M' (by rw [Zu,List.length_singleton]; omega);refine ⟨r,B::qs,.round hB.symm y hR,?_⟩
        have t2:=st2 (.next (rst ws ss (l.filter λ j=>!dU ws ss (a / w) j) (a - sm (wv ws) B) (w - sm (sv ss) B) (rs++[B]) (.shr (.tup [.int (a.num * w.den),.int (a.den * w.num)])) (.shr (.lst (fo B))))) (by
          have e1:=Bb B;rw [Za y] at e1;refine aR (ax (ar (ag rfl) (cB aq (Zs _)) e1)) ?_
          refine az (kE (ds:=rows rs) (ag rfl) rfl (by rw [rl]; omega)) ?_
          have c1:cx (d7 (ao 7)) (dOp oIx (ao 1) (ao 0)) [("ways",0)] [.shr (.lst (ws.map mD)),.shr (.lst (PF.frs ss)),.shr (PF.fr a),.shr (.lst (fo l)),.shr (PF.fr w),.own (.lst (rows rs++[.lst (fo B)])),.shr (.tup [.int (a.num * w.den),.int (a.den * w.num)]),.shr (.lst (fo B))]=some (.lst (PF.frs (B.map (wv ws)))):=by
            rw [<- qk];refine di (dO rfl) (by rw [fM]; omega) (ki λ j hj=>?_);have i1:=ixw (ws:=ws) (j:=j) (by rw [L.len]; exact (M.mem j (memB j hj).1).1);rw [(wB j hj).1] at i1;exact ar (ag rfl) (ag rfl) i1
          refine az (aD (aV (ae (ag rfl) (ae (aV (ae c1 aq) eT1 rfl) aq)) eM1 rfl)) ?_
          have c2:cx (d7 (ao 7)) (dOp oIx (ao 1) (ao 0)) [("shares",1)] [.shr (.lst (ws.map mD)),.shr (.lst (PF.frs ss)),.shr (PF.fr (a - sm (wv ws) B)),.shr (.lst (fo l)),.shr (PF.fr w),.own (.lst (rows rs++[.lst (fo B)])),.shr (.tup [.int (a.num * w.den),.int (a.den * w.num)]),.shr (.lst (fo B))]=some (.lst (PF.frs (B.map (sv ss)))):=by
            rw [<- qk];refine di (dO rfl) (by rw [fM]; omega) (ki λ j hj=>?_);exact ar (ag rfl) (ag rfl) (ixs (M.mem j (memB j hj).1).1)
          refine az (aD (aV (ae (ag rfl) (ae (aV (ae c2 aq) eT2 rfl) aq)) eM2 rfl)) ?_
          have er:rows (rs++[B])=rows rs++[.lst (fo B)]:=by simp [rows]
          unfold rst;rw [er];refine aD (d:=.lst (fo (l.filter λ j=>!dU ws ss (a / w) j))) (qC (ds:=fo l) (dO rfl) (by rw [fM]; omega) (kl (p:=λ j=>!dU ws ss (a / w) j) λ j hj=>⟨?_,rfl⟩));have hn:=vA j B
          have hd:decide (j ∈ B)=dU ws ss (a / w) j:=by
            by_cases q:dU ws ss (a / w) j=true
            · rw [q]; exact Zh (by rw [<- hB]; exact Z6.mpr ⟨hj,q⟩)
            · have q':dU ws ss (a / w) j=false:=by simpa using q
              rw [q']; exact Za λ hm=>q (memB j hm).2
          rw [hd] at hn
          exact ax (ar (ag rfl) (ag rfl) hn))
        have ap:rs++[B]++qs=rs++B::qs:=by simp
        rw [ap] at hO
        have un:bH rdC rdB (n+1) (rst ws ss l a w rs x6 x7)=bH rdC rdB n (rst ws ss (l.filter λ j=>!dU ws ss (a / w) j) (a - sm (wv ws) B) (w - sm (sv ss) B) (rs++[B]) (.shr (.tup [.int (a.num * w.den),.int (a.den * w.num)])) (.shr (.lst (fo B)))):=by
          conv=>lhs; unfold bH
          rw [t1,t2]
        rw [un];exact hO
def loose (ss:List Rat):List Nat:=(List.range ss.length).filter λ j=>!decide (sv ss j=0)
def BW (n:Nat):mh 0 n=fo (List.range n):=by
 unfold mh fo;simp
def yi (L:Lim N S ws ss) {a:Rat} {A:Nat} (ia:In N (A * 10 ^ 32) a) (hA:A<=240):∃ r qs,Run ws ss (loose ss) a (sm (sv ss) (loose ss)) r qs/\(∀ lam,r=some lam->Bt 950 940 lam) /\
  f6 [.lst (ws.map mD),.lst (PF.frs ss),PF.fr a]=some (.shr (.tup [mD r,.lst (rows qs)])):=by
 have few:=L.few;have len:d6 [.lst (PF.frs ss)]=some (.int (ss.length:Int)):=by show some (D.int ((PF.frs ss).length:Nat))=_; rw [cA]
 have memL:∀ j ∈ loose ss,j < ss.length/\0 < sv ss j:=λ j hj=>by
  obtain ⟨h1,h2⟩:=Z6.mp hj;have hj':=Xw.mp h1;refine ⟨hj',?_⟩;have h3:=L.sp j hj';grind
 have lenL:(loose ss).length<=30:=Zc (List.length_filter_le _ _) (by rw [X7]; exact few);have M:Mid N S ss (loose ss) a (sm (sv ss) (loose ss)) A:=⟨memL,rfl,ia,by omega⟩
 have eT:=mC (m:=115) L.s0 L.sb (λ j hj=>L.s j (memL j hj).1) (Zc (Zn _ lenL) (by decide +kernel)) (by decide);obtain ⟨r,qs,hR,hO⟩:=kH L 31 (loose ss) a (sm (sv ss) (loose ss)) A [] .no .no (by omega) M (by simp; omega);refine ⟨r,qs,hR,λ lam e=>?_,?_⟩
 ·rcases hO with ⟨lam',e',b,_⟩ | ⟨e',_⟩
  · rw [e] at e'; cases e'; exact b
  · rw [e] at e'; cases e'
 ·unfold f6 lH
  refine bj ?_
  have e1:eO (gy (ah (bf d6 (ah (ao 1) aC)) aC)) (dT (dOp oNe (dOp oIx (ao 1) (ao 0)) (cY (ah (dC (.int 0)) (ah (dC (.int 1)) aC))))) (ao 0) [("shares",1)] [.shr (.lst (ws.map mD)),.shr (.lst (PF.frs ss)),.shr (PF.fr a),.no,.no,.no,.no,.no]=some (.lst (fo (loose ss))):=by
   refine qC (by rw [<- BW,<- Yr (n:=ss.length)]; exact qh (ae (aU (ae e_v aq) len) aq) (by omega)) (by rw [fM,X7]; omega) (kl λ j hj=>⟨?_,rfl⟩);have i1:=ixs (Xw.mp hj);refine ax (ar (ar e_v e_v i1) (a9 (ae e_c (ae e_c aq)) (by simp)) ?_);show Option.map _ (eqO (PF.fr (sv ss j)) (PF.fr 0))=_;rw [wL,wN];rfl
  refine az (aD e1) ?_
  have c2:cx (d7 (ao 3)) (dOp oIx (ao 1) (ao 0)) [("shares",1)] [.shr (.lst (ws.map mD)),.shr (.lst (PF.frs ss)),.shr (PF.fr a),.shr (.lst (fo (loose ss))),.no,.no,.no,.no]=some (.lst (PF.frs ((loose ss).map (sv ss)))):=by
   rw [<- qk];refine di (dO rfl) (by rw [fM]; omega) (ki λ j hj=>?_);exact ar e_v e_v (ixs (memL j hj).1)
  refine az (aD (aV (ae c2 aq) eT rfl)) ?_
  refine az (cT (cB aq (Zs _)) (show 5 < 8 by decide)) ?_
  rcases hO with ⟨lam,e',_,w⟩ | ⟨e',a',w',y6,y7,w⟩
  ·subst e'
   exact Fc (eI w)
  ·subst e'
   refine az (eI w) (nR rfl ?_);exact bz (a9 (ae e_c (ae e_v aq)) (by simp))
end
section
variable {τ:List Sl} {f g:DE} {v:D}
def Dz {n j:Nat} (h:j < n):ixN n (j:Int)=some j:=by
 unfold ixN;rw [if_pos (by omega),if_pos (by omega),Yr]
def Fd {j n:Nat} {k:Int} {ds:List D} (h1:f τ=some v) (h2:g τ=some (.int k)) (q:τ[j]?=some (.own (.lst ds))) (hk:ixN ds.length k=some n):h9 j f g τ=some (.next (τ.set j (.own (.lst (ds.set n v))))):=by
 unfold h9;rw [h1];rw [h2];rw [q];show (ixN ds.length k).map _=_;rw [hk];rfl
def J6 {w b:Nat} {c:DT} {d:D} {k:Bool} (hl:w < τ.length) (q:τ[b]?=some (.own d)) (hc:c τ=some k):EF w b c τ=some (.next (if k then τ.set w .no else (τ.set b .no).set w (.own d))):=by
 unfold EF;rw [if_pos hl,q];rw [hc];cases k <;> rfl
def Bf {i:Nat} {d0:D} {ds:List D} (q:τ[i]?=some (.own d0)) (h:f (τ.set i (.shr d0))=some (.lst ds)) (hf:jk ds=true):j9 i f τ=some (.lst ds):=by
 unfold j9;rw [q];show (f _).bind _=_;rw [h];exact if_pos hf
def wR {it:DI} {cs:List (Str×Nat)} {ds es:List D} (h1:it τ=some ds) (hl:ds.length<=100000) (h2:kj (pairD g τ cs) ds=some es):gz it g cs τ=some (.lst es):=by
 unfold gz;rw [h1];show (if _ then _ else _)=_;rw [if_pos hl,h2];rfl
def zy {ga:DA} {as bs:List D} (h:ga τ=some [.lst as,.lst bs]):l5 ga τ=some (t7 as bs):=by
 unfold l5;rw [h];rfl
end
def zip_map {α:Type} (f h:α->D):∀ xs:List α,t7 (xs.map f) (xs.map h)=xs.map λ x=>.tup [f x,h x]
 | []=>rfl
 | x::xs=>by
  have:=zip_map f h xs;unfold t7 at *;rw [Z8,Z8,List.zip_cons_cons,Z8,this,Z8]
def eN {α:Type} {g:D->Option D} {f k:α->D}:∀ {xs:List α},(∀ x ∈ xs,g (f x)=some (k x))->kj g (xs.map f)=some (xs.map k)
 | [],_=>rfl
 | x::xs,h=>by
  have ih:=eN (g:=g) (f:=f) (k:=k) (xs:=xs) λ y hy=>h y (Zg _ hy)
  show (g (f x)).bind _=_;rw [h x (Zo ..),Z7];show (kj g (xs.map f)).bind _=_;rw [ih];rfl
def m4:∀ {ds:List D},(∀ d ∈ ds,iF d=true)->jk ds=true
 | [],_=>rfl
 | d::ds,h=>by
  rw [jk,h d (Zo ..),m4 λ x hx=>h x (Zg _ hx)];rfl
def DY (m:Option Rat):iF (mD m)=true:=by cases m <;> rfl
def DZ (q:Rat):iF (PF.fr q)=true:=rfl
structure iX (N:Nat) (S:Bool->Nat) (is:List Item) (room:Rat):Prop where
 n0:0 < N
 s0:∀ g,0 < S g
 nb:N<=2 ^ 600
 sb:∀ g,S g<=2 ^ 200
 few:is.length<=30
 ib:∀ i ∈ is,In N (10 ^ 32) i.base
 il:∀ i ∈ is,In N (10 ^ 32) i.least
 im:∀ i ∈ is,∀ m,i.most=some m->In N (10 ^ 32) m
 ig:∀ i ∈ is,In (S true) (10 ^ 32) i.grow/\0<=i.grow
 ik:∀ i ∈ is,In (S false) (10 ^ 32) i.shrink/\0<=i.shrink
 ir:In N (200 * 10 ^ 32) room
def qi {N M:Nat} {o l:Rat} {m:Option Rat} (ho:In N M o) (hl:In N M l) (hm:∀ h,m=some h->In N M h):In N M (l6 o l m):=by
 unfold l6;split
 · exact hl
 ·cases m with
  | none=>exact ho
  | some h =>
   have:=hm h rfl;simp only
   repeat' split
   all_goals first | exact hl | exact this | exact ho
def A6 {N M:Nat} {q:Rat} (h:In N M q):In N M (pJ q):=by
 unfold pJ;split
 · exact ⟨h.dv,by have:=h.hi; rw [Rat.neg_le_neg_iff]; exact this,by have:=h.lo; grind⟩
 · exact h
section
variable {N:Nat} {S:Bool->Nat} {is:List Item} {room:Rat}
def iX.beg (D:iX N S is room) {i:Item} (h:i ∈ is):In N (10 ^ 32) (bG i):=qi (D.ib i h) (D.il i h) (D.im i h)
def iX.bnd (D:iX N S is room) {g:Bool} {i:Item} {b:Rat} (h:i ∈ is) (e:fC g i=some b):In N (10 ^ 32) b:=by
 unfold fC at e
 cases g with
 | true =>
  simp only [if_true] at e;unfold oj at e
  cases q:i.most with
  | none=>rw [q] at e; cases e
  | some m =>
   rw [q] at e;simp only [Option.some.injEq] at e;subst e;split
   · exact D.il i h
   · exact D.im i h m q
 | false =>
  simp only [Zv,Yp,Option.some.injEq] at e;subst e;exact D.il i h
def iX.sz (D:iX N S is room) {q:Rat} (h:In N (10 ^ 32) q):Bt 707 600 q:=Bt.of h D.n0 D.nb (by decide +kernel)
def iX.ssz (D:iX N S is room) {g:Bool} {q:Rat} (h:In (S g) (10 ^ 32) q):Bt 307 200 q:=Bt.of h (D.s0 g) (D.sb g) (by decide +kernel)
def iX.item (D:iX N S is room) {i:Item} (h:i ∈ is):M1 i:=⟨(D.sz (D.ib i h)).sz (by decide) (by decide),(D.sz (D.il i h)).sz (by decide) (by decide),λ m e=>(D.sz (D.im i h m e)).sz (by decide) (by decide),(D.ssz (D.ig i h).1).sz (by decide) (by decide),(D.ssz (D.ik i h).1).sz (by decide) (by decide)⟩
def iX.share (D:iX N S is room) (g:Bool) {i:Item} (h:i ∈ is):In (S g) (10 ^ 32) (shQ g i)/\0<=shQ g i:=by
 cases g with
 | true=>exact D.ig i h
 | false=>exact D.ik i h
def get_map {α β:Type} (f:α->β) (d:β) {xs:List α} {j:Nat} (h:j < xs.length):(xs.map f).getD j d=f xs[j]:=by grind
def iX.lim (D:iX N S is room) (g:Bool):Lim N (S g) (is.map (dW g)) (is.map (shQ g)):=by
 refine ⟨D.n0,D.s0 g,D.nb,D.sb g,by simp,by simpa using D.few,λ j v e=>?_,λ j h=>?_,λ j h=>?_⟩
 ·by_cases hj:j < is.length
  ·unfold wo at e
   rw [get_map _ _ hj] at e;obtain ⟨b,eb,rfl⟩:=Zm e;have:=(D.bnd (Z1 hj) eb).sub D.n0 (D.beg (Z1 hj));exact A6 (by rw [Nat.two_mul]; exact this)
  ·unfold wo at e
   rw [List.getD_eq_getElem?_getD,List.getElem?_eq_none (by simpa using hj)] at e;cases e
 ·have hj:j < is.length:=by simpa using h
  unfold sv;rw [get_map _ _ hj];exact (D.share g (Z1 hj)).1
 ·have hj:j < is.length:=by simpa using h
  unfold sv;rw [get_map _ _ hj];exact (D.share g (Z1 hj)).2
end
def bd (g:Bool) (is:List Item) (j:Nat):Option Rat:=(is.map (fC g)).getD j none
def e9 (g:Bool) (is:List Item) (ws:List Rat) (P:List Nat):List Rat:=P.foldl (λ ws j=>ws.set j ((bd g is j).getD 0)) ws
def w0Q (g:Bool) (r:Option Rat) (i:Item):Rat:=match r with
 | some lam=>if g then bG i+shQ g i * lam else bG i - shQ g i * lam
 | none=>bG i
def m5 (g:Bool) (is:List Item) (r:Option Rat) (qs:List (List Nat)):List Rat:=e9 g is (is.map (w0Q g r)) qs.flatten
def gS (g:Bool) (is:List Item):∀ (P:List Nat) (ws:List Rat),(e9 g is ws P).length=ws.length
 | [],_=>rfl
 | j::P,ws=>by
  show (e9 g is (ws.set j ((bd g is j).getD 0)) P).length=_;rw [gS g is P,X3]
def ja (g:Bool) (is:List Item) (ws:List Rat) (P Q:List Nat):e9 g is ws (P++Q)=e9 g is (e9 g is ws P) Q:=List.foldl_append
def DR (qs:List Rat) (j:Nat) (q:Rat):(PF.frs qs).set j (PF.fr q)=PF.frs (qs.set j q):=by
 unfold PF.frs;rw [List.map_set]
def Run.mem {ws:List (Option Rat)} {ss:List Rat} {l:List Nat} {a w:Rat} {r:Option Rat} {qs:List (List Nat)} (h:Run ws ss l a w r qs):∀ q ∈ qs,∀ j ∈ q,j ∈ l/\(wo ws j).isSome=true:=by
 induction h with
 | done=>intro q hq; cases hq
 | level=>intro q hq; cases hq
 | @round l b a w r qs h hb k ih =>
  intro q hq j hj;rcases Zl.mp hq with rfl | hq
  ·rw [h] at hj
   obtain ⟨h1,h2⟩:=Z6.mp hj;refine ⟨h1,?_⟩;unfold dU at h2
   cases e:wo ws j with
   | none=>rw [e] at h2; cases h2
   | some v=>rfl
  ·obtain ⟨h1,h2⟩:=ih q hq j hj
   exact ⟨(Z6.mp h1).1,h2⟩
def Run.few {ws:List (Option Rat)} {ss:List Rat} {l:List Nat} {a w:Rat} {r:Option Rat} {qs:List (List Nat)} (h:Run ws ss l a w r qs):qs.length<=l.length/\∀ q ∈ qs,q.length<=l.length:=by
 induction h with
 | done=>exact ⟨Ze _,λ q hq=>nomatch hq⟩
 | level=>exact ⟨Zs _,λ q hq=>nomatch hq⟩
 | @round l b a w r qs h hb k ih =>
  have e:b.length+(l.filter λ j=>!dU ws ss (a / w) j).length=l.length:=by
   rw [h];clear k ih h hb
   induction l with
   | nil=>rfl
   | cons j l ih =>
    by_cases q:dU ws ss (a / w) j=true
    · simp only [Xf,q,if_true,Bool.not_true,Zv,Yp,Zw]; omega
    ·have q':dU ws ss (a / w) j=false:=by simpa using q
     simp only [Xf,q',Zv,Yp,Bool.not_false,if_true,Zw]; omega
  have lb:=X9.mpr hb;refine ⟨by rw [Zw]; omega,λ q hq=>?_⟩;rcases Zl.mp hq with rfl | hq
  · omega
  ·have:=ih.2 q hq
   omega
section
variable {N:Nat} {S:Bool->Nat} {is:List Item} {room:Rat}
def rg (g:Bool) (qs:List (List Nat)) (hq:∀ q ∈ qs,q.length<=1000/\∀ j ∈ q,j < is.length/\(bd g is j).isSome=true) (hl:qs.length<=1000) (w0:List Rat) (h0:w0.length=is.length) (s0 s1 s2 s3 s4 s5 s7 s8 s10 s11:Sl) (r:Option Rat) (h8:s8=.shr (.tup [mD r,.lst (rows qs)])) :
    ∃ x10 x11,nF (d7 (dOp oIx (ao 8) (dC (.int 1)))) (gN 10) (nF (d7 (ao 10)) (gN 11) (h9 9 (dOp oIx (ao 6) (ao 11)) (ao 11))) [s0,s1,s2,s3,s4,s5,.shr (.lst ((is.map (fC g)).map mD)),s7,s8,.own (.lst (PF.frs w0)),s10,s11] =
      some (.next [s0,s1,s2,s3,s4,s5,.shr (.lst ((is.map (fC g)).map mD)),s7,s8,.own (.lst (PF.frs (e9 g is w0 qs.flatten))),x10,x11]):=by
  subst h8
  obtain ⟨τ',e,x10,x11,rfl⟩:=cM (gg:=gN 10) (λ i τ=>∃ x10 x11,τ=[s0,s1,s2,s3,s4,s5,.shr (.lst ((is.map (fC g)).map mD)),s7,.shr (.tup [mD r,.lst (rows qs)]),.own (.lst (PF.frs (e9 g is w0 (qs.take i).flatten))),x10,x11])
    (it:=d7 (dOp oIx (ao 8) (dC (.int 1)))) (dO (ar e_v e_c (aY _ _ _))) ⟨s10,s11,rfl⟩ (by
    rintro i d τ hi ⟨x10,x11,rfl⟩
    unfold rows at hi;rw [List.getElem?_map] at hi;obtain ⟨q,eq,rfl⟩:=Zm hi;have hq':=hq q (List.mem_of_getElem? eq)
    have et:(qs.take (i+1)).flatten=(qs.take i).flatten++q:=by
      rw [Wn,eq,List.flatten_append];simp
    rw [et,ja];generalize hW:e9 g is w0 (qs.take i).flatten=W;have lW:W.length=is.length:=by rw [<- hW,gS,h0]
    obtain ⟨τ2,e2,y11,rfl⟩:=cM (f:=(h9 9 (dOp oIx (ao 6) (ao 11)) (ao 11))) (gg:=gN 11) (λ k τ=>∃ y11,τ=[s0,s1,s2,s3,s4,s5,.shr (.lst ((is.map (fC g)).map mD)),s7,.shr (.tup [mD r,.lst (rows qs)]),.own (.lst (PF.frs (e9 g is W (q.take k)))),.shr (.lst (fo q)),y11])
      (it:=d7 (ao 10)) (dO rfl) ⟨x11,rfl⟩ (by
      rintro k d τ hk ⟨y11,rfl⟩
      obtain ⟨j,ej,rfl⟩:=yU hk;obtain ⟨hj,hs⟩:=hq'.2 j (List.mem_of_getElem? ej);obtain ⟨b,eb⟩:=Yz.mp hs;have ek:q.take (k+1)=q.take k++[j]:=by rw [Wn,ej]; rfl
      rw [ek,ja];show ∃ τ1 τ2,_/\_/\∃ y11,τ2=[s0,s1,s2,s3,s4,s5,.shr (.lst ((is.map (fC g)).map mD)),s7,.shr (.tup [mD r,.lst (rows qs)]),.own (.lst (PF.frs ((e9 g is W (q.take k)).set j ((bd g is j).getD 0)))),.shr (.lst (fo q)),y11]
      rw [eb];rw [<- DR]
      have i6:oIx (.lst ((is.map (fC g)).map mD)) (.int (j:Int))=some (PF.fr b):=by
        have:=ixw (ws:=is.map (fC g)) (by simpa using hj);rw [show wo (is.map (fC g)) j=some b from eb] at this;exact this
      refine ⟨_,_,rfl,?_,.shr (.int (j:Int)),rfl⟩
      exact Fd (ar e_v e_v i6) e_v rfl (Dz (by rw [cA,gS,lW]; exact hj)))
    rw [fM,Ym] at e2
    exact ⟨_,_,rfl,e2,_,_,rfl⟩)
  rw [rl,Ym] at e;exact ⟨x10,x11,e⟩
def JN (D:iX N S is room) (g:Bool) {r:Option Rat} (br:∀ lam,r=some lam->Bt 950 940 lam) {i:Item} (h:i ∈ is) {lam:Rat} (e:r=some lam):SzQ (shQ g i * lam):=by
 have bl:=br lam e;have bs:=D.ssz (D.share g h).1
 have e1:shQ g i * lam=Rat.divInt ((shQ g i).num * lam.num) ((shQ g i).den * lam.den):=by
  rw [<- Yk,Zk,Zk]
 have d0:((shQ g i).den:Int) * lam.den≠0:=Z3 (Y8 (den_pos _) (den_pos _));have Lw:S1.Low (shQ g i * lam).num (shQ g i * lam).den ((shQ g i).num * lam.num) (((shQ g i).den:Int) * lam.den):=by rw [e1]; exact ⟨den_pos _,Rat.reduced _,jW _ d0⟩
 have n1:((shQ g i).num * lam.num).natAbs<=2 ^ (307+950):=by rw [Z9]; exact cN bs.n bl.n
 have n2:(((shQ g i).den:Int) * lam.den).natAbs<=2 ^ (200+940):=by rw [Z9]; exact cN bs.d bl.d
 exact ⟨Sz.of2 (Zc (Lw.rJ d0) n1) (by decide),Sz.of2 (Zc (Lw.sF d0) n2) (by decide)⟩
def iD (m d:D):oIx (.tup [m,d]) (.int 0)=some m/\oIx (.tup [m,d]) (.int 1)=some d:=⟨aN _ _,aY _ _ _⟩
noncomputable def dst (is:List Item) (room:Rat) (s2 s3 s4 s5 s6 s7 s8 s9 s10 s11:Sl):List Sl:=[.shr (.lst (is.map itD)),.shr (PF.fr room),s2,s3,s4,s5,s6,s7,s8,s9,s10,s11]
def iX.miss (D:iX N S is room):In N (230 * 10 ^ 32) (room - bX (is.map bG)):=by
 have h:∀ q ∈ is.map bG,In N (10 ^ 32) q:=λ q hq=>by
  obtain ⟨i,hi,rfl⟩:=Yw.mp hq;exact D.beg hi
 have:=In.sum D.n0 h (is.map bG).length (Ze _);rw [Ym,Zd] at this;have f:=D.few;refine (D.ir.sub D.n0 this).mono ?_
 have:=Zn (10 ^ 32) f;generalize (10:Nat) ^ 32=z at *;omega
def Ee (D:iX N S is room):(room - bX (is.map bG)=0->iR [.lst (is.map itD),PF.fr room]=some (.shr (.tup [.lst (PF.frs (is.map bG)),PF.fr 0,.lst []]))) /\
  (¬ room - bX (is.map bG)=0->∃ g r qs,g=decide (0 < room - bX (is.map bG))/\Run (is.map (dW g)) (is.map (shQ g)) (loose (is.map (shQ g))) (pJ (room - bX (is.map bG))) (sm (sv (is.map (shQ g))) (loose (is.map (shQ g)))) r qs/\(∀ lam,r=some lam->Bt 950 940 lam) /\
    iR [.lst (is.map itD),PF.fr room]=some (.shr (.tup [.lst (PF.frs (m5 g is r qs)),mD r,.lst (rows qs)]))):=by
 have few:=D.few;have im:=D.miss;have len1:(is.map itD).length<=100000:=by rw [Zd]; omega
 have eb:cx (d7 (ao 0)) (dFn PF.mx (ah (dOp oIx (ao 0) (dC (.int 0))) (ah (dOp oIx (ao 0) (dC (.int 1))) (ah (dOp oIx (ao 0) (dC (.int 2))) aC)))) [] (dst is room .no .no .no .no .no .no .no .no .no .no)=some (.lst (PF.frs (is.map bG))):=by
  have:PF.frs (is.map bG)=is.map λ i=>PF.fr (bG i):=by unfold PF.frs; rw [Yu]; rfl
  rw [this];refine di (dO rfl) len1 (eN λ i hi=>?_);have z:=D.item hi;exact aV (ae (ar e_v e_c (ix0 i)) (ae (ar e_v e_c (ix1 i)) (ae (ar e_v e_c (ix2 i)) aq))) (wj z.b z.l z.m) rfl
 have hbeg:∀ q ∈ is.map bG,In N (10 ^ 32) q:=λ q hq=>by
  obtain ⟨i,hi,rfl⟩:=Yw.mp hq;exact D.beg hi
 have szs:∀ i,i<=(is.map bG).length->SzQ (bX ((is.map bG).take i)):=λ i hi=>by
  rw [Zd] at hi;exact (Bt.of (m:=116) (In.sum D.n0 hbeg i (by rw [Zd]; exact hi)) D.n0 D.nb (Zc (Zn _ (show i<=30 by omega)) (by decide +kernel))).sz (by decide) (by decide)
 have et:=mE (λ q hq=>(D.sz (hbeg q hq)).sz (by decide) (by decide)) szs;have ss0:=szs (is.map bG).length (Ze _);rw [Ym] at ss0
 have br:Bt 750 600 room:=by
  have h:=Bt.of (m:=116) D.ir D.n0 D.nb (by decide +kernel);exact ⟨Zc h.n (Yc (by decide) (by decide)),h.d⟩
 have em:=fN (br.sz (by decide) (by decide)) ss0;generalize hm:room - bX (is.map bG)=m at *
 have hmiss:nk 2 (dFn PF.cQ (ah (ao 1) (ah (dFn PF.dB (ah (ao 2) aC)) aC))) (dst is room (.own (.lst (PF.frs (is.map bG)))) .no .no .no .no .no .no .no .no .no)=some (PF.fr m):=by
  refine ni rfl ?_ rfl;exact aV (ae e_v (ae (aV (ae e_v aq) et rfl) aq)) em rfl
 have eq0:oEq (PF.fr m) (.tup [.int 0,.int 1])=some (.bl (decide (m=0))):=by
  show Option.map _ (eqO (PF.fr m) (PF.fr 0))=_;rw [wL,wN];rfl
 refine ⟨λ z=>?_,λ z=>?_⟩
 ·unfold iR xJ
  refine bj ?_
  refine az (cT eb (show 2 < 12 by decide)) ?_
  refine az (aD hmiss) ?_
  rw [Zh z] at eq0;refine cJ (ax (ar e_v (a9 (ae e_c (ae e_c aq)) (by simp)) eq0)) ?_
  refine nR rfl ?_
  exact bz (a9 (ae e_v (ae (a9 (ae e_c (ae e_c aq)) (by simp)) (ae (cB aq (Zs _)) aq))) (by simp))
 ·generalize hg:decide (0 < m)=g
  have Lm:=D.lim g;obtain ⟨r,qs,hR,hlam,hF⟩:=yi Lm (A6 im) (by decide);refine ⟨g,r,qs,rfl,hR,hlam,?_⟩;have i0:oIx (PF.fr m) (.int 0)=some (.int m.num):=aN _ _;have i1:oIx (PF.fr m) (.int 1)=some (.int m.den):=aY _ _ _
  have eg:decide (0 < m.num)=decide (0 < m):=by
    rw [Xe];constructor
    ·intro h
     refine Rat.not_le.mp λ q=>?_
     have:0<=(-m).num:=Xb.mpr (by grind);have e:(-m).num=-m.num:=rfl;omega
    · exact jA
  have egt:oGt (.int m.num) (.int 0)=some (.bl g):=by
    show some (L2.D.bl (decide (0 < m.num)))=_;rw [eg,hg]
  have es:∀ (s5 s6 s7 s8 s9 s10 s11:Sl),cx (d7 (ao 0)) (dIf (dT (ao 1)) (dOp oIx (ao 0) (dC (.int 3))) (dOp oIx (ao 0) (dC (.int 4)))) [("grows",4)] (dst is room (.own (.lst (PF.frs (is.map bG)))) (.shr (PF.fr m)) (.shr (.bl g)) s5 s6 s7 s8 s9 s10 s11)=some (.lst (PF.frs (is.map (shQ g)))):=λ s5 s6 s7 s8 s9 s10 s11=>by
    have:PF.frs (is.map (shQ g))=is.map λ i=>PF.fr (shQ g i):=by unfold PF.frs; rw [Yu]; rfl
    rw [this];refine di (dO rfl) len1 (eN λ i hi=>?_);refine sA (ax e_v) (λ h=>?_) (λ h=>?_)
    · rw [h]; exact ar e_v e_c (ix3 i)
    · rw [h]; exact ar e_v e_c (ix4 i)
  have ebd:∀ (s5 s6 s7 s8 s9 s10 s11:Sl),cx (d7 (ao 0)) (dIf (dT (ao 1)) (dFn gK (ah (ao 0) aC)) (dOp oIx (ao 0) (dC (.int 1)))) [("grows",4)] (dst is room (.own (.lst (PF.frs (is.map bG)))) (.shr (PF.fr m)) (.shr (.bl g)) s5 s6 s7 s8 s9 s10 s11)=some (.lst ((is.map (fC g)).map mD)):=λ s5 s6 s7 s8 s9 s10 s11=>by
    rw [Yu];refine di (dO rfl) len1 (eN λ i hi=>?_);refine sA (b:=g) (ax e_v) (λ h=>?_) (λ h=>?_)
    ·show _=some (mD (fC g i))
     rw [h];exact aV (ae e_v aq) (GY (D.item hi)) rfl
    ·show _=some (mD (fC g i))
     rw [h];exact ar e_v e_c (ix1 i)
  have ew:j9 2 (gz (l5 (ah (ao 6) (ah (ao 2) aC))) (dFn kr (ah (ao 0) (ah (ao 1) aC))) []) (dst is room (.own (.lst (PF.frs (is.map bG)))) (.shr (PF.fr m)) (.shr (.bl g)) (.shr (.lst (PF.frs (is.map (shQ g))))) (.shr (.lst ((is.map (fC g)).map mD))) .no .no .no .no .no)=some (.lst ((is.map (dW g)).map mD)):=by
    refine Bf rfl ?_ (m4 λ d hd=>?_)
    ·have h3:(is.map (dW g)).map mD=is.map λ i=>mD (dW g i):=by rw [Yu]; rfl
     rw [h3];have h1:PF.frs (is.map bG)=is.map λ i=>PF.fr (bG i):=by unfold PF.frs; rw [Yu]; rfl
     have h2:(is.map (fC g)).map mD=is.map λ i=>mD (fC g i):=by rw [Yu]; rfl
     refine wR (ds:=is.map λ i=>.tup [mD (fC g i),PF.fr (bG i)]) ?_ (by rw [Zd]; omega) (eN λ i hi=>?_)
     ·rw [<- zip_map,<- h1,<- h2]
      exact zy (ae e_v (ae e_v aq))
     ·have e:=JM (b:=fC g i) (λ h e=>(D.sz (D.bnd hi e)).sz (by decide) (by decide)) ((D.sz (D.beg hi)).sz (by decide) (by decide))
      exact aV (ae e_v (ae e_v aq)) e rfl
    ·obtain ⟨o,_,rfl⟩:=Yw.mp hd
     exact DY o
  have en:dT (dOp kP (dOp oIx (ao 8) (dC (.int 0))) (dC .non)) (dst is room (.own (.lst (PF.frs (is.map bG)))) (.shr (PF.fr m)) (.shr (.bl g)) (.shr (.lst (PF.frs (is.map (shQ g))))) (.shr (.lst ((is.map (fC g)).map mD))) (.shr (.lst ((is.map (dW g)).map mD))) (.shr (.tup [mD r,.lst (rows qs)])) .no .no .no)=some r.isSome:=ax (ar (ar e_v e_c (iD _ _).1) e_c (p5 r))
  have memq:∀ q ∈ qs,q.length<=1000/\∀ j ∈ q,j < is.length/\(bd g is j).isSome=true:=λ q hq=>by
    have h1:=hR.few;have h2:=(hR.mem q hq)
    have ll:(loose (is.map (shQ g))).length<=30:=Zc (List.length_filter_le _ _) (by rw [X7,Zd]; exact few);refine ⟨by have:=h1.2 q hq; omega,λ j hj=>?_⟩;obtain ⟨h3,h4⟩:=h2 j hj;have h5:=Xw.mp (Z6.mp h3).1;rw [Zd] at h5;refine ⟨h5,?_⟩;unfold wo at h4;rw [get_map _ _ h5] at h4;unfold bd;rw [get_map _ _ h5];unfold dW at h4
    simpa using h4
  have lenq:qs.length<=1000:=by
    have:=hR.few.1;have ll:(loose (is.map (shQ g))).length<=30:=Zc (List.length_filter_le _ _) (by rw [X7,Zd]; exact few);omega
  refine bj ?_
  show aL _ _ (dst is room .no .no .no .no .no .no .no .no .no .no)=_;refine az (cT eb (show 2 < 12 by decide)) ?_
  refine az (aD hmiss) ?_
  rw [Za z] at eq0;refine aR (ax (ar e_v (a9 (ae e_c (ae e_c aq)) (by simp)) eq0)) ?_
  refine az (aD (ar (ar e_v e_c i0) e_c egt)) ?_
  refine az (aD (es _ _ _ _ _ _ _)) ?_
  refine az (aD (ebd _ _ _ _ _ _ _)) ?_
  refine az (aD ew) ?_
  refine az (aD (aV (ae e_v (ae e_v (ae (by rw [<- Bq]; exact a9 (ae (aU (ae (ar e_v e_c i0) aq) (abs_eq _)) (ae (ar e_v e_c i1) aq)) (by simp)) aq))) hF rfl)) ?_
  refine az (J6 (show 9 < 12 by decide) rfl en) ?_
  cases hr:r with
  | none =>
    subst hr;refine az (fh (b:=false) (ax (ar (ar e_v e_c (iD _ _).1) e_c rfl)) (λ h=>nomatch h) (λ _=>rfl)) ?_
    obtain ⟨x10,x11,ef⟩:=rg g qs memq lenq (is.map bG) (Zd _) (.shr (.lst (is.map itD))) (.shr (PF.fr room)) .no (.shr (PF.fr m)) (.shr (.bl g)) (.shr (.lst (PF.frs (is.map (shQ g))))) (.shr (.lst ((is.map (dW g)).map mD))) (.shr (.tup [mD none,.lst (rows qs)])) .no .no none rfl;refine az ef ?_
    refine nR rfl ?_
    exact bz (a9 (ae e_v (ae (ar e_v e_c (iD _ _).1) (ae (ar e_v e_c (iD _ _).2) aq))) (by simp))
  | some lam =>
    subst hr
    have ewd:j9 2 (gz (l5 (ah (ao 2) (ah (ao 5) aC))) (dFn nB (ah (ao 0) (ah (ao 1) (ah (dOp oIx (ao 3) (dC (.int 0))) (ah (ao 2) aC))))) [("grows",4),("found",8)]) (dst is room (.own (.lst (PF.frs (is.map bG)))) (.shr (PF.fr m)) (.shr (.bl g)) (.shr (.lst (PF.frs (is.map (shQ g))))) (.shr (.lst ((is.map (fC g)).map mD))) (.shr (.lst ((is.map (dW g)).map mD))) (.shr (.tup [mD (some lam),.lst (rows qs)])) .no .no .no)=some (.lst (PF.frs (is.map (w0Q g (some lam))))):=by
     have h0:PF.frs (is.map (w0Q g (some lam)))=is.map λ i=>PF.fr (w0Q g (some lam) i):=by unfold PF.frs; rw [Yu]; rfl
     refine Bf rfl ?_ (m4 λ d hd=>?_)
     ·rw [h0]
      have h1:PF.frs (is.map bG)=is.map λ i=>PF.fr (bG i):=by unfold PF.frs; rw [Yu]; rfl
      have h2:PF.frs (is.map (shQ g))=is.map λ i=>PF.fr (shQ g i):=by unfold PF.frs; rw [Yu]; rfl
      refine wR (ds:=is.map λ i=>.tup [PF.fr (bG i),PF.fr (shQ g i)]) ?_ (by rw [Zd]; omega) (eN λ i hi=>?_)
      ·rw [<- zip_map,<- h1,<- h2]
       exact zy (ae e_v (ae e_v aq))
      ·have e:=Dl g ((D.sz (D.beg hi)).sz (by decide) (by decide)) ((D.ssz (D.share g hi).1).sz (by decide) (by decide)) ((hlam lam rfl).sz (by decide) (by decide)) (JN D g hlam hi rfl)
       exact aV (ae e_v (ae e_v (ae (ar e_v e_c (iD _ _).1) (ae e_v aq)))) e rfl
     ·rw [h0] at hd
      obtain ⟨o,_,rfl⟩:=Yw.mp hd;exact DZ _
    refine az (fh en (λ _=>cT ewd (show 9 < 12 by decide)) (λ h=>nomatch h)) ?_
    obtain ⟨x10,x11,ef⟩:=rg g qs memq lenq (is.map (w0Q g (some lam))) (Zd _) (.shr (.lst (is.map itD))) (.shr (PF.fr room)) (.own (.lst (PF.frs (is.map bG)))) (.shr (PF.fr m)) (.shr (.bl g)) (.shr (.lst (PF.frs (is.map (shQ g))))) (.shr (.lst ((is.map (dW g)).map mD))) (.shr (.tup [mD (some lam),.lst (rows qs)])) .no .no (some lam) rfl;refine az ef ?_
    refine nR rfl ?_
    exact bz (a9 (ae e_v (ae (ar e_v e_c (iD _ _).1) (ae (ar e_v e_c (iD _ _).2) aq))) (by simp))
end
end DL
end
section
namespace DL
open PySem L2 PF MU
def LW {a b c:Rat} (h:a<=b) (k:b < c):a < c:=by grind
def LS {a b c:Rat} (h:a < b) (k:b<=c):a < c:=by grind
structure Good (ws:List (Option Rat)) (ss:List Rat) (l:List Nat) (a w:Rat):Prop where
 pos:∀ j ∈ l,0 < sv ss j
 hw:w=sm (sv ss) l
 ha:0 < a
def E6 {f h:Nat->Rat}:∀ {l:List Nat},(∀ j ∈ l,f j < h j)->l≠[]->sm f l < sm h l
 | [j],q,_=>by
  have:=q j (Zo ..);simp only [sm]; grind
 | j::k::l,q,_=>by
  have h1:=q j (Zo ..);have h2:=E6 (f:=f) (h:=h) (l:=k::l) (λ x hx=>q x (Zg _ hx)) (by simp);show f j+sm f (k::l) < h j+sm h (k::l);generalize sm f (k::l)=x at *;generalize sm h (k::l)=y at *;clear q;grind
def uz {f:Nat->Rat} (c:Rat):∀ l:List Nat,sm (λ j=>f j * c) l=sm f l * c
 | []=>by simp only [sm]; grind
 | j::l=>by rw [sm,sm,uz c l]; grind
section
variable {ws:List (Option Rat)} {ss:List Rat}
def Good.Ic {l:List Nat} {a w:Rat} (G:Good ws ss l a w) (h:l≠[]):0 < w:=by rw [G.hw]; exact rf G.pos h
def div_mul {a w:Rat} (h:0 < w):a / w * w=a:=by grind
def Good.next {l b:List Nat} {a w:Rat} (G:Good ws ss l a w) (h:b=l.filter (dU ws ss (a / w))) (hb:b≠[]) :
  Good ws ss (l.filter λ j=>!dU ws ss (a / w) j) (a - sm (wv ws) b) (w - sm (sv ss) b)/\(a / w) * (w - sm (sv ss) b) < a - sm (wv ws) b/\(∀ j ∈ b,j ∈ l/\wo ws j=some (wv ws j)/\wv ws j < sv ss j * (a / w)):=by
 have hl:l≠[]:=λ z=>hb (by rw [h,z]; rfl)
 have hw:=G.Ic hl
 have mem:∀ j ∈ b,j ∈ l/\wo ws j=some (wv ws j)/\wv ws j < sv ss j * (a / w):=λ j hj=>by
  rw [h] at hj;obtain ⟨h1,h2⟩:=Z6.mp hj;unfold dU at h2
  cases e:wo ws j with
  | none=>rw [e] at h2; cases h2
  | some v =>
   rw [e] at h2;have:wv ws j=v:=by unfold wv; rw [e]; rfl
   rw [this];exact ⟨h1,rfl,Zx h2⟩
 have lt:=E6 (λ j hj=>(mem j hj).2.2) hb;rw [uz] at lt;have sp:=gP (sv ss) (dU ws ss (a / w)) l;rw [<- h,<- G.hw] at sp;have dm:=div_mul (a:=a) hw
 have ds:0<=sm (sv ss) (l.filter λ j=>!dU ws ss (a / w) j):=by
  by_cases z:(l.filter λ j=>!dU ws ss (a / w) j)=[]
  · rw [z]; exact Yh
  · exact Y6 (rf (λ j hj=>G.pos j (Z6.mp hj).1) z)
 have hq:0 < a / w:=by
  rw [Ws];exact Rat.mul_pos G.ha (Rat.inv_pos.mpr hw)
 have k:(a / w) * (w - sm (sv ss) b) < a - sm (wv ws) b:=by
  generalize sm (sv ss) b=x at *;generalize sm (wv ws) b=y at *;generalize a / w=c at *;grind
 refine ⟨⟨λ j hj=>G.pos j (Z6.mp hj).1,?_,?_⟩,k,mem⟩
 ·generalize sm (sv ss) b=x at *
  grind
 ·have:0<=(a / w) * (w - sm (sv ss) b):=by
   refine Wq (Y6 hq) ?_
   have e:w - sm (sv ss) b=sm (sv ss) (l.filter λ j=>!dU ws ss (a / w) j):=by
    generalize sm (sv ss) b=x at *;grind
   rw [e]; exact ds
  exact LW this k
def Run.nil {a w:Rat} {r:Option Rat} {qs:List (List Nat)} (h:Run ws ss [] a w r qs):r=none/\qs=[]:=by
 cases h with
 | done=>exact ⟨rfl,rfl⟩
 | level h e=>exact absurd rfl h
 | round h hb k=>exact absurd h hb
def Run.BR {l:List Nat} {a w:Rat} {r:Option Rat} {qs:List (List Nat)} (h:Run ws ss l a w r qs):∀ {lam:Rat},r=some lam->Good ws ss l a w ->
  0 < lam/\a / w<=lam/\∀ j ∈ l,(j ∈ qs.flatten->wo ws j=some (wv ws j)/\wv ws j < sv ss j * lam)/\(j ∉ qs.flatten->dU ws ss lam j=false):=by
 induction h with
 | done=>intro lam e; cases e
 | @level l a w h e =>
  intro lam e' G;cases e';have hw:=G.Ic h
  have hq:0 < a / w:=by
   rw [Ws];exact Rat.mul_pos G.ha (Rat.inv_pos.mpr hw)
  refine ⟨hq,Yh,λ j hj=>⟨(λ q=>nomatch q),λ _=>?_⟩⟩;have:=List.filter_eq_nil_iff.mp e j hj
  simpa using this
 | @round l b a w r qs h hb k ih =>
  intro lam e G;obtain ⟨G',lt,mem⟩:=G.next h hb;obtain ⟨p1,p2,p3⟩:=ih e G';have hl:l≠[]:=λ z=>hb (by rw [h,z]; rfl)
  have hne:(l.filter λ j=>!dU ws ss (a / w) j)≠[]:=λ z=>by
   rw [z] at k;have:=k.nil.1;rw [e] at this;cases this
  have hw':=G'.Ic hne
  have hle:a / w<=lam:=by
   refine Wf ?_ p2;refine Y6 ?_
   rw [Rat.lt_div_iff hw'];exact lt
  refine ⟨p1,hle,λ j hj=>⟨λ q=>?_,λ q=>?_⟩⟩
  ·rw [X8,Y5] at q
   by_cases hjb:j ∈ b
   ·obtain ⟨_,h2,h3⟩:=mem j hjb
    refine ⟨h2,?_⟩;have h4:=Xj hle (Y6 (G.pos j hj));exact LS h3 h4
   ·rcases q with q | q
    · exact absurd q hjb
    ·have hj':j ∈ l.filter λ j=>!dU ws ss (a / w) j:=by
      refine Z6.mpr ⟨hj,?_⟩
      cases hb':dU ws ss (a / w) j with
      | false=>rfl
      | true=>exact absurd (by rw [h]; exact Z6.mpr ⟨hj,hb'⟩) hjb
     exact (p3 j hj').1 q
  ·rw [X8,Y5] at q
   have hjb:j ∉ b:=λ z=>q (.inl z)
   have hj':j ∈ l.filter λ j=>!dU ws ss (a / w) j:=by
    refine Z6.mpr ⟨hj,?_⟩
    cases hb':dU ws ss (a / w) j with
    | false=>rfl
    | true=>exact absurd (by rw [h]; exact Z6.mpr ⟨hj,hb'⟩) hjb
   exact (p3 j hj').2 λ z=>q (.inr z)
def Run.none_ {l:List Nat} {a w:Rat} {r:Option Rat} {qs:List (List Nat)} (h:Run ws ss l a w r qs):r=none->Good ws ss l a w->(∀ j ∈ l,wo ws j=some (wv ws j)/\j ∈ qs.flatten)/\sm (wv ws) l < a:=by
 induction h with
 | done a w=>intro _ G; exact ⟨(λ j hj=>nomatch hj),G.ha⟩
 | level=>intro e; cases e
 | @round l b a w r qs h hb k ih =>
  intro e G;obtain ⟨G',lt,mem⟩:=G.next h hb;obtain ⟨p1,p2⟩:=ih e G';refine ⟨λ j hj=>?_,?_⟩
  ·rw [X8,Y5]
   cases hb':dU ws ss (a / w) j with
   | true =>
    have hjb:j ∈ b:=by rw [h]; exact Z6.mpr ⟨hj,hb'⟩
    exact ⟨(mem j hjb).2.1,.inl hjb⟩
   | false =>
    obtain ⟨q1,q2⟩:=p1 j (Z6.mpr ⟨hj,by rw [hb']; rfl⟩);exact ⟨q1,.inr q2⟩
  ·have sp:=gP (wv ws) (dU ws ss (a / w)) l
   rw [<- h] at sp;rw [sp];generalize sm (wv ws) b=x at *;grind
end
end DL
end
section
namespace DL
open PySem L2 PF MU
def iG (g:Bool) (is:List Item) (r:Option Rat) (qs:List (List Nat)):(m5 g is r qs).length=is.length:=by unfold m5; rw [gS,Zd]
def Fv {x:Rat} (h:0<=x) (n:¬ x=0):0 < x:=by grind
def gU (g:Bool) (is:List Item) {j:Nat}:∀ (P:List Nat) (W:List Rat),j < W.length->(e9 g is W P).getD j 0=if j ∈ P then (bd g is j).getD 0 else W.getD j 0
 | [],W,_=>by simp [e9]
 | k :: P,W,hj=>by
  show (e9 g is (W.set k ((bd g is k).getD 0)) P).getD j 0=_;rw [gU g is P _ (by rw [X3]; exact hj)]
  by_cases h:j ∈ P
  · rw [if_pos h,if_pos (Zg _ h)]
  ·rw [if_neg h]
   by_cases e:k=j
   ·subst e
    rw [if_pos (Zo ..),List.getD_eq_getElem?_getD,List.getElem?_set_self hj];rfl
   · rw [if_neg (λ z=>by rcases Zl.mp z with z | z; exact e z.symm; exact h z),List.getD_eq_getElem?_getD,List.getElem?_set_ne e,<- List.getD_eq_getElem?_getD]
def Hw (p q:Rat):oNe (PF.fr p) (PF.fr q)=some (.bl (!decide (p=q))):=by
 show Option.map _ (eqO (PF.fr p) (PF.fr q))=_;rw [wL,wN];rfl
def GX {x y A B:Int} (hx:0<=x) (hA:x<=A) (hy:0<=y) (hB:y<=B):0<=x * y/\x * y<=A * B:=⟨Int.mul_nonneg hx hy,Int.mul_le_mul hA hB hy (by omega)⟩
def oy (x:Int):D.tup [.int x,.int 1]=PF.fr (x:Rat):=rfl
end DL
end
section
set_option exponentiation.threshold 5000
namespace DL
open PySem L2 PF MU
def uw (x:Rat) (xs:List Rat):bX (x::xs)=x+bX xs:=by
 have all:∀ (l:List Rat) (a:Rat),l.foldl (·+·) a=a+l.foldl (·+·) 0:=by
  intro l
  induction l with
  | nil=>intro a; simp only [List.foldl_nil]; grind
  | cons y l ih=>intro a; rw [List.foldl_cons,List.foldl_cons,ih (a+y),ih (0+y)]; grind
 unfold bX;rw [List.foldl_cons,all];grind
def sg (g:Bool) (x:Rat):Rat:=if g then x else -x
def gQ {f h:Nat->Rat}:∀ {l:List Nat},(∀ j ∈ l,f j=h j)->sm f l=sm h l
 | [],_=>rfl
 | j::l,q=>by rw [sm,sm,q j (Zo ..),gQ (l:=l) λ x hx=>q x (Zg _ hx)]
def E5 (g:Bool) (f:Nat->Rat):∀ l:List Nat,sm (λ j=>sg g (f j)) l=sg g (sm f l)
 | []=>by cases g <;> simp only [sg,sm,if_true,Zv,Yp] <;> grind
 | j::l=>by rw [sm,sm,E5 g f l]; cases g <;> simp only [sg,if_true,Zv,Yp] <;> grind
def lF {g:Bool} {i:Item} {v:Rat} (h:dW g i=some v):∃ b,fC g i=some b/\b - bG i=sg g v:=by
 cases g with
 | true =>
  cases e:fC true i with
  | none=>unfold dW at h; rw [e] at h; cases h
  | some b =>
   have:=(xS e).1;rw [this] at h;cases h;exact ⟨b,rfl,rfl⟩
 | false =>
  have:=(sR i).1;rw [this] at h;cases h;refine ⟨i.least,rfl,?_⟩;simp only [sg,Zv,Yp];grind
def dq (ws:List (Option Rat)) (ss:List Rat) (r:Option Rat) (F:List Nat) (j:Nat):Rat:=if j ∈ F then wv ws j else match r with
 | some lam=>sv ss j * lam
 | none=>0
def Run.Nh {ws:List (Option Rat)} {ss:List Rat} {l:List Nat} {a w:Rat} {r:Option Rat} {qs:List (List Nat)} (h:Run ws ss l a w r qs):∀ {lam:Rat},r=some lam->Good ws ss l a w->a=sm (dq ws ss r qs.flatten) l:=by
 induction h with
 | done=>intro lam e; cases e
 | @level l a w h e =>
  intro lam e' G;cases e';have hw:=G.Ic h
  have c:sm (dq ws ss (some (a / w)) ([]:List (List Nat)).flatten) l=sm (λ j=>sv ss j * (a / w)) l:=gQ λ j _=>by
   unfold dq;rw [if_neg (λ q=>nomatch q)]
  rw [c,uz,<- G.hw];have:=div_mul (a:=a) hw;generalize a / w=z at *;grind
 | @round l b a w r qs h hb k ih =>
  intro lam e G;obtain ⟨G',lt,mem⟩:=G.next h hb;have i:=ih e G';have sp:=gP (dq ws ss r (b::qs).flatten) (dU ws ss (a / w)) l
  have c1:sm (dq ws ss r (b::qs).flatten) (l.filter (dU ws ss (a / w)))=sm (wv ws) b:=by
   rw [<- h];refine gQ λ j hj=>?_
   unfold dq;rw [if_pos (by rw [X8]; exact Ys _ hj)]
  have c2:sm (dq ws ss r (b::qs).flatten) (l.filter λ j=>!dU ws ss (a / w) j)=sm (dq ws ss r qs.flatten) (l.filter λ j=>!dU ws ss (a / w) j):=by
   refine gQ λ j hj=>?_
   have hn:j ∉ b:=λ q=>by
    rw [h] at q;have h1:=(Z6.mp q).2;have h2:=(Z6.mp hj).2;rw [h1] at h2;cases h2
   unfold dq
   by_cases z:j ∈ qs.flatten
   · rw [if_pos z,if_pos (by rw [X8]; exact Zr _ z)]
   · rw [if_neg z,if_neg (by rw [X8]; exact λ q=>(Y5.mp q).elim hn z)]
  rw [sp,c1,c2,<- i];generalize sm (wv ws) b=x;grind
def uv (f:Nat->Rat):∀ (W:List Rat) (n:Nat),(∀ j,j < W.length->W.getD j 0=f (n+j))->bX W=sm f ((List.range' n W.length))
 | [],n,_=>rfl
 | x::W,n,h=>by
  rw [uw,Zw,List.range'_succ,sm];have h0:=h 0 (by simp);rw [List.getD_cons_zero,Nat.add_zero] at h0
  rw [uv f W (n+1) λ j hj=>by
   have:=h (j+1) (by simp; exact hj);rw [List.getD_cons_succ] at this
   rw [this,Nat.add_right_comm,Nat.add_assoc],h0]
def qZ (f:Nat->Rat) (W:List Rat) (h:∀ j,j < W.length->W.getD j 0=f j):bX W=sm f (List.range W.length):=by
 rw [List.range_eq_range'];exact uv f W 0 λ j hj=>by rw [Xr]; exact h j hj
def Ak (f h:Nat->Rat):∀ l:List Nat,sm (λ j=>f j+h j) l=sm f l+sm h l
 | []=>by simp only [sm]; grind
 | j::l=>by rw [sm,sm,sm,Ak f h l]; grind
def uy {f:Nat->Rat}:∀ {l:List Nat},(∀ j ∈ l,f j=0)->sm f l=0
 | [],_=>rfl
 | j::l,q=>by rw [sm,q j (Zo ..),uy λ x hx=>q x (Zg _ hx)]; grind
section
variable {is:List Item} {g:Bool} {r:Option Rat} {qs:List (List Nat)} {a:Rat}
abbrev Br (g:Bool) (is:List Item) (a:Rat) (r:Option Rat) (qs:List (List Nat)):Prop:=Run (is.map (dW g)) (is.map (shQ g)) (loose (is.map (shQ g))) a (sm (sv (is.map (shQ g))) (loose (is.map (shQ g)))) r qs
abbrev dI (g:Bool) (is:List Item) (r:Option Rat) (qs:List (List Nat)) (j:Nat):Rat:=dq (is.map (dW g)) (is.map (shQ g)) r qs.flatten j
def rY (hp:∀ i ∈ is,0<=shQ g i) (ha:0 < a):Good (is.map (dW g)) (is.map (shQ g)) (loose (is.map (shQ g))) a (sm (sv (is.map (shQ g))) (loose (is.map (shQ g)))):=⟨λ j hj=>by
 obtain ⟨h1,h2⟩:=Z6.mp hj;have hj':=Xw.mp h1;rw [Zd] at hj';have h4:¬ sv (is.map (shQ g)) j=0:=by simpa using h2
 have e:sv (is.map (shQ g)) j=shQ g is[j]:=get_map _ _ hj';rw [e] at h4 ⊢
 exact Fv (hp is[j] (Z1 hj')) h4,rfl,ha⟩
def og {k:Nat} (h:sv (is.map (shQ g)) k=0) (R:Br g is a r qs):k ∉ qs.flatten:=λ q=>by
 obtain ⟨row,h1,h2⟩:=List.mem_flatten.mp q;have h3:=(R.mem row h1 k h2).1;have h4:=(Z6.mp h3).2;rw [h] at h4;simp at h4
def mY {k:Nat} (hk:k < is.length) (h:¬ sv (is.map (shQ g)) k=0):k ∈ loose (is.map (shQ g)):=Z6.mpr ⟨Xw.mpr (by rw [Zd]; exact hk),by simp [h]⟩
def ql (R:Br g is a r qs) {k:Nat} (hk:k < is.length):(m5 g is r qs).getD k 0=bG is[k]+sg g (dI g is r qs k):=by
 have hsv:sv (is.map (shQ g)) k=shQ g is[k]:=get_map _ _ hk;have hwo:wo (is.map (dW g)) k=dW g is[k]:=get_map _ _ hk;have hbd:bd g is k=fC g is[k]:=get_map _ _ hk;unfold m5;rw [gU g is _ _ (by rw [Zd]; exact hk),get_map _ _ hk];unfold dI dq
 by_cases z:k ∈ qs.flatten
 ·rw [if_pos z,if_pos z]
  obtain ⟨row,h1,h2⟩:=List.mem_flatten.mp z;have h3:=(R.mem row h1 k h2).2;obtain ⟨v,ev⟩:=Yz.mp h3;have hv:wv (is.map (dW g)) k=v:=by unfold wv; rw [ev]; rfl
  rw [hwo] at ev;obtain ⟨b,e1,e2⟩:=lF ev;rw [hbd,e1,hv,Option.getD_some,<- e2];grind
 ·rw [if_neg z,if_neg z]
  unfold w0Q
  cases r with
  | none=>cases g <;> simp only [sg,if_true,Zv,Yp] <;> grind
  | some lam =>
   rw [hsv];cases g <;> simp only [sg,if_true,Zv,Yp] <;> grind
def wy (R:Br g is a r qs):bX (m5 g is r qs)=bX (is.map bG)+sg g (sm (dI g is r qs) (loose (is.map (shQ g)))):=by
 have e1:=qZ (λ j=>(is.map bG).getD j 0+sg g (dI g is r qs j)) (m5 g is r qs) λ j hj=>by
  rw [iG] at hj;rw [ql R hj,get_map _ _ hj]
 rw [iG,Ak,E5] at e1;have e2:=qZ (λ j=>(is.map bG).getD j 0) (is.map bG) λ j _=>rfl
 rw [Zd] at e2;rw [e1,<- e2];have sp:=gP (dI g is r qs) (λ j=>!decide (sv (is.map (shQ g)) j=0)) (List.range is.length)
 have ez:sm (dI g is r qs) ((List.range is.length).filter λ j=>!(!decide (sv (is.map (shQ g)) j=0)))=0:=uy λ j hj=>by
  have h:=(Z6.mp hj).2;have h0:sv (is.map (shQ g)) j=0:=by simpa using h
  unfold dI dq;rw [if_neg (og h0 R)]
  cases r with
  | none=>rfl
  | some lam=>show sv _ j * lam=0; rw [h0]; grind
 have el:loose (is.map (shQ g))=(List.range is.length).filter λ j=>!decide (sv (is.map (shQ g)) j=0):=by unfold loose; rw [Zd]
 rw [sp,ez,el];congr 2;grind
def wA (hp:∀ i ∈ is,0<=shQ g i) {room:Rat} (hn:room - bX (is.map bG)=sg g a) (ha:0 < a) (R:Br g is a r qs):(bX (m5 g is r qs)=room)↔r.isSome=true:=by
 have e:=wy R;have G:=rY hp ha
 cases r with
 | some lam =>
  have s:=R.Nh rfl G;refine ⟨λ _=>rfl,λ _=>?_⟩;rw [e];rw [<- s,<- hn];generalize bX (is.map bG)=x;grind
 | none =>
  refine ⟨λ h=>?_,λ h=>nomatch h⟩;exfalso;obtain ⟨n1,n2⟩:=R.none_ rfl G
  have c:sm (dI g is none qs) (loose (is.map (shQ g)))=sm (wv (is.map (dW g))) (loose (is.map (shQ g))):=gQ λ j hj=>by
   unfold dI dq;rw [if_pos (n1 j hj).2]
  rw [e,c] at h
  have h2:sg g a=sg g (sm (wv (is.map (dW g))) (loose (is.map (shQ g)))):=by
   rw [<- hn,<- h];generalize bX (is.map bG)=x;grind
  generalize sm (wv (is.map (dW g))) (loose (is.map (shQ g)))=y at *;cases g <;> simp only [sg,if_true,Zv,Yp] at h2 <;> grind
def zH (R:Br g is a r qs) {k:Nat} (hk:k < is.length) (h:shQ g is[k]=0):(m5 g is r qs).getD k 0=bG is[k]:=by
 have hsv:sv (is.map (shQ g)) k=shQ g is[k]:=get_map _ _ hk;rw [ql R hk]
 have:dI g is r qs k=0:=by
  unfold dI dq;rw [if_neg (og (by rw [hsv,h]) R)]
  cases r with
  | none=>rfl
  | some lam=>show sv _ k * lam=0; rw [hsv,h]; grind
 rw [this];cases g <;> simp only [sg,if_true,Zv,Yp] <;> grind
def wz (hp:∀ i ∈ is,0<=shQ g i) (ha:0 < a) {lam:Rat} (R:Br g is a (some lam) qs) {k:Nat} (hk:k < is.length) (h:¬ shQ g is[k]=0):0<=dI g is (some lam) qs k/\∀ v,dW g is[k]=some v->dI g is (some lam) qs k<=v:=by
 have hsv:sv (is.map (shQ g)) k=shQ g is[k]:=get_map _ _ hk;have hwo:wo (is.map (dW g)) k=dW g is[k]:=get_map _ _ hk
 have way0:∀ v,dW g is[k]=some v->0<=v:=λ v e=>by
  obtain ⟨b,_,rfl⟩:=Zm e;unfold pJ;split <;> grind
 obtain ⟨p1,_,p3⟩:=R.BR rfl (rY hp ha);obtain ⟨q1,q2⟩:=p3 k (mY hk (by rw [hsv]; exact h));unfold dI dq
 by_cases z:k ∈ qs.flatten
 ·rw [if_pos z]
  have h1:=(q1 z).1;rw [hwo] at h1;refine ⟨way0 _ h1,λ v e=>?_⟩;rw [h1] at e;cases e;exact Yh
 ·rw [if_neg z]
  have hb:=q2 z;refine ⟨?_,λ v e=>?_⟩
  ·show 0<=sv _ k * lam
   rw [hsv];exact Wq (hp _ (Z1 hk)) (Y6 p1)
  ·unfold dU at hb
   rw [hwo,e] at hb;have:=Y3 hb;exact W0.mp this
end
end DL
end
section
set_option exponentiation.threshold 5000
namespace N36
open PySem L2 PF
structure Zq (q:Rat):Prop where
 n:Sz q.num
 d:q.den<=2 ^ 1900
def HQ:2 ^ 1900 < 2 ^ 4000:=Wp (by decide) (by decide)
def Mp:2 ^ 1900 * 2 ^ 1900 < 2 ^ 4000:=by rw [<- Nat.pow_add]; exact Wp (by decide) (by decide)
def Zq.sz {q:Rat} (h:Zq q):SzQ q:=⟨h.n,by unfold Sz; rw [Y7]; exact Yv h.d HQ⟩
def Zq.dd {p q:Rat} (hp:Zq p) (hq:Zq q):Sz ((p.den:Int) * q.den):=by
 unfold Sz;rw [<- Xo,Y7];exact Yv (Nat.mul_le_mul hp.d hq.d) Mp
def Zq.bt {k l:Nat} {q:Rat} (h:DL.Bt k l q) (hk:k < 4000) (hl:l<=1900):Zq q :=
 ⟨MU.Sz.of2 h.n hk,Zc h.d (Yc (by decide) hl)⟩
def Zq.of {N M k m:Nat} {q:Rat} (h:In N M q) (hN:0 < N) (hb:N<=2 ^ k) (hM:M<=2 ^ m) (hk:m+k < 4000) (hl:k<=1900):Zq q:=Zq.bt (DL.Bt.of h hN hb hM) hk hl
def EC {i:Int} (h:i.natAbs<=2 ^ 1900):Zq (i:Rat):=⟨by rw [Rat.num_intCast]; exact Yv h HQ,by rw [Rat.den_intCast]; exact Nat.one_le_two_pow⟩
def fO {a b:Int} (hb:0 < b) (zb:Sz b):bh [.int a,.int b]=some (.shr (fr (Rat.divInt a b))):=by
 have hb0:b≠0:=by omega
 obtain ⟨r',e⟩:=rM _ _ rfl rfl (.shr (.int a)) (.shr (.int b)) (b.toNat+1) (a.natAbs:Int) b .no (by omega) (by omega) (by omega)
 have eg:Int.gcd (a.natAbs:Int) b=Int.gcd a b:=by
  unfold Int.gcd;rw [Y7]
 rw [eg] at e;have w:=eI e;have p:=S1.qj (a:=a) hb0;have zg:Sz ((Int.gcd a b:Nat):Int):=zb.of_le (S1.bV (Wm a b) hb0);have g0:((Int.gcd a b:Nat):Int)≠0:=by omega
 have L:=S1.G4 (a:=a) (b:=b) hb0 (g:=((Int.gcd a b:Nat):Int)) (by rw [if_neg (by omega)]);rw [<- rN L hb0];have e1:=tz (i:=a) g0 zg;have e2:=tz (i:=b) g0 zg;unfold bh fW;dsimp only;exact bj (az (aD (aU (ae (ag rfl) aq) (MU.abs_eq a))) (az (aD (ag rfl)) (az w (bz (a9 (ae (ar (ag rfl) (ag rfl) e1) (ae (ar (ag rfl) (ag rfl) e2) aq)) (Zb rfl))))))
def mS {p q:Rat} (zp:Zq p) (zq:Zq q):bC [fr p,fr q]=some (.shr (fr (p+q))):=by
 have dp:=den_pos p;have dq:=den_pos q;have sp:=zp.sz;have sq:=zq.sz
 have e:bh [.int (p.num * q.den+q.num * p.den),.int ((p.den:Int) * q.den)]=some (.shr (fr (p+q))):=by
  rw [fO (Y8 dp dq) (zp.dd zq)];rw [<- Xz _ _ (Z3 dp) (Z3 dq),Zk,Zk]
 unfold bC fV;dsimp only;exact bj (bz (aV (ae (ar (ar (ar (ag rfl) e_c (aN _ _)) (ar (ag rfl) e_c (aY _ _ _)) (bB sp.n sq.d)) (ar (ar (ag rfl) e_c (aN _ _)) (ar (ag rfl) e_c (aY _ _ _)) (bB sq.n sp.d)) rfl) (ae (ar (ar (ag rfl) e_c (aY _ _ _)) (ar (ag rfl) e_c (aY _ _ _)) (bB sp.d sq.d)) aq)) e rfl))
def jV {p q:Rat} (zp:Zq p) (zq:Zq q):cF [fr p,fr q]=some (.shr (fr (p - q))):=by
 have dp:=den_pos p;have dq:=den_pos q;have sp:=zp.sz;have sq:=zq.sz
 have e:bh [.int (p.num * q.den - q.num * p.den),.int ((p.den:Int) * q.den)]=some (.shr (fr (p - q))):=by
  rw [fO (Y8 dp dq) (zp.dd zq),MU.BP]
 unfold cF gG;dsimp only;exact bj (bz (aV (ae (ar (ar (ar (ag rfl) e_c (aN _ _)) (ar (ag rfl) e_c (aY _ _ _)) (bB sp.n sq.d)) (ar (ar (ag rfl) e_c (aN _ _)) (ar (ag rfl) e_c (aY _ _ _)) (bB sq.n sp.d)) rfl) (ae (ar (ar (ag rfl) e_c (aY _ _ _)) (ar (ag rfl) e_c (aY _ _ _)) (bB sp.d sq.d)) aq)) e rfl))
def gx {p q:Rat} (zp:Zq p) (zq:Zq q):a7 [fr p,fr q]=some (.shr (fr (p * q))):=by
 have dp:=den_pos p;have dq:=den_pos q;have sp:=zp.sz;have sq:=zq.sz
 have e:bh [.int (p.num * q.num),.int ((p.den:Int) * q.den)]=some (.shr (fr (p * q))):=by
  rw [fO (Y8 dp dq) (zp.dd zq),<- Yk,Zk,Zk]
 unfold a7 gE;dsimp only;exact bj (bz (aV (ae (ar (ar (ag rfl) e_c (aN _ _)) (ar (ag rfl) e_c (aN _ _)) (bB sp.n sq.n)) (ae (ar (ar (ag rfl) e_c (aY _ _ _)) (ar (ag rfl) e_c (aY _ _ _)) (bB sp.d sq.d)) aq)) e rfl))
def iu {p q:Rat} (zp:Zq p) (zq:Zq q):aZ [fr p,fr q]=some (.shr (.bl (decide (p < q)))):=by
 have sp:=zp.sz;have sq:=zq.sz;unfold aZ gD;dsimp only;refine bj (bz (ar (ar (ar (ag rfl) e_c (aN _ _)) (ar (ag rfl) e_c (aY _ _ _)) (bB sp.n sq.d)) (ar (ar (ag rfl) e_c (aN _ _)) (ar (ag rfl) e_c (aY _ _ _)) (bB sq.n sp.d)) ?_));show some (D.bl (decide (p.num * q.den < q.num * p.den)))=_;rw [show decide (p.num * q.den < q.num * p.den)=decide (p < q) from by rw [Xe,Rat.lt_iff]]
def lsum {qs:List Rat} (h1:∀ q ∈ qs,Zq q) (h2:∀ i,i<=qs.length->Zq (bX (qs.take i))):jP [.lst (PF.frs qs)]=some (.shr (fr (bX qs))):=by
 obtain ⟨τ',e1,x2,rfl⟩:=cM (f:=bA 1 (dFn bC (ah (ao 1) (ah (ao 2) aC)))) (gg:=gN 2) (it:=d7 (ao 0)) (τ:=[.shr (.lst (PF.frs qs)),.shr (fr 0),.no])
  (λ j τ=>∃ x2,τ=[.shr (.lst (PF.frs qs)),.shr (fr (bX (qs.take j))),x2]) (dO (ag rfl)) ⟨.no,rfl⟩ (by
    rintro j d τ hd ⟨x2,rfl⟩
    obtain ⟨q,hq,rfl⟩:=iE hd;have hj:j < qs.length:=(List.getElem?_eq_some_iff.mp hq).1;have s:=mS (h2 j (by omega)) (h1 q (List.mem_of_getElem? hq));rw [<- iY hq] at s
    exact ⟨_,_,rfl,aD (aV (ae (ag rfl) (ae (ag rfl) aq)) s rfl),_,rfl⟩)
 rw [cA,Ym] at e1;unfold jP jN;dsimp only;exact bj (az (aD (a9 (ae e_c (ae e_c aq)) (Zb rfl))) (az e1 (bz (ag rfl))))
def fQ (qs:List Rat):d6 [.lst (PF.frs qs)]=some (.int (qs.length:Int)):=by
 show some (D.int ((PF.frs qs).length:Nat))=_;rw [cA]
def Hb {qs:List Rat} {g:Rat} (hl:qs.length<=1000) (h1:∀ q ∈ qs,Zq q) (h2:∀ i,i<=qs.length->Zq (bX (qs.take i))) (hg:Zq g) (hm:Zq (g * (((qs.length - 1:Nat):Int):Rat))):cS [.lst (PF.frs qs),fr g]=some (.shr (fr (cm g qs))):=by
 unfold cS iN cm;dsimp only
 by_cases z:qs=[]
 ·subst z
  rw [if_pos rfl];exact bj (cJ (ax (ar (ag rfl) (cB aq (Zs _)) (eq_nil []))) (bz (a9 (ae e_c (ae e_c aq)) (Zb rfl))))
 ·have lp:0 < qs.length:=X9.mpr z
  rw [if_neg z];have e1:(qs.length:Int) - 1=((qs.length - 1:Nat):Int):=by omega
  have zl:Zq ((((qs.length - 1:Nat):Int)):Rat):=EC (by rw [Y7]; exact Zc (show qs.length - 1<=1000 by omega) (Zc (show 1000<=2 ^ 10 by decide) (Yc (by decide) (by decide))));have ti:=gx hg zl;have hs:=h2 qs.length (Ze _);rw [Ym] at hs;have pl:=mS hs hm;have ti':a7 [fr g,.tup [.int ((qs.length:Int) - 1),.int 1]]=some (.shr (fr (g * (((qs.length - 1:Nat):Int):Rat)))):=by rw [e1]; exact ti
  exact bj (aR (ax (ar (ag rfl) (cB aq (Zs _)) (by rw [eq_nil,Za z]))) (bz (aV (ae (aV (ae (ag rfl) aq) (lsum h1 h2) rfl) (ae (aV (ae (ag rfl) (ae (a9 (ae (ar (aU (ae (ag rfl) aq) (fQ qs)) e_c rfl) (ae e_c aq)) (Zb rfl)) aq)) ti' rfl) aq)) pl rfl)))
end N36
end
section
set_option exponentiation.threshold 5000
namespace N36
open PySem L2 PF MU DL
def rX {N M a b:Nat} {p q:Rat} (hN:0 < N) (hM:0 < M) (hp:In N a p) (hq:In M b q) (p0:0<=p) (q0:0<=q):In (N * M) (a * b) (p * q):=by
 obtain ⟨x,ex⟩:=fm hN hp.dv;obtain ⟨y,ey⟩:=fm hM hq.dv
 have e:p * q=Rat.divInt (x * y) ((N * M:Nat):Int):=by
  rw [ex,ey,Yk,Xo]
 have n0:0<=p * q:=Wq p0 q0;have h1:p * q<=p * (b:Rat):=Xj hq.hi p0;have hb:(0:Rat)<=(b:Rat):=Rat.natCast_nonneg;have h2:p * (b:Rat)<=(a:Rat) * (b:Rat):=Xd hp.hi hb;have e2:((a * b:Nat):Rat)=(a:Rat) * (b:Rat):=Rat.natCast_mul _ _;have nn:(0:Rat)<=((a * b:Nat):Rat):=Rat.natCast_nonneg;refine ⟨g8 (Xi hN hM) e,?_,?_⟩
 ·generalize ((a * b:Nat):Rat)=z at *
  grind
 · rw [e2]; exact Wf h1 h2
def v8 {q:Rat} {M:Nat} (q0:0<=q) (h:q.num.natAbs<=M):In q.den M q:=by
 have hd:=den_pos q;have hn:=Xb.mpr q0;refine ⟨Ww _,?_,?_⟩
 ·have:(0:Rat)<=((M:Nat):Rat):=Rat.natCast_nonneg
  generalize ((M:Nat):Rat)=z at *;grind
 ·rw [Rat.le_iff]
  simp only [Rat.num_natCast,Rat.den_natCast];have t:(M:Int) * 1<=(M:Int) * q.den:=Wb (by omega) (by omega);rw [show ((1:Nat):Int)=1 from rfl];generalize (M:Int) * q.den=y at *;omega
structure Wd (K:Nat) (W:List Rat):Prop where
 k0:0 < K
 kb:K<=2 ^ 1740
 is:∀ q ∈ W,In K (2 ^ 1060) q
section
variable {N:Nat} {S:Bool->Nat} {is:List Item} {room a:Rat} {g:Bool} {r:Option Rat} {qs:List (List Nat)}
def EU (D:iX N S is room):Wd N (is.map bG):=⟨D.n0,Zc D.nb (by decide +kernel),λ q hq=>by
 obtain ⟨i,hi,rfl⟩:=Yw.mp hq
 exact (D.beg hi).mono (by decide +kernel)⟩
def mem_getD {W:List Rat} {q:Rat} (h:q ∈ W):∃ j,j < W.length/\W.getD j 0=q:=by
 obtain ⟨j,hj,e⟩:=List.mem_iff_getElem.mp h;exact ⟨j,hj,by rw [List.getD_eq_getElem?_getD,List.getElem?_eq_getElem hj,e]; rfl⟩
def ET (D:iX N S is room) (ha:0 < a) (R:Br g is a r qs) (hlam:∀ lam,r=some lam->Bt 950 940 lam):∃ K,N ∣ K/\Wd K (m5 g is r qs):=by
 have hp:∀ i ∈ is,0<=shQ g i:=λ i hi=>(D.share g hi).2
 have bd_:∀ {k:Nat} (hk:k < is.length),k ∈ qs.flatten->∃ b,(m5 g is r qs).getD k 0=b/\In N (10 ^ 32) b:=λ {k} hk z=>by
  have hbd:bd g is k=fC g is[k]:=get_map _ _ hk;have hwo:wo (is.map (dW g)) k=dW g is[k]:=get_map _ _ hk;obtain ⟨row,h1,h2⟩:=List.mem_flatten.mp z;have h3:=(R.mem row h1 k h2).2;obtain ⟨v,ev⟩:=Yz.mp h3;rw [hwo] at ev;obtain ⟨b,e1,e2⟩:=lF ev;refine ⟨b,?_,D.bnd (Z1 hk) e1⟩;unfold m5;rw [gU g is _ _ (by rw [Zd]; exact hk),if_pos z,hbd,e1];rfl
 have nb_:∀ {k:Nat} (hk:k < is.length),k ∉ qs.flatten->(m5 g is r qs).getD k 0=w0Q g r is[k]:=λ {k} hk z=>by
  unfold m5;rw [gU g is _ _ (by rw [Zd]; exact hk),if_neg z,get_map _ _ hk]
 cases r with
 | none =>
  refine ⟨N,Ww _,D.n0,Zc D.nb (by decide +kernel),λ q hq=>?_⟩;obtain ⟨k,hk,rfl⟩:=mem_getD hq;rw [iG] at hk
  by_cases z:k ∈ qs.flatten
  ·obtain ⟨b,e,ib⟩:=bd_ hk z
   rw [e];exact ib.mono (by decide +kernel)
  ·rw [nb_ hk z]
   exact (D.beg (Z1 hk)).mono (by decide +kernel)
 | some lam =>
  have bl:=hlam lam rfl;have lp:=(R.BR rfl (rY hp ha)).1;have il:=v8 (M:=2 ^ 950) (Y6 lp) bl.n;have hK:0 < N * (S g * lam.den):=Xi D.n0 (Xi (D.s0 g) lam.den_pos);have dN:N ∣ N * (S g * lam.den):=Yb _ _;refine ⟨N * (S g * lam.den),dN,hK,?_,λ q hq=>?_⟩
  ·have h1:=cN (k:=200) (l:=940) (D.sb g) bl.d
   exact Zc (cN (k:=600) (l:=200+940) D.nb h1) (by decide +kernel)
  ·obtain ⟨k,hk,rfl⟩:=mem_getD hq
   rw [iG] at hk
   by_cases z:k ∈ qs.flatten
   ·obtain ⟨b,e,ib⟩:=bd_ hk z
    rw [e];exact (gc ib (Yg ib.dv dN)).mono (by decide +kernel)
   ·rw [nb_ hk z]
    have ib:=D.beg (Z1 hk);have ib':=gc ib (Yg ib.dv dN);have im:=rX (D.s0 g) lam.den_pos (D.share g (Z1 hk)).1 il (D.share g (Z1 hk)).2 (Y6 lp);have im':=gc im (Yg im.dv (Yn _ N));unfold w0Q
    cases g with
    | true=>exact (ib'.add hK im').mono (by decide +kernel)
    | false=>exact (ib'.sub hK im').mono (by decide +kernel)
end
def Wd.zq {K:Nat} {W:List Rat} (h:Wd K W) {q:Rat} (hq:q ∈ W):Zq q:=Zq.of (m:=1060) (k:=1740) (h.is q hq) h.k0 h.kb (Ze _) (by decide) (by decide)
def Wd.BO {K:Nat} {W:List Rat} (h:Wd K W) (few:W.length<=30) {i:Nat} (hi:i<=W.length):In K (2 ^ 1066) (bX (W.take i)):=by
 have s:=In.sum h.k0 h.is i hi;exact s.mono (Zc (Zn _ (show i<=30 by omega)) (by decide +kernel))
def Wd.Ie {K:Nat} {W:List Rat} (h:Wd K W) (few:W.length<=30) {i:Nat} (hi:i<=W.length):Zq (bX (W.take i)):=Zq.of (m:=1066) (k:=1740) (h.BO few hi) h.k0 h.kb (Ze _) (by decide) (by decide)
def Bm {a b c d:Nat} {p q:Rat} (hp:Bt a b p) (hq:Bt c d q):Bt (a+c) (b+d) (p * q):=by
 have e1:p * q=Rat.divInt (p.num * q.num) (p.den * q.den):=by
  rw [<- Yk,Zk,Zk]
 have d0:(p.den:Int) * q.den≠0:=Z3 (Y8 (den_pos _) (den_pos _));have Lw:S1.Low (p * q).num (p * q).den (p.num * q.num) ((p.den:Int) * q.den):=by rw [e1]; exact ⟨den_pos _,Rat.reduced _,jW _ d0⟩
 have n1:(p.num * q.num).natAbs<=2 ^ (a+c):=by rw [Z9]; exact cN hp.n hq.n
 have n2:((p.den:Int) * q.den).natAbs<=2 ^ (b+d):=by rw [Z9]; exact cN hp.d hq.d
 have x:=Lw.sF d0;exact ⟨Zc (Lw.rJ d0) n1,by rw [Y7] at x; exact Zc x n2⟩
def kX {w:Rat} (hw:0 < w):(w⁻¹).num=w.den/\((w⁻¹).den:Int)=w.num:=by
 have e:=rW hw;unfold PF.fr at e;injection e with e
 injection e with e1 e2
 injection e2 with e2 _
 injection e1 with e1
 injection e2 with e2
 exact ⟨e1.symm,e2.symm⟩
def Bn {a b:Nat} {w:Rat} (hw:0 < w) (h:Bt a b w):Bt b a w⁻¹:=by
 obtain ⟨e1,e2⟩:=kX hw;refine ⟨by rw [e1,Y7]; exact h.d,?_⟩;have:=h.n;omega
def xD {a b c d:Nat} {q:Rat} (h:Bt a b q) (h1:a<=c) (h2:b<=d):Bt c d q:=⟨Zc h.n (Yc (by decide) h1),Zc h.d (Yc (by decide) h2)⟩
def BU (g:Bool) (x:Rat):sg g (sg g x)=x:=by cases g <;> simp only [sg,if_true,Zv,Yp] <;> grind
def gn (g:Bool) (is:List Item) (W:List Rat) (k:Nat) (hk:k < is.length):Rat:=sg g (W.getD k 0 - bG is[k])
structure Lv (g:Bool) (is:List Item) (W:List Rat) (r:Option Rat) (inner:Rat):Prop where
 len:W.length=is.length
 sU:∀ k (hk:k < is.length),shQ g is[k]=0->gn g is W k hk=0
 nn:∀ k (hk:k < is.length),0<=gn g is W k hk
 le:∀ k (hk:k < is.length),∀ v,dW g is[k]=some v->gn g is W k hk<=v
 top:∀ lam,r=some lam->∀ k (hk:k < is.length),gn g is W k hk<=shQ g is[k] * lam
 or_:∀ k (hk:k < is.length),¬ shQ g is[k]=0->dW g is[k]=some (gn g is W k hk)\/∃ lam,r=some lam/\gn g is W k hk=shQ g is[k] * lam
 l0:∀ lam,r=some lam->0<=lam/\Bt 950 940 lam
 full:r.isSome=true->bX W=inner
 none_:r=none->0 < sg g (inner - bX W)
def nH {g:Bool} {i:Item} {v:Rat} (e:dW g i=some v):0<=v:=by
 unfold dW at e;obtain ⟨b,_,rfl⟩:=Zm e;unfold pJ;split <;> grind
def Dp {is:List Item} {inner:Rat} (h:inner - bX (is.map bG)=0):Lv false is (is.map bG) (some 0) inner:=by
 have g0:∀ k (hk:k < is.length),gn false is (is.map bG) k hk=0:=λ k hk=>by
  unfold gn;rw [get_map _ _ hk];simp only [sg,Zv,Yp];grind
 refine ⟨Zd _,λ k hk _=>g0 k hk,λ k hk=>by rw [g0 k hk]; exact Yh,λ k hk v e=>by rw [g0 k hk]; exact nH e,λ lam e k hk=>?_,λ k hk _=>.inr ⟨0,rfl,?_⟩,λ lam e=>?_,λ _=>by grind,λ e=>nomatch e⟩
 · cases e; rw [g0 k hk]; grind
 · rw [g0 k hk]; grind
 ·cases e
  exact ⟨Yh,⟨by decide +kernel,by decide +kernel⟩⟩
section
variable {is:List Item} {g:Bool} {r:Option Rat} {qs:List (List Nat)} {a inner:Rat}
def G0 (hp:∀ i ∈ is,0<=shQ g i) (ha:0 < a) (hn:inner - bX (is.map bG)=sg g a) (R:Br g is a r qs) (hlam:∀ lam,r=some lam->Bt 950 940 lam):Lv g is (m5 g is r qs) r inner:=by
 have gd:∀ k (hk:k < is.length),gn g is (m5 g is r qs) k hk=dI g is r qs k:=λ k hk=>by
  unfold gn;rw [ql R hk];have:bG is[k]+sg g (dI g is r qs k) - bG is[k]=sg g (dI g is r qs k):=by grind
  rw [this,BU]
 have st:∀ k (hk:k < is.length),shQ g is[k]=0->gn g is (m5 g is r qs) k hk=0:=λ k hk h=>by
  unfold gn;rw [zH R hk h];cases g <;> simp only [sg,if_true,Zv,Yp] <;> grind
 have G:=rY hp ha;have ff:=wA hp hn ha R
 cases r with
 | some lam =>
  obtain ⟨p1,_,p3⟩:=R.BR rfl G
  have main:∀ k (hk:k < is.length),¬ shQ g is[k]=0->(0<=dI g is (some lam) qs k/\∀ v,dW g is[k]=some v->dI g is (some lam) qs k<=v)/\dI g is (some lam) qs k<=shQ g is[k] * lam/\(dW g is[k]=some (dI g is (some lam) qs k)\/dI g is (some lam) qs k=shQ g is[k] * lam):=λ k hk h=>by
   refine ⟨wz hp ha R hk h,?_⟩;have hsv:sv (is.map (shQ g)) k=shQ g is[k]:=get_map _ _ hk;have hwo:wo (is.map (dW g)) k=dW g is[k]:=get_map _ _ hk;obtain ⟨q1,q2⟩:=p3 k (mY hk (by rw [hsv]; exact h));unfold dI dq
   by_cases z:k ∈ qs.flatten
   ·rw [if_pos z]
    obtain ⟨a1,a2⟩:=q1 z;rw [hwo] at a1;rw [hsv] at a2;exact ⟨Y6 a2,.inl a1⟩
   ·rw [if_neg z]
    show sv _ k * lam<=_/\(_\/sv _ k * lam=_);rw [hsv];exact ⟨Yh,.inr rfl⟩
  refine ⟨iG _ _ _ _,st,λ k hk=>?_,λ k hk v e=>?_,λ lam' e k hk=>?_,λ k hk h=>?_,λ lam' e=>?_,λ _=>ff.mpr rfl,λ e=>nomatch e⟩
  ·by_cases h:shQ g is[k]=0
   · rw [st k hk h]; exact Yh
   · rw [gd]; exact (main k hk h).1.1
  ·by_cases h:shQ g is[k]=0
   · rw [st k hk h]; exact nH e
   · rw [gd]; exact (main k hk h).1.2 v e
  ·cases e
   by_cases h:shQ g is[k]=0
   · rw [st k hk h,h]; grind
   · rw [gd]; exact (main k hk h).2.1
  ·rw [gd]
   rcases (main k hk h).2.2 with q | q
   · exact .inl q
   · exact .inr ⟨lam,rfl,q⟩
  ·cases e
   exact ⟨Y6 p1,hlam lam rfl⟩
 | none =>
  obtain ⟨n1,n2⟩:=R.none_ rfl G
  have main:∀ k (hk:k < is.length),¬ shQ g is[k]=0->dW g is[k]=some (dI g is none qs k):=λ k hk h=>by
   have hsv:sv (is.map (shQ g)) k=shQ g is[k]:=get_map _ _ hk;have hwo:wo (is.map (dW g)) k=dW g is[k]:=get_map _ _ hk;obtain ⟨h1,h2⟩:=n1 k (mY hk (by rw [hsv]; exact h));unfold dI dq;rw [if_pos h2,<- hwo];exact h1
  refine ⟨iG _ _ _ _,st,λ k hk=>?_,λ k hk v e=>?_,λ lam' e k hk=>(nomatch e),λ k hk h=>?_,λ lam' e=>(nomatch e),λ e=>(nomatch e),λ _=>?_⟩
  ·by_cases h:shQ g is[k]=0
   · rw [st k hk h]; exact Yh
   · rw [gd]; exact nH (main k hk h)
  ·by_cases h:shQ g is[k]=0
   · rw [st k hk h]; exact nH e
   ·rw [gd]
    have m:=main k hk h;rw [e] at m;cases m;exact Yh
  ·rw [gd]
   exact .inl (main k hk h)
  ·have e:=wy R
   have c:sm (dI g is none qs) (loose (is.map (shQ g)))=sm (wv (is.map (dW g))) (loose (is.map (shQ g))):=gQ λ j hj=>by
    unfold dI dq;rw [if_pos (n1 j hj).2]
   rw [c] at e;generalize sm (wv (is.map (dW g))) (loose (is.map (shQ g)))=y at *;generalize bX (m5 g is none qs)=z at *;generalize bX (is.map bG)=x at *;cases g <;> simp only [sg,if_true,Zv,Yp] at * <;> grind
end
def liD (i:Item):D:=.tup [PF.fr (bG i),PF.fr i.least,mD (oj i),PF.fr i.grow,PF.fr i.shrink]
def l0 (i:Item):oIx (liD i) (.int 0)=some (PF.fr (bG i)):=rfl
def l1 (i:Item):oIx (liD i) (.int 1)=some (PF.fr i.least):=rfl
def l2 (i:Item):oIx (liD i) (.int 2)=some (mD (oj i)):=rfl
def l3 (i:Item):oIx (liD i) (.int 3)=some (PF.fr i.grow):=rfl
def l4 (i:Item):oIx (liD i) (.int 4)=some (PF.fr i.shrink):=rfl
def zip_get {as bs:List D} {j:Nat} {d:D} (h:(t7 as bs)[j]?=some d):∃ x y,as[j]?=some x/\bs[j]?=some y/\d=.tup [x,y]:=by
 unfold t7 at h;rw [List.getElem?_map] at h
 cases e:(as.zip bs)[j]? with
 | none=>rw [e] at h; cases h
 | some p =>
  rw [e] at h;obtain ⟨h1,h2⟩:=List.getElem?_zip_eq_some.mp e;exact ⟨_,_,h1,h2,(Zj h).symm⟩
def Bz (as bs:List D):(t7 as bs).length=min as.length bs.length:=by unfold t7; rw [Zd,List.length_zip]
def dt (q:Rat):decide (0 < q.num)=decide (0 < q):=by
 rw [Xe];refine ⟨λ h=>?_,jA⟩;refine Rat.not_le.mp λ c=>?_
 have:0<=(-q).num:=Xb.mpr (by grind);have e:(-q).num=-q.num:=rfl;omega
def iB (q:Rat):decide (q.num < 0)=decide (q < 0):=by
 rw [Xe];refine ⟨λ h=>?_,p6⟩;refine Rat.not_le.mp λ c=>?_
 have:0<=q.num:=Xb.mpr c;omega
def jT (q:Rat):decide (q.num=0)=decide (q=0):=by
 rw [Xe];exact Rat.num_eq_zero
def rS {is:List Item} {f:Item->D} {j:Nat} {x:D} (h:(is.map f)[j]?=some x):∃ hj:j < is.length,x=f is[j]:=by
 rw [List.getElem?_map] at h
 cases e:is[j]? with
 | none=>rw [e] at h; cases h
 | some i =>
  rw [e] at h;obtain ⟨hj,ei⟩:=List.getElem?_eq_some_iff.mp e;exact ⟨hj,by rw [ei]; exact (Zj h).symm⟩
def wq {W:List Rat} {j:Nat} {q:Rat} (h:W[j]?=some q):W.getD j 0=q:=by rw [List.getD_eq_getElem?_getD,h]; rfl
end N36
end
section
set_option exponentiation.threshold 5000
namespace N36
open PySem L2 PF MU DL
section
variable {N K:Nat} {S:Bool->Nat} {is:List Item} {inner:Rat} {g:Bool} {r:Option Rat} {W:List Rat}
def HN (D:iX N S is inner) {i:Item} (h:i ∈ is):Zq (bG i):=Zq.bt (D.sz (D.beg h)) (by decide) (by decide)
def Nm (D:iX N S is inner) {i:Item} (h:i ∈ is):Zq (shQ g i):=Zq.bt (D.ssz (D.share g h).1) (by decide) (by decide)
def Mn (D:iX N S is inner) {i:Item} (h:i ∈ is) {b:Rat} (e:fC g i=some b):Zq b:=Zq.bt (D.sz (D.bnd h e)) (by decide) (by decide)
def DP (D:iX N S is inner) (V:Lv g is W r inner) (w:Wd K W) (dN:N ∣ K) {k:Nat} (hk:k < is.length):In K (2 ^ 1061) (W.getD k 0 - bG is[k]):=by
 have hk':k < W.length:=by rw [V.len]; exact hk
 have m:W.getD k 0 ∈ W:=by
  rw [List.getD_eq_getElem?_getD,List.getElem?_eq_getElem hk'];exact Z1 _
 have ib:=D.beg (Z1 hk);exact ((w.is _ m).sub w.k0 (gc ib (Yg ib.dv dN))).mono (by decide +kernel)
def rm (D:iX N S is inner) (V:Lv g is W r inner) {k:Nat} (hk:k < is.length) (h:0 < shQ g is[k]):Bt 950 940 (gn g is W k hk * (shQ g is[k])⁻¹):=by
 have h0:¬ shQ g is[k]=0:=by grind
 rcases V.or_ k hk h0 with e | ⟨lam,e,q⟩
 ·have L:=D.lim g
  have hwo:wo (is.map (dW g)) k=dW g is[k]:=get_map _ _ hk;rw [<- hwo] at e;have bv:=L.bw e;have bs:=Bn h (D.ssz (D.share g (Z1 hk)).1);exact xD (Bm bv bs) (by decide) (by decide)
 ·rw [q]
  have:shQ g is[k] * lam * (shQ g is[k])⁻¹=lam:=by
   rw [Rat.mul_comm (shQ g is[k]) lam,Rat.mul_assoc,Rat.mul_inv_cancel _ h0,Rat.mul_one]
  rw [this];exact (V.l0 lam e).2
def nS {x s:Rat} (h:0 < s):x * s⁻¹ * s=x:=by
 have h0:¬ s=0:=by grind
 rw [Rat.mul_assoc,Rat.inv_mul_cancel _ h0,Rat.mul_one]
def uA {τ:List Sl} {i v:Nat} {it:Item} (h1:τ[i]?=some (.shr (.bl g))) (h2:τ[v]?=some (.shr (liD it))):dIf (dT (ao i)) (dOp oIx (ao v) (dC (.int 3))) (dOp oIx (ao v) (dC (.int 4))) τ=some (PF.fr (shQ g it)):=by
 refine sA (b:=g) (ax (ag h1)) (λ h=>?_) (λ h=>?_)
 · rw [h]; exact ar (ag h2) e_c (l3 it)
 · rw [h]; exact ar (ag h2) e_c (l4 it)
structure Top (g:Bool) (is:List Item) (W:List Rat) (j:Nat) (L:Rat):Prop where
 nn:0<=L
 bt:Bt 950 940 L
 ge:∀ k (hk:k < is.length),k < j->gn g is W k hk<=shQ g is[k] * L
 is_:L=0\/∃ k,∃ hk:k < is.length,0 < shQ g is[k]/\gn g is W k hk=shQ g is[k] * L
def G7 (D:iX N S is inner) (V:Lv g is W r inner) (w:Wd K W) (dN:N ∣ K):∃ L,gM [.lst (is.map liD),.lst (PF.frs W),.bl g]=some (.shr (PF.fr L))/\Top g is W is.length L:=by
 obtain ⟨τ',e1,L,x4,x5,x6,x7,T,rfl⟩:=cM (f:=aL (bA 6 (dIf (dT (ao 2)) (dOp oIx (ao 4) (dC (.int 3))) (dOp oIx (ao 4) (dC (.int 4)))))
  (aL (bA 7 (dFn cF (ah (ao 5) (ah (dOp oIx (ao 4) (dC (.int 0))) aC))))
  (aL (sIf (nj (dT (ao 2))) (bA 7 (cY (ah (dUn ju (dOp oIx (ao 7) (dC (.int 0)))) (ah (dOp oIx (ao 7) (dC (.int 1))) aC)))) bg)
  (sIf (fE (dT (dOp oGt (dOp oIx (ao 6) (dC (.int 0))) (dC (.int 0)))) (dT (dFn aZ (ah (ao 3) (ah (dFn a7 (ah (ao 7) (ah (cY (ah (dOp oIx (ao 6) (dC (.int 1))) (ah (dOp oIx (ao 6) (dC (.int 0))) aC))) aC))) aC))))) (bA 3 (dFn a7 (ah (ao 7) (ah (cY (ah (dOp oIx (ao 6) (dC (.int 1))) (ah (dOp oIx (ao 6) (dC (.int 0))) aC))) aC)))) bg))))
  (gg:=gT 2 (k6 (gN 4) (k6 (gN 5) wm))) (it:=l5 (ah (ao 0) (ah (ao 1) aC)))
  (τ:=[.shr (.lst (is.map liD)),.shr (.lst (PF.frs W)),.shr (.bl g),.shr (PF.fr 0),.no,.no,.no,.no])
  (λ j τ=>∃ (L:Rat) (x4 x5 x6 x7:Sl),Top g is W j L/\τ=[.shr (.lst (is.map liD)),.shr (.lst (PF.frs W)),.shr (.bl g),.shr (PF.fr L),x4,x5,x6,x7])
  (zy (ae (ag rfl) (ae (ag rfl) aq))) ⟨0,.no,.no,.no,.no,⟨Yh,⟨by decide +kernel,by decide +kernel⟩,λ k hk h=>by omega,.inl rfl⟩,rfl⟩ (by
    rintro j d τ hd ⟨L,x4,x5,x6,x7,T,rfl⟩
    obtain ⟨x,y,hx,hy,rfl⟩:=zip_get hd;obtain ⟨hj,rfl⟩:=rS hx;obtain ⟨q,hq,rfl⟩:=iE hy;have hW:=wq hq;have zb:=HN D (Z1 hj);have zW:Zq q:=w.zq (List.mem_of_getElem? hq);have ig:=DP D V w dN hj;have zg0:=Zq.of ig w.k0 w.kb (Ze _) (by decide) (by decide);rw [hW] at zg0;have em:=jV zW zb;have egn:gn g is W j hj=sg g (q - bG is[j]):=by unfold gn; rw [hW]
    have zg:Zq (gn g is W j hj):=by
     rw [egn];cases g
     · exact ⟨zg0.n.neg,zg0.d⟩
     · exact zg0
    refine ⟨_,[.shr (.lst (is.map liD)),.shr (.lst (PF.frs W)),.shr (.bl g),.shr (PF.fr (if 0 < shQ g is[j]/\L < gn g is W j hj * (shQ g is[j])⁻¹ then gn g is W j hj * (shQ g is[j])⁻¹ else L)),.shr (liD is[j]),.shr (PF.fr q),.shr (PF.fr (shQ g is[j])),.shr (PF.fr (gn g is W j hj))],rfl,?_,_,_,_,_,_,?_,rfl⟩
    ·refine az (aD (uA rfl rfl)) ?_
     refine az (aD (aV (ae (ag rfl) (ae (ar (ag rfl) e_c (l0 _)) aq)) em rfl)) ?_
     refine az (τ':=[.shr (.lst (is.map liD)),.shr (.lst (PF.frs W)),.shr (.bl g),.shr (PF.fr L),.shr (liD is[j]),.shr (PF.fr q),.shr (PF.fr (shQ g is[j])),.shr (PF.fr (gn g is W j hj))]) ?_ ?_
     ·rw [egn]
      refine fh (b:=!g) (gh (ax (ag rfl))) (λ h=>?_) (λ h=>?_)
      ·have hg:g=false:=by simpa using h
       rw [hg];exact aD (d:=PF.fr (-(q - bG is[j]))) (a9 (xs:=[.int (-(q - bG is[j]).num),.int (q - bG is[j]).den]) (ae (wO (ar (ag rfl) e_c (aN _ _)) rfl) (ae (ar (ag rfl) e_c (aY _ _ _)) aq)) (Zb rfl))
      ·have hg:g=true:=by simpa using h
       rw [hg];rfl
     ·have p0:=dt (shQ g is[j])
      have eg:oGt (.int (shQ g is[j]).num) (.int 0)=some (.bl (decide (0 < shQ g is[j]))):=by
       show some (L2.D.bl (decide (0 < (shQ g is[j]).num)))=_;rw [p0]
      by_cases h:0 < shQ g is[j]
      ·rw [Zh h] at eg
       have br:=rm D V hj h;have zi:Zq (shQ g is[j])⁻¹:=Zq.bt (Bn h (D.ssz (D.share g (Z1 hj)).1)) (by decide) (by decide);have et:=gx zg zi;rw [<- rW h] at et;have eu:=iu (Zq.bt T.bt (by decide) (by decide)) (Zq.bt br (by decide) (by decide));refine fh (b:=decide (L < gn g is W j hj * (shQ g is[j])⁻¹)) (de (b:=true) (ax (ar (ar (ag rfl) e_c (aN _ _)) e_c eg)) (λ _=>ax (aV (ae (ag rfl) (ae (aV (ae (ag rfl) (ae (a9 (ae (ar (ag rfl) e_c (aY _ _ _)) (ae (ar (ag rfl) e_c (aN _ _)) aq)) (Zb rfl)) aq)) et rfl) aq)) eu rfl)) nofun) (λ q=>?_) (λ q=>?_)
       ·rw [if_pos ⟨h,Zx q⟩]
        exact aD (aV (ae (ag rfl) (ae (a9 (ae (ar (ag rfl) e_c (aY _ _ _)) (ae (ar (ag rfl) e_c (aN _ _)) aq)) (Zb rfl)) aq)) et rfl)
       ·rw [if_neg (λ x=>Y3 q x.2)]
        rfl
      ·rw [Za h] at eg
       rw [if_neg (λ x=>h x.1)];exact fh (b:=false) (de (b:=false) (ax (ar (ar (ag rfl) e_c (aN _ _)) e_c eg)) nofun (λ _=>rfl)) nofun (λ _=>rfl)
    ·have hnn:=V.nn j hj
     have hs0:=(D.share g (Z1 hj)).2
     by_cases h:0 < shQ g is[j]/\L < gn g is W j hj * (shQ g is[j])⁻¹
     ·rw [if_pos h]
      have em2:shQ g is[j] * (gn g is W j hj * (shQ g is[j])⁻¹)=gn g is W j hj:=by rw [Rat.mul_comm]; exact nS h.1
      refine ⟨Wf T.nn (Y6 h.2),rm D V hj h.1,λ k hk hkj=>?_,.inr ⟨j,hj,h.1,em2.symm⟩⟩
      by_cases e:k=j
      ·subst e
       rw [em2];exact Yh
      · exact Wf (T.ge k hk (by omega)) (Xj (Y6 h.2) (D.share g (Z1 hk)).2)
     ·rw [if_neg h]
      refine ⟨T.nn,T.bt,λ k hk hkj=>?_,T.is_⟩
      by_cases e:k=j
      ·subst e
       by_cases h1:0 < shQ g is[k]
       ·have h2:gn g is W k hk * (shQ g is[k])⁻¹<=L:=W0.mp λ x=>h ⟨h1,x⟩
        have:=Xj h2 hs0;have em2:shQ g is[k] * (gn g is W k hk * (shQ g is[k])⁻¹)=gn g is W k hk:=by rw [Rat.mul_comm]; exact nS h1
        rw [em2] at this;exact this
       ·have h0:shQ g is[k]=0:=by grind
        rw [V.sU k hk h0,h0];grind
      · exact T.ge k hk (by omega))
 rw [Bz,Zd,cA,V.len,Nat.min_self] at T;refine ⟨L,?_,T⟩;unfold gM gH;dsimp only;exact bj (az (aD (a9 (ae e_c (ae e_c aq)) (Zb rfl))) (az e1 (bz (ag rfl))))
def HH (V:Lv g is W r inner) (hs:∀ i ∈ is,0<=shQ g i) {L:Rat} (T:Top g is W is.length L) {k:Nat} (hk:k < is.length) :
  (∀ v,dW g is[k]=some v->v < shQ g is[k] * L->gn g is W k hk=v)/\((∀ v,dW g is[k]=some v->¬ v < shQ g is[k] * L)->gn g is W k hk=shQ g is[k] * L):=by
 by_cases h0:shQ g is[k]=0
 ·have s0:=V.sU k hk h0
  refine ⟨λ v e lt=>?_,λ _=>by rw [s0,h0]; grind⟩;have:=nH e;rw [h0] at lt;grind
 ·have hp:0 < shQ g is[k]:=by
   have:=hs is[k] (Z1 hk);grind
  have ge:=T.ge k hk hk;rcases V.or_ k hk h0 with e | ⟨lam,e,q⟩
  ·refine ⟨λ v e' lt=>?_,λ h=>?_⟩
   · rw [e] at e'; exact Zj e'
   ·have:=h _ e
    grind
  ·have l0:=(V.l0 lam e).1
   have le1:lam<=L:=by
    rw [q] at ge;exact Rat.le_of_mul_le_mul_left ge hp
   have le2:L<=lam:=by
    rcases T.is_ with z | ⟨k',hk',p',e'⟩
    · rw [z]; exact l0
    ·have:=V.top lam e k' hk'
     rw [e'] at this;exact Rat.le_of_mul_le_mul_left this p'
   have eL:L=lam:=by grind
   rw [eL];refine ⟨λ v e' lt=>?_,λ _=>q⟩;have:=V.le k hk v e';rw [q] at this;grind
end
end N36
end
section
set_option exponentiation.threshold 5000
namespace N36
open PySem L2 PF MU DL
def Dq {p q:Rat} {n d:Int} (zp:Zq p) (P:Pr n d q) (sd:Sz ((p.den:Int) * d)):bC [fr p,.tup [.int n,.int d]]=some (.shr (fr (p+q))):=by
 have dp:=den_pos p;have sp:=zp.sz
 have e:bh [.int (p.num * d+n * p.den),.int ((p.den:Int) * d)]=some (.shr (fr (p+q))):=by
  rw [fO (Y8 dp P.pos) sd];rw [<- Xz _ _ (Z3 dp) (Z3 P.pos),Zk,P.is]
 unfold bC fV;dsimp only;exact bj (bz (aV (ae (ar (ar (ar (ag rfl) e_c (aN _ _)) (ar (ag rfl) e_c (aY _ _ _)) (bB sp.n P.zd)) (ar (ar (ag rfl) e_c (aN _ _)) (ar (ag rfl) e_c (aY _ _ _)) (bB P.zn sp.d)) rfl) (ae (ar (ar (ag rfl) e_c (aY _ _ _)) (ar (ag rfl) e_c (aY _ _ _)) (bB sp.d P.zd)) aq)) e rfl))
def tn (g:Bool):Int:=if g then 1 else -1
def ne_self (q:Rat):oNe (PF.fr q) (PF.fr q)=some (.bl false):=by rw [DL.Hw,Zh rfl]; rfl
def GS (q:Rat):oNe (PF.fr q) .non=some (.bl true):=by
 unfold oNe eqO;rw [show eqS (PF.fr q) .non=none from rfl];simp only [vd 8 q,show okD 9 L2.D.non=true from rfl,and_self,if_true];rw [oS (by unfold PF.fr; simp)];rfl
def LJ (q:Rat) (m:Option Rat):oNe (PF.fr q) (mD m)=some (.bl (!decide (m=some q))):=by
 cases m with
 | none=>exact GS q
 | some x =>
  show oNe (PF.fr q) (PF.fr x)=_;rw [DL.Hw];congr 2;rw [Xe.mpr];exact ⟨λ h=>by rw [h],λ h=>(Zj h).symm⟩
section
variable {N K:Nat} {S:Bool->Nat} {is:List Item} {inner:Rat} {g:Bool} {r:Option Rat} {W:List Rat}
def Ep {τ:List Sl} {i v:Nat} {it:Item} (h1:τ[i]?=some (.shr (.bl g))) (h2:τ[v]?=some (.shr (liD it))):dIf (dT (ao i)) (dOp oIx (ao v) (dC (.int 2))) (dOp oIx (ao v) (dC (.int 1))) τ=some (mD (fC g it)):=by
 refine sA (b:=g) (ax (ag h1)) (λ h=>?_) (λ h=>?_)
 · rw [h]; exact ar (ag h2) e_c (l2 it)
 · rw [h]; exact ar (ag h2) e_c (l1 it)
def pI (g:Bool) (i:Item) (L:Rat):Rat:=bG i+sg g (shQ g i * L)
def OE (V:Lv g is W r inner) (hs:∀ i ∈ is,0<=shQ g i) {L:Rat} (T:Top g is W is.length L) {k:Nat} (hk:k < is.length) :
  (∀ b,fC g is[k]=some b->(if g then b < pI g is[k] L else pI g is[k] L < b)->W.getD k 0=b)/\((∀ b,fC g is[k]=some b->¬ (if g then b < pI g is[k] L else pI g is[k] L < b))->W.getD k 0=pI g is[k] L):=by
 obtain ⟨h1,h2⟩:=HH V hs T hk
 have key:∀ b,fC g is[k]=some b->∃ v,dW g is[k]=some v/\b=bG is[k]+sg g v/\((if g then b < pI g is[k] L else pI g is[k] L < b)↔v < shQ g is[k] * L):=λ b e=>by
  cases hw:dW g is[k] with
  | none=>unfold dW at hw; rw [e] at hw; cases hw
  | some v =>
   obtain ⟨b',e1,e2⟩:=lF hw;rw [e] at e1;cases e1;refine ⟨v,rfl,by grind,?_⟩;unfold pI;cases g <;> simp only [sg,if_true,Zv,Yp] at * <;> grind
 have back:W.getD k 0=bG is[k]+sg g (gn g is W k hk):=by
  unfold gn;rw [BU];grind
 refine ⟨λ b e c=>?_,λ c=>?_⟩
 ·obtain ⟨v,e1,e2,e3⟩:=key b e
  rw [back,h1 v e1 (e3.mp c),e2]
 ·rw [back,h2 λ v e1 lt=>?_]
  · rfl
  ·obtain ⟨b,eb,_⟩:=lF e1
   obtain ⟨v',e1',e2,e3⟩:=key b eb;rw [e1] at e1';cases e1';exact c b eb (e3.mpr lt)
def Me (D:iX N S is inner) {i:Item} (h:i ∈ is) {L:Rat} (bL:Bt 950 940 L):Bt 1260 1140 (shQ g i * L)/\Zq (pI g i L):=by
 have bs:=D.ssz (D.share g h).1;have bm:=xD (Bm bs bL) (show 307+950<=1260 by decide) (show 200+940<=1140 by decide);refine ⟨bm,?_⟩;have bb:=D.sz (D.beg h)
 have bx:Bt 1260 1140 (sg g (shQ g i * L)):=by
  cases g
  · exact ⟨by show (-(shQ false i * L)).num.natAbs<=_; rw [Rat.neg_num,Int.natAbs_neg]; exact bm.n,by show (-(shQ false i * L)).den<=_; rw [Rat.neg_den]; exact bm.d⟩
  · exact bm
 unfold pI;generalize bG i=p at *;generalize sg g (shQ g i * L)=q at *
 have e1:p+q=Rat.divInt (p.num * q.den+q.num * p.den) (p.den * q.den):=by
  rw [<- Xz _ _ (Z3 (den_pos p)) (Z3 (den_pos q)),Zk,Zk]
 have d0:(p.den:Int) * q.den≠0:=Z3 (Y8 (den_pos _) (den_pos _));have Lw:S1.Low (p+q).num (p+q).den (p.num * q.den+q.num * p.den) ((p.den:Int) * q.den):=by rw [e1]; exact ⟨den_pos _,Rat.reduced _,jW _ d0⟩
 have n1:(p.num * q.den).natAbs<=2 ^ (707+1140):=by rw [Z9]; exact cN bb.n bx.d
 have n2:(q.num * p.den).natAbs<=2 ^ (1260+600):=by rw [Z9]; exact cN bx.n bb.d
 have n3:((p.den:Int) * q.den).natAbs<=2 ^ (600+1140):=by rw [Z9]; exact cN bb.d bx.d
 have x:=Lw.sF d0;rw [Y7] at x;have y:=Lw.rJ d0;have z:(p.num * q.den+q.num * p.den).natAbs<=2 ^ (707+1140)+2 ^ (1260+600):=Zc (Int.natAbs_add_le _ _) (Nat.add_le_add n1 n2);refine ⟨Sz.of2 (k:=1900) (Zc y (Zc z (by decide +kernel))) (by decide),Zc x (Zc n3 (by decide +kernel))⟩
def Ac (D:iX N S is inner):(∀ q ∈ is.map bG,Zq q)/\∀ i,i<=(is.map bG).length->Zq (bX ((is.map bG).take i)):=by
 have h:∀ q ∈ is.map bG,In N (10 ^ 32) q:=λ q hq=>by
  obtain ⟨i,hi,rfl⟩:=Yw.mp hq;exact D.beg hi
 refine ⟨λ q hq=>Zq.of (m:=107) (h q hq) D.n0 D.nb (by decide +kernel) (by decide) (by decide),λ i hi=>?_⟩;have s:=In.sum D.n0 h i hi;rw [Zd] at hi;have:=D.few;exact Zq.of (m:=120) s D.n0 D.nb (Zc (Zn _ (show i<=30 by omega)) (by decide +kernel)) (by decide) (by decide)
def A0 (is:List Item):kj (λ d=>dOp oIx (ao 0) (dC (.int 0)) (.shr d::[])) (is.map liD)=some (PF.frs (is.map bG)):=by
 have e:PF.frs (is.map bG)=is.map λ i=>PF.fr (bG i):=by unfold PF.frs; rw [Yu]; rfl
 rw [e];exact eN λ i _=>ar (ag rfl) e_c (l0 i)
def v7 (D:iX N S is inner):Zq inner:=Zq.of (m:=120) D.ir D.n0 D.nb (by decide +kernel) (by decide) (by decide)
def A2 (D:iX N S is inner) (V:Lv g is W r inner) (hg:g=decide (0 < inner - bX (is.map bG))) (hz:inner - bX (is.map bG)=0->W=is.map bG) (w:Wd K W) (dN:N ∣ K) :
  dR [.lst (is.map liD),.lst (PF.frs W),PF.fr inner]=some (.shr (.bl true)):=by
 obtain ⟨L,eL,T⟩:=G7 D V w dN;have few:=D.few;have hs:∀ i ∈ is,0<=shQ g i:=λ i hi=>(D.share g hi).2
 obtain ⟨zb,zbs⟩:=Ac D;have zs0:=zbs (is.map bG).length (Ze _);rw [Ym] at zs0;have em:=jV (v7 D) zs0;generalize hm:inner - bX (is.map bG)=m at *
 have egt:oGt (.int m.num) (.int 0)=some (.bl g):=by
  show some (L2.D.bl (decide (0 < m.num)))=_;rw [dt,hg]
 have zW:∀ q ∈ W,Zq q:=λ q hq=>w.zq hq
 have lW:W.length<=30:=by rw [V.len]; exact few
 have sW:=w.Ie lW (Ze W.length);rw [Ym] at sW;have eS:=lsum zW (λ i hi=>w.Ie lW hi);have eB:=lsum zb zbs;have e13:=jV (v7 D) sW;have ecomp:cx (d7 (ao 0)) (dOp oIx (ao 0) (dC (.int 0))) [] [.shr (.lst (is.map liD)),.shr (.lst (PF.frs W)),.shr (PF.fr inner),.no,.no,.no,.no,.no,.no,.no,.no,.no,.no,.no]=some (.lst (PF.frs (is.map bG))):=di (dO rfl) (by rw [Zd]; omega) (A0 is)
 obtain ⟨τ',e1,B,x8,x9,x10,x11,x12,hB,rfl⟩:=cM (f:=aL (bA 10 (dIf (dT (ao 4)) (dOp oIx (ao 8) (dC (.int 3))) (dOp oIx (ao 8) (dC (.int 4)))))
  (aL (bA 11 (dIf (dT (ao 4)) (dOp oIx (ao 8) (dC (.int 2))) (dOp oIx (ao 8) (dC (.int 1)))))
  (aL (bA 12 (dFn bC (ah (dOp oIx (ao 8) (dC (.int 0))) (ah (cY (ah (dOp gi (dOp gi (ao 5) (dOp oIx (ao 10) (dC (.int 0)))) (dOp oIx (ao 6) (dC (.int 0)))) (ah (dOp gi (dOp oIx (ao 10) (dC (.int 1))) (dOp oIx (ao 6) (dC (.int 1)))) aC))) aC))))
  (aL (sIf (fE (dT (dOp kP (ao 11) (dC .non))) (dT (dIf (dT (ao 4)) (dFn aZ (ah (ao 11) (ah (ao 12) aC))) (dFn aZ (ah (ao 12) (ah (ao 11) aC)))))) (bA 12 (ao 11)) bg)
  (aL (sIf (dOr (dT (dOp oNe (ao 9) (ao 12))) (fE (dT (dOp oEq (dOp oIx (ao 3) (dC (.int 0))) (dC (.int 0)))) (dT (dOp oNe (ao 12) (dOp oIx (ao 8) (dC (.int 0))))))) (dJ (dC (.bl false))) bg)
  (sIf (fE (dT (dOp oNe (ao 12) (ao 11))) (dT (dOp oGt (dOp oIx (ao 10) (dC (.int 0))) (dC (.int 0))))) (bA 7 (dC (.bl false))) bg))))))
  (gg:=gT 2 (k6 (gN 8) (k6 (gN 9) wm))) (it:=l5 (ah (ao 0) (ah (ao 1) aC)))
  (τ:=[.shr (.lst (is.map liD)),.shr (.lst (PF.frs W)),.shr (PF.fr inner),.shr (PF.fr m),.shr (.bl g),.shr (.int (tn g)),.shr (PF.fr L),.shr (.bl true),.no,.no,.no,.no,.no,.no])
  (λ j τ=>∃ (B:Bool) (x8 x9 x10 x11 x12:Sl),(r=none->B=true)/\τ=[.shr (.lst (is.map liD)),.shr (.lst (PF.frs W)),.shr (PF.fr inner),.shr (PF.fr m),.shr (.bl g),.shr (.int (tn g)),.shr (PF.fr L),.shr (.bl B),x8,x9,x10,x11,x12,.no])
  (zy (ae (ag rfl) (ae (ag rfl) aq))) ⟨true,.no,.no,.no,.no,.no,λ _=>rfl,rfl⟩ (by
    rintro j d τ hd ⟨B,x8,x9,x10,x11,x12,hB,rfl⟩
    obtain ⟨x,y,hx,hy,rfl⟩:=zip_get hd;obtain ⟨hj,rfl⟩:=rS hx;obtain ⟨q,hq,rfl⟩:=iE hy;have hW:=wq hq;have mem:=Z1 hj;have zbj:=HN D mem;have szs:=(Nm (g:=g) D mem).sz;have szL:=(Zq.bt T.bt (by decide) (by decide)).sz;obtain ⟨bm,zd⟩:=Me (g:=g) D mem T.bt;obtain ⟨w1,w2⟩:=OE V hs T hj;rw [hW] at w1 w2;have t1:gi (.int (tn g)) (.int (shQ g is[j]).num)=some (.int ((tn g) * (shQ g is[j]).num)):=kR (by cases g <;> decide) (by cases g <;> decide)
    have sn1:Sz ((tn g) * (shQ g is[j]).num):=by
     cases g
     · rw [show tn false=-1 from rfl,Int.neg_mul,Int.one_mul]; exact szs.n.neg
     · rw [show tn true=1 from rfl,Int.one_mul]; exact szs.n
    have t2:=bB sn1 szL.n;have t3:=bB szs.d szL.d;have bs:=D.ssz (D.share g mem).1
    have P:Pr ((tn g) * (shQ g is[j]).num * L.num) ((shQ g is[j]).den * L.den) (sg g (shQ g is[j] * L)):=by
     have e1:shQ g is[j] * L=Rat.divInt ((shQ g is[j]).num * L.num) ((shQ g is[j]).den * L.den):=by
      rw [<- Yk,Zk,Zk]
     have n1:((shQ g is[j]).num * L.num).natAbs<=2 ^ (307+950):=by rw [Z9]; exact cN bs.n T.bt.n
     have n2:(((shQ g is[j]).den:Int) * L.den).natAbs<=2 ^ (200+940):=by rw [Z9]; exact cN bs.d T.bt.d
     have z1:Sz ((shQ g is[j]).num * L.num):=Sz.of2 n1 (by decide);refine ⟨Y8 (den_pos _) (den_pos _),?_,?_,Sz.of2 n2 (by decide)⟩
     ·rw [e1]
      cases g
      ·simp only [sg,Zv,Yp]
       rw [show tn false=-1 from rfl,Ye,Int.neg_mul,Int.one_mul,Rat.neg_divInt]
      ·simp only [sg,if_true]
       rw [show tn true=1 from rfl,Int.one_mul]
     ·cases g
      · rw [show tn false=-1 from rfl,Ye,Int.neg_mul,Int.one_mul]; exact z1.neg
      · rw [show tn true=1 from rfl,Ye,Int.one_mul]; exact z1
    have sd:Sz ((bG is[j]).den * ((shQ g is[j]).den * L.den)):=by
     have n2:(((shQ g is[j]).den:Int) * L.den).natAbs<=2 ^ (200+940):=by rw [Z9]; exact cN bs.d T.bt.d
     have bb:=D.sz (D.beg mem);refine Sz.of2 (k:=600+(200+940)) ?_ (by decide)
     rw [Z9];exact cN bb.d n2
    have e12:bC [PF.fr (bG is[j]),.tup [.int ((tn g) * (shQ g is[j]).num * L.num),.int ((shQ g is[j]).den * L.den)]]=some (.shr (PF.fr (pI g is[j] L))):=Dq zbj P sd;have n0:oNe (PF.fr q) (PF.fr q)=some (.bl false):=ne_self q
    have tm:fE (dT (dOp oEq (dOp oIx (ao 3) (dC (.int 0))) (dC (.int 0)))) (dT (dOp oNe (ao 12) (dOp oIx (ao 8) (dC (.int 0))))) [.shr (.lst (is.map liD)),.shr (.lst (PF.frs W)),.shr (PF.fr inner),.shr (PF.fr m),.shr (.bl g),.shr (.int (tn g)),.shr (PF.fr L),.shr (.bl B),.shr (liD is[j]),.shr (PF.fr q),.shr (PF.fr (shQ g is[j])),.shr (mD (fC g is[j])),.shr (PF.fr q),.no]=some false:=by
     refine de (b:=decide (m.num=0)) (ax (ar (ar (ag rfl) e_c (aN _ _)) e_c (bT _ _))) (λ h=>?_) (λ _=>rfl);rw [jT] at h;have hWz:=hz (Zx h)
     have eq_:q=bG is[j]:=by
      rw [<- hW,hWz,get_map _ _ hj]
     refine ax (ar (ag rfl) (ar (ag rfl) e_c (l0 _)) ?_);rw [<- eq_];exact n0
    have rest:aL (sIf (dOr (dT (dOp oNe (ao 9) (ao 12))) (fE (dT (dOp oEq (dOp oIx (ao 3) (dC (.int 0))) (dC (.int 0)))) (dT (dOp oNe (ao 12) (dOp oIx (ao 8) (dC (.int 0))))))) (dJ (dC (.bl false))) bg)
      (sIf (fE (dT (dOp oNe (ao 12) (ao 11))) (dT (dOp oGt (dOp oIx (ao 10) (dC (.int 0))) (dC (.int 0))))) (bA 7 (dC (.bl false))) bg) [.shr (.lst (is.map liD)),.shr (.lst (PF.frs W)),.shr (PF.fr inner),.shr (PF.fr m),.shr (.bl g),.shr (.int (tn g)),.shr (PF.fr L),.shr (.bl B),.shr (liD is[j]),.shr (PF.fr q),.shr (PF.fr (shQ g is[j])),.shr (mD (fC g is[j])),.shr (PF.fr q),.no]
      = some (.next [.shr (.lst (is.map liD)),.shr (.lst (PF.frs W)),.shr (PF.fr inner),.shr (PF.fr m),.shr (.bl g),.shr (.int (tn g)),.shr (PF.fr L),.shr (.bl (if (!decide (fC g is[j]=some q)&&decide (0 < shQ g is[j]))=true then false else B)),.shr (liD is[j]),.shr (PF.fr q),.shr (PF.fr (shQ g is[j])),.shr (mD (fC g is[j])),.shr (PF.fr q),.no]):=by
     refine aR (nN (b:=false) (ax (ar (ag rfl) (ag rfl) n0)) (λ _=>tm) nofun) ?_
     have eg:oGt (.int (shQ g is[j]).num) (.int 0)=some (.bl (decide (0 < shQ g is[j]))):=by
      show some (L2.D.bl (decide (0 < (shQ g is[j]).num)))=_;rw [dt]
     refine fh (b:=!decide (fC g is[j]=some q)&&decide (0 < shQ g is[j])) (iq (ax (ar (ag rfl) (ag rfl) (LJ _ _))) (ax (ar (ar (ag rfl) e_c (aN _ _)) e_c eg))) (λ h=>?_) (λ h=>?_)
     · rw [if_pos h]; rfl
     · rw [if_neg (by rw [h]; decide)]; rfl
    refine ⟨_,_,rfl,?_,(if (!decide (fC g is[j]=some q)&&decide (0 < shQ g is[j]))=true then false else B),.shr (liD is[j]),.shr (PF.fr q),.shr (PF.fr (shQ g is[j])),.shr (mD (fC g is[j])),.shr (PF.fr q),λ hr=>?_,rfl⟩
    ·refine az (aD (uA rfl rfl)) ?_
     refine az (aD (Ep rfl rfl)) ?_
     refine az (aD (aV (ae (ar (ag rfl) e_c (l0 _)) (ae (a9 (ae (ar (ar (ag rfl) (ar (ag rfl) e_c (aN _ _)) t1) (ar (ag rfl) e_c (aN _ _)) t2) (ae (ar (ar (ag rfl) e_c (aY _ _ _)) (ar (ag rfl) e_c (aY _ _ _)) t3) aq)) (Zb rfl)) aq)) e12 rfl)) ?_
     cases hb:fC g is[j] with
     | none =>
      rw [hb] at rest w2;have eq_:=w2 (λ b e=>nomatch e);rw [<- eq_];refine aR (de (b:=false) (ax (ar (ag rfl) e_c rfl)) nofun (λ _=>rfl)) rest
     | some b =>
      have zbd:=Mn D mem hb;rw [hb] at rest
      have tst:dT (dIf (dT (ao 4)) (dFn aZ (ah (ao 11) (ah (ao 12) aC))) (dFn aZ (ah (ao 12) (ah (ao 11) aC)))) [.shr (.lst (is.map liD)),.shr (.lst (PF.frs W)),.shr (PF.fr inner),.shr (PF.fr m),.shr (.bl g),.shr (.int (tn g)),.shr (PF.fr L),.shr (.bl B),.shr (liD is[j]),.shr (PF.fr q),.shr (PF.fr (shQ g is[j])),.shr (mD (some b)),.shr (PF.fr (pI g is[j] L)),.no]=some (decide (if g then b < pI g is[j] L else pI g is[j] L < b)):=by
       refine ax (sA (b:=g) (ax (ag rfl)) (λ h=>?_) (λ h=>?_))
       ·refine (aV (ae (ag rfl) (ae (ag rfl) aq)) (iu zbd zd) rfl).trans ?_
        subst h;congr 2
       ·refine (aV (ae (ag rfl) (ae (ag rfl) aq)) (iu zd zbd) rfl).trans ?_
        subst h;congr 2
      by_cases c:(if g then b < pI g is[j] L else pI g is[j] L < b)
      ·rw [Zh c] at tst
       have eq_:=w1 b hb c;rw [eq_] at rest ⊢;exact me (de (b:=true) (ax (ar (ag rfl) e_c rfl)) (λ _=>tst) nofun) (aD (ag rfl)) rest
      ·rw [Za c] at tst
       have eq_:=w2 λ b' e=>by rw [hb] at e; cases e; exact c
       rw [<- eq_] at tst ⊢;exact aR (de (b:=true) (ax (ar (ag rfl) e_c rfl)) (λ _=>tst) nofun) rest
    ·rw [if_neg ?_]
     · exact hB hr
     ·intro c
      rw [Yq] at c;obtain ⟨c1,c2⟩:=c
      have h0:¬ shQ g is[j]=0:=by
       have:=Zx c2;grind
      rcases V.or_ j hj h0 with e | ⟨lam,e,_⟩
      ·obtain ⟨b,e1,e2⟩:=lF e
       have:b=q:=by
        unfold gn at e2;rw [hW,BU] at e2;grind
       rw [e1,this] at c1;simp at c1
      · rw [hr] at e; cases e)
 unfold dR gI;dsimp only;refine bj ?_
 refine az (aD (aV (ae (ag rfl) (ae (aV (ae ecomp aq) eB rfl) aq)) em rfl)) ?_
 refine az (aD (ar (ar (ag rfl) e_c (aN _ _)) e_c egt)) ?_
 refine az (aD (d:=.int (tn g)) (sA (b:=g) (ax (ag rfl)) (λ h=>by rw [h]; rfl) (λ h=>by rw [h]; rfl))) ?_
 refine az (aD (aV (ae (ag rfl) (ae (ag rfl) (ae (ag rfl) aq))) eL rfl)) ?_
 refine az (aD e_c) ?_
 refine az e1 ?_
 refine az (aD (aV (ae (ag rfl) (ae (aV (ae (ag rfl) aq) eS rfl) aq)) e13 rfl)) ?_
 have e0:oEq (.int (inner - bX W).num) (.int 0)=some (.bl (decide (inner - bX W=0))):=by rw [bT,jT]
 by_cases z:inner - bX W=0
 ·rw [Zh z] at e0
  exact cJ (ax (ar (ar (ag rfl) e_c (aN _ _)) e_c e0)) (bz e_c)
 ·rw [Za z] at e0
  have hr:r=none:=by
    cases hr:r with
    | none=>rfl
    | some lam =>
     exfalso;have:=V.full (by rw [hr]; rfl);grind
  have eg:oGt (.int (inner - bX W).num) (.int 0)=some (.bl g):=by
    show some (L2.D.bl (decide (0 < (inner - bX W).num)))=_;rw [dt];have:=V.none_ hr;congr 2;cases g <;> simp only [sg,if_true,Zv,Yp] at this
    · rw [Za]; grind
    · rw [Zh this]
  have hB:=hB hr;subst hB;refine aR (ax (ar (ar (ag rfl) e_c (aN _ _)) e_c e0)) (bz (Md (b:=true) (ag rfl) (λ _=>ar (ar (ar (ag rfl) e_c (aN _ _)) e_c eg) (ag rfl) ?_) nofun));cases g <;> rfl
end
end N36
end
section
set_option exponentiation.threshold 5000
namespace N36
open PySem L2 PF MU DL
def lf (x:Rat):Rat:=if 0 < x then x else 0
def hd (sp:Str) (l:Rat):Rat:=if sp="right" then l else if sp="middle" then l * Rat.divInt 1 2 else 0
def bw (sp:Str) (gap l:Rat) (n:Nat):Rat:=if sp="apart"/\1 < n then gap+l * ((((n:Int) - 1:Int):Rat))⁻¹ else gap
def pos (b t:Rat) (W:List Rat) (j:Nat):Rat:=b+bX (W.take j)+t * ((j:Int):Rat)
def xsQ (sp:Str) (gap edge l:Rat) (W:List Rat):List Rat:=(List.range W.length).map (pos (edge+hd sp l) (bw sp gap l W.length) W)
def pos_succ {b t w:Rat} {W:List Rat} {j:Nat} (h:W[j]?=some w):pos b t W (j+1)=pos b t W j+w+t:=by
 unfold pos;rw [iY h]
 have e:(((j+1:Nat):Int):Rat)=((j:Int):Rat)+1:=by
  rw [show ((j+1:Nat):Int)=(j:Int)+1 by omega,Wg];rfl
 rw [e];grind
def rz (b t:Rat) (W:List Rat):pos b t W 0=b:=by
 unfold pos;rw [List.take_zero];have:bX []=0:=rfl;rw [this];show b+0+t * ((0:Int):Rat)=b;rw [show ((0:Int):Rat)=0 from rfl];grind
structure Ln (N K:Nat) (W:List Rat) (gap edge room:Rat):Prop where
 n0:0 < N
 dN:N ∣ K
 w:Wd K W
 few:W.length<=30
 one:1<=W.length
 ig:In N (10 ^ 32) gap
 ie:In N (10 ^ 32) edge
 ir:In N (10 ^ 32) room
section
variable {N K:Nat} {W:List Rat} {gap edge room:Rat} {sp:Str}
def dv {M:Nat} {q:Rat} (h:In N M q) (d:N ∣ K):In K M q:=gc h (Yg h.dv d)
def Ln.z (H:Ln N K W gap edge room) {q:Rat} (h:In N (10 ^ 32) q):Zq q:=Zq.of (m:=107) (dv h H.dN) H.w.k0 H.w.kb (by decide +kernel) (by decide) (by decide)
def fe (gap room:Rat) (n:Nat):Rat:=room - gap * ((((n:Int) - 1:Int):Rat))
def gm {n:Nat} (hN:0 < N) (h:In N (10 ^ 32) gap) (h1:1<=n) (h2:n<=30):In N (29 * 10 ^ 32) (gap * ((((n:Int) - 1:Int):Rat))):=by
 have:=In.AY hN h (n - 1);rw [show ((n:Int) - 1)=((n - 1:Nat):Int) by omega];exact this.mono (Zn _ (by omega))
def Ln.inner (H:Ln N K W gap edge room):In K (2 ^ 120) (fe gap room W.length):=by
 have:=(dv H.ir H.dN).sub H.w.k0 (dv (gm H.n0 H.ig H.one H.few) H.dN);exact this.mono (by decide +kernel)
def Ln.sum (H:Ln N K W gap edge room):In K (2 ^ 1066) (bX W):=by
 have:=H.w.BO H.few (Ze W.length);rw [Ym] at this;exact this
def Ln.miss (H:Ln N K W gap edge room):In K (2 ^ 1067) (fe gap room W.length - bX W):=(H.inner.sub H.w.k0 H.sum).mono (by decide +kernel)
def LV {M:Nat} {x:Rat} (h:In K M x):In K M (lf x):=by
 unfold lf;split
 · exact h
 · exact (In.zero K).mono (Zs _)
def Ln.left (H:Ln N K W gap edge room):In K (2 ^ 1067) (lf (fe gap room W.length - bX W)):=LV H.miss
def G8 (x:Rat):0<=lf x:=by unfold lf; split <;> grind
def mm (n:Nat):Nat:=if 1 < n then n - 1 else 1
def Ec (i:Int):((i:Rat)).den=1:=Rat.den_intCast i
def Ln.k2 (H:Ln N K W gap edge room):0 < 2 * K * mm W.length/\2 * K * mm W.length<=2 ^ 1746:=by
 have:=H.one;have few:=H.few;have k0:=H.w.k0;have m1:1<=mm W.length/\mm W.length<=30:=by unfold mm; split <;> omega
 refine ⟨Xi (Xi (by decide) k0) (by omega),?_⟩
 have h1:2 * K<=2 ^ 1741:=by
  rw [show (2:Nat) ^ 1741=2 * 2 ^ 1740 from by decide +kernel];exact Y1 _ H.w.kb
 exact Zc (cN (k:=1741) (l:=5) h1 (Zc m1.2 (by decide))) (by decide +kernel)
def mW {m:Nat} (h:1<=m):(0:Rat) < ((m:Int):Rat):=by
 rw [show (0:Rat)=((0:Int):Rat) from rfl,Xa];omega
def A5 {m:Nat} (h:1<=m):In m 1 (((m:Int):Rat))⁻¹:=by
 obtain ⟨e1,e2⟩:=kX (mW h);have nn:0<=(((m:Int):Rat))⁻¹:=Xb.mp (by rw [e1]; omega);have q:=v8 (M:=1) nn (by rw [e1,Ec]; decide)
 have ed:((((m:Int):Rat))⁻¹).den=m:=by
  rw [Rat.num_intCast] at e2;omega
 rw [ed] at q;exact q
def Ln.inT (H:Ln N K W gap edge room) (sp:Str):In (2 * K * mm W.length) (2 ^ 1068) (bw sp gap (lf (fe gap room W.length - bX W)) W.length):=by
 have k2:=H.k2;have dK:K ∣ 2 * K * mm W.length:=Yg (Yn K 2) (Yb _ _);have ig:In (2 * K * mm W.length) (10 ^ 32) gap:=dv (dv H.ig H.dN) dK;unfold bw;split
 ·rename_i c
  have p0:0<=((((W.length:Int) - 1:Int):Rat))⁻¹:=by
   have e:(W.length:Int) - 1=((W.length - 1:Nat):Int):=by omega
   rw [e];obtain ⟨e1,e2⟩:=kX (mW (show 1<=W.length - 1 by omega));exact Xb.mp (by rw [e1]; omega)
  have i1:In (W.length - 1) 1 ((((W.length:Int) - 1:Int):Rat))⁻¹:=by
   have e:(W.length:Int) - 1=((W.length - 1:Nat):Int):=by omega
   rw [e];exact A5 (by omega)
  have i2:=rX H.w.k0 (show 0 < W.length - 1 by omega) H.left i1 (G8 _) p0;have em:mm W.length=W.length - 1:=by unfold mm; rw [if_pos c.2]
  have i3:In (2 * K * mm W.length) (2 ^ 1067 * 1) (lf (fe gap room W.length - bX W) * ((((W.length:Int) - 1:Int):Rat))⁻¹):=dv i2 (by
   rw [em,Nat.mul_assoc]
   exact Yn _ _)
  exact (ig.add k2.1 i3).mono (by decide +kernel)
 · exact ig.mono (by decide +kernel)
def Ln.inB (H:Ln N K W gap edge room) (sp:Str):In (2 * K * mm W.length) (2 ^ 1068) (edge+hd sp (lf (fe gap room W.length - bX W))):=by
 have k2:=H.k2;have dK:K ∣ 2 * K * mm W.length:=Yg (Yn K 2) (Yb _ _);have ie:In (2 * K * mm W.length) (10 ^ 32) edge:=dv (dv H.ie H.dN) dK
 have ih:In (2 * K * mm W.length) (2 ^ 1067) (hd sp (lf (fe gap room W.length - bX W))):=by
  unfold hd;split
  · exact dv H.left dK
  split
  · exact dv (k5 H.w.k0 H.left) (Yb _ _)
  · exact (In.zero _).mono (Zs _)
 exact (ie.add k2.1 ih).mono (by decide +kernel)
def Ln.zx (H:Ln N K W gap edge room) (sp:Str) {j:Nat} (hj:j<=W.length):In (2 * K * mm W.length) (2 ^ 1074) (pos (edge+hd sp (lf (fe gap room W.length - bX W))) (bw sp gap (lf (fe gap room W.length - bX W)) W.length) W j):=by
 have k2:=H.k2;have few:=H.few;have dK:K ∣ 2 * K * mm W.length:=Yg (Yn K 2) (Yb _ _);unfold pos;have h1:=(H.inB sp).add k2.1 (dv (H.w.BO H.few hj) dK);have h2:=In.AY k2.1 (H.inT sp) j;have h3:=h2.mono (Zn _ (show j<=30 by omega));exact (h1.add k2.1 h3).mono (by decide +kernel)
def Ln.zM (H:Ln N K W gap edge room) {m:Nat} {q:Rat} (h:In (2 * K * mm W.length) (2 ^ m) q) (hm:m<=1100):Zq q:=Zq.of h H.k2.1 H.k2.2 (Ze _) (by omega) (by decide)
def Ln.zK (H:Ln N K W gap edge room) {m:Nat} {q:Rat} (h:In K (2 ^ m) q) (hm:m<=1100):Zq q:=Zq.of h H.w.k0 H.w.kb (Ze _) (by omega) (by decide)
def A8:Zq (Rat.divInt 1 2):=⟨pL.n,by
 have:=k5 (N:=1) (M:=1) (q:=1) (by decide) ⟨by decide,by decide +kernel,by decide +kernel⟩;have h:=Wk (by decide) this.dv;rw [Rat.one_mul] at h
 exact Zc h (by decide +kernel)⟩
def tH (W:List Rat):d6 [.lst (PF.frs W)]=some (.int (W.length:Int)):=fQ W
def n_z {n:Nat} (h1:1<=n) (h2:n<=30):Zq ((((n:Int) - 1:Int):Rat)):=EC (by
 have:((n:Int) - 1).natAbs<=30:=by omega
 exact Zc this (Zc (show 30<=2 ^ 5 by decide) (Yc (by decide) (by decide))))
def Ha (H:Ln N K W gap edge room):lP [.lst (PF.frs W),PF.fr gap,PF.fr room]=some (.shr (PF.fr (lf (fe gap room W.length - bX W)))):=by
 have k0:=H.w.k0;have et:=mE (λ q hq=>(H.w.zq hq).sz) (λ i hi=>(H.w.Ie H.few hi).sz);have i1:=(dv H.ir H.dN).sub k0 H.sum;have e1:=fN (H.z H.ir).sz (H.zK H.sum (by decide)).sz;have e2:=gk (H.z H.ig).sz (n_z H.one H.few).sz;rw [<- oy ((W.length:Int) - 1)] at e2;have z1:Zq (room - bX W):=H.zK (m:=1067) (i1.mono (by decide +kernel)) (by decide);have z2:Zq (gap * ((((W.length:Int) - 1:Int):Rat))):=H.zK (m:=120) ((dv (gm H.n0 H.ig H.one H.few) H.dN).mono (by decide +kernel)) (by decide);have e3:=fN z1.sz z2.sz;have ev:room - bX W - gap * ((((W.length:Int) - 1:Int):Rat))=fe gap room W.length - bX W:=by unfold fe; grind
 rw [ev] at e3
 have eg:oGt (.int (fe gap room W.length - bX W).num) (.int 0)=some (.bl (decide (0 < fe gap room W.length - bX W))):=by
  show some (L2.D.bl (decide (0 < (fe gap room W.length - bX W).num)))=_;rw [dt]
 unfold lP lJ;dsimp only;refine bj (az (aD (aV (ae (aV (ae (ag rfl) (ae (aV (ae (ag rfl) aq) et rfl) aq)) e1 rfl) (ae (aV (ae (ag rfl) (ae (a9 (ae (ar (aU (ae (ag rfl) aq) (tH W)) e_c rfl) (ae e_c aq)) (Zb rfl)) aq)) e2 rfl) aq)) e3 rfl)) (bz (sA (b:=decide (0 < fe gap room W.length - bX W)) (ax (ar (ar (ag rfl) e_c (aN _ _)) e_c eg)) (λ h=>?_) (λ h=>?_))))
 ·unfold lf
  rw [if_pos (Zx h)];exact ag rfl
 ·unfold lf
  rw [if_neg (Y3 h)];exact a9 (ae e_c (ae e_c aq)) (Zb rfl)
def Et {l:Rat} (zl:SzQ l) (sp:Str):jO [.str sp,PF.fr l]=some (.shr (PF.fr (hd sp l))):=by
 have e2:=gk zl pL;rw [<- mZ] at e2;unfold jO jM hd;dsimp only
 by_cases h:sp="right"
 ·rw [if_pos h]
  exact bj (cJ (ax (ar (ag rfl) e_c (by rw [aX,Zh h]))) (bz (ag rfl)))
 ·rw [if_neg h]
  by_cases h2:sp="middle"
  ·rw [if_pos h2]
   exact bj (aR (ax (ar (ag rfl) e_c (by rw [aX,Za h]))) (cJ (ax (ar (ag rfl) e_c (by rw [aX,Zh h2]))) (bz (aV (ae (ag rfl) (ae (a9 (ae e_c (ae e_c aq)) (Zb rfl)) aq)) e2 rfl))))
  ·rw [if_neg h2]
   exact bj (aR (ax (ar (ag rfl) e_c (by rw [aX,Za h]))) (aR (ax (ar (ag rfl) e_c (by rw [aX,Za h2]))) (bz (a9 (ae e_c (ae e_c aq)) (Zb rfl)))))
def J1 (a b c:Rat):bX [a,b,c]=a+b+c:=by
 show 0+a+b+c=_;grind
def Ad (H:Ln N K W gap edge room) (sp:Str):eX [.lst (PF.frs W),.str sp,PF.fr gap,PF.fr edge,PF.fr room]=some (.own (.lst (PF.frs (xsQ sp gap edge (lf (fe gap room W.length - bX W)) W)))):=by
 have eL:=Ha H;have iL:=H.left;have inB:=H.inB sp;have inT:=H.inT sp;have inP:=λ j hj=>H.zx sp (j:=j) hj
 have nn:=G8 (fe gap room W.length - bX W);generalize lf (fe gap room W.length - bX W)=l at *;have zl:=H.zK iL (by decide);have eA:=Et zl.sz sp
 have zh:SzQ (hd sp l):=by
  have h1:=inB.sub H.k2.1 (dv (dv H.ie H.dN) (Yg (Yn K 2) (Yb _ _)));have e:edge+hd sp l - edge=hd sp l:=by grind
  rw [e] at h1;exact (H.zM (m:=1069) (h1.mono (by decide +kernel)) (by decide)).sz
 have eB:=nT (H.z H.ie).sz zh;have few:=H.few;have hpos:=H.one;have len1:(W.length:Int) - 1=((W.length - 1:Nat):Int):=by omega
 unfold xsQ;generalize hb:edge+hd sp l=b at *
 have e7:∀ (x:Sl),aL (bA 7 (ao 2)) (sIf (fE (dT (dOp oEq (ao 1) (dC (.str "apart")))) (dT (dOp oGt (bf d6 (ah (ao 0) aC)) (dC (.int 1))))) (bA 7 (dFn PF.js (ah (ao 2) (ah (dFn PF.mw (ah (ao 5) (ah (cY (ah (dOp lT (bf d6 (ah (ao 0) aC)) (dC (.int 1))) (ah (dC (.int 1)) aC))) aC))) aC)))) bg)
    [.shr (.lst (PF.frs W)),.shr (.str sp),.shr (PF.fr gap),.shr (PF.fr edge),.shr (PF.fr room),.shr (PF.fr l),.shr (PF.fr b),x,.no,.no]=some (.next [.shr (.lst (PF.frs W)),.shr (.str sp),.shr (PF.fr gap),.shr (PF.fr edge),.shr (PF.fr room),.shr (PF.fr l),.shr (PF.fr b),.shr (PF.fr (bw sp gap l W.length)),.no,.no]):=λ x=>by
  refine az (aD (ag rfl)) ?_
  have tst:fE (dT (dOp oEq (ao 1) (dC (.str "apart")))) (dT (dOp oGt (bf d6 (ah (ao 0) aC)) (dC (.int 1)))) [.shr (.lst (PF.frs W)),.shr (.str sp),.shr (PF.fr gap),.shr (PF.fr edge),.shr (PF.fr room),.shr (PF.fr l),.shr (PF.fr b),.shr (PF.fr gap),.no,.no]=some (decide (sp="apart")&&decide ((1:Int) < (W.length:Int))) :=
    iq (ax (ar (ag rfl) e_c (aX _ _))) (ax (ar (aU (ae (ag rfl) aq) (tH W)) e_c rfl))
  unfold bw
  by_cases c:sp="apart"/\1 < W.length
  · rw [Zh c.1,Zh (show (1:Int) < (W.length:Int) by omega)] at tst
    rw [if_pos c];have p1:(0:Rat) < ((((W.length:Int) - 1:Int):Rat)):=by rw [len1]; exact mW (by omega)
    have e2:=Ap p1 zl.sz (n_z hpos few).sz;rw [<- oy ((W.length:Int) - 1),Ws] at e2;have it:=inT;unfold bw at it;rw [if_pos c] at it;have i3:=it.sub H.k2.1 (dv (dv H.ig H.dN) (Yg (Yn K 2) (Yb _ _)));have e:gap+l * ((((W.length:Int) - 1:Int):Rat))⁻¹ - gap=l * ((((W.length:Int) - 1:Int):Rat))⁻¹:=by grind
    rw [e] at i3;have e3:=nT (H.z H.ig).sz (H.zM (m:=1069) (i3.mono (by decide +kernel)) (by decide)).sz;refine fh (b:=true) tst (λ _=>aD (aV (ae (ag rfl) (ae (aV (ae (ag rfl) (ae (a9 (ae (ar (aU (ae (ag rfl) aq) (tH W)) e_c rfl) (ae e_c aq)) (Zb rfl)) aq)) e2 rfl) aq)) e3 rfl)) nofun
  · rw [if_neg c]
    have:(decide (sp="apart")&&decide ((1:Int) < (W.length:Int)))=false:=by
     rw [Bool.eq_false_iff];intro h;rw [Yq] at h;have h1:=Zx h.1;have h2:=Zx h.2;exact c ⟨h1,by omega⟩
    rw [this] at tst;exact fh (b:=false) tst nofun (λ _=>rfl)
 generalize bw sp gap l W.length=t at *
 obtain ⟨τ',e1,x9,rfl⟩:=cM (f:=aL (pF 8 (ao 6)) (bA 6 (dFn PF.dB (ah (lU (ah (ao 6) (ah (ao 9) (ah (ao 7) aC)))) aC)))) (gg:=gN 9) (it:=d7 (ao 0))
  (τ:=[.shr (.lst (PF.frs W)),.shr (.str sp),.shr (PF.fr gap),.shr (PF.fr edge),.shr (PF.fr room),.shr (PF.fr l),.shr (PF.fr b),.shr (PF.fr t),.own (.lst []),.no])
  (λ j τ=>∃ x9,τ=[.shr (.lst (PF.frs W)),.shr (.str sp),.shr (PF.fr gap),.shr (PF.fr edge),.shr (PF.fr room),.shr (PF.fr l),.shr (PF.fr (pos b t W j)),.shr (PF.fr t),.own (.lst (PF.frs ((List.range j).map (pos b t W)))),x9]) (dO (ag rfl)) ⟨.no,by rw [rz]; rfl⟩ (by
    rintro j d τ hd ⟨x9,rfl⟩
    obtain ⟨q,hq,rfl⟩:=iE hd;have hj:j < W.length:=(List.getElem?_eq_some_iff.mp hq).1;have k2:=H.k2;have dK:K ∣ 2 * K * mm W.length:=Yg (Yn K 2) (Yb _ _)
    have all3:∀ x ∈ [pos b t W j,q,t],In (2 * K * mm W.length) (2 ^ 1074) x:=λ x hx=>by
     rcases Zl.mp hx with rfl | hx
     · exact inP j (by omega)
     rcases Zl.mp hx with rfl | hx
     · exact (dv (H.w.is _ (List.mem_of_getElem? hq)) dK).mono (by decide +kernel)
     rcases Zl.mp hx with rfl | hx
     · exact inT.mono (by decide +kernel)
     · cases hx
    have et:=mE (qs:=[pos b t W j,q,t]) (λ x hx=>(H.zM (all3 x hx) (by decide)).sz) (λ i hi=>by
     have:=In.sum k2.1 all3 i hi;have hi3:i<=3:=hi
     exact (H.zM (m:=1076) (this.mono (Zc (Zn _ hi3) (by decide +kernel))) (by decide)).sz)
    rw [J1,<- pos_succ hq] at et;refine ⟨_,_,rfl,az (kE (ag rfl) rfl (by rw [cA,Zd,X7]; omega)) (aD (aV (ae (cB (ae (ag rfl) (ae (ag rfl) (ae (ag rfl) aq))) (Zb rfl)) aq) et rfl)),.shr (PF.fr q),?_⟩;rw [List.range_succ,Wz,zG]
    rfl)
 rw [cA] at e1;unfold eX iI;dsimp only;refine bj ?_
 refine az (aD (aV (ae (ag rfl) (ae (ag rfl) (ae (ag rfl) aq))) eL rfl)) ?_
 refine az (aD (aV (ae (ag rfl) (ae (aV (ae (ag rfl) (ae (ag rfl) aq)) eA rfl) aq)) eB rfl)) ?_
 have e7':=e7 .no
 have assoc:∀ {f g h:DS} {τ τ':List Sl} {o:Option Out},aL f g τ=some (.next τ')->h τ'=o->aL f (aL g h) τ=o:=λ {f g h τ τ' o} q1 q2=>by
  unfold aL at q1 ⊢
  cases e:f τ with
  | none=>rw [e] at q1; cases q1
  | some out =>
    rw [e] at q1
    cases out with
    | next τ2=>simp only at q1 ⊢; rw [q1]; exact q2
    | ret s=>cases q1
    | brk s=>cases q1
    | cnt s=>cases q1
 refine assoc e7' ?_
 exact az (cT (cB aq (Zs _)) (Zb rfl)) (az e1 (jb rfl))
def G9 (x:Rat):lf x=if x < 0 then 0 else x:=by unfold lf; split <;> split <;> grind
def M3 (H:Ln N K W gap edge room) {sp:Str} (hs:¬ (sp="right"/\sp="middle")):dH [.lst (PF.frs (xsQ sp gap edge (lf (fe gap room W.length - bX W)) W)),.lst (PF.frs W),.str sp,PF.fr edge,PF.fr gap,PF.fr (fe gap room W.length)]=some (.shr (.bl true)):=by
 have few:=H.few;have hpos:=H.one;have len1:(W.length:Int) - 1=((W.length - 1:Nat):Int):=by omega
 have zi:Zq (fe gap room W.length):=H.zK H.inner (by decide);have zS:Zq (bX W):=H.zK H.sum (by decide);have eS:=lsum (λ q hq=>H.w.zq hq) (λ i hi=>H.w.Ie few hi);have eM:=jV zi zS;have iL:=H.left;have inB:=H.inB sp;have inT:=H.inT sp;have inP:=λ j hj=>H.zx sp (j:=j) hj
 have k2:=H.k2;have dK:K ∣ 2 * K * mm W.length:=Yg (Yn K 2) (Yb _ _);have hl:=G9 (fe gap room W.length - bX W)
 have e0:oLt (.int (fe gap room W.length - bX W).num) (.int 0)=some (.bl (decide (fe gap room W.length - bX W < 0))):=by
  rw [b9,iB]
 generalize hx:xsQ sp gap edge (lf (fe gap room W.length - bX W)) W=xs at *;unfold xsQ at hx;generalize lf (fe gap room W.length - bX W)=l at *;have zl:=H.zK iL (by decide);have zb:=H.zM inB (by decide);have zt:=H.zM inT (by decide);have zP:=λ j hj=>H.zM (inP j hj) (by decide)
 have eh:=gx zl A8;rw [<- mZ] at eh;have ze:Zq edge:=H.z H.ie;have zh:Zq (l * Rat.divInt 1 2):=H.zM (m:=1067) (dv (k5 H.w.k0 iL) (Yb _ _)) (by decide)
 have e7:aL (sIf (dT (dOp oEq (ao 2) (dC (.str "right")))) (bA 7 (dFn bC (ah (ao 3) (ah (ao 6) aC)))) bg) (sIf (dT (dOp oEq (ao 2) (dC (.str "middle")))) (bA 7 (dFn bC (ah (ao 3) (ah (dFn a7 (ah (ao 6) (ah (cY (ah (dC (.int 1)) (ah (dC (.int 2)) aC))) aC))) aC)))) bg)
    [.shr (.lst (PF.frs xs)),.shr (.lst (PF.frs W)),.shr (.str sp),.shr (PF.fr edge),.shr (PF.fr gap),.shr (PF.fr (fe gap room W.length)),.shr (PF.fr l),.shr (PF.fr edge),.no]=some (.next [.shr (.lst (PF.frs xs)),.shr (.lst (PF.frs W)),.shr (.str sp),.shr (PF.fr edge),.shr (PF.fr gap),.shr (PF.fr (fe gap room W.length)),.shr (PF.fr l),.shr (PF.fr (edge+hd sp l)),.no]):=by
  unfold hd
  by_cases h1:sp="right"
  · have h2:¬ sp="middle":=λ h=>hs ⟨h1,h⟩
    rw [if_pos h1];refine me (ax (ar (ag rfl) e_c (by rw [aX,Zh h1]))) (aD (aV (ae (ag rfl) (ae (ag rfl) aq)) (mS ze zl) rfl)) ?_
    exact fh (b:=false) (ax (ar (ag rfl) e_c (by rw [aX,Za h2]))) nofun (λ _=>rfl)
  · rw [if_neg h1]
    refine aR (ax (ar (ag rfl) e_c (by rw [aX,Za h1]))) ?_
    by_cases h2:sp="middle"
    ·rw [if_pos h2]
     exact fh (b:=true) (ax (ar (ag rfl) e_c (by rw [aX,Zh h2]))) (λ _=>aD (aV (ae (ag rfl) (ae (aV (ae (ag rfl) (ae (a9 (ae e_c (ae e_c aq)) (Zb rfl)) aq)) eh rfl) aq)) (mS ze zh) rfl)) nofun
    ·rw [if_neg h2,Rat.add_zero]
     exact fh (b:=false) (ax (ar (ag rfl) e_c (by rw [aX,Za h2]))) nofun (λ _=>rfl)
 generalize edge+hd sp l=b at *
 have e4:sIf (fE (dT (dOp oEq (ao 2) (dC (.str "apart")))) (dT (dOp oGt (bf d6 (ah (ao 1) aC)) (dC (.int 1))))) (bA 4 (dFn bC (ah (ao 4) (ah (dFn a7 (ah (ao 6) (ah (cY (ah (dC (.int 1)) (ah (dOp lT (bf d6 (ah (ao 1) aC)) (dC (.int 1))) aC))) aC))) aC)))) bg
    [.shr (.lst (PF.frs xs)),.shr (.lst (PF.frs W)),.shr (.str sp),.shr (PF.fr edge),.shr (PF.fr gap),.shr (PF.fr (fe gap room W.length)),.shr (PF.fr l),.shr (PF.fr b),.no]=some (.next [.shr (.lst (PF.frs xs)),.shr (.lst (PF.frs W)),.shr (.str sp),.shr (PF.fr edge),.shr (PF.fr (bw sp gap l W.length)),.shr (PF.fr (fe gap room W.length)),.shr (PF.fr l),.shr (PF.fr b),.no]):=by
  have tst:fE (dT (dOp oEq (ao 2) (dC (.str "apart")))) (dT (dOp oGt (bf d6 (ah (ao 1) aC)) (dC (.int 1)))) [.shr (.lst (PF.frs xs)),.shr (.lst (PF.frs W)),.shr (.str sp),.shr (PF.fr edge),.shr (PF.fr gap),.shr (PF.fr (fe gap room W.length)),.shr (PF.fr l),.shr (PF.fr b),.no]=some (decide (sp="apart")&&decide ((1:Int) < (W.length:Int))) :=
    iq (ax (ar (ag rfl) e_c (aX _ _))) (ax (ar (aU (ae (ag rfl) aq) (tH W)) e_c rfl))
  unfold bw
  by_cases c:sp="apart"/\1 < W.length
  · rw [Zh c.1,Zh (show (1:Int) < (W.length:Int) by omega)] at tst
    rw [if_pos c];have p1:(0:Rat) < ((((W.length:Int) - 1:Int):Rat)):=by rw [len1]; exact mW (by omega)
    have zn:Zq ((((W.length:Int) - 1:Int):Rat))⁻¹:=by
     rw [len1];exact Zq.of (k:=5) (m:=0) (A5 (show 1<=W.length - 1 by omega)) (by omega) (Zc (show W.length - 1<=30 by omega) (by decide)) (by decide) (by decide) (by decide)
    have e2:=gx zl zn;rw [<- rW p1,Rat.num_intCast,Rat.den_intCast] at e2;have it:=inT;unfold bw at it;rw [if_pos c] at it;have i3:=it.sub k2.1 (dv (dv H.ig H.dN) dK);have e:gap+l * ((((W.length:Int) - 1:Int):Rat))⁻¹ - gap=l * ((((W.length:Int) - 1:Int):Rat))⁻¹:=by grind
    rw [e] at i3;have e3:=mS (H.z H.ig) (H.zM (m:=1069) (i3.mono (by decide +kernel)) (by decide));refine fh (b:=true) tst (λ _=>aD (aV (ae (ag rfl) (ae (aV (ae (ag rfl) (ae (a9 (ae e_c (ae (ar (aU (ae (ag rfl) aq) (tH W)) e_c rfl) aq)) (Zb rfl)) aq)) e2 rfl) aq)) e3 rfl)) nofun
  · rw [if_neg c]
    have:(decide (sp="apart")&&decide ((1:Int) < (W.length:Int)))=false:=by
     rw [Bool.eq_false_iff];intro h;rw [Yq] at h;have h1:=Zx h.1;have h2:=Zx h.2;exact c ⟨h1,by omega⟩
    rw [this] at tst;exact fh (b:=false) tst nofun (λ _=>rfl)
 generalize bw sp gap l W.length=t at *
 obtain ⟨τ',e1,x8,rfl⟩:=cM (f:=aL (sIf (dT (dOp oNe (dOp oIx (ao 0) (ao 8)) (ao 7))) (dJ (dC (.bl false))) bg) (bA 7 (dFn bC (ah (dFn bC (ah (ao 7) (ah (dOp oIx (ao 1) (ao 8)) aC))) (ah (ao 4) aC))))) (gg:=gN 8) (it:=gy (ah (bf d6 (ah (ao 1) aC)) aC))
  (τ:=[.shr (.lst (PF.frs xs)),.shr (.lst (PF.frs W)),.shr (.str sp),.shr (PF.fr edge),.shr (PF.fr t),.shr (PF.fr (fe gap room W.length)),.shr (PF.fr l),.shr (PF.fr b),.no])
  (λ j τ=>∃ x8,τ=[.shr (.lst (PF.frs xs)),.shr (.lst (PF.frs W)),.shr (.str sp),.shr (PF.fr edge),.shr (PF.fr t),.shr (PF.fr (fe gap room W.length)),.shr (PF.fr l),.shr (PF.fr (pos b t W j)),x8]) (qh (j:=(W.length:Int)) (ae (aU (ae (ag rfl) aq) (tH W)) aq) (by omega)) ⟨.no,by rw [rz]⟩ (by
    rintro j d τ hd ⟨x8,rfl⟩
    obtain ⟨rfl,hj⟩:=jw hd;rw [Yr] at hj;have hq:W[j]?=some W[j]:=List.getElem?_eq_getElem hj
    have hxj:xs[j]?=some (pos b t W j):=by
     rw [<- hx,List.getElem?_map,List.getElem?_range hj];rfl
    have i1:=(inP j (by omega)).add k2.1 (dv (H.w.is _ (Z1 hj)) dK);have z1:Zq (pos b t W j+W[j]):=H.zM (m:=1075) (i1.mono (by decide +kernel)) (by decide);have p1:=mS (zP j (by omega)) (H.w.zq (Z1 hj));have p2:=mS z1 zt;rw [<- pos_succ hq] at p2
    exact ⟨_,_,rfl,aR (ax (ar (ar (ag rfl) (ag rfl) (A3 hxj)) (ag rfl) (ne_self _))) (aD (aV (ae (aV (ae (ag rfl) (ae (ar (ag rfl) (ag rfl) (A3 hq)) aq)) p1 rfl) (ae (ag rfl) aq)) p2 rfl)),_,rfl⟩)
 have assoc:∀ {f g h:DS} {τ τ':List Sl} {o:Option Out},aL f g τ=some (.next τ')->h τ'=o->aL f (aL g h) τ=o:=λ {f g h τ τ' o} q1 q2=>by
  unfold aL at q1 ⊢
  cases e:f τ with
  | none=>rw [e] at q1; cases q1
  | some out =>
    rw [e] at q1
    cases out with
    | next τ2=>simp only at q1 ⊢; rw [q1]; exact q2
    | ret s=>cases q1
    | brk s=>cases q1
    | cnt s=>cases q1
 unfold dH fg;dsimp only;refine bj ?_
 refine az (aD (aV (ae (ag rfl) (ae (aV (ae (ag rfl) aq) eS rfl) aq)) eM rfl)) ?_
 refine az (τ':=[.shr (.lst (PF.frs xs)),.shr (.lst (PF.frs W)),.shr (.str sp),.shr (PF.fr edge),.shr (PF.fr gap),.shr (PF.fr (fe gap room W.length)),.shr (PF.fr l),.no,.no]) ?_ ?_
 ·rw [hl]
  refine fh (b:=decide (fe gap room W.length - bX W < 0)) (ax (ar (ar (ag rfl) e_c (aN _ _)) e_c e0)) (λ h=>?_) (λ h=>?_)
  · rw [if_pos (Zx h)]
    exact aD (a9 (ae e_c (ae e_c aq)) (Zb rfl))
  · rw [if_neg (Y3 h)]
    rfl
 refine az (aD (ag rfl)) ?_
 refine assoc e7 ?_
 exact az e4 (az e1 (bz e_c))
end
end N36
end
section
set_option exponentiation.threshold 5000
namespace N36
open PySem L2 PF MU DL
def Mj {N:Nat} {g:Rat} {ps:List Rat} (hN:0 < N) (hq:∀ q ∈ ps,In N (10 ^ 32) q) (hg:In N (10 ^ 32) g):In N ((ps.length+ps.length) * 10 ^ 32) (cm g ps):=by
 unfold cm
 by_cases z:ps=[]
 · subst z; rw [if_pos rfl]; exact (In.zero N).mono (Zs _)
 ·rw [if_neg z]
  have s:=In.sum hN hq ps.length (Ze _);rw [Ym] at s;refine (s.add hN (In.AY hN hg (ps.length - 1))).mono ?_
  rw [<- Nat.add_mul];exact Zn _ (by omega)
structure Dr (N:Nat) (qs:List Rat) (g r:Rat):Prop where
 n0:0 < N
 nb:N<=2 ^ 600
 hq:∀ q ∈ qs,In N (10 ^ 32) q/\0<=q
 hg:In N (10 ^ 32) g
 g0:0<=g
 hr:In N (10 ^ 32) r
 len:qs.length<=30
section
variable {N:Nat} {qs:List Rat} {g r:Rat}
def Dr.pN (h:Dr N qs g r) {p e:Nat}:∀ q ∈ seg qs p e,In N (10 ^ 32) q:=λ q hq=>(h.hq q (List.mem_of_mem_drop (List.mem_of_mem_take hq))).1
def Dr.uD (h:Dr N qs g r) {p e:Nat}:(seg qs p e).length<=30:=by
 have:=h.len;unfold seg;rw [Xu,Wu];omega
def Dr.cm (h:Dr N qs g r) {p e:Nat}:In N (10 ^ 34) (cm g (seg qs p e)):=by
 have:=h.uD (p:=p) (e:=e);refine (Mj h.n0 (h.pN (p:=p) (e:=e)) h.hg).mono ?_
 have:((seg qs p e).length+(seg qs p e).length) * 10 ^ 32<=60 * 10 ^ 32:=Zn _ (by omega);exact Zc this (by decide +kernel)
def Dr.left (h:Dr N qs g r) {p e:Nat}:In N (10 ^ 35) (r - PF.cm g (seg qs p e)):=(h.hr.sub h.n0 h.cm).mono (by decide +kernel)
def Dr.lc (h:Dr N qs g r) {p e:Nat}:In (N * N) (10 ^ 70) (lc g r (seg qs p e)):=by
 unfold PF.lc
 by_cases c:PF.cm g (seg qs p e) < r
 ·rw [if_pos c]
  have n:0<=r - PF.cm g (seg qs p e):=by grind
  exact (rX h.n0 h.n0 h.left h.left n n).mono (by decide +kernel)
 ·rw [if_neg c]
  exact (In.zero _).mono (Zs _)
def Dr.nn0 (h:Dr N qs g r):0 < N * N:=Xi h.n0 h.n0
def Dr.nn (h:Dr N qs g r):N * N<=2 ^ 1200:=Zc (cN (k:=600) (l:=600) h.nb h.nb) (by decide +kernel)
def Dr.z (h:Dr N qs g r) {q:Rat} (i:In N (10 ^ 35) q):Zq q:=Zq.of (m:=120) i h.n0 h.nb (by decide +kernel) (by decide) (by decide)
def Dr.zz (h:Dr N qs g r) {q:Rat} (i:In (N * N) (10 ^ 73) q):Zq q:=Zq.of (m:=250) i h.nn0 h.nn (by decide +kernel) (by decide) (by decide)
def Dr.all (h:Dr N qs g r):∀ q ∈ qs++[g,r],q.den ∣ N/\SzQ q:=λ q hq=>by
 have key:∀ {x:Rat},In N (10 ^ 32) x->x.den ∣ N/\SzQ x:=λ i=>⟨i.dv,(h.z (i.mono (by decide +kernel))).sz⟩
 rcases Y5.mp hq with hq | hq
 · exact key (h.hq q hq).1
 ·rcases Zl.mp hq with rfl | hq
  · exact key h.hg
  ·rw [Yj.mp hq]
   exact key h.hr
def Dr.best (h:Dr N qs g r):∃ (R:Nat->Nat) (P:Nat->Rat) (es:List Nat),j5 qs g r R P es/\iT [.lst (PF.frs qs),fr g,fr r]=some (.own (.lst (nD es))):=by
 refine HM (M:=10 ^ 35) h.n0 (Yv h.nb (by decide +kernel)) h.all (by have:=h.len; omega) (λ p e h1 h2=>⟨h.left.lo,h.left.hi⟩) ?_
 exact Yv (Y1 _ h.nb) (by decide +kernel)
def sM (h:Dr N qs g r) {p e:Nat}:cS [.lst (PF.frs (seg qs p e)),fr g]=some (.shr (fr (PF.cm g (seg qs p e)))):=by
 have sl:=h.uD (p:=p) (e:=e);refine Hb (by omega) (λ q hq=>h.z ((h.pN q hq).mono (by decide +kernel))) (λ i hi=>?_) (h.z (h.hg.mono (by decide +kernel))) ?_
 ·have s:=In.sum h.n0 (h.pN (p:=p) (e:=e)) i hi
  exact h.z (s.mono (Zc (Zn _ (show i<=30 by omega)) (by decide +kernel)))
 ·have s:=In.AY h.n0 h.hg ((seg qs p e).length - 1)
  exact h.z (s.mono (Zc (Zn _ (show _<=30 by omega)) (by decide +kernel)))
variable {R:Nat->Nat} {P:Nat->Rat} {es:List Nat}
def Stl.lt {n:Nat} {c:Nat->Nat->Rat} {p e:Nat} (h:Stl n c R P p e) (hp:p < n):p < e/\e<=n:=by
 rcases h with ⟨h1,h2,h3⟩ | ⟨h1,h2⟩
 · omega
 ·have:=h2.lt
  have:=h2.le;omega
def Stl.Kd {n:Nat} {c:Nat->Nat->Rat} {p e:Nat} (h:Stl n c R P p e) (hp:p < n):P p=if e < n then c p e+P e else 0:=by
 rcases h with ⟨h1,h2,h3⟩ | ⟨h1,h2⟩
 · rw [h3,if_neg (Y9 _)]; exact h2
 ·have:=h2.lt
  have:=h2.le;rw [if_pos (by omega)];exact h2.eq
def j5.in_ (h:Dr N qs g r) (B:j5 qs g r R P es):∀ (k p:Nat),qs.length - p<=k->p<=qs.length->In (N * N) (k * 10 ^ 70) (P p)/\0<=P p:=by
 intro k
 induction k with
 | zero =>
  intro p h1 h2;have:p=qs.length:=by omega
  rw [this,B.last];exact ⟨(In.zero _).mono (Zs _),Yh⟩
 | succ k ih =>
  intro p h1 h2
  by_cases c:p=qs.length
  ·rw [c,B.last]
   exact ⟨(In.zero _).mono (Zs _),Yh⟩
  ·obtain ⟨e,_,st⟩:=B.at_ p (by omega)
   obtain ⟨l1,l2⟩:=Stl.lt st (by omega);rw [Stl.Kd st (by omega)]
   by_cases z:e < qs.length
   ·rw [if_pos z]
    obtain ⟨i1,i2⟩:=ih e (by omega) l2;refine ⟨?_,Rat.add_nonneg (Hc _ _ _) i2⟩;have:=h.lc (p:=p) (e:=e);rw [Nat.succ_mul,Nat.add_comm];exact this.add h.nn0 i1
   ·rw [if_neg z]
    exact ⟨(In.zero _).mono (Zs _),Yh⟩
def j5.inP (h:Dr N qs g r) (B:j5 qs g r R P es) {p:Nat} (hp:p<=qs.length):In (N * N) (10 ^ 72) (P p):=by
 have:=h.len;refine (j5.in_ h B qs.length p (by omega) hp).1.mono ?_
 have:qs.length * 10 ^ 70<=30 * 10 ^ 70:=Zn _ h.len;exact Zc this (by decide +kernel)
def j5.nn (h:Dr N qs g r) (B:j5 qs g r R P es) {p:Nat} (hp:p<=qs.length):0<=P p:=(j5.in_ h B qs.length p (by omega) hp).2
def due (qs:List Rat) (g r:Rat) (P:Nat->Rat) (p e:Nat):Rat:=if e < qs.length then lc g r (seg qs p e)+P e else 0
def Mi (h:Dr N qs g r) {p e:Nat} (hp:p < e) (he:e < qs.length):cm g (seg qs p e)<=cm g (seg qs p (e+1)):=by
 have hqe:qs[e]?=some qs[e]:=List.getElem?_eq_getElem he;rw [mI (Xq hp) hqe,qK _ _ (uC hp (Xq he))];have:=(h.hq qs[e] (Z1 _)).2;have:=h.g0;grind
def xg (h:Dr N qs g r) {p e:Nat} (hp:p < e):∀ k,e+k<=qs.length->cm g (seg qs p e)<=cm g (seg qs p (e+k))
 | 0,_=>Yh
 | k+1,hk=>Wf (xg h hp k (by omega)) (Mi h (by omega) (by omega))
def fit (h:Dr N qs g r) {p e:Nat} (W:Wr qs g r p R0) (h1:p+1 < e) (h2:e<=R0):cm g (seg qs p e)<=r:=by
 have:=W.le;have c:=xg h (p:=p) (e:=e) (by omega) (R0 - e) (by omega);rw [show e+(R0 - e)=R0 by omega] at c;exact Wf c (W.fit.resolve_left (by omega))
def sk {b:D->DS} (Q:Nat->List Sl->Prop):∀ (k:Nat) {ds:List D} {τ:List Sl} (i:Nat),Q i τ->(∀ j d τ,j < k->ds[j]?=some d->Q (i+j) τ->∃ τ',b d τ=some (.next τ')/\Q (i+j+1) τ')->k<=ds.length->∃ τ',Q (i+k) τ'/\oz b ds τ=oz b (ds.drop k) τ'
 | 0,ds,τ,i,h,_,_=>⟨τ,h,rfl⟩
 | k+1,[],τ,i,h,hs,hl=>by simp at hl
 | k+1,d::ds,τ,i,h,hs,hl=>by
  obtain ⟨τ1,e1,p1⟩:=hs 0 d τ (by omega) rfl h
  obtain ⟨τ2,p2,e2⟩:=sk Q k (ds:=ds) (τ:=τ1) (i+1) p1 (λ j d' τ' hj hd p=>by
   have:=hs (j+1) d' τ' (by omega) (by simpa using hd) (by rw [show i+(j+1)=i+1+j by omega]; exact p);rw [show i+(j+1)+1=i+1+j+1 by omega] at this
   exact this) (by simpa using hl)
  refine ⟨τ2,by rw [show i+(k+1)=i+1+k by omega]; exact p2,?_⟩;rw [List.drop_succ_cons,<- e2]
  conv=>lhs; unfold oz
  rw [e1]
def wU (h:Dr N qs g r) (B:j5 qs g r R P es) {p e:Nat} (hp:p < qs.length) (st:Stl qs.length (λ p e=>lc g r (seg qs p e)) R P p e) :
  due qs g r P p e=P p/\p < e/\e<=R p/\(∀ e',e < e'->e'<=R p->¬ due qs g r P p e'=P p)/\∀ e',p < e'->e'<=R p->¬ due qs g r P p e' < P p:=by
 rcases st with ⟨h1,h2,h3⟩ | ⟨h1,h2⟩
 ·subst h3
  refine ⟨?_,hp,Nat.le_of_eq h1.symm,λ e' a b=>by omega,λ e' a b=>?_⟩
  ·unfold due
   rw [if_neg (Y9 _),h2]
  ·rw [h2]
   refine W0.mpr ?_
   unfold due;split
   · exact Rat.add_nonneg (Hc _ _ _) (j5.nn h B (by omega))
   · exact Yh
 ·have l1:=h2.lt
  have l2:=h2.le;refine ⟨?_,l1,by omega,λ e' a b=>?_,λ e' a b=>?_⟩
  ·unfold due
   rw [if_pos (by omega)];exact h2.eq.symm
  ·have:=h2.far e' a (by omega)
   unfold due;rw [if_pos (by omega)]
   exact λ z=>by
    rw [z] at this;exact absurd this (Rat.lt_irrefl)
  ·have:=h2.least e' a (by omega)
   unfold due;rw [if_pos (by omega)];exact W0.mpr this
def xF {c:Nat->Rat} {p k:Nat} {v v':Rat} {e e':Nat} (h:lS c p k v e) (h':lS c p k v' e'):v=v'/\e=e':=by
 have a1:=h.least e' h'.lt h'.le;have a2:=h'.least e h.lt h.le;rw [<- h'.eq] at a1;rw [<- h.eq] at a2;have ev:v=v':=by grind
 refine ⟨ev,?_⟩;rcases Nat.lt_trichotomy e e' with z | z | z
 ·have:=h.far e' z h'.le
  rw [<- h'.eq] at this;grind
 · exact z
 ·have:=h'.far e z h.le
  rw [<- h.eq] at this;grind
def j5.best (h:Dr N qs g r) (B:j5 qs g r R P es) {p e:Nat} (hp:p < qs.length) (he:es[p]?=some e):lS (due qs g r P p) p (R p - p) (P p) e:=by
 obtain ⟨e',he',st⟩:=B.at_ p hp;rw [he] at he';cases he';obtain ⟨d1,d2,d3,d4,d5⟩:=wU h B hp st;have:=(B.wr p hp).lt;refine ⟨d2,by omega,d1.symm,λ e' a b=>W0.mp (d5 e' a (by omega)),λ e' a b=>?_⟩;have h1:=W0.mp (d5 e' (by omega) (by omega));have h2:=d4 e' a (by omega);grind
noncomputable def fb:DS:=(aL (bA 7 (dFn cF (ah (ao 2) (ah (dFn cS (ah (dSl (ao 0) (dP (ao 5)) (dP (dOp cp (ao 5) (ao 6)))) (ah (ao 1) aC))) aC))))
 (aL (sIf (fE (dT (dOp oGt (ao 6) (dC (.int 1)))) (dT (dOp oLt (dOp oIx (ao 7) (dC (.int 0))) (dC (.int 0))))) Fg bg)
 (aL (bA 8 (nk 3 (dOp eY (ao 3) (dOp cp (ao 5) (ao 6)))))
 (aL (sIf (fE (dT (dOp oLt (dOp cp (ao 5) (ao 6)) (bf d6 (ah (ao 0) aC)))) (dT (dOp oGt (dOp oIx (ao 7) (dC (.int 0))) (dC (.int 0))))) (bA 8 (dFn bC (ah (ao 8) (ah (dFn a7 (ah (ao 7) (ah (ao 7) aC))) aC)))) bg)
 (sIf (ur 3 (dOr (dT (dOp oEq (ao 6) (dC (.int 1)))) (nj (dT (dFn aZ (ah (dOp eY (ao 3) (ao 5)) (ah (ao 8) aC))))))) (aL (kF 3 (ao 8) (ao 5))
 (kF 4 (ao 6) (ao 5))) bg)))))
def fs (qs:List Rat) (g r:Rat) (pk fk:List (Key×D)) (x5 x6 x7 x8:Sl):List Sl:=[.shr (.lst (PF.frs qs)),.shr (fr g),.shr (fr r),.own (.dct pk),.own (.dct fk),x5,x6,x7,x8,.no]
def J4 {τ:List Sl} {c:DT} {f:DS} (h:c τ=some true):aL (sIf c Fg bg) f τ=some (.brk τ):=by
 unfold aL;rw [fh (b:=true) (f:=Fg) (g:=bg) (r:=some (.brk τ)) h (λ _=>rfl) nofun]
def JO (h:Dr N qs g r) (B:j5 qs g r R P es) {p m:Nat} {pk fk:List (Key×D)} {x6 x7 x8:Sl} (hm:1<=m) (he:p+m<=R p) (hp:p < qs.length) (hP:cV pk (.inl ((p+m:Nat):Int))=some (fr (P (p+m)))) {v:Rat} {e:Nat} (hv:1 < m->cV pk (.inl (p:Int))=some (fr v)/\lS (due qs g r P p) p (m - 1) v e)
  (iv:1 < m->In (N * N) (10 ^ 73) v) (l1:pk.length < 1000) (l2:fk.length < 1000) :
  ∃ x7' x8',fb (fs qs g r pk fk (.shr (.int (p:Int))) (.shr (.int (m:Int))) x7 x8)=some (.next (if m=1\/¬ v < due qs g r P p (p+m) then fs qs g r (putD pk (.inl (p:Int)) (fr (due qs g r P p (p+m)))) (putD fk (.inl (p:Int)) (.int (m:Int))) (.shr (.int (p:Int))) (.shr (.int (m:Int))) x7' x8' else fs qs g r pk fk (.shr (.int (p:Int))) (.shr (.int (m:Int))) x7' x8')):=by
 have W:=B.wr p hp;have len:=h.len;have Wle:=W.le;have zl:=h.z (h.left (p:=p) (e:=p+m));have em:=jV (h.z (h.hr.mono (by decide +kernel))) (h.z ((h.cm (p:=p) (e:=p+m)).mono (by decide +kernel)));have ec:=sM h (p:=p) (e:=p+m);have add:cp (.int (p:Int)) (.int (m:Int))=some (.int ((p+m:Nat):Int)):=by rw [dF,Int.natCast_add]
 have esl:oSl (.lst (PF.frs qs)) (some (p:Int)) (some ((p+m:Nat):Int))=some (.lst (PF.frs (seg qs p (p+m)))):=by
  show some (D.lst (cutD _ _ _))=_;rw [sH qs (by omega) (by omega)];rfl
 generalize hL:r - PF.cm g (seg qs p (p+m))=L at *;have iP:In (N * N) (10 ^ 72) (P (p+m)):=j5.inP h B (by omega);have e0:oLt (.int L.num) (.int 0)=some (.bl (decide (L < 0))):=by rw [b9,iB]
 have nb:fE (dT (dOp oGt (ao 6) (dC (.int 1)))) (dT (dOp oLt (dOp oIx (ao 7) (dC (.int 0))) (dC (.int 0)))) (fs qs g r pk fk (.shr (.int (p:Int))) (.shr (.int (m:Int))) (.shr (fr L)) x8)=some false:=by
  refine de (b:=decide ((1:Int) < (m:Int))) (ax (ar (ag rfl) e_c rfl)) (λ q=>?_) (λ _=>rfl);have q1:=Zx q;have ft:=fit h W (e:=p+m) (by omega) he;have:¬ L < 0:=by grind
  rw [Za this] at e0;exact ax (ar (ar (ag rfl) e_c (aN _ _)) e_c e0)
 have eg:oGt (.int L.num) (.int 0)=some (.bl (decide (0 < L))):=by
  show some (D.bl (decide (0 < L.num)))=_;rw [dt]
 have iLL:0 < L->In (N * N) (10 ^ 70) (L * L):=λ q=>by
  have:=h.lc (p:=p) (e:=p+m);unfold PF.lc at this;rw [if_pos (by grind),hL] at this;exact this
 have hc:In (N * N) (10 ^ 73) (due qs g r P p (p+m))/\aL (bA 8 (nk 3 (dOp eY (ao 3) (dOp cp (ao 5) (ao 6)))))
  (sIf (fE (dT (dOp oLt (dOp cp (ao 5) (ao 6)) (bf d6 (ah (ao 0) aC)))) (dT (dOp oGt (dOp oIx (ao 7) (dC (.int 0))) (dC (.int 0))))) (bA 8 (dFn bC (ah (ao 8) (ah (dFn a7 (ah (ao 7) (ah (ao 7) aC))) aC)))) bg) (fs qs g r pk fk (.shr (.int (p:Int))) (.shr (.int (m:Int))) (.shr (fr L)) x8)
    = some (.next (fs qs g r pk fk (.shr (.int (p:Int))) (.shr (.int (m:Int))) (.shr (fr L)) (.shr (fr (due qs g r P p (p+m)))))):=by
  have g1:eY (.dct pk) (.int ((p+m:Nat):Int))=some (fr (P (p+m))):=hP
  have tst:fE (dT (dOp oLt (dOp cp (ao 5) (ao 6)) (bf d6 (ah (ao 0) aC)))) (dT (dOp oGt (dOp oIx (ao 7) (dC (.int 0))) (dC (.int 0)))) (fs qs g r pk fk (.shr (.int (p:Int))) (.shr (.int (m:Int))) (.shr (fr L)) (.shr (fr (P (p+m)))))=some (decide (((p+m:Nat):Int) < (qs.length:Int))&&decide (0 < L)) :=
    iq (ax (ar (ar (ag rfl) (ag rfl) add) (aU (ae (ag rfl) aq) (fQ qs)) rfl)) (ax (ar (ar (ag rfl) e_c (aN _ _)) e_c eg))
  by_cases c1:p+m < qs.length
  · by_cases c2:0 < L
    ·have ed:due qs g r P p (p+m)=P (p+m)+L * L:=by
      unfold due PF.lc;rw [if_pos c1,if_pos (by grind),hL,Rat.add_comm]
     have ill:=iLL c2;have isum:=(iP.add h.nn0 ill).mono (show 10 ^ 72+10 ^ 70<=10 ^ 73 by decide +kernel);rw [ed];refine ⟨isum,az (aD (ni rfl (ar (ag rfl) (ar (ag rfl) (ag rfl) add) g1) rfl)) ?_⟩;rw [Zh (show ((p+m:Nat):Int) < (qs.length:Int) by omega),Zh c2] at tst;exact fh (b:=true) tst (λ _=>aD (aV (ae (ag rfl) (ae (aV (ae (ag rfl) (ae (ag rfl) aq)) (gx zl zl) rfl) aq)) (mS (h.zz (iP.mono (by decide +kernel))) (h.zz (ill.mono (by decide +kernel)))) rfl)) nofun
    ·have ed:due qs g r P p (p+m)=P (p+m):=by
      unfold due PF.lc;rw [if_pos c1,if_neg (by grind),Rat.zero_add]
     rw [ed];refine ⟨iP.mono (by decide +kernel),az (aD (ni rfl (ar (ag rfl) (ar (ag rfl) (ag rfl) add) g1) rfl)) ?_⟩;rw [Za c2,Bool.and_false] at tst;exact fh (b:=false) tst nofun (λ _=>rfl)
  · have en:p+m=qs.length:=by omega
    have ed:due qs g r P p (p+m)=P (p+m):=by
     unfold due;rw [if_neg c1,en,B.last]
    rw [ed];refine ⟨iP.mono (by decide +kernel),az (aD (ni rfl (ar (ag rfl) (ar (ag rfl) (ag rfl) add) g1) rfl)) ?_⟩;rw [Za (show ¬ ((p+m:Nat):Int) < (qs.length:Int) by omega),Bool.false_and] at tst;exact fh (b:=false) tst nofun (λ _=>rfl)
 obtain ⟨ic,sc⟩:=hc;generalize due qs g r P p (p+m)=c at *
 have assoc:∀ {f g h:DS} {τ τ':List Sl} {o:Option Out},aL f g τ=some (.next τ')->h τ'=o->aL f (aL g h) τ=o:=λ {f g h τ τ' o} q1 q2=>by
  unfold aL at q1 ⊢
  cases e:f τ with
  | none=>rw [e] at q1; cases q1
  | some out =>
    rw [e] at q1
    cases out with
    | next τ2=>simp only at q1 ⊢; rw [q1]; exact q2
    | ret s=>cases q1
    | brk s=>cases q1
    | cnt s=>cases q1
 have tst:ur 3 (dOr (dT (dOp oEq (ao 6) (dC (.int 1)))) (nj (dT (dFn aZ (ah (dOp eY (ao 3) (ao 5)) (ah (ao 8) aC)))))) (fs qs g r pk fk (.shr (.int (p:Int))) (.shr (.int (m:Int))) (.shr (fr L)) (.shr (fr c)))=some (decide (m=1\/¬ v < c)):=by
  refine lV rfl ?_
  by_cases q1:m=1
  · have:(m:Int)=1:=by omega
    rw [Zh (.inl q1)];exact nN (b:=true) (ax (ar (ag rfl) e_c (by rw [bT,Zh this]))) nofun (λ _=>rfl)
  · have nm:¬ (m:Int)=1:=by omega
    obtain ⟨a1,_⟩:=hv (by omega);have a1':eY (.dct pk) (.int (p:Int))=some (fr v):=a1;have eu:=iu (h.zz (iv (by omega))) (h.zz ic);refine nN (b:=false) (ax (ar (ag rfl) e_c (by rw [bT,Za nm]))) (λ _=>?_) nofun
    have:decide (m=1\/¬ v < c)=!decide (v < c):=by
     by_cases q2:v < c
     · rw [Zh q2,Za (λ z=>by rcases z with z | z; exact q1 z; exact z q2)]; rfl
     · rw [Za q2,Zh (.inr q2)]; rfl
    rw [this];exact gh (ax (aV (ae (ar (ag rfl) (ag rfl) a1') (ae (ag rfl) aq)) eu rfl))
 refine ⟨.shr (fr L),.shr (fr c),?_⟩;unfold fb;refine az (aD (aV (ae (ag rfl) (ae (aV (ae (tR (ag rfl) (cy (ag rfl)) (cy (ar (ag rfl) (ag rfl) add)) esl) (ae (ag rfl) aq)) ec rfl) aq)) em rfl)) ?_
 refine aR nb ?_
 refine assoc sc ?_
 refine fh (b:=decide (m=1\/¬ v < c)) tst (λ q=>?_) (λ q=>?_)
 ·rw [if_pos (Zx q)]
  exact az (gq (ag rfl) (ag rfl) rfl rfl (by omega)) (gq (ag rfl) (ag rfl) rfl rfl (by omega))
 ·rw [if_neg (Y3 q)]
  rfl
def HI (h:Dr N qs g r) (B:j5 qs g r R P es) {p e:Nat} (he:e<=qs.length):In (N * N) (10 ^ 73) (due qs g r P p e):=by
 unfold due;split
 · exact ((h.lc (p:=p) (e:=e)).add h.nn0 (j5.inP h B he)).mono (by decide +kernel)
 · exact (In.zero _).mono (Zs _)
def L0 {τ:List Sl} {ga:DA} {n:Nat} (h:ga τ=some [.int (n:Int)]) (h1:n<=1000):wc ga τ=some (j8 ((n:Int) - 1) n):=by
 unfold wc;rw [h];show (if 0<=(n:Int)/\(n:Int)<=1000000 then some (j8 ((n:Int) - 1) (n:Int).toNat) else none)=_;rw [if_pos (by omega),Yr]
structure Bk (qs:List Rat) (P:Nat->Rat) (es:List Nat) (p:Nat) (pk fk:List (Key×D)):Prop where
 pr:∀ e,p < e->e<=qs.length->cV pk (.inl (e:Int))=some (fr (P e))
 fi:∀ e x,p < e->e < qs.length->es[e]?=some x->cV fk (.inl (e:Int))=some (.int ((x - e:Nat):Int))
def Bk.put {p:Nat} {pk fk:List (Key×D)} {x y:D} (h:Bk qs P es p pk fk):Bk qs P es p (putD pk (.inl (p:Int)) x) (putD fk (.inl (p:Int)) y) :=
 ⟨λ e h1 h2=>bJ (λ z=>by injection z with z; omega) (h.pr e h1 h2),λ e x h1 h2 h3=>bJ (λ z=>by injection z with z; omega) (h.fi e x h1 h2 h3)⟩
def DF (h:Dr N qs g r) (B:j5 qs g r R P es) {p:Nat} {pk fk:List (Key×D)} {x6 x7 x8:Sl} {L:Nat} (hn:qs.length<=9) (hp:p < qs.length) (K:Bk qs P es p pk fk) (l1:pk.length<=L) (l2:fk.length<=L) (hL:L<=900) :
    ∃ pk' fk' x6' x7' x8',nF (jg (ah (dC (.int 1)) (ah (dOp cp (dOp lT (bf d6 (ah (ao 0) aC)) (ao 5)) (dC (.int 1))) aC))) (gN 6) fb (fs qs g r pk fk (.shr (.int (p:Int))) x6 x7 x8)=some (.next (fs qs g r pk' fk' (.shr (.int (p:Int))) x6' x7' x8')) /\
      Bk qs P es p pk' fk'/\cV pk' (.inl (p:Int))=some (fr (P p))/\(∀ x,es[p]?=some x->cV fk' (.inl (p:Int))=some (.int ((x - p:Nat):Int)))/\pk'.length<=L+10/\fk'.length<=L+10:=by
  have W:=B.wr p hp;have w1:=W.lt;have w2:=W.le
  have hit:jg (ah (dC (.int 1)) (ah (dOp cp (dOp lT (bf d6 (ah (ao 0) aC)) (ao 5)) (dC (.int 1))) aC)) (fs qs g r pk fk (.shr (.int (p:Int))) x6 x7 x8)=some (mh 1 (qs.length - p)):=by
    have:=A7 (τ:=fs qs g r pk fk (.shr (.int (p:Int))) x6 x7 x8) (i:=1) (j:=(qs.length:Int) - (p:Int)+1) (ga:=ah (dC (.int 1)) (ah (dOp cp (dOp lT (bf d6 (ah (ao 0) aC)) (ao 5)) (dC (.int 1))) aC)) (ae e_c (ae (ar (ar (aU (ae (ag rfl) aq) (fQ qs)) (ag rfl) rfl) e_c rfl) aq)) (by omega);rw [this,show ((qs.length:Int) - (p:Int)+1 - 1).toNat=qs.length - p by omega]
  obtain ⟨τ',hQ,eF⟩:=sk (b:=λ d τ=>(gN 6 d τ).bind fb) (λ j τ=>∃ (pk' fk':List (Key×D)) (x6' x7' x8':Sl) (v:Rat) (e:Nat),Bk qs P es p pk' fk'/\(1<=j->cV pk' (.inl (p:Int))=some (fr v)/\cV fk' (.inl (p:Int))=some (.int ((e - p:Nat):Int))/\lS (due qs g r P p) p j v e)/\pk'.length<=L+j/\fk'.length<=L+j/\τ=fs qs g r pk' fk' (.shr (.int (p:Int))) x6' x7' x8')
    (R p - p) (ds:=mh 1 (qs.length - p)) (τ:=fs qs g r pk fk (.shr (.int (p:Int))) x6 x7 x8) 0 ⟨pk,fk,x6,x7,x8,0,0,K,λ h=>by omega,by omega,by omega,rfl⟩ (by
      rintro j d τ hj hd ⟨pk',fk',x6',x7',x8',v,e,K',hv,l1',l2',rfl⟩
      rw [Xr] at *;obtain ⟨rfl,hj2⟩:=jw hd;have em:(1:Int)+(j:Int)=((j+1:Nat):Int):=by omega
      rw [em]
      have iv:1 < j+1->In (N * N) (10 ^ 73) v:=λ c=>by
        obtain ⟨_,_,b⟩:=hv (by omega);rw [b.eq];exact HI h B (by have:=b.le; omega)
      obtain ⟨x7n,x8n,eb⟩:=JO h B (p:=p) (m:=j+1) (pk:=pk') (fk:=fk') (x6:=x6') (x7:=x7') (x8:=x8') (by omega) (by omega) hp (K'.pr (p+(j+1)) (by omega) (by omega)) (v:=v) (e:=e) (λ c=>⟨(hv (by omega)).1,by rw [Nat.add_sub_cancel]; exact (hv (by omega)).2.2⟩) iv (by omega) (by omega);refine ⟨_,eb,?_⟩
      by_cases c:j+1=1\/¬ v < due qs g r P p (p+(j+1))
      · rw [if_pos c]
        refine ⟨_,_,_,_,_,due qs g r P p (p+(j+1)),p+(j+1),K'.put,λ _=>⟨kf,?_,?_⟩,?_,?_,rfl⟩
        · rw [show p+(j+1) - p=j+1 by omega]; exact kf
        · by_cases z:j=0
          · subst z; exact lS.one
          · have b:=(hv (by omega)).2.2
            have:=b.new (W0.mp (c.resolve_left (by omega)));exact this
        · have:=gu (kvs:=pk') (k:=.inl (p:Int)) (v:=fr (due qs g r P p (p+(j+1)))); omega
        · have:=gu (kvs:=fk') (k:=.inl (p:Int)) (v:=.int ((j+1:Nat):Int)); omega
      · rw [if_neg c]
        have c1:¬ j+1=1:=λ z=>c (.inl z)
        have c2:v < due qs g r P p (p+(j+1)):=Classical.byContradiction λ z=>c (.inr z)
        have b:=(hv (by omega)).2.2.old c2
        exact ⟨_,_,_,_,_,v,e,K',λ _=>⟨(hv (by omega)).1,(hv (by omega)).2.1,b⟩,by omega,by omega,rfl⟩) (by rw [dX]; omega)
  rw [Xr] at hQ;obtain ⟨pk',fk',x6',x7',x8',v,e,K',hv,l1',l2',rfl⟩:=hQ;obtain ⟨v1,v2,b⟩:=hv (by omega)
  have fin:cV pk' (.inl (p:Int))=some (fr (P p))/\∀ x,es[p]?=some x->cV fk' (.inl (p:Int))=some (.int ((x - p:Nat):Int)):=by
    obtain ⟨e',he',_⟩:=B.at_ p hp;obtain ⟨u1,u2⟩:=xF b (j5.best h B hp he');refine ⟨by rw [v1,u1],λ x hx=>?_⟩;rw [he'] at hx;cases hx;rw [v2,u2]
  by_cases c:R p=qs.length
  · refine ⟨pk',fk',x6',x7',x8',?_,K',fin.1,fin.2,by omega,by omega⟩
    refine uF hit (eF.trans ?_);rw [List.drop_eq_nil_of_le (by rw [dX]; omega)];rfl
  · -- one more is too much
    have hlt:R p - p < (mh 1 (qs.length - p)).length:=by rw [dX]; omega
    have hget:=List.getElem?_eq_getElem hlt;obtain ⟨ed,_⟩:=jw hget;have most:=W.most.resolve_left c;have em:=jV (h.z (h.hr.mono (by decide +kernel))) (h.z ((h.cm (p:=p) (e:=R p+1)).mono (by decide +kernel)));have ec:=sM h (p:=p) (e:=R p+1);have e1:(1:Int)+((R p - p:Nat):Int)=((R p+1 - p:Nat):Int):=by omega
    have add:cp (.int (p:Int)) (.int ((R p+1 - p:Nat):Int))=some (.int ((R p+1:Nat):Int)):=by
      rw [dF,show (p:Int)+((R p+1 - p:Nat):Int)=((R p+1:Nat):Int) by omega]
    have esl:oSl (.lst (PF.frs qs)) (some (p:Int)) (some ((R p+1:Nat):Int))=some (.lst (PF.frs (seg qs p (R p+1)))):=by
      show some (D.lst (cutD _ _ _))=_;rw [sH qs (by omega) (by omega)];rfl
    generalize hLL:r - PF.cm g (seg qs p (R p+1))=LL at *;have e0:oLt (.int LL.num) (.int 0)=some (.bl true):=by rw [b9,iB,Zh (by grind)]
    refine ⟨pk',fk',.shr (.int ((R p+1 - p:Nat):Int)),.shr (fr LL),x8',?_,K',fin.1,fin.2,by omega,by omega⟩;refine uF hit (eF.trans ?_);rw [Yl hlt,ed,e1]
    conv=>lhs; unfold oz
    have eb:fb (fs qs g r pk' fk' (.shr (.int (p:Int))) (.shr (.int ((R p+1 - p:Nat):Int))) x7' x8')=some (.brk (fs qs g r pk' fk' (.shr (.int (p:Int))) (.shr (.int ((R p+1 - p:Nat):Int))) (.shr (fr LL)) x8')):=by
      unfold fb;refine az (aD (aV (ae (ag rfl) (ae (aV (ae (tR (ag rfl) (cy (ag rfl)) (cy (ar (ag rfl) (ag rfl) add)) esl) (ae (ag rfl) aq)) ec rfl) aq)) em rfl)) ?_
      refine J4 (de (b:=true) (ax (ar (ag rfl) e_c ?_)) (λ _=>ax (ar (ar (ag rfl) e_c (aN _ _)) e_c e0)) nofun);show some (D.bl (decide ((1:Int) < ((R p+1 - p:Nat):Int))))=_;rw [Zh (by omega)]
    have:(gN 6 (.int ((R p+1 - p:Nat):Int)) (fs qs g r pk' fk' (.shr (.int (p:Int))) x6' x7' x8')).bind fb=some (.brk (fs qs g r pk' fk' (.shr (.int (p:Int))) (.shr (.int ((R p+1 - p:Nat):Int))) (.shr (fr LL)) x8')):=eb;rw [this]
def Hu {n:Nat} {s1 s2 s3 x6 x7 x8:Sl} {fk:List (Key×D)} {p:Nat} {cs:List Nat} (hn:qs.length=n) (hn9:n<=1000) (hf:∀ e x,e < n->es[e]?=some x->cV fk (.inl (e:Int))=some (.int ((x - e:Nat):Int))) (h:Ch (λ p e=>es[p]?=some e) n p cs):∀ acc:List D,acc.length<=p ->
  gr (dT (dOp oLt (ao 5) (bf d6 (ah (ao 0) aC)))) (aL (pF 9 (nk 4 (dOp eY (ao 4) (ao 5)))) (lY 5 j7 (nk 4 (dOp eY (ao 4) (ao 5))))) [.shr (.lst (PF.frs qs)),s1,s2,s3,.own (.dct fk),.shr (.int (p:Int)),x6,x7,x8,.own (.lst acc)]
   = some (.next [.shr (.lst (PF.frs qs)),s1,s2,s3,.own (.dct fk),.shr (.int (n:Int)),x6,x7,x8,.own (.lst (acc++nD cs))]):=by
 suffices key:∀ acc:List D,acc.length<=p->bH (dT (dOp oLt (ao 5) (bf d6 (ah (ao 0) aC)))) (aL (pF 9 (nk 4 (dOp eY (ao 4) (ao 5)))) (lY 5 j7 (nk 4 (dOp eY (ao 4) (ao 5))))) (cs.length+1) [.shr (.lst (PF.frs qs)),s1,s2,s3,.own (.dct fk),.shr (.int (p:Int)),x6,x7,x8,.own (.lst acc)]
   = some (.next [.shr (.lst (PF.frs qs)),s1,s2,s3,.own (.dct fk),.shr (.int (n:Int)),x6,x7,x8,.own (.lst (acc++nD cs))]) from λ acc ha=>eI (key acc ha)
 have il:=fQ qs;rw [hn] at il
 induction h with
 | nil =>
  intro acc ha
  have t1:dT (dOp oLt (ao 5) (bf d6 (ah (ao 0) aC))) [.shr (.lst (PF.frs qs)),s1,s2,s3,.own (.dct fk),.shr (.int (n:Int)),x6,x7,x8,.own (.lst acc)]=some false:=by
   refine ax (ar (ag rfl) (aU (ae (ag rfl) aq) il) ?_);rw [b9,Za (by omega)]
  unfold bH;rw [t1];show _=some (Out.next [_,_,_,_,_,_,_,_,_,.own (.lst (acc++[]))]);rw [Yi]
 | @cons p e cs h l m r ih =>
  intro acc ha;have g1:eY (.dct fk) (.int (p:Int))=some (.int ((e - p:Nat):Int)):=hf p e (by omega) h
  have t1:dT (dOp oLt (ao 5) (bf d6 (ah (ao 0) aC))) [.shr (.lst (PF.frs qs)),s1,s2,s3,.own (.dct fk),.shr (.int (p:Int)),x6,x7,x8,.own (.lst acc)]=some true:=by
   refine ax (ar (ag rfl) (aU (ae (ag rfl) aq) il) ?_);rw [b9,Zh (by omega)]
  have t2:aL (pF 9 (nk 4 (dOp eY (ao 4) (ao 5)))) (lY 5 j7 (nk 4 (dOp eY (ao 4) (ao 5)))) [.shr (.lst (PF.frs qs)),s1,s2,s3,.own (.dct fk),.shr (.int (p:Int)),x6,x7,x8,.own (.lst acc)]=some (.next [.shr (.lst (PF.frs qs)),s1,s2,s3,.own (.dct fk),.shr (.int (e:Int)),x6,x7,x8,.own (.lst (acc++[.int ((e - p:Nat):Int)]))]):=by
   refine az (kE (d:=.int ((e - p:Nat):Int)) (ni rfl (ar (ag rfl) (ag rfl) g1) rfl) rfl (by omega)) (kD (z:=.int (e:Int)) (ag rfl) (ni rfl (ar (ag rfl) (ag rfl) g1) rfl) ?_);show some (D.int ((p:Int)+((e - p:Nat):Int)))=_;rw [show (p:Int)+((e - p:Nat):Int)=(e:Int) by omega]
  have c2:=ih (acc++[.int ((e - p:Nat):Int)]) (by rw [Zu]; simp; omega);rw [Zw]
  conv=>lhs; unfold bH
  rw [t1,t2];simp only;rw [c2];show some (Out.next [_,_,_,_,_,_,_,_,_,.own (.lst ((acc++[_])++nD cs))])=some (Out.next [_,_,_,_,_,_,_,_,_,.own (.lst (acc++(_::nD cs)))]);rw [X6];rfl
def Hz (h:Dr N qs g r) (B:j5 qs g r R P es) (hn:qs.length<=9) {cs:List Nat} (hc:Ch (λ p e=>es[p]?=some e) qs.length 0 cs):iU [.lst (PF.frs qs),fr g,fr r]=some (.own (.lst (nD cs))):=by
 have il:=fQ qs
 obtain ⟨τ',e1,pk,fk,x5,x6,x7,x8,k1,k2,_,_,rfl⟩:=cM (f:=nF (jg (ah (dC (.int 1)) (ah (dOp cp (dOp lT (bf d6 (ah (ao 0) aC)) (ao 5)) (dC (.int 1))) aC))) (gN 6) fb) (gg:=gN 5) (it:=wc (ah (bf d6 (ah (ao 0) aC)) aC))
  (τ:=fs qs g r [(.inl (qs.length:Int),fr 0)] [] .no .no .no .no)
  (λ j τ=>∃ (pk fk:List (Key×D)) (x5 x6 x7 x8:Sl),(∀ e,qs.length<=e+j->e<=qs.length->cV pk (.inl (e:Int))=some (fr (P e)))/\(∀ e x,qs.length<=e+j->e < qs.length->es[e]?=some x->cV fk (.inl (e:Int))=some (.int ((x - e:Nat):Int)))/\pk.length<=1+10 * j/\fk.length<=1+10 * j/\τ=fs qs g r pk fk x5 x6 x7 x8)
  (L0 (ae (aU (ae (ag rfl) aq) il) aq) (by omega)) ⟨_,_,_,_,_,_,λ e h1 h2=>by
    have:e=qs.length:=by omega
    rw [this,B.last]
    exact fG rfl,λ e x h1 h2=>by omega,Ze _,Zs _,rfl⟩ (by
    rintro j d τ hd ⟨pk,fk,x5,x6,x7,x8,k1,k2,l1,l2,rfl⟩
    obtain ⟨rfl,hj⟩:=sD hd;have ep:(qs.length:Int) - 1 - (j:Int)=((qs.length - 1 - j:Nat):Int):=by omega
    rw [ep];obtain ⟨pk',fk',x6',x7',x8',e2,K',v1,v2,l1',l2'⟩:=DF h B (p:=qs.length - 1 - j) (pk:=pk) (fk:=fk) (x6:=x6) (x7:=x7) (x8:=x8) (L:=1+10 * j) hn (by omega) ⟨λ e h1 h2=>k1 e (by omega) h2,λ e x h1 h2 h3=>k2 e x (by omega) h2 h3⟩ l1 l2 (by omega);refine ⟨_,_,rfl,e2,pk',fk',_,_,_,_,λ e h1 h2=>?_,λ e x h1 h2 h3=>?_,by omega,by omega,rfl⟩
    ·by_cases z:e=qs.length - 1 - j
     · rw [z]; exact v1
     · exact K'.pr e (by omega) h2
    ·by_cases z:e=qs.length - 1 - j
     · rw [z] at h3 ⊢; exact v2 x h3
     · exact K'.fi e x (by omega) h2 h3)
 rw [sC] at k1 k2;have w:=Hu (qs:=qs) (es:=es) (s1:=.shr (fr g)) (s2:=.shr (fr r)) (s3:=.own (.dct pk)) (x6:=x6) (x7:=x7) (x8:=x8) (fk:=fk) rfl (by omega) (λ e x h1 h2=>k2 e x (by omega) h1 h2) hc [] (Zs _);unfold iU iM;dsimp only;refine bj ?_
 refine az (τ':=[.shr (.lst (PF.frs qs)),.shr (fr g),.shr (fr r),.own (.dct [(.inl (qs.length:Int),fr 0)]),.no,.no,.no,.no,.no,.no]) (cT ?_ (Zb rfl)) ?_
 ·have:=Be (τ:=[.shr (.lst (PF.frs qs)),.shr (fr g),.shr (fr r),.no,.no,.no,.no,.no,.no,.no]) (ps:=((bf d6 (ah (ao 0) aC)),(cY (ah (dC (.int 0)) (ah (dC (.int 1)) aC))))::[]) (kvs:=[(.inl (qs.length:Int),fr 0)]) (by
    have a:bf d6 (ah (ao 0) aC) [.shr (.lst (PF.frs qs)),.shr (fr g),.shr (fr r),.no,.no,.no,.no,.no,.no,.no]=some (.int (qs.length:Int)):=aU (ae (ag rfl) aq) il;have b:cY (ah (dC (.int 0)) (ah (dC (.int 1)) aC)) [.shr (.lst (PF.frs qs)),.shr (fr g),.shr (fr r),.no,.no,.no,.no,.no,.no,.no]=some (fr 0):=a9 (ae e_c (ae e_c aq)) (Zb rfl);unfold oV;dsimp only;rw [a,b]
    rfl) (Zb rfl)
  exact this
 refine az (cT e_c (Zb rfl)) ?_
 refine az e1 ?_
 refine az (cT (cB aq (Zs _)) (Zb rfl)) ?_
 refine az (aD e_c) ?_
 exact az w (jb rfl)
end
end N36
end
section
set_option exponentiation.threshold 5000
namespace N36
open PySem L2 PF MU DL
def DX (t:Adr) (w:Str):D:=.obj t.gC [("word",.str w)]
def Hy (t:Adr) (w:Str):lR t [.str w]=some (.shr (DX t w)):=by
 unfold lR lN;dsimp only;exact bj (bz (oU (xs:=[.str w]) (ae (ag rfl) aq) rfl))
structure Cnt (w:Str) (qs:List Rat) (g r:Rat) (p e:Nat):Prop where
 st:w="stack"->e=p+1
 ro:w="row"->p=0/\e=qs.length
 fi:w="wrap"\/w="fair"->e=p+1\/cm g (seg qs p e)<=r
 mo:w="wrap"->e=qs.length\/r < cm g (seg qs p (e+1))
def xi {E E':Nat->Nat->Prop} {n p:Nat} {cs:List Nat} (h:Ch E n p cs) (f:∀ p e,p < e->e<=n->E p e->E' p e):Ch E' n p cs:=by
 induction h with
 | nil=>exact .nil
 | cons h l m r ih=>exact .cons (f _ _ l m h) l m ih
def rD:∀ (qs:List Rat) (f:D->Option D),(∀ d,f d=some (.int 1))->kj f (PF.frs qs)=some (nD (List.replicate qs.length 1))
 | [],_,_=>rfl
 | q::qs,f,h=>by
  have ih:=rD qs f h;show kj f (fr q::PF.frs qs)=_;simp only [kj,h,ih];rfl
def u6 (n:Nat):∀ (k p:Nat),p+k=n->Ch (λ p e=>e=p+1) n p (List.replicate k 1)
 | 0,p,h=>by
  have:p=n:=by omega
  rw [this];exact .nil
 | k+1,p,h=>by
  have c:=Ch.cons (E:=λ p e=>e=p+1) (n:=n) (p:=p) (e:=p+1) rfl (by omega) (by omega) (u6 n k (p+1) (by omega));rw [show p+1 - p=1 by omega] at c;exact c
section
variable {N:Nat} {qs:List Rat} {g r:Rat}
def Mh (t:Adr) (h:Dr N qs g r) {w:Str} (hw:w="stack"\/w="row"\/w="wrap"\/w="fair") :
  ∃ cs,gb t [DX t w,.lst (PF.frs qs),fr g,fr r]=some (.own (.lst (nD cs)))/\Ch (Cnt w qs g r) qs.length 0 cs/\(w="fair"->∃ R P es,j5 qs g r R P es/\Ch (λ p e=>es[p]?=some e) qs.length 0 cs):=by
 have f1:∀ x,dUn (Gh t.gC "word") (ao 0) (.shr (DX t w)::x)=some (.str w):=λ x=>wQ (fs:=[("word",.str w)]) (ag rfl) rfl
 have il:=fQ qs;have hlen:=h.len;have bN:N < 2 ^ 4000:=Yv h.nb (by decide +kernel);obtain ⟨R,P,es,B,eB⟩:=h.best;unfold gb fZ;dsimp only
 by_cases z:qs=[]
 ·subst z
  exact ⟨[],bj (cJ (ax (ar (ag rfl) (cB aq (Zs _)) (eq_nil []))) (nQ (cB aq (Zs _)))),.nil,λ _=>⟨R,P,es,B,.nil⟩⟩
 have lp:0 < qs.length:=X9.mpr z;have e0:oEq (.lst (PF.frs qs)) (.lst [])=some (.bl false):=by rw [eq_nil,Za z]
 rcases hw with rfl | rfl | rfl | rfl
 ·refine ⟨List.replicate qs.length 1,bj (aR (ax (ar (ag rfl) (cB aq (Zs _)) e0)) (cJ (ax (ar (f1 _) e_c rfl)) (nQ (di (dO (ag rfl)) (by rw [cA]; omega) (rD qs _ λ d=>rfl))))),?_,λ h=>absurd h (by decide +kernel)⟩
  exact xi (u6 qs.length qs.length 0 (Xr _)) λ p e _ _ q=>⟨λ _=>q,λ h=>absurd h (by decide +kernel),λ h=>absurd h (by decide +kernel),λ h=>absurd h (by decide +kernel)⟩
 ·refine ⟨[qs.length],bj (aR (ax (ar (ag rfl) (cB aq (Zs _)) e0)) (aR (ax (ar (f1 _) e_c (by rw [aX,Za (by decide +kernel)]))) (cJ (ax (ar (f1 _) e_c rfl)) (nQ (cB (ae (aU (ae (ag rfl) aq) il) aq) (Zb rfl)))))),?_,λ h=>absurd h (by decide +kernel)⟩
  exact .cons (p:=0) (e:=qs.length) ⟨λ h=>absurd h (by decide +kernel),λ _=>⟨rfl,rfl⟩,λ h=>absurd h (by decide +kernel),λ h=>absurd h (by decide +kernel)⟩ lp (Ze _) .nil
 ·obtain ⟨es,le,he,e1⟩:=uL h.n0 bN h.all (by omega)
  obtain ⟨cs,c1,c2⟩:=oW (E:=Wr qs g r) (n:=qs.length) (by omega) le λ p e hpe=>⟨he p e hpe,(he p e hpe).lt,(he p e hpe).le⟩
  refine ⟨cs,bj (aR (ax (ar (ag rfl) (cB aq (Zs _)) e0)) (aR (ax (ar (f1 _) e_c (by rw [aX,Za (by decide +kernel)]))) (aR (ax (ar (f1 _) e_c (by rw [aX,Za (by decide +kernel)]))) (az (aD (sA (b:=true) (ax (ar (f1 _) e_c rfl)) (λ _=>aV (ae (ag rfl) (ae (ag rfl) (ae (ag rfl) aq))) e1 rfl) nofun)) (nQ (HG (ae (ag rfl) aq) c2 rfl)))))),?_,λ h=>absurd h (by decide +kernel)⟩;exact xi c1 λ p e _ _ W=>⟨λ h=>absurd h (by decide +kernel),λ h=>absurd h (by decide +kernel),λ _=>W.fit,λ _=>W.most⟩
 ·have fact:∀ p e,es[p]?=some e->p < qs.length/\p < e/\e<=qs.length/\e<=R p:=λ p e hpe=>by
   have hp:p < qs.length:=by
    have:=(List.getElem?_eq_some_iff.mp hpe).1;rw [B.len] at this;exact this
   have b:=j5.best h B hp hpe;have b1:=b.lt;have b2:=b.le;have w1:=(B.wr p hp).lt;have w2:=(B.wr p hp).le;omega
  obtain ⟨cs,c1,c2⟩:=oW (E:=λ p e=>es[p]?=some e) (n:=qs.length) (by omega) B.len λ p e hpe=>⟨hpe,(fact p e hpe).2.1,(fact p e hpe).2.2.1⟩
  refine ⟨cs,bj (aR (ax (ar (ag rfl) (cB aq (Zs _)) e0)) (aR (ax (ar (f1 _) e_c (by rw [aX,Za (by decide +kernel)]))) (aR (ax (ar (f1 _) e_c (by rw [aX,Za (by decide +kernel)]))) (az (aD (sA (b:=false) (ax (ar (f1 _) e_c (by rw [aX,Za (by decide +kernel)]))) nofun (λ _=>aV (ae (ag rfl) (ae (ag rfl) (ae (ag rfl) aq))) eB rfl))) (nQ (HG (ae (ag rfl) aq) c2 rfl)))))),?_,λ _=>⟨R,P,es,B,c1⟩⟩;refine xi c1 λ p e _ _ q=>⟨λ h=>absurd h (by decide +kernel),λ h=>absurd h (by decide +kernel),λ _=>?_,λ h=>absurd h (by decide +kernel)⟩
  obtain ⟨hp,l1,l2,l3⟩:=fact p e q
  by_cases c:e=p+1
  · exact .inl c
  · exact .inr (fit h (B.wr p hp) (by omega) l3)
def vc (n:Nat):∀ cs:List Nat,kL n (nD cs)=true
 | []=>by cases n <;> rfl
 | c::cs=>by
  have:=vc n cs;unfold nD at *;simp only [Z8,kL,this,Bool.and_true];cases n <;> rfl
def LI (cs:List Nat):oNe (.lst (nD cs)) (.lst (nD cs))=some (.bl false):=by
 unfold oNe;have:okD 9 (.lst (nD cs))=true:=by rw [okD]; exact vc 8 cs
 rw [wK this this,g6];rfl
def OB (h:Dr N qs g r) {w:Str} {cs:List Nat} (hc:Ch (Cnt w qs g r) qs.length 0 cs) (hf:w="fair"->∃ R P es,j5 qs g r R P es/\Ch (λ p e=>es[p]?=some e) qs.length 0 cs) :
  c9 [.lst (nD cs),.str w,.lst (PF.frs qs),fr g,fr r]=some (.shr (.bl true)):=by
 have il:=fQ qs;have hlen:=h.len;have zr:=h.z (h.hr.mono (show 10 ^ 32<=10 ^ 35 by decide +kernel))
 obtain ⟨τ',e1,p',x6,hch,rfl⟩:=cM (f:=aL (sIf (dOr (nj (dT (bf pH (ah (ao 6) (ah (dC (.ty "int")) aC))))) (dOr (dT (bf pH (ah (ao 6) (ah (dC (.ty "bool")) aC)))) (dOr (dT (dOp oLt (ao 6) (dC (.int 1)))) (dT (dOp oGt (dOp cp (ao 5) (ao 6)) (bf d6 (ah (ao 2) aC))))))) (dJ (dC (.bl false))) bg)
  (aL (sIf (dOr (fE (dT (dOp oEq (ao 1) (dC (.str "stack")))) (dT (dOp oNe (ao 6) (dC (.int 1))))) (fE (dT (dOp oEq (ao 1) (dC (.str "row")))) (dT (dOp oNe (ao 6) (bf d6 (ah (ao 2) aC)))))) (dJ (dC (.bl false))) bg)
  (aL (sIf (dOr (dT (dOp oEq (ao 1) (dC (.str "wrap")))) (dT (dOp oEq (ao 1) (dC (.str "fair"))))) (sIf (fE (dT (dOp oGt (ao 6) (dC (.int 1)))) (dT (dFn aZ (ah (ao 4) (ah (dFn cS (ah (dSl (ao 2) (dP (ao 5)) (dP (dOp cp (ao 5) (ao 6)))) (ah (ao 3) aC))) aC))))) (dJ (dC (.bl false))) bg) bg)
  (aL (sIf (fE (dT (dOp oEq (ao 1) (dC (.str "wrap")))) (dT (dOp oLt (dOp cp (ao 5) (ao 6)) (bf d6 (ah (ao 2) aC))))) (sIf (nj (dT (dFn aZ (ah (ao 4) (ah (dFn cS (ah (dSl (ao 2) (dP (ao 5)) (dP (dOp cp (dOp cp (ao 5) (ao 6)) (dC (.int 1))))) (ah (ao 3) aC))) aC))))) (dJ (dC (.bl false))) bg) bg)
  (lY 5 j7 (ao 6)))))) (gg:=gN 6) (it:=d7 (ao 0))
  (τ:=[.shr (.lst (nD cs)),.shr (.str w),.shr (.lst (PF.frs qs)),.shr (fr g),.shr (fr r),.shr (.int 0),.no])
  (λ j τ=>∃ (p:Nat) (x6:Sl),Ch (Cnt w qs g r) qs.length p (cs.drop j)/\τ=[.shr (.lst (nD cs)),.shr (.str w),.shr (.lst (PF.frs qs)),.shr (fr g),.shr (fr r),.shr (.int (p:Int)),x6]) (dO (ag rfl)) ⟨0,.no,by rw [Xy]; exact hc,rfl⟩ (by
    rintro j d τ hd ⟨p,x6,hc,rfl⟩
    unfold nD at hd;rw [List.getElem?_map] at hd
    cases q:cs[j]? with
    | none=>rw [q] at hd; cases hd
    | some c =>
     rw [q] at hd;have e:D.int (c:Int)=d:=Zj hd;subst e;have hj:j < cs.length:=(List.getElem?_eq_some_iff.mp q).1
     have ed:cs.drop j=c::cs.drop (j+1):=by
      rw [Yl hj];have:cs[j]=c:=(List.getElem?_eq_some_iff.mp q).2;rw [this]
     rw [ed] at hc
     obtain ⟨e,he,hlt,hle,ec,hc'⟩:∃ e,Cnt w qs g r p e/\p < e/\e<=qs.length/\c=e - p/\Ch (Cnt w qs g r) qs.length e (cs.drop (j+1)):=by
      cases hc with
      | cons h l m r=>exact ⟨_,h,l,m,rfl,r⟩
     have hadd:cp (.int (p:Int)) (.int (c:Int))=some (.int (e:Int)):=by rw [dF,show (p:Int)+(c:Int)=(e:Int) by omega]
     refine ⟨_,_,rfl,?_,e,.shr (.int (c:Int)),hc',rfl⟩;refine aR (nN (b:=false) (gh (ax (aU (ae (ag rfl) (ae e_c aq)) (vX _)))) (λ _=>nN (b:=false) (ax (aU (ae (ag rfl) (ae e_c aq)) (rT _))) (λ _=>nN (b:=false) (ax (ar (ag rfl) e_c (by rw [b9,Za (by omega)]))) (λ _=>ax (ar (ar (ag rfl) (ag rfl) hadd) (aU (ae (ag rfl) aq) il) ?_)) nofun) nofun) nofun) ?_
     ·show some (D.bl (decide ((qs.length:Int) < (e:Int))))=_
      rw [Za (by omega)]
     refine aR (nN (b:=false) (de (b:=decide (w="stack")) (ax (ar (ag rfl) e_c (aX _ _))) (λ q=>ax (ar (ag rfl) e_c ?_)) (λ _=>rfl)) (λ _=>de (b:=decide (w="row")) (ax (ar (ag rfl) e_c (aX _ _))) (λ q=>ax (ar (ag rfl) (aU (ae (ag rfl) aq) il) ?_)) (λ _=>rfl)) nofun) ?_
     ·have:=he.st (Zx q)
      rw [eK,Zh (show (c:Int)=1 by omega)];rfl
     ·have:=he.ro (Zx q)
      rw [eK,Zh (show (c:Int)=(qs.length:Int) by omega)];rfl
     have esl:∀ {x:Nat},p<=x->x<=qs.length->oSl (.lst (PF.frs qs)) (some (p:Int)) (some (x:Int))=some (.lst (PF.frs (seg qs p x))):=λ {x} h1 h2=>by
      show some (D.lst (cutD _ _ _))=_;rw [sH qs h1 h2];rfl
     refine az (fh (b:=decide (w="wrap")||decide (w="fair")) (ya (ax (ar (ag rfl) e_c (aX _ _))) (ax (ar (ag rfl) e_c (aX _ _)))) (λ q=>fh (b:=false) (de (b:=decide ((1:Int) < (c:Int))) (ax (ar (ag rfl) e_c rfl)) (λ q2=>?_) (λ _=>rfl)) nofun (λ _=>rfl)) (λ _=>rfl)) ?_
     ·have q3:=Zx q2
      have hw:w="wrap"\/w="fair":=by
       rcases Bool.or_eq_true_iff.mp q with a | a
       · exact .inl (Zx a)
       · exact .inr (Zx a)
      have ft:=(he.fi hw).resolve_left (by omega);have eu:=iu zr (h.z ((h.cm (p:=p) (e:=e)).mono (by decide +kernel)));rw [Za (W0.mpr ft)] at eu;exact ax (aV (ae (ag rfl) (ae (aV (ae (tR (ag rfl) (cy (ag rfl)) (cy (ar (ag rfl) (ag rfl) hadd)) (esl (by omega) hle)) (ae (ag rfl) aq)) (sM h) rfl) aq)) eu rfl)
     refine az (fh (b:=decide (w="wrap")&&decide ((e:Int) < (qs.length:Int))) (iq (ax (ar (ag rfl) e_c (aX _ _))) (ax (ar (ar (ag rfl) (ag rfl) hadd) (aU (ae (ag rfl) aq) il) rfl))) (λ q=>fh (b:=false) ?_ nofun (λ _=>rfl)) (λ _=>rfl)) ?_
     ·rw [Yq] at q
      have q2:=Zx q.2;have most:=(he.mo (Zx q.1)).resolve_left (by omega);have eu:=iu zr (h.z ((h.cm (p:=p) (e:=e+1)).mono (by decide +kernel)));rw [Zh most] at eu;have e2:cp (.int (e:Int)) (.int 1)=some (.int ((e+1:Nat):Int)):=by rw [dF,show (e:Int)+1=((e+1:Nat):Int) by omega]
      exact gh (b:=true) (ax (aV (ae (ag rfl) (ae (aV (ae (tR (ag rfl) (cy (ag rfl)) (cy (ar (ar (ag rfl) (ag rfl) hadd) e_c e2)) (esl (by omega) (by omega))) (ae (ag rfl) aq)) (sM h) rfl) aq)) eu rfl))
     refine kD (z:=.int (e:Int)) (ag rfl) (ag rfl) ?_
     show some (D.int ((p:Int)+(c:Int)))=_
     rw [show (p:Int)+(c:Int)=(e:Int) by omega])
 rw [show (nD cs).length=cs.length from oi cs,Wa] at hch;have ep:p'=qs.length:=by cases hch; rfl
 subst ep;unfold c9 c8;dsimp only;refine bj (aR (gh (ax (aU (ae (ag rfl) (ae e_c aq)) (vW _)))) (aR ?_ (az (aD e_c) (az e1 (bz (ar (ag rfl) (aU (ae (ag rfl) aq) il) ?_))))))
 ·refine de (b:=decide (w="fair")) (ax (ar (ag rfl) e_c (aX _ _))) (λ q=>?_) (λ _=>rfl)
  obtain ⟨R,P,es,B,c⟩:=hf (Zx q);refine de (b:=decide ((qs.length:Int) < 10)) (ax (ar (aU (ae (ag rfl) aq) il) e_c rfl)) (λ q2=>?_) (λ _=>rfl);have q3:=Zx q2;have ef:=Hz h B (by omega) c;exact ax (ar (ag rfl) (aV (ae (ag rfl) (ae (ag rfl) (ae (ag rfl) aq))) ef rfl) (LI cs))
 · rw [bT,Zh rfl]
end
end N36
end
section
set_option exponentiation.threshold 5000
namespace N36
open PySem L2 PF MU DL
structure Sit (N:Nat) (S:Bool->Nat) (is:List Item) (gap edge room:Rat):Prop where
 n0:0 < N
 s0:∀ g,0 < S g
 nb:N<=2 ^ 600
 sb:∀ g,S g<=2 ^ 200
 few:is.length<=29
 ib:∀ i ∈ is,In N (10 ^ 32) i.base
 il:∀ i ∈ is,In N (10 ^ 32) i.least/\0<=i.least
 im:∀ i ∈ is,∀ m,i.most=some m->In N (10 ^ 32) m
 ig:∀ i ∈ is,In (S true) (10 ^ 32) i.grow/\0<=i.grow
 ik:∀ i ∈ is,In (S false) (10 ^ 32) i.shrink/\0<=i.shrink
 hg:In N (10 ^ 32) gap
 g0:0<=gap
 he:In N (10 ^ 32) edge
 hr:In N (10 ^ 32) room
def sub (is:List Item) (p c:Nat):List Item:=(is.drop p).take c
def ky {is:List Item} {p c:Nat} {i:Item} (h:i ∈ sub is p c):i ∈ is:=List.mem_of_mem_drop (List.mem_of_mem_take h)
def sub_len {is:List Item} {p c:Nat} (h:p+c<=is.length):(sub is p c).length=c:=by unfold sub; rw [Xu,Wu]; omega
def xc {α:Type} (f:α->D) (xs:List α) {a b:Nat} (h1:a<=b) (h2:b<=xs.length):oSl (.lst (xs.map f)) (some (a:Int)) (some (b:Int))=some (.lst (((xs.drop a).take (b - a)).map f)):=by
 show some (D.lst (cutD _ _ _))=_;unfold cutD;rw [Zd]
 have l1:(HT.sIx xs.length 0 (some (a:Int)))=a:=by
  simp only [HT.sIx];rw [if_neg (by omega),Yr];omega
 have l2:(HT.sIx xs.length xs.length (some (b:Int)))=b:=by
  simp only [HT.sIx];rw [if_neg (by omega),Yr];omega
 rw [l1,l2,List.map_take,List.map_drop]
section
variable {N:Nat} {S:Bool->Nat} {is:List Item} {gap edge room:Rat}
def Sit.beg (H:Sit N S is gap edge room) {i:Item} (h:i ∈ is):In N (10 ^ 32) (bG i):=qi (H.ib i h) (H.il i h).1 (H.im i h)
def Sit.dr (H:Sit N S is gap edge room):Dr N (is.map bG) gap room:=⟨H.n0,H.nb,λ q hq=>by
 obtain ⟨i,hi,rfl⟩:=Yw.mp hq
 exact ⟨H.beg hi,Wf (H.il i hi).2 (A1 i)⟩,H.hg,H.g0,H.hr,by rw [Zd]; have:=H.few; omega⟩
def Sit.Oz (H:Sit N S is gap edge room) {p c:Nat} (h1:1<=c) (h2:p+c<=is.length):iX N S (sub is p c) (fe gap room c):=by
 have few:=H.few;have l:=sub_len h2;refine ⟨H.n0,H.s0,H.nb,H.sb,by omega,λ i hi=>H.ib i (ky hi),λ i hi=>(H.il i (ky hi)).1,λ i hi=>H.im i (ky hi),λ i hi=>H.ig i (ky hi),λ i hi=>H.ik i (ky hi),?_⟩;unfold fe;exact (H.hr.sub H.n0 (gm H.n0 H.hg h1 (by omega))).mono (by decide +kernel)
structure EH (N:Nat) (is:List Item) (gap edge room:Rat) (p c:Nat) (W:List Rat):Prop where
 len:W.length=c
 ln:∃ K,Ln N K W gap edge room
 run:∃ x y,iR [.lst ((sub is p c).map itD),PF.fr (fe gap room c)]=some (.shr (.tup [.lst (PF.frs W),x,y]))
 law:dR [.lst ((sub is p c).map liD),.lst (PF.frs W),PF.fr (fe gap room c)]=some (.shr (.bl true))
def Du (H:Sit N S is gap edge room) {p c:Nat} (h1:1<=c) (h2:p+c<=is.length):∃ W,EH N is gap edge room p c W:=by
 have D:=H.Oz h1 h2;have l:=sub_len h2;have few:=H.few;have mk:∀ {K:Nat} {W:List Rat},N ∣ K->Wd K W->W.length=c->Ln N K W gap edge room:=λ {K W} d w e=>⟨H.n0,d,w,by omega,by omega,H.hg,H.he,H.hr⟩
 obtain ⟨d1,d2⟩:=Ee D
 by_cases z:fe gap room c - bX ((sub is p c).map bG)=0
 ·have w:=EU D
  have e:((sub is p c).map bG).length=c:=by rw [Zd,l]
  refine ⟨_,e,⟨N,mk (Ww _) w e⟩,⟨_,_,d1 z⟩,?_⟩;exact A2 D (Dp z) (by rw [z]; rfl) (λ _=>rfl) w (Ww _)
 ·obtain ⟨g,r,qs,hg,R,hlam,e1⟩:=d2 z
  generalize hm:fe gap room c - bX ((sub is p c).map bG)=m at *;have ha:0 < pJ m:=by unfold pJ; split <;> grind
  have hn:m=sg g (pJ m):=by
   rw [hg];unfold pJ
   by_cases q:0 < m
   · rw [Zh q,if_neg (by grind)]; rfl
   · rw [Za q,if_pos (by grind)]; simp only [sg,Zv,Yp]; grind
  have hp:∀ i ∈ sub is p c,0<=shQ g i:=λ i hi=>(D.share g hi).2
  obtain ⟨K,dK,w⟩:=ET D ha R hlam;have e:(m5 g (sub is p c) r qs).length=c:=by rw [iG,l]
  refine ⟨_,e,⟨K,mk dK w e⟩,⟨_,_,e1⟩,?_⟩;exact A2 D (G0 hp ha (by rw [hm]; exact hn) R hlam) (by rw [hm]; exact hg) (λ q=>absurd (by rw [<- hm]; exact q) z) w dK
def cat (f:Nat->Nat->List Rat):Nat->List Nat->List Rat
 | _,[]=>[]
 | p,c::cs=>f p c++cat f (p+c) cs
def XQ (W:Nat->Nat->List Rat) (sp:Str) (gap edge room:Rat) (p c:Nat):List Rat:=xsQ sp gap edge (lf (fe gap room c - bX (W p c))) (W p c)
def nG (sp:Str) (gap edge l:Rat) (W:List Rat):(xsQ sp gap edge l W).length=W.length:=by unfold xsQ; rw [Zd,X7]
def Fe {τ:List Sl} {i:Nat} {f:DE} {ds es:List D} (h:f τ=some (.lst es)) (q:τ[i]?=some (.own (.lst ds))) (hl:ds.length+es.length<=100000):yg i f τ=some (.next (τ.set i (.own (.lst (ds++es))))):=by
 unfold yg;rw [h];show (match D.lst es,τ[i]? with | .lst es,some (.own (.lst ds))=>_ | _,_=>_)=_;rw [q];exact if_pos hl
def wu (a b:List Rat):PF.frs a++PF.frs b=PF.frs (a++b):=by unfold PF.frs; rw [Wz]
def drop_cons {cs:List Nat} {j c:Nat} (q:cs[j]?=some c):cs.drop j=c::cs.drop (j+1):=by
 have hj:j < cs.length:=(List.getElem?_eq_some_iff.mp q).1;rw [Yl hj];have:cs[j]=c:=(List.getElem?_eq_some_iff.mp q).2;rw [this]
def Av {cs:List Nat} {j:Nat} {d:D} (hd:(nD cs)[j]?=some d):∃ c,cs[j]?=some c/\d=.int (c:Int):=by
 unfold nD at hd;rw [List.getElem?_map] at hd
 cases q:cs[j]? with
 | none=>rw [q] at hd; cases hd
 | some c=>rw [q] at hd; exact ⟨c,rfl,(Zj hd).symm⟩
variable {E:Nat->Nat->Prop} {W:Nat->Nat->List Rat}
def tG (H:Sit N S is gap edge room) (hW:∀ p c,1<=c->p+c<=is.length->EH N is gap edge room p c (W p c)) {kvs:List (Key×D)} {sp:Str} (hsp:cV kvs (.inr "spread")=some (.tup [.str "word",.str sp])) {cs:List Nat} (hc:Ch E is.length 0 cs) (s1 s2 s3 s8:Sl) :
  ∃ x12 x13 x14 x15,nF (d7 (ao 9)) (gN 13) (aL (bA 14 (dFn PF.gJ (ah (ao 6) (ah (cY (ah (dOp lT (ao 13) (dC (.int 1))) (ah (dC (.int 1)) aC))) aC))))
  (aL (bA 15 (dOp oIx (dFn PF.iR (ah (dSl (ao 7) (dP (ao 12)) (dP (dOp cp (ao 12) (ao 13)))) (ah (dFn PF.cQ (ah (ao 5) (ah (ao 14) aC))) aC))) (dC (.int 0))))
  (aL (yg 10 (ao 15))
  (aL (yg 11 (dFn eX (ah (ao 15) (ah (dOp oIx (dOp eY (ao 0) (dC (.str "spread"))) (dC (.int 1))) (ah (ao 6) (ah (ao 4) (ah (ao 5) aC)))))))
  (lY 12 j7 (ao 13)))))) [.shr (.dct kvs),s1,s2,s3,.shr (PF.fr edge),.shr (PF.fr room),.shr (PF.fr gap),.shr (.lst (is.map itD)),s8,.shr (.lst (nD cs)),.own (.lst []),.own (.lst []),.shr (.int 0),.no,.no,.no]
  = some (.next [.shr (.dct kvs),s1,s2,s3,.shr (PF.fr edge),.shr (PF.fr room),.shr (PF.fr gap),.shr (.lst (is.map itD)),s8,.shr (.lst (nD cs)),.own (.lst (PF.frs (cat W 0 cs))),.own (.lst (PF.frs (cat (XQ W sp gap edge room) 0 cs))),x12,x13,x14,x15]):=by
 have few:=H.few
 obtain ⟨τ',e1,p',A,B,x13,x14,x15,hch,hA,hB,_,_,rfl⟩:=cM (f:=aL (bA 14 (dFn PF.gJ (ah (ao 6) (ah (cY (ah (dOp lT (ao 13) (dC (.int 1))) (ah (dC (.int 1)) aC))) aC))))
  (aL (bA 15 (dOp oIx (dFn PF.iR (ah (dSl (ao 7) (dP (ao 12)) (dP (dOp cp (ao 12) (ao 13)))) (ah (dFn PF.cQ (ah (ao 5) (ah (ao 14) aC))) aC))) (dC (.int 0))))
  (aL (yg 10 (ao 15))
  (aL (yg 11 (dFn eX (ah (ao 15) (ah (dOp oIx (dOp eY (ao 0) (dC (.str "spread"))) (dC (.int 1))) (ah (ao 6) (ah (ao 4) (ah (ao 5) aC)))))))
  (lY 12 j7 (ao 13)))))) (gg:=gN 13) (it:=d7 (ao 9))
  (τ:=[.shr (.dct kvs),s1,s2,s3,.shr (PF.fr edge),.shr (PF.fr room),.shr (PF.fr gap),.shr (.lst (is.map itD)),s8,.shr (.lst (nD cs)),.own (.lst []),.own (.lst []),.shr (.int 0),.no,.no,.no])
  (λ j τ=>∃ (p:Nat) (A B:List Rat) (x13 x14 x15:Sl),Ch E is.length p (cs.drop j)/\A++cat W p (cs.drop j)=cat W 0 cs/\B++cat (XQ W sp gap edge room) p (cs.drop j)=cat (XQ W sp gap edge room) 0 cs/\A.length=p/\B.length=p /\
    τ=[.shr (.dct kvs),s1,s2,s3,.shr (PF.fr edge),.shr (PF.fr room),.shr (PF.fr gap),.shr (.lst (is.map itD)),s8,.shr (.lst (nD cs)),.own (.lst (PF.frs A)),.own (.lst (PF.frs B)),.shr (.int (p:Int)),x13,x14,x15])
  (dO (ag rfl)) ⟨0,[],[],.no,.no,.no,by rw [Xy]; exact hc,by rw [Xy]; rfl,by rw [Xy]; rfl,rfl,rfl,rfl⟩ (by
    rintro j d τ hd ⟨p,A,B,x13,x14,x15,hch,hA,hB,lA,lB,rfl⟩
    obtain ⟨c,hcj,rfl⟩:=Av hd;rw [drop_cons hcj] at hch hA hB
    obtain ⟨e,hlt,hle,ec,hch'⟩:∃ e,p < e/\e<=is.length/\c=e - p/\Ch E is.length e (cs.drop (j+1)):=by
     cases hch with
     | cons h l m r=>exact ⟨_,l,m,rfl,r⟩
    have c1:1<=c:=by omega
    have epc:p+c=e:=by omega
    have L:=hW p c c1 (by omega);obtain ⟨K,ln⟩:=L.ln;obtain ⟨x,y,run⟩:=L.run;have eb:=Ad ln sp;rw [L.len] at eb;have z1:Zq (gap * ((((c:Int) - 1:Int):Rat))):=Zq.of (m:=120) (gm H.n0 H.hg c1 (by omega)) H.n0 H.nb (by decide +kernel) (by decide) (by decide);have zg:Zq gap:=Zq.of (m:=120) H.hg H.n0 H.nb (by decide +kernel) (by decide) (by decide);have zr:Zq room:=Zq.of (m:=120) H.hr H.n0 H.nb (by decide +kernel) (by decide) (by decide);have et:=gk zg.sz (n_z c1 (show c<=30 by omega)).sz;rw [<- oy ((c:Int) - 1)] at et;have em:=fN zr.sz z1.sz;have hadd:cp (.int (p:Int)) (.int (c:Int))=some (.int (e:Int)):=by rw [dF,show (p:Int)+(c:Int)=(e:Int) by omega]
    have esl:=xc itD is (a:=p) (b:=e) (by omega) hle;rw [show e - p=c by omega] at esl;have g1:eY (.dct kvs) (.str "spread")=some (.tup [.str "word",.str sp]):=hsp;refine ⟨_,_,rfl,?_,e,A++W p c,B++XQ W sp gap edge room p c,.shr (.int (c:Int)),.shr (PF.fr (gap * ((((c:Int) - 1:Int):Rat)))),.shr (.lst (PF.frs (W p c))),hch',?_,?_,?_,?_,rfl⟩
    ·refine az (aD (aV (ae (ag rfl) (ae (a9 (ae (ar (ag rfl) e_c rfl) (ae e_c aq)) (Zb rfl)) aq)) et rfl)) ?_
     refine az (aD (ar (aV (ae (tR (ag rfl) (cy (ag rfl)) (cy (ar (ag rfl) (ag rfl) hadd)) esl) (ae (aV (ae (ag rfl) (ae (ag rfl) aq)) em rfl) aq)) run rfl) e_c (aN _ _))) ?_
     refine az (Fe (ag rfl) rfl (by rw [cA,cA,L.len]; omega)) ?_
     refine az (Fe (aV (ae (ag rfl) (ae (ar (ar (ag rfl) e_c g1) e_c (aY _ _ _)) (ae (ag rfl) (ae (ag rfl) (ae (ag rfl) aq))))) eb rfl) rfl (by rw [cA,cA,nG,L.len]; omega)) ?_
     rw [wu,wu];refine kD (z:=.int (e:Int)) (ag rfl) (ag rfl) ?_
     show some (D.int ((p:Int)+(c:Int)))=_;rw [show (p:Int)+(c:Int)=(e:Int) by omega]
    · rw [<- hA,X6]; show _=A++(W p c++cat W (p+c) _); rw [epc]
    · rw [<- hB,X6]; show _=B++(XQ W sp gap edge room p c++cat _ (p+c) _); rw [epc]
    · rw [Zu,L.len]; omega
    · rw [Zu]; unfold XQ; rw [nG,L.len]; omega)
 rw [show (nD cs).length=cs.length from oi cs,Wa] at hA hB;have hA':A=cat W 0 cs:=by rw [<- hA]; show A=A++[]; rw [Yi]
 have hB':B=cat (XQ W sp gap edge room) 0 cs:=by rw [<- hB]; show B=B++[]; rw [Yi]
 rw [hA',hB'] at e1;exact ⟨_,_,_,_,e1⟩
def Ds (H:Sit N S is gap edge room) (hW:∀ p c,1<=c->p+c<=is.length->EH N is gap edge room p c (W p c)) {sp w:Str} (hs:¬ (sp="right"/\sp="middle")) {cs:List Nat} (hc:Ch (Cnt w (is.map bG) gap room) is.length 0 cs) (hf:w="fair"->∃ R P es,j5 (is.map bG) gap room R P es/\Ch (λ p e=>es[p]?=some e) is.length 0 cs) :
  cI [.tup [.lst (nD cs),.lst (PF.frs (cat W 0 cs)),.lst (PF.frs (cat (XQ W sp gap edge room) 0 cs))],.lst (is.map liD),.str w,.str sp,PF.fr edge,PF.fr gap,PF.fr room]=some (.shr (.bl true)):=by
 have few:=H.few;have lb:(is.map bG).length=is.length:=Zd _;have ecg:=OB H.dr (w:=w) (cs:=cs) (by rw [lb]; exact hc) (λ q=>by rw [lb]; exact hf q);generalize hAA:cat W 0 cs=AA at *;generalize hBB:cat (XQ W sp gap edge room) 0 cs=BB at *
 obtain ⟨τ',e1,p',A,B,x11,x12,x13,_,_,_,_,_,rfl⟩:=cM (f:=aL (bA 12 (dFn cF (ah (ao 6) (ah (dFn a7 (ah (ao 5) (ah (cY (ah (dOp lT (ao 11) (dC (.int 1))) (ah (dC (.int 1)) aC))) aC))) aC))))
  (aL (bA 13 (dSl (ao 8) (dP (ao 10)) (dP (dOp cp (ao 10) (ao 11)))))
  (aL (sIf (nj (dT (dFn dR (ah (dSl (ao 1) (dP (ao 10)) (dP (dOp cp (ao 10) (ao 11)))) (ah (ao 13) (ah (ao 12) aC)))))) (dJ (dC (.bl false))) bg)
  (aL (sIf (nj (dT (dFn dH (ah (dSl (ao 9) (dP (ao 10)) (dP (dOp cp (ao 10) (ao 11)))) (ah (ao 13) (ah (ao 3) (ah (ao 4) (ah (ao 5) (ah (ao 12) aC))))))))) (dJ (dC (.bl false))) bg)
  (lY 10 j7 (ao 11)))))) (gg:=gN 11) (it:=d7 (ao 7))
  (τ:=[.shr (.tup [.lst (nD cs),.lst (PF.frs AA),.lst (PF.frs BB)]),.shr (.lst (is.map liD)),.shr (.str w),.shr (.str sp),.shr (PF.fr edge),.shr (PF.fr gap),.shr (PF.fr room),.shr (.lst (nD cs)),.shr (.lst (PF.frs AA)),.shr (.lst (PF.frs BB)),.shr (.int 0),.no,.no,.no])
  (λ j τ=>∃ (p:Nat) (A B:List Rat) (x11 x12 x13:Sl),Ch (Cnt w (is.map bG) gap room) is.length p (cs.drop j)/\A++cat W p (cs.drop j)=AA/\B++cat (XQ W sp gap edge room) p (cs.drop j)=BB/\A.length=p/\B.length=p /\
    τ=[.shr (.tup [.lst (nD cs),.lst (PF.frs AA),.lst (PF.frs BB)]),.shr (.lst (is.map liD)),.shr (.str w),.shr (.str sp),.shr (PF.fr edge),.shr (PF.fr gap),.shr (PF.fr room),.shr (.lst (nD cs)),.shr (.lst (PF.frs AA)),.shr (.lst (PF.frs BB)),.shr (.int (p:Int)),x11,x12,x13])
  (dO (ag rfl)) ⟨0,[],[],.no,.no,.no,by rw [Xy]; exact hc,by rw [Xy]; exact hAA,by rw [Xy]; exact hBB,rfl,rfl,rfl⟩ (by
    rintro j d τ hd ⟨p,A,B,x11,x12,x13,hch,hA,hB,lA,lB,rfl⟩
    obtain ⟨c,hcj,rfl⟩:=Av hd;rw [drop_cons hcj] at hch hA hB
    obtain ⟨e,hlt,hle,ec,hch'⟩:∃ e,p < e/\e<=is.length/\c=e - p/\Ch (Cnt w (is.map bG) gap room) is.length e (cs.drop (j+1)):=by
     cases hch with
     | cons h l m r=>exact ⟨_,l,m,rfl,r⟩
    have c1:1<=c:=by omega
    have epc:p+c=e:=by omega
    have L:=hW p c c1 (by omega);obtain ⟨K,ln⟩:=L.ln;have ex:=M3 ln hs;rw [L.len] at ex;have z1:Zq (gap * ((((c:Int) - 1:Int):Rat))):=Zq.of (m:=120) (gm H.n0 H.hg c1 (by omega)) H.n0 H.nb (by decide +kernel) (by decide) (by decide);have zg:Zq gap:=Zq.of (m:=120) H.hg H.n0 H.nb (by decide +kernel) (by decide) (by decide);have zr:Zq room:=Zq.of (m:=120) H.hr H.n0 H.nb (by decide +kernel) (by decide) (by decide);have et:=gx zg (n_z c1 (show c<=30 by omega));rw [<- oy ((c:Int) - 1)] at et;have em:=jV zr z1;have hadd:cp (.int (p:Int)) (.int (c:Int))=some (.int (e:Int)):=by rw [dF,show (p:Int)+(c:Int)=(e:Int) by omega]
    have esl:=xc liD is (a:=p) (b:=e) (by omega) hle;rw [show e - p=c by omega] at esl
    have piece:∀ {f:Nat->Nat->List Rat} {F G:List Rat},F++cat f p (c::cs.drop (j+1))=G->F.length=p->(f p c).length=c->oSl (.lst (PF.frs G)) (some (p:Int)) (some (e:Int))=some (.lst (PF.frs (f p c))):=λ {f F G} h1 h2 h3=>by
     have hG:G=F++(f p c++cat f (p+c) (cs.drop (j+1))):=h1.symm;have lG:e<=G.length:=by rw [hG,Zu,Zu]; omega
     show some (D.lst (cutD _ _ _))=_;rw [sH G (by omega) lG,hG,List.drop_left' h2,List.take_left' (by omega)]
    have s1:=piece hA lA L.len;have s2:=piece hB lB (by unfold XQ; rw [nG]; exact L.len);have lw:=L.law;refine ⟨_,_,rfl,?_,e,A++W p c,B++XQ W sp gap edge room p c,.shr (.int (c:Int)),.shr (PF.fr (fe gap room c)),.shr (.lst (PF.frs (W p c))),hch',?_,?_,?_,?_,rfl⟩
    ·refine az (aD (aV (ae (ag rfl) (ae (aV (ae (ag rfl) (ae (a9 (ae (ar (ag rfl) e_c rfl) (ae e_c aq)) (Zb rfl)) aq)) et rfl) aq)) em rfl)) ?_
     refine az (aD (tR (ag rfl) (cy (ag rfl)) (cy (ar (ag rfl) (ag rfl) hadd)) s1)) ?_
     refine aR (gh (b:=true) (ax (aV (ae (tR (ag rfl) (cy (ag rfl)) (cy (ar (ag rfl) (ag rfl) hadd)) esl) (ae (ag rfl) (ae (ag rfl) aq))) lw rfl))) ?_
     refine aR (gh (b:=true) (ax (aV (ae (tR (ag rfl) (cy (ag rfl)) (cy (ar (ag rfl) (ag rfl) hadd)) s2) (ae (ag rfl) (ae (ag rfl) (ae (ag rfl) (ae (ag rfl) (ae (ag rfl) aq)))))) ex rfl))) ?_
     refine kD (z:=.int (e:Int)) (ag rfl) (ag rfl) ?_
     show some (D.int ((p:Int)+(c:Int)))=_;rw [show (p:Int)+(c:Int)=(e:Int) by omega]
    · rw [<- hA,X6]; show _=A++(W p c++cat W (p+c) _); rw [epc]
    · rw [<- hB,X6]; show _=B++(XQ W sp gap edge room p c++cat _ (p+c) _); rw [epc]
    · rw [Zu,L.len]; omega
    · rw [Zu]; unfold XQ; rw [nG,L.len]; omega)
 have ecomp:∀ (s:List Sl),cx (d7 (ao 1)) (dOp oIx (ao 0) (dC (.int 0))) [] (.shr (.tup [.lst (nD cs),.lst (PF.frs AA),.lst (PF.frs BB)])::.shr (.lst (is.map liD))::s)=some (.lst (PF.frs (is.map bG))):=λ s=>di (dO rfl) (by rw [Zd]; omega) (A0 is)
 unfold cI dA;dsimp only;refine bj ?_
 refine az (J5 (ag rfl) rfl) ?_
 refine aR (gh (b:=true) (ax (aV (ae (ag rfl) (ae (ag rfl) (ae (ecomp _) (ae (ag rfl) (ae (ag rfl) aq))))) ecg rfl))) ?_
 exact az (aD e_c) (az e1 (bz e_c))
end
end N36
end
section
set_option exponentiation.threshold 5000
namespace N36
open PySem L2 PF MU DL
inductive Vl where
 | num (q:Rat) | part (q:Rat) | word (s:Str)
def vlD:Vl->D
 | .num q=>.tup [.str "number",.int q.num,.int q.den]
 | .part q=>.tup [.str "part",.int q.num,.int q.den]
 | .word s=>.tup [.str "word",.str s]
structure Wi where
 b:Vl
 l:Vl
 m:Vl
 g:Rat
 s:Rat
 nat:Rat
def wiD (w:Wi):D:=.tup [vlD w.b,vlD w.l,vlD w.m,jU w.g,jU w.s,PF.fr w.nat]
def amt (v:Vl) (room:Rat) (o:D):D:=match v with
 | .num q=>PF.fr q
 | .part q=>PF.fr (q * room)
 | .word _=>o
def amQ (v:Vl) (room other:Rat):Rat:=match v with
 | .num q=>q
 | .part q=>q * room
 | .word _=>other
def amM (v:Vl) (room:Rat):Option Rat:=match v with
 | .num q=>some q
 | .part q=>some (q * room)
 | .word _=>none
def eZ (room:Rat) (w:Wi):Item:=⟨amQ w.b room w.nat,amQ w.l room 0,amM w.m room,w.g,w.s⟩
def HS (v:Vl) (room other:Rat):amt v room (PF.fr other)=PF.fr (amQ v room other):=by cases v <;> rfl
def HU (v:Vl) (room:Rat):amt v room .non=mD (amM v room):=by cases v <;> rfl
def VZ:Vl->Prop
 | .num q=>Zq q
 | .part q=>Zq q
 | .word _=>True
def kg (q:Rat):eW [jU q]=some (.shr (PF.fr q)):=by
 unfold eW fT;dsimp only;exact bj (bz (a9 (xs:=[.int q.num,.int q.den]) (ae (ar (ag rfl) e_c (aY _ _ _)) (ae (ar (ag rfl) e_c (jS _ _ _ _)) aq)) (Zb rfl)))
def rH (s:Str) (q:Rat):eW [.tup [.str s,.int q.num,.int q.den]]=some (.shr (PF.fr q)):=by
 unfold eW fT;dsimp only;exact bj (bz (a9 (xs:=[.int q.num,.int q.den]) (ae (ar (ag rfl) e_c (aY _ _ _)) (ae (ar (ag rfl) e_c (jS _ _ _ _)) aq)) (Zb rfl)))
def kZ {v:Vl} {room:Rat} {o:D} (hv:VZ v) (zr:Zq room):lQ [vlD v,PF.fr room,o]=some (.shr (amt v room o)):=by
 unfold lQ lM;dsimp only
 cases v with
 | num q=>exact bj (cJ (ax (ar (ar (ag rfl) e_c (aN _ _)) e_c rfl)) (bz (aV (ae (ag rfl) aq) (rH _ q) rfl)))
 | part q =>
  have hv:Zq q:=hv;exact bj (aR (ax (ar (ar (ag rfl) e_c (aN _ _)) e_c (by rw [aX,Za (by decide +kernel)]))) (cJ (ax (ar (ar (ag rfl) e_c (aN _ _)) e_c rfl)) (bz (aV (ae (aV (ae (ag rfl) aq) (rH _ q) rfl) (ae (ag rfl) aq)) (gk hv.sz zr.sz) rfl))))
 | word s=>exact bj (aR (ax (ar (ar (ag rfl) e_c (aN _ _)) e_c (by rw [aX,Za (by decide +kernel)]))) (aR (ax (ar (ar (ag rfl) e_c (aN _ _)) e_c (by rw [aX,Za (by decide +kernel)]))) (bz (ag rfl))))
def nz {v:Vl} {room:Rat} {o:D} (hv:VZ v) (zr:Zq room):f9 [vlD v,PF.fr room,o]=some (.shr (amt v room o)):=by
 unfold f9 fY;dsimp only
 have pr:∀ (s:Str) (q:Rat) (x y:Sl),cY (ah (dOp oIx (ao 0) (dC (.int 1))) (ah (dOp oIx (ao 0) (dC (.int 2))) aC)) [.shr (.tup [.str s,.int q.num,.int q.den]),x,y]=some (PF.fr q):=λ s q x y =>
  a9 (xs:=[.int q.num,.int q.den]) (ae (ar (ag rfl) e_c (aY _ _ _)) (ae (ar (ag rfl) e_c (jS _ _ _ _)) aq)) (Zb rfl)
 cases v with
 | num q=>exact bj (cJ (ax (ar (ar (ag rfl) e_c (aN _ _)) e_c rfl)) (bz (pr _ _ _ _)))
 | part q =>
  have hv:Zq q:=hv;exact bj (aR (ax (ar (ar (ag rfl) e_c (aN _ _)) e_c (by rw [aX,Za (by decide +kernel)]))) (cJ (ax (ar (ar (ag rfl) e_c (aN _ _)) e_c rfl)) (bz (aV (ae (pr _ _ _ _) (ae (ag rfl) aq)) (gx hv zr) rfl))))
 | word s=>exact bj (aR (ax (ar (ar (ag rfl) e_c (aN _ _)) e_c (by rw [aX,Za (by decide +kernel)]))) (aR (ax (ar (ar (ag rfl) e_c (aN _ _)) e_c (by rw [aX,Za (by decide +kernel)]))) (bz (ag rfl))))
structure WZ (room:Rat) (w:Wi):Prop where
 b:VZ w.b
 l:VZ w.l
 m:VZ w.m
 nw:∀ s,w.l≠.word s
 ab:Zq (amQ w.b room w.nat)
 al:Zq (amQ w.l room 0)
 am:∀ x,amM w.m room=some x->Zq x
def HV {v:Vl} (h:∀ s,v≠.word s) (room:Rat) (o:D):amt v room o=PF.fr (amQ v room 0):=by
 cases v with
 | word s=>exact absurd rfl (h s)
 | _=>rfl
def i0 (w:Wi):oIx (wiD w) (.int 0)=some (vlD w.b):=rfl
def i1 (w:Wi):oIx (wiD w) (.int 1)=some (vlD w.l):=rfl
def i2 (w:Wi):oIx (wiD w) (.int 2)=some (vlD w.m):=rfl
def i3 (w:Wi):oIx (wiD w) (.int 3)=some (jU w.g):=rfl
def i4 (w:Wi):oIx (wiD w) (.int 4)=some (jU w.s):=rfl
def i5 (w:Wi):oIx (wiD w) (.int 5)=some (PF.fr w.nat):=rfl
def Hj {w:Wi} {room:Rat} (z:WZ room w) (zr:Zq room):jt [wiD w,PF.fr room]=some (.shr (itD (eZ room w))):=by
 have e1:=kZ (o:=PF.fr w.nat) z.b zr;have e2:=kZ (o:=.non) z.l zr;have e3:=kZ (o:=.non) z.m zr;rw [HS] at e1;rw [HV z.nw] at e2;rw [HU] at e3;unfold jt lK;dsimp only;exact bj (bz (a9 (ae (aV (ae (ar (ag rfl) e_c (i0 w)) (ae (ag rfl) (ae (ar (ag rfl) e_c (i5 w)) aq))) e1 rfl) (ae (aV (ae (ar (ag rfl) e_c (i1 w)) (ae (ag rfl) (ae e_c aq))) e2 rfl) (ae (aV (ae (ar (ag rfl) e_c (i2 w)) (ae (ag rfl) (ae e_c aq))) e3 rfl) (ae (aV (ae (ar (ag rfl) e_c (i3 w)) aq) (kg _) rfl) (ae (aV (ae (ar (ag rfl) e_c (i4 w)) aq) (kg _) rfl) aq))))) (Zb rfl)))
def vJ {w:Wi} {room:Rat} (z:WZ room w) (zr:Zq room):cR [wiD w,PF.fr room]=some (.shr (liD (eZ room w))):=by
 have e1:=nz (o:=PF.fr w.nat) z.b zr;have e2:=nz (o:=PF.fr 0) z.l zr;have e3:=nz (o:=.non) z.m zr;rw [HS] at e1;rw [HV z.nw] at e2;rw [HU] at e3;have zb:=z.ab;have zl:=z.al;have zm:=z.am;unfold eZ;generalize amQ w.b room w.nat=o at *;generalize amQ w.l room 0=l at *;generalize hM:amM w.m room=M at *
 have last:∀ (B:Rat) (mm:Option Rat),Zq B->aL (sIf (dT (dFn aZ (ah (ao 2) (ah (ao 3) aC)))) (bA 2 (ao 3)) bg) (dJ (cY (ah (ao 2) (ah (ao 3) (ah (ao 4) (ah (xN (dOp oIx (ao 0) (dC (.int 3))) (dP (dC (.int 1))) xO) (ah (xN (dOp oIx (ao 0) (dC (.int 4))) (dP (dC (.int 1))) xO) aC)))))))
   [.shr (wiD w),.shr (PF.fr room),.shr (PF.fr B),.shr (PF.fr l),.shr (mD mm)]=some (.ret (.shr (.tup [PF.fr (if B < l then l else B),PF.fr l,mD mm,PF.fr w.g,PF.fr w.s]))):=λ B mm zB=>by
  have eu:=iu zB zl
  have tl:∀ (x:Rat),dJ (cY (ah (ao 2) (ah (ao 3) (ah (ao 4) (ah (xN (dOp oIx (ao 0) (dC (.int 3))) (dP (dC (.int 1))) xO) (ah (xN (dOp oIx (ao 0) (dC (.int 4))) (dP (dC (.int 1))) xO) aC)))))) [.shr (wiD w),.shr (PF.fr room),.shr (PF.fr x),.shr (PF.fr l),.shr (mD mm)]=some (.ret (.shr (.tup [PF.fr x,PF.fr l,mD mm,PF.fr w.g,PF.fr w.s]))):=λ x =>
   bz (a9 (ae (ag rfl) (ae (ag rfl) (ae (ag rfl) (ae (Ea (ar (ag rfl) e_c (i3 w)) (cy e_c) CW (JP _ _ _)) (ae (Ea (ar (ag rfl) e_c (i4 w)) (cy e_c) CW (JP _ _ _)) aq))))) (Zb rfl))
  by_cases c:B < l
  ·rw [Zh c] at eu
   rw [if_pos c];exact me (ax (aV (ae (ag rfl) (ae (ag rfl) aq)) eu rfl)) (aD (ag rfl)) (tl l)
  ·rw [Za c] at eu
   rw [if_neg c];exact aR (ax (aV (ae (ag rfl) (ae (ag rfl) aq)) eu rfl)) (tl B)
 unfold cR iK;dsimp only;refine bj ?_
 refine az (aD (aV (ae (ar (ag rfl) e_c (i0 w)) (ae (ag rfl) (ae (ar (ag rfl) e_c (i5 w)) aq))) e1 rfl)) ?_
 refine az (aD (aV (ae (ar (ag rfl) e_c (i1 w)) (ae (ag rfl) (ae (a9 (xs:=[.int 0,.int 1]) (ae e_c (ae e_c aq)) (Zb rfl)) aq))) e2 rfl)) ?_
 refine az (aD (aV (ae (ar (ag rfl) e_c (i2 w)) (ae (ag rfl) (ae e_c aq))) e3 rfl)) ?_
 cases M with
 | none =>
  refine aR (de (b:=false) (ax (ar (ag rfl) e_c rfl)) nofun (λ _=>rfl)) ?_
  refine aR (de (b:=false) (ax (ar (ag rfl) e_c rfl)) nofun (λ _=>rfl)) ?_
  exact last o none zb
 | some m =>
  have zm:=zm m rfl
  have second:∀ (m':Rat),Zq m'->aL (sIf (fE (dT (dOp kP (ao 4) (dC .non))) (dT (dFn aZ (ah (ao 4) (ah (ao 2) aC))))) (bA 2 (ao 4)) bg)
    (aL (sIf (dT (dFn aZ (ah (ao 2) (ah (ao 3) aC)))) (bA 2 (ao 3)) bg) (dJ (cY (ah (ao 2) (ah (ao 3) (ah (ao 4) (ah (xN (dOp oIx (ao 0) (dC (.int 3))) (dP (dC (.int 1))) xO) (ah (xN (dOp oIx (ao 0) (dC (.int 4))) (dP (dC (.int 1))) xO) aC))))))))
    [.shr (wiD w),.shr (PF.fr room),.shr (PF.fr o),.shr (PF.fr l),.shr (mD (some m'))]=some (.ret (.shr (.tup [PF.fr (if (if m' < o then m' else o) < l then l else (if m' < o then m' else o)),PF.fr l,mD (some m'),PF.fr w.g,PF.fr w.s]))):=λ m' zm'=>by
   have eu:=iu zm' zb
   by_cases c:m' < o
   ·rw [Zh c] at eu
    rw [if_pos c];exact me (de (b:=true) (ax (ar (ag rfl) e_c rfl)) (λ _=>ax (aV (ae (ag rfl) (ae (ag rfl) aq)) eu rfl)) nofun) (aD (ag rfl)) (last m' (some m') zm')
   ·rw [Za c] at eu
    rw [if_neg c];exact aR (de (b:=true) (ax (ar (ag rfl) e_c rfl)) (λ _=>ax (aV (ae (ag rfl) (ae (ag rfl) aq)) eu rfl)) nofun) (last o (some m') zb)
  have eu:=iu zm zl
  have val:∀ (x:Rat),x=(if m < l then l else m)->(if (if x < o then x else o) < l then l else (if x < o then x else o))=l6 o l (some m):=λ x hx=>by
   unfold l6;simp only;rw [hx]
   by_cases c1:m < l
   · simp only [if_pos c1]; grind
   · simp only [if_neg c1]; grind
  show _=some (Out.ret (.shr (.tup [PF.fr (l6 o l (some m)),PF.fr l,mD (some (if m < l then l else m)),PF.fr w.g,PF.fr w.s])))
  by_cases c:m < l
  ·rw [Zh c] at eu
   have hx:=val l (by rw [if_pos c]);rw [<- hx,if_pos c];exact me (de (b:=true) (ax (ar (ag rfl) e_c rfl)) (λ _=>ax (aV (ae (ag rfl) (ae (ag rfl) aq)) eu rfl)) nofun) (aD (ag rfl)) (second l zl)
  ·rw [Za c] at eu
   have hx:=val m (by rw [if_neg c]);rw [<- hx,if_neg c];exact aR (de (b:=true) (ax (ar (ag rfl) e_c rfl)) (λ _=>ax (aV (ae (ag rfl) (ae (ag rfl) aq)) eu rfl)) nofun) (second m zm)
def edQ (width pad:Rat):Rat:=if width * Rat.divInt 1 2 < pad then width * Rat.divInt 1 2 else pad
def ui:D.tup [.int 2,.int 1]=PF.fr ((2:Int):Rat):=rfl
def Fh {kvs:List (Key×D)} {width pad:Rat} (hp:cV kvs (.inr "pad")=some (jU pad)) (zw:Zq width) (zh:Zq (width * Rat.divInt 1 2)) (zp:Zq pad) (ze:Zq (((2:Int):Rat) * edQ width pad)) (z2:Zq (edQ width pad)) :
  lO [.dct kvs,PF.fr width]=some (.shr (.tup [PF.fr (edQ width pad),PF.fr (width - ((2:Int):Rat) * edQ width pad)])):=by
 have g1:eY (.dct kvs) (.str "pad")=some (jU pad):=hp;have e1:=gk zw.sz pL;rw [<- mZ] at e1;have e2:=oq zh.sz zp.sz;have e3:=gk (EC (i:=2) (by decide +kernel)).sz z2.sz;rw [<- ui] at e3;have e4:=fN zw.sz ze.sz;unfold lO lI;dsimp only;refine bj ?_
 refine az (aD (aV (ae (ar (ag rfl) e_c g1) aq) (kg pad) rfl)) ?_
 refine az (aD (aV (ae (ag rfl) (ae (a9 (ae e_c (ae e_c aq)) (Zb rfl)) aq)) e1 rfl)) ?_
 refine az (aD (d:=PF.fr (edQ width pad)) (sA (b:=decide (width * Rat.divInt 1 2 < pad)) (ax (aV (ae (ag rfl) (ae (ag rfl) aq)) e2 rfl)) (λ h=>?_) (λ h=>?_))) ?_
 · unfold edQ; rw [if_pos (Zx h)]; exact ag rfl
 · unfold edQ; rw [if_neg (Y3 h)]; exact ag rfl
 exact bz (a9 (ae (ag rfl) (ae (aV (ae (ag rfl) (ae (aV (ae (a9 (ae e_c (ae e_c aq)) (Zb rfl)) (ae (ag rfl) aq)) e3 rfl) aq)) e4 rfl) aq)) (Zb rfl))
section
variable {N:Nat} {S:Bool->Nat} {gap pad width:Rat} {E:Nat->Nat->Prop} {W:Nat->Nat->List Rat}
def Dt (t:Adr) {ws:List Wi} {kvs:List (Key×D)} {sp w:Str} (hpad:cV kvs (.inr "pad")=some (jU pad)) (hgap:cV kvs (.inr "gap")=some (jU gap)) (hflow:cV kvs (.inr "flow")=some (.tup [.str "word",.str w])) (hsp:cV kvs (.inr "spread")=some (.tup [.str "word",.str sp]))
  (zw:Zq width) (zh:Zq (width * Rat.divInt 1 2)) (zp:Zq pad) (ze:Zq (((2:Int):Rat) * edQ width pad)) (z2:Zq (edQ width pad)) {room:Rat} (hroom:room=width - ((2:Int):Rat) * edQ width pad) (hz:∀ x ∈ ws,WZ room x) (H:Sit N S (ws.map (eZ room)) gap (edQ width pad) room)
  (hW:∀ p c,1<=c->p+c<=(ws.map (eZ room)).length->EH N (ws.map (eZ room)) gap (edQ width pad) room p c (W p c)) (hw:w="stack"\/w="row"\/w="wrap"\/w="fair") :
  ∃ cs,nC t [.dct kvs,PF.fr width,.lst (ws.map wiD)]=some (.shr (.tup [.lst (nD cs),.lst (PF.frs (cat W 0 cs)),.lst (PF.frs (cat (XQ W sp gap (edQ width pad) room) 0 cs))]))/\Ch (Cnt w ((ws.map (eZ room)).map bG) gap room) (ws.map (eZ room)).length 0 cs/\(w="fair"->∃ R P es,j5 ((ws.map (eZ room)).map bG) gap room R P es/\Ch (λ p e=>es[p]?=some e) (ws.map (eZ room)).length 0 cs):=by
 have few:=H.few;have er:=Fh hpad zw zh zp ze z2;rw [<- hroom] at er;obtain ⟨cs,c1,c2,c3⟩:=Mh t H.dr hw;have lb:((ws.map (eZ room)).map bG).length=(ws.map (eZ room)).length:=Zd _;rw [lb] at c2 c3;have zr:Zq room:=Zq.of (m:=120) H.hr H.n0 H.nb (by decide +kernel) (by decide) (by decide);obtain ⟨x12,x13,x14,x15,eL⟩:=tG H hW hsp c2 (.shr (PF.fr width)) (.shr (.lst (ws.map wiD))) (.shr (.tup [PF.fr (edQ width pad),PF.fr room])) (.shr (.lst (PF.frs ((ws.map (eZ room)).map bG))));refine ⟨cs,?_,c2,c3⟩;have g1:eY (.dct kvs) (.str "gap")=some (jU gap):=hgap;have g2:eY (.dct kvs) (.str "flow")=some (.tup [.str "word",.str w]):=hflow;have lw:ws.length<=29:=by rw [Zd] at few; exact few
 have e7:∀ (x:List Sl),cx (d7 (ao 2)) (dFn jt (ah (ao 0) (ah (ao 1) aC))) [("room",5)] (.shr (.dct kvs)::.shr (PF.fr width)::.shr (.lst (ws.map wiD))::.shr (.tup [PF.fr (edQ width pad),PF.fr room])::.shr (PF.fr (edQ width pad))::.shr (PF.fr room)::x)=some (.lst ((ws.map (eZ room)).map itD)):=λ x=>by
  rw [Yu];refine di (dO rfl) (by rw [Zd]; omega) (eN λ y hy=>?_);exact aV (ae (ag rfl) (ae (ag rfl) aq)) (Hj (hz y hy) zr) rfl
 have e8:∀ (s0 s1 s2 s3 s4 s5 s6:Sl) (x:List Sl),cx (d7 (ao 7)) (dFn PF.mx (ah (dOp oIx (ao 0) (dC (.int 0))) (ah (dOp oIx (ao 0) (dC (.int 1))) (ah (dOp oIx (ao 0) (dC (.int 2))) aC)))) [] (s0::s1::s2::s3::s4::s5::s6::.shr (.lst ((ws.map (eZ room)).map itD))::x)=some (.lst (PF.frs ((ws.map (eZ room)).map bG))):=λ s0 s1 s2 s3 s4 s5 s6 x=>by
  have:PF.frs ((ws.map (eZ room)).map bG)=(ws.map (eZ room)).map λ i=>PF.fr (bG i):=by unfold PF.frs; rw [Yu]; rfl
  rw [this];refine di (dO rfl) (by rw [Zd]; omega) (eN λ i hi=>?_);have zq:∀ {q:Rat},In N (10 ^ 32) q->SzQ q:=λ h=>(Zq.of (m:=120) h H.n0 H.nb (by decide +kernel) (by decide) (by decide)).sz
  exact aV (ae (ar (ag rfl) e_c (ix0 i)) (ae (ar (ag rfl) e_c (ix1 i)) (ae (ar (ag rfl) e_c (ix2 i)) aq))) (wj (zq (H.ib i hi)) (zq (H.il i hi).1) (λ m e=>zq (H.im i hi m e))) rfl
 unfold nC qS;dsimp only;refine bj ?_
 refine az (aD (aV (ae (ag rfl) (ae (ag rfl) aq)) er rfl)) ?_
 refine az (aD (ar (ag rfl) e_c (aN _ _))) ?_
 refine az (aD (ar (ag rfl) e_c (aY _ _ _))) ?_
 refine az (aD (aV (ae (ar (ag rfl) e_c g1) aq) (kg gap) rfl)) ?_
 refine az (aD (e7 _)) ?_
 refine az (aD (e8 _ _ _ _ _ _ _ _)) ?_
 refine az (aD (oT (fs:=[("word",.str w)]) (aV (ae (ar (ar (ag rfl) e_c g2) e_c (aY _ _ _)) aq) (Hy t w) rfl) (ae (ag rfl) (ae (ag rfl) (ae (ag rfl) aq))) rfl c1 rfl)) ?_
 refine az (cT (cB aq (Zs _)) (Zb rfl)) ?_
 refine az (cT (cB aq (Zs _)) (Zb rfl)) ?_
 refine az (aD e_c) ?_
 refine az eL ?_
 exact nR rfl (nR rfl (bz (a9 (ae (ag rfl) (ae (ag rfl) (ae (ag rfl) aq))) (Zb rfl))))
end
def vV (ds:List D):pH [.tup ds,.ty "tuple"]=some (.bl true):=rfl
def wx {qs:List Rat} {n:Nat} (hn:qs.length=n) (hl:n<=1000) (hz:∀ q ∈ qs,Zq q):bU [.lst (PF.frs qs),.int (n:Int)]=some (.shr (.bl true)):=by
 obtain ⟨τ',e1,x2,x3,rfl⟩:=cM (f:=aL (sIf (dOr (nj (dT (bf pH (ah (ao 2) (ah (dC (.ty "tuple")) aC))))) (dT (dOp oNe (bf d6 (ah (ao 2) aC)) (dC (.int 2))))) (dJ (dC (.bl false))) bg)
  (aL (nF (wa (ao 2)) (gN 3) (sIf (dOr (nj (dT (bf pH (ah (ao 3) (ah (dC (.ty "int")) aC))))) (dT (bf pH (ah (ao 3) (ah (dC (.ty "bool")) aC))))) (dJ (dC (.bl false))) bg))
  (sIf (dOr (dT (dOp oLt (dOp oIx (ao 2) (dC (.int 1))) (dC (.int 1)))) (dT (dOp oNe (dFn bh (ah (dOp oIx (ao 2) (dC (.int 0))) (ah (dOp oIx (ao 2) (dC (.int 1))) aC))) (ao 2)))) (dJ (dC (.bl false))) bg))) (gg:=gN 2) (it:=d7 (ao 0))
  (τ := [.shr (.lst (PF.frs qs)),.shr (.int (n:Int)),.no,.no]) (λ j τ=>∃ x2 x3,τ=[.shr (.lst (PF.frs qs)),.shr (.int (n:Int)),x2,x3]) (dO (ag rfl)) ⟨.no,.no,rfl⟩ (by
    rintro j d τ hd ⟨x2,x3,rfl⟩
    obtain ⟨q,hq,rfl⟩:=iE hd;have zq:=hz q (List.mem_of_getElem? hq);have dp:=den_pos q;have el:=fO (a:=q.num) dp zq.sz.d;rw [Zk] at el
    have one:∀ (i:Int) (x:Sl),(gN 3 (.int i) [.shr (.lst (PF.frs qs)),.shr (.int (n:Int)),.shr (PF.fr q),x]).bind (sIf (dOr (nj (dT (bf pH (ah (ao 3) (ah (dC (.ty "int")) aC))))) (dT (bf pH (ah (ao 3) (ah (dC (.ty "bool")) aC))))) (dJ (dC (.bl false))) bg)=some (.next [.shr (.lst (PF.frs qs)),.shr (.int (n:Int)),.shr (PF.fr q),.shr (.int i)]):=λ i x =>
     by
      refine Eq.trans (b:=sIf (dOr (nj (dT (bf pH (ah (ao 3) (ah (dC (.ty "int")) aC))))) (dT (bf pH (ah (ao 3) (ah (dC (.ty "bool")) aC))))) (dJ (dC (.bl false))) bg [.shr (.lst (PF.frs qs)),.shr (.int (n:Int)),.shr (PF.fr q),.shr (.int i)]) rfl ?_
      exact fh (b:=false) (nN (b:=false) (gh (b:=true) (ax (aU (ae (ag rfl) (ae e_c aq)) (vX i)))) (λ _=>ax (aU (ae (ag rfl) (ae e_c aq)) (rT i))) nofun) nofun (λ _=>rfl)
    refine ⟨_,_,rfl,?_,.shr (PF.fr q),.shr (.int q.den),rfl⟩;refine aR (nN (b:=false) (gh (b:=true) (ax (aU (ae (ag rfl) (ae e_c aq)) (vV _)))) (λ _=>ax (ar (aU (z:=.int 2) (ae (ag rfl) aq) rfl) e_c (by rw [eK,Zh rfl]; rfl))) nofun) ?_
    refine az (uF (LZ (ds:=[.int q.num,.int q.den]) (ag rfl)) (ji (one _ _) (ji (one _ _) rfl))) ?_
    refine fh (b:=false) (nN (b:=false) (ax (ar (ar (ag rfl) e_c (aY _ _ _)) e_c (by rw [b9,Za (by omega)]))) (λ _=>ax (ar (aV (ae (ar (ag rfl) e_c (aN _ _)) (ae (ar (ag rfl) e_c (aY _ _ _)) aq)) el rfl) (ag rfl) (ne_self q))) nofun) nofun (λ _=>rfl))
 have il:=fQ qs;rw [hn] at il;unfold bU cP;dsimp only;refine bj (aR (nN (b:=false) (gh (b:=true) (ax (aU (ae (ag rfl) (ae e_c aq)) (vW _)))) (λ _=>ax (ar (aU (ae (ag rfl) aq) il) (ag rfl) ?_)) nofun) (az e1 (bz e_c)));rw [eK,Zh rfl];rfl
end N36
end
section
set_option exponentiation.threshold 5000
namespace N36
open PySem L2 PF MU DL
local macro_rules | `(tactic| walk_at "ee")=>`(tactic| first
 | ((with_reducible apply Ea) <;> walk_at "ee")
 | with_reducible exact JP _ _ _)
def xj {ns:List Int} (h63:ns.length<=63) {k:Int} (k0:0<=k):∃ c:Int,iV [scr ns,.int k]=some (.shr (.int c)):=by
 have hl:=MU.Dv ns;unfold iV iO;dsimp only
 by_cases z:k < (ns.length:Int)
 ·obtain ⟨c,hc⟩:=sP (ns:=ns) k0 z
  have hi:oIx (scr ns) (.int k)=some (.int c):=hc;exact ⟨c,bj (cJ (ax (ar (ag rfl) (aU (ae (ag rfl) aq) hl) (by rw [b9,Zh z]))) (bz (ar (ag rfl) (ag rfl) hi)))⟩
 ·have t1:oLt (.int k) (.int (ns.length:Int))=some (.bl false):=by rw [b9,Za z]
  by_cases y:(ns.length:Int)=0
  · exact ⟨k,bj (aR (ax (ar (ag rfl) (aU (ae (ag rfl) aq) hl) t1)) (cJ (ax (ar (aU (ae (ag rfl) aq) hl) e_c (by rw [bT,Zh y]))) (bz (ag rfl))))⟩
  ·have p:(0:Int) < (ns.length:Int):=by omega
   obtain ⟨c,hc⟩:=sP (ns:=ns) (Z4 k (Z3 p)) (Zy k p);have hi:oIx (scr ns) (.int (k % (ns.length:Int)))=some (.int c):=hc;exact ⟨c * 31+k,bj (aR (ax (ar (ag rfl) (aU (ae (ag rfl) aq) hl) t1)) (aR (ax (ar (aU (ae (ag rfl) aq) hl) e_c (by rw [bT,Za y]))) (bz (ar (ar (ar (ag rfl) (ar (ag rfl) (aU (ae (ag rfl) aq) hl) (aM p)) hi) e_c (kQ (by decide) (by decide))) (ag rfl) rfl))))⟩
def p8 {ns:List Int} (h63:ns.length<=63) {k:Int} (k0:0<=k):∃ m:Int,gL [scr ns,.int k]=some (.shr (.int m))/\0<=m:=by
 obtain ⟨c,hc⟩:=xj h63 k0;refine ⟨(c % 2147483647 * 48271+12345) % 2147483647,?_,Z4 _ (by decide)⟩;unfold gL gF;dsimp only;refine bj ?_
 walk_at "ss"
def Dn (sc:Int):Nat:=if sc=0 then 10 ^ 15 else 4
def t6 (sc:Int):4<=Dn sc:=by unfold Dn; split <;> decide
structure Lg (sc:Int) (q:Rat):Prop where
 is:In q.den (10 ^ 30) q
 nn:0<=q
 dn:q.den<=Dn sc
def yX {a b sc:Int} (ha:0<=a) (ha2:a<=10 ^ 30) (hb:0 < b) (hb2:b.toNat<=Dn sc):Lg sc (Rat.divInt a b):=by
 have h12:((10 ^ 15:Nat):Int)<=10 ^ 30:=by decide +kernel
 have hD:Dn sc<=10 ^ 15:=by unfold Dn; split <;> decide
 obtain ⟨o,d⟩:=Ga ha ha2 hb (by omega);exact ⟨o.is,o.pos,Zc (Wk (by omega) d) hb2⟩
def mU (sc:Int):Lg sc 0:=⟨(In.zero _).mono (Zs _),by decide +kernel,Zc (by decide) (t6 sc)⟩
def Lg.z {sc:Int} {q:Rat} (h:Lg sc q):Zq q:=Zq.of (k:=60) (m:=110) h.is q.den_pos (Zc h.dn (by unfold Dn; split <;> decide +kernel)) (by decide +kernel) (by decide) (by decide)
def b30:(0:Int) < 10 ^ 30:=by decide +kernel
def b15:(0:Int) < 10 ^ 15:=by decide +kernel
def b13:(0:Int) < 10 ^ 13:=by decide +kernel
def Gd:C9 (.int 10) (.int 30)=some (.int (10 ^ 30)):=pZ ⟨by decide,by decide,by decide⟩
def Ge:C9 (.int 10) (.int 15)=some (.int (10 ^ 15)):=pZ ⟨by decide,by decide,by decide⟩
def Gf:C9 (.int 10) (.int 13)=some (.int (10 ^ 13)):=pZ ⟨by decide,by decide,by decide⟩
def EK {x:Int} (h0:0<=x) (h1:x<=10 ^ 16):Sz x:=Sz.of2 (k:=60) (by
 have:(10:Int) ^ 16=((10 ^ 16:Nat):Int):=by decide +kernel
 have h2:10 ^ 16<=2 ^ 60:=by decide +kernel
 omega) (by decide)
def fP {ns:List Int} (h63:ns.length<=63) {k sc:Int} (k0:0<=k) (s0:0<=sc) (s1:sc<=10 ^ 13):∃ q,cn [scr ns,.int k,.int sc]=some (.shr (PF.fr q))/\Lg sc q:=by
 obtain ⟨c,hc⟩:=xj h63 k0;unfold cn fX;dsimp only
 by_cases z:sc=0
 ·have m0:=Z4 c (Z3 b30)
  have m1:=Zy c b30;have n0:=Z4 (c * 69621) (Z3 b15);have n1:=Zy (c * 69621) b15;have e15:(10:Int) ^ 15=((10 ^ 15:Nat):Int):=by decide +kernel
  have hD:Dn sc=10 ^ 15:=by unfold Dn; rw [if_pos z]
  have h16:(10:Int) ^ 15<=10 ^ 16:=by decide +kernel
  have l:=yX (sc:=sc) (a:=c % 10 ^ 30) (b:=1+c * 69621 % 10 ^ 15) m0 (X5 m1) (by omega) (by rw [hD]; omega);have el:=fO (a:=c % 10 ^ 30) (b:=1+c * 69621 % 10 ^ 15) (by omega) (EK (by omega) (by omega));refine ⟨_,bj (az (aD (aV (ae (ag rfl) (ae (ag rfl) aq)) hc rfl)) (cJ (ax (ar (ag rfl) e_c (by rw [bT,Zh z]))) (bz (aV (ae (ar (ag rfl) (ar e_c e_c Gd) (aM b30)) (ae (ar e_c (ar (ar (ag rfl) e_c (kQ (by decide) (by decide))) (ar e_c e_c Ge) (aM b15)) rfl) aq)) el rfl)))),l⟩
 ·obtain ⟨m,hm,_⟩:=p8 h63 k0
  have a0:=Z4 (m / 3) (show (40:Int)≠0 by decide);have a1:=Zy (m / 3) (show (0:Int) < 40 by decide);have c0:=Z4 (m / 120) (show (6:Int)≠0 by decide);have c1:=Zy (m / 120) (show (0:Int) < 6 by decide);have d0:=Z4 (m / 720) (show (4:Int)≠0 by decide);have d1:=Zy (m / 720) (show (0:Int) < 4 by decide);have hD:Dn sc=4:=by unfold Dn; rw [if_neg z]
  have bnd:0<=m / 120 % 6 / 3 * (m / 720 % 4)/\m / 120 % 6 / 3 * (m / 720 % 4)<=3:=by
   have y:m / 120 % 6 / 3=0\/m / 120 % 6 / 3=1:=by omega
   rcases y with y | y <;> rw [y] <;> omega
  have top:0<=m / 3 % 40 * sc/\m / 3 % 40 * sc<=10 ^ 30:=by
   have t1:=GX a0 (show m / 3 % 40<=40 by omega) s0 s1;exact ⟨t1.1,Int.le_trans t1.2 (by decide +kernel)⟩
  have l:=yX (sc:=sc) (a:=m / 3 % 40 * sc) (b:=1+m / 120 % 6 / 3 * (m / 720 % 4)) top.1 top.2 (by omega) (by rw [hD]; omega);have el:=fO (a:=m / 3 % 40 * sc) (b:=1+m / 120 % 6 / 3 * (m / 720 % 4)) (by omega) (qY (by omega));exact ⟨_,bj (az (aD (aV (ae (ag rfl) (ae (ag rfl) aq)) hc rfl)) (aR (ax (ar (ag rfl) e_c (by rw [bT,Za z]))) (az (aD (aV (ae (ag rfl) (ae (ag rfl) aq)) hm rfl)) (bz (aV (ae (ar (ar (ar (ag rfl) e_c (be (by decide) (by decide +kernel))) e_c (aM (by decide))) (ag rfl) (kR (by omega) (by omega))) (ae (ar e_c (ar (ar (ar (ar (ag rfl) e_c (be (by decide) (by decide +kernel))) e_c (aM (by decide))) e_c (be (by decide) (by decide +kernel))) (ar (ar (ag rfl) e_c (be (by decide) (by decide +kernel))) e_c (aM (by decide))) (kQ (by omega) (by omega))) rfl) aq)) el rfl))))),l⟩
def VOk (sc:Int) (parts:Bool):Vl->Prop
 | .num q=>Lg sc q
 | .part q=>parts=true/\Lg sc q/\q<=4
 | .word s=>PyData.strOk s=true
structure WOk (sc:Int) (parts:Bool) (w:Wi):Prop where
 b:VOk sc parts w.b
 l:VOk sc parts w.l
 m:VOk sc parts w.m
 nw:∀ s,w.l≠.word s
 g:Lg sc w.g
 s:Lg sc w.s
 nat:Lg sc w.nat
def F2 {sc:Int} {q:Rat} (h:Lg sc q):∃ p,bh [.int (q.num % 5),.int (1+(q.den:Int) % 4)]=some (.shr (PF.fr p))/\Lg sc p/\p<=4:=by
 have a0:=Z4 q.num (show (5:Int)≠0 by decide);have a1:=Zy q.num (show (0:Int) < 5 by decide);have c0:=Z4 (q.den:Int) (show (4:Int)≠0 by decide);have c1:=Zy (q.den:Int) (show (0:Int) < 4 by decide);have h30:(5:Int)<=10 ^ 30:=by decide +kernel
 have hD:=t6 sc;refine ⟨_,fO (by omega) (qY (by omega)),yX a0 (by omega) (by omega) (by omega),?_⟩;generalize ha:q.num % 5=a at *;generalize hb:1+(q.den:Int) % 4=b at *;have e:=jW a (b:=b) (by omega);have n0:0<=Rat.divInt a b:=Rat.divInt_nonneg a0 (by omega);have hd:=den_pos (Rat.divInt a b);have hn:=Xb.mpr n0;rw [Rat.le_iff];show (Rat.divInt a b).num * 1<=4 * (Rat.divInt a b).den;have t:(Rat.divInt a b).num * 1<=(Rat.divInt a b).num * b:=Wb (by omega) hn;have t2:a * (Rat.divInt a b).den<=4 * (Rat.divInt a b).den:=Int.mul_le_mul_of_nonneg_right (by omega) (X5 hd);omega
def wst (ns:List Int) (k sc:Int) (parts:Bool) (m:Int) (x5 x6 x7:Sl) (Hs T:List D) (x10 x11:Sl):List Sl:=[.shr (scr ns),.shr (.int k),.shr (.int sc),.shr (.bl parts),.shr (.int m),x5,x6,x7,.own (.lst Hs),.own (.lst T),x10,x11,.no]
noncomputable def wb:DS:=(aL (bA 11 (dFn cn (ah (ao 0) (ah (dOp cp (dOp cp (ao 1) (dC (.int 1))) (ao 10)) (ah (ao 2) aC)))))
 (aL (sIf (fE (dT (dOp oEq (ao 10) (dC (.int 1)))) (dT (dOp oEq (dOp oMod (dOp oDiv (ao 4) (dC (.int 3240))) (dC (.int 2))) (dC (.int 1))))) (bA 11 (cY (ah (dC (.int 0)) (ah (dC (.int 1)) aC)))) bg)
 (aL (sIf (ur 8 (fE (dT (dOp oEq (dOp oIx (ao 8) (ao 10)) (dC (.str "part")))) (dT (ao 3)))) (bA 11 (dFn bh (ah (dOp oMod (dOp oIx (ao 11) (dC (.int 0))) (dC (.int 5))) (ah (dOp cp (dC (.int 1)) (dOp oMod (dOp oIx (ao 11) (dC (.int 1))) (dC (.int 4)))) aC)))) (sIf (ur 8 (dT (dOp oEq (dOp oIx (ao 8) (ao 10)) (dC (.str "part"))))) (h9 8 (dC (.str "number")) (ao 10)) bg))
 (aL (pF 9 (nk 8 (cY (ah (dOp oIx (ao 8) (ao 10)) (ah (dOp oIx (ao 11) (dC (.int 0))) (ah (dOp oIx (ao 11) (dC (.int 1))) aC))))))
 (sIf (ur 8 (dT (dOp oEq (dOp oIx (ao 8) (ao 10)) (dC (.str "word"))))) (h9 9 (cY (ah (dC (.str "word")) (ah (dOp oIx (lU (ah (dC (.str "auto")) (ah (dC (.str "")) (ah (dC (.str "none")) aC)))) (ao 10)) aC))) (ao 10)) bg)))))
def pick {xs:List Str} {i:Int} (h0:0<=i) (h1:i < xs.length):∃ x ∈ xs,oIx (.lst (xs.map .str)) (.int i)=some (.str x):=by
 obtain ⟨h,e⟩:=HR (xs:=xs.map D.str) h0 (by rw [Zd]; exact h1);refine ⟨xs[i.toNat]'(by rw [Zd] at h; exact h),Z1 _,?_⟩;show atI (xs.map D.str) i=_;rw [e,List.getElem_map]
def yb {T:List D} {x y:D} {j:Nat} (h:T.length=j):(T++[x]).set j y=T++[y]:=by
 rw [List.set_append_right _ _ (by omega),h,Nat.sub_self];rfl
section
variable {ns:List Int} {k sc m:Int} {parts:Bool} {x5 x6 x7 x10 x11:Sl}
def BA (h63:ns.length<=63) (k0:0<=k) (s0:0<=sc) (s1:sc<=10 ^ 13) {Hs T:List D} {j:Nat} {h:Str} (hj:j < 3) (lh:Hs.length=3) (lt:T.length=j) (hh:Hs[j]?=some (.str h)) (hk:h="word"\/h="number"\/h="part") :
  ∃ v Hs' x11',wb (wst ns k sc parts m x5 x6 x7 Hs T (.shr (.int (j:Int))) x11)=some (.next (wst ns k sc parts m x5 x6 x7 Hs' (T++[vlD v]) (.shr (.int (j:Int))) x11'))/\VOk sc parts v/\(h≠"word"->∀ s,v≠.word s)/\Hs'.length=3/\∀ i,i≠j->Hs'[i]?=Hs[i]?:=by
 obtain ⟨q0,hq0,lq0⟩:=fP h63 (k:=k+1+(j:Int)) (sc:=sc) (by omega) s0 s1;have ih:oIx (.lst Hs) (.int (j:Int))=some (.str h):=fS hh
 obtain ⟨q,lq,e2⟩:∃ q,Lg sc q/\aL (bA 11 (dFn cn (ah (ao 0) (ah (dOp cp (dOp cp (ao 1) (dC (.int 1))) (ao 10)) (ah (ao 2) aC)))))
   (sIf (fE (dT (dOp oEq (ao 10) (dC (.int 1)))) (dT (dOp oEq (dOp oMod (dOp oDiv (ao 4) (dC (.int 3240))) (dC (.int 2))) (dC (.int 1))))) (bA 11 (cY (ah (dC (.int 0)) (ah (dC (.int 1)) aC)))) bg) (wst ns k sc parts m x5 x6 x7 Hs T (.shr (.int (j:Int))) x11)=some (.next (wst ns k sc parts m x5 x6 x7 Hs T (.shr (.int (j:Int))) (.shr (PF.fr q)))):=by
  have tst:fE (dT (dOp oEq (ao 10) (dC (.int 1)))) (dT (dOp oEq (dOp oMod (dOp oDiv (ao 4) (dC (.int 3240))) (dC (.int 2))) (dC (.int 1)))) (wst ns k sc parts m x5 x6 x7 Hs T (.shr (.int (j:Int))) (.shr (PF.fr q0)))=some (decide ((j:Int)=1)&&decide (m / 3240 % 2=1)) :=
   iq (ax (ar (ag rfl) e_c (bT _ _))) (ax (ar (ar (ar (ag rfl) e_c (be (by decide) (by decide +kernel))) e_c (aM (by decide))) e_c (bT _ _)))
  have first:=aD (i:=11) (aV (τ:=wst ns k sc parts m x5 x6 x7 Hs T (.shr (.int (j:Int))) x11) (F:=cn) (ga:=ah (ao 0) (ah (dOp cp (dOp cp (ao 1) (dC (.int 1))) (ao 10)) (ah (ao 2) aC))) (ae (ag rfl) (ae (ar (ar (ag rfl) e_c rfl) (ag rfl) rfl) (ae (ag rfl) aq))) hq0 rfl)
  by_cases c:(decide ((j:Int)=1)&&decide (m / 3240 % 2=1))=true
  ·rw [c] at tst
   exact ⟨0,mU sc,az first (fh (b:=true) tst (λ _=>aD (a9 (ae e_c (ae e_c aq)) (Zb rfl))) nofun)⟩
  ·rw [Bool.not_eq_true] at c
   rw [c] at tst;exact ⟨q0,lq0,az first (fh (b:=false) tst nofun (λ _=>rfl))⟩
 have assoc:∀ {f g h:DS} {τ τ':List Sl} {o:Option Out},aL f g τ=some (.next τ')->h τ'=o->aL f (aL g h) τ=o:=λ {f g h τ τ' o} q1 q2=>by
  unfold aL at q1 ⊢
  cases e:f τ with
  | none=>rw [e] at q1; cases q1
  | some out =>
   rw [e] at q1
   cases out with
   | next τ2=>simp only at q1 ⊢; rw [q1]; exact q2
   | ret s=>cases q1
   | brk s=>cases q1
   | cnt s=>cases q1
 have tail:∀ (Hs':List D) (h':Str) (x:Rat),oIx (.lst Hs') (.int (j:Int))=some (.str h')->h'≠"word"->aL (pF 9 (nk 8 (cY (ah (dOp oIx (ao 8) (ao 10)) (ah (dOp oIx (ao 11) (dC (.int 0))) (ah (dOp oIx (ao 11) (dC (.int 1))) aC))))))
  (sIf (ur 8 (dT (dOp oEq (dOp oIx (ao 8) (ao 10)) (dC (.str "word"))))) (h9 9 (cY (ah (dC (.str "word")) (ah (dOp oIx (lU (ah (dC (.str "auto")) (ah (dC (.str "")) (ah (dC (.str "none")) aC)))) (ao 10)) aC))) (ao 10)) bg) (wst ns k sc parts m x5 x6 x7 Hs' T (.shr (.int (j:Int))) (.shr (PF.fr x)))=some (.next (wst ns k sc parts m x5 x6 x7 Hs' (T++[.tup [.str h',.int x.num,.int x.den]]) (.shr (.int (j:Int))) (.shr (PF.fr x)))):=λ Hs' h' x hi nw=>by
  refine az (kE (d:=.tup [.str h',.int x.num,.int x.den]) (ni rfl (a9 (ae (ar (ag rfl) (ag rfl) hi) (ae (ar (ag rfl) e_c (aN _ _)) (ae (ar (ag rfl) e_c (aY _ _ _)) aq))) (Zb rfl)) rfl) rfl (by omega)) ?_
  exact fh (b:=false) (lV rfl (ax (ar (ar (ag rfl) (ag rfl) hi) e_c (by rw [aX,Za nw])))) nofun (λ _=>rfl)
 unfold wb;rcases hk with rfl | rfl | rfl
 ·-- a word
  obtain ⟨s,ms,es⟩:=pick (xs:=["auto","","none"]) (i:=(j:Int)) (by omega) (by show (j:Int) < 3; omega);have oks:∀ x ∈ (["auto","","none"]:List Str),PyData.strOk x=true:=by decide +kernel
  refine ⟨.word s,Hs,.shr (PF.fr q),assoc e2 ?_,oks s ms,λ h=>absurd rfl h,lh,λ _ _=>rfl⟩;refine az (fh (b:=false) (lV rfl (de (b:=false) (ax (ar (ar (ag rfl) (ag rfl) ih) e_c (by rw [aX,Za (by decide +kernel)]))) nofun (λ _=>rfl))) nofun (λ _=>fh (b:=false) (lV rfl (ax (ar (ar (ag rfl) (ag rfl) ih) e_c (by rw [aX,Za (by decide +kernel)])))) nofun (λ _=>rfl))) ?_
  refine az (kE (d:=.tup [.str "word",.int q.num,.int q.den]) (ni rfl (a9 (ae (ar (ag rfl) (ag rfl) ih) (ae (ar (ag rfl) e_c (aN _ _)) (ae (ar (ag rfl) e_c (aY _ _ _)) aq))) (Zb rfl)) rfl) rfl (by omega)) ?_
  refine fh (b:=true) (lV rfl (ax (ar (ar (ag rfl) (ag rfl) ih) e_c rfl))) (λ _=>?_) nofun;have pp:=ye (τ:=wst ns k sc parts m x5 x6 x7 Hs (T++[.tup [.str "word",.int q.num,.int q.den]]) (.shr (.int (j:Int))) (.shr (PF.fr q))) (j:=9) (n:=j) (k:=(j:Int)) (v:=.tup [.str "word",.str s]) (f:=cY (ah (dC (.str "word")) (ah (dOp oIx (lU (ah (dC (.str "auto")) (ah (dC (.str "")) (ah (dC (.str "none")) aC)))) (ao 10)) aC))) (g:=ao 10) (ds:=T++[.tup [.str "word",.int q.num,.int q.den]]) (a9 (ae e_c (ae (ar (cB (ae e_c (ae e_c (ae e_c aq))) (Zb rfl)) (ag rfl) es) aq)) (Zb rfl)) (ag rfl) rfl (rP (by rw [Zu]; simp; omega));rw [yb lt] at pp;exact pp
 ·-- a number
  refine ⟨.num q,Hs,.shr (PF.fr q),assoc e2 ?_,lq,λ _ s h=>(nomatch h),lh,λ _ _=>rfl⟩;refine az (fh (b:=false) (lV rfl (de (b:=false) (ax (ar (ar (ag rfl) (ag rfl) ih) e_c (by rw [aX,Za (by decide +kernel)]))) nofun (λ _=>rfl))) nofun (λ _=>fh (b:=false) (lV rfl (ax (ar (ar (ag rfl) (ag rfl) ih) e_c (by rw [aX,Za (by decide +kernel)])))) nofun (λ _=>rfl))) ?_
  exact tail Hs "number" q ih (by decide +kernel)
 ·cases hp:parts with
  | true =>
   subst hp;obtain ⟨p,ep,lp,p4⟩:=F2 lq;refine ⟨.part p,Hs,.shr (PF.fr p),assoc e2 ?_,⟨rfl,lp,p4⟩,λ _ s h=>(nomatch h),lh,λ _ _=>rfl⟩;refine az (fh (b:=true) (lV rfl (de (b:=true) (ax (ar (ar (ag rfl) (ag rfl) ih) e_c rfl)) (λ _=>ax (ag rfl)) nofun)) (λ _=>aD (aV (ae (ar (ar (ag rfl) e_c (aN _ _)) e_c (aM (by decide))) (ae (ar e_c (ar (ar (ag rfl) e_c (aY _ _ _)) e_c (aM (by decide))) rfl) aq)) ep rfl)) nofun) ?_
   exact tail Hs "part" p ih (by decide +kernel)
  | false =>
   subst hp;have ih':oIx (.lst (Hs.set j (.str "number"))) (.int (j:Int))=some (.str "number"):=fS (by rw [List.getElem?_set_self (by omega)]);refine ⟨.num q,Hs.set j (.str "number"),.shr (PF.fr q),assoc e2 ?_,lq,λ _ s h=>(nomatch h),by rw [X3]; exact lh,λ i hi=>by rw [List.getElem?_set_ne (λ z=>hi z.symm)]⟩;refine az (fh (b:=false) (lV rfl (de (b:=true) (ax (ar (ar (ag rfl) (ag rfl) ih) e_c rfl)) (λ _=>ax (ag rfl)) nofun)) nofun (λ _=>fh (b:=true) (lV rfl (ax (ar (ar (ag rfl) (ag rfl) ih) e_c rfl))) (λ _=>ye (n:=j) (k:=(j:Int)) e_c (ag rfl) rfl (rP (by omega))) nofun)) ?_
   exact tail _ "number" q ih' (by decide +kernel)
def q8 {a b:Int} (sc:Int) (ha:0<=a) (ha2:a<=1000) (hb:0 < b) (hb2:b<=4):bh [.int a,.int b]=some (.shr (PF.fr (Rat.divInt a b)))/\Lg sc (Rat.divInt a b):=by
 have h30:(1000:Int)<=10 ^ 30:=by decide +kernel
 have hD:=t6 sc;exact ⟨fO hb (qY (by omega)),yX ha (by omega) hb (by omega)⟩
def ER (h63:ns.length<=63) (k0:0<=k) (s0:0<=sc) (s1:sc<=10 ^ 13):∃ w,f7 [scr ns,.int k,.int sc,.bl parts]=some (.shr (wiD w))/\WOk sc parts w:=by
 obtain ⟨m,hm,m0⟩:=p8 h63 k0;obtain ⟨nat,hn,ln⟩:=fP h63 k0 s0 s1;obtain ⟨wd,hw,lw⟩:=fP h63 (k:=k+1) (by omega) s0 s1;have okn:PyData.strOk "none"=true:=by decide +kernel
 unfold f7 iJ;dsimp only
 by_cases c5:m % 6=5
 ·refine ⟨⟨.num wd,.num 0,.word "none",0,0,wd⟩,bj ?_,⟨lw,mU sc,okn,λ s h=>(nomatch h),mU sc,mU sc,lw⟩⟩
  refine az (aD (aV (ae (ag rfl) (ae (ag rfl) aq)) hm rfl)) ?_
  refine az (aD (aV (ae (ag rfl) (ae (ag rfl) (ae (ag rfl) aq))) hn rfl)) ?_
  refine az (aD (aV (ae (ag rfl) (ae (ar (ag rfl) e_c rfl) (ae (ag rfl) aq))) hw rfl)) ?_
  refine cJ (ax (ar (ar (ag rfl) e_c (aM (by decide))) e_c (by rw [bT,Zh c5]))) (bz ?_);exact a9 (ae (ar (a9 (ae e_c aq) (Zb rfl)) (ag rfl) (nA wd)) (ae (a9 (ae e_c (ae e_c (ae e_c aq))) (Zb rfl)) (ae (a9 (ae e_c (ae e_c aq)) (Zb rfl)) (ae (a9 (ae e_c (ae e_c (ae e_c aq))) (Zb rfl)) (ae (a9 (ae e_c (ae e_c (ae e_c aq))) (Zb rfl)) (ae (ag rfl) aq)))))) (Zb rfl)
 ·have a0:=Z4 (m / 6) (show (5:Int)≠0 by decide)
  have a1:=Zy (m / 6) (show (0:Int) < 5 by decide);have b0:=Z4 (m / 30) (show (3:Int)≠0 by decide);have b1:=Zy (m / 30) (show (0:Int) < 3 by decide);have d0:=Z4 (m / 6480) (show (4:Int)≠0 by decide);have d1:=Zy (m / 6480) (show (0:Int) < 4 by decide);have e0:=Z4 (m / 25920) (show (3:Int)≠0 by decide);have e1:=Zy (m / 25920) (show (0:Int) < 3 by decide);obtain ⟨sh1,sh2⟩:=q8 (a:=m / 6 % 5) (b:=1+m / 30 % 3) sc a0 (by omega) (by omega) (by omega);obtain ⟨ot1,ot2⟩:=q8 (a:=m / 6480 % 4) (b:=1+m / 25920 % 3) sc d0 (by omega) (by omega) (by omega);obtain ⟨h0,mh0,eh0⟩:=pick (xs:=["word","number","part"]) (i:=m / 90 % 3) (Z4 _ (by decide)) (Zy _ (by decide));obtain ⟨h1,mh1,eh1⟩:=pick (xs:=["number","number","part"]) (i:=m / 270 % 3) (Z4 _ (by decide)) (Zy _ (by decide));obtain ⟨h2,mh2,eh2⟩:=pick (xs:=["word","number","word","part"]) (i:=m / 810 % 4) (Z4 _ (by decide)) (Zy _ (by decide));have k0':h0="word"\/h0="number"\/h0="part":=by simpa using mh0
  have k1':h1="number"\/h1="part":=by simpa using mh1
  have k2':h2="word"\/h2="number"\/h2="part":=by
   simp only [Zl,Xv,or_false] at mh2;rcases mh2 with h | h | h | h
   · exact .inl h
   · exact .inr (.inl h)
   · exact .inl h
   · exact .inr (.inr h)
  have nw1:h1≠"word":=by rcases k1' with h | h <;> rw [h] <;> decide +kernel
  simp only [Z8,Wv] at eh0 eh1 eh2
  obtain ⟨sh,lsh,esh⟩:∃ sh,Lg sc sh/\aL (bA 7 (dFn bh (ah (dOp oMod (dOp oDiv (ao 4) (dC (.int 6))) (dC (.int 5))) (ah (dOp cp (dC (.int 1)) (dOp oMod (dOp oDiv (ao 4) (dC (.int 30))) (dC (.int 3)))) aC))))
    (sIf (fE (dT (dOp oEq (ao 2) (dC (.int 0)))) (dT (dOp oGt (dOp oMod (dOp oDiv (ao 4) (dC (.int 6))) (dC (.int 5))) (dC (.int 2))))) (bA 7 (dFn cn (ah (ao 0) (ah (dOp cp (ao 1) (dC (.int 4))) (ah (ao 2) aC))))) bg)
    [.shr (scr ns),.shr (.int k),.shr (.int sc),.shr (.bl parts),.shr (.int m),.shr (PF.fr nat),.shr (PF.fr wd),.no,.no,.no,.no,.no,.no]=some (.next [.shr (scr ns),.shr (.int k),.shr (.int sc),.shr (.bl parts),.shr (.int m),.shr (PF.fr nat),.shr (PF.fr wd),.shr (PF.fr sh),.no,.no,.no,.no,.no]):=by
   obtain ⟨l4,hl4,ll4⟩:=fP h63 (k:=k+4) (by omega) s0 s1
   have tst:fE (dT (dOp oEq (ao 2) (dC (.int 0)))) (dT (dOp oGt (dOp oMod (dOp oDiv (ao 4) (dC (.int 6))) (dC (.int 5))) (dC (.int 2)))) [.shr (scr ns),.shr (.int k),.shr (.int sc),.shr (.bl parts),.shr (.int m),.shr (PF.fr nat),.shr (PF.fr wd),.shr (PF.fr (Rat.divInt (m / 6 % 5) (1+m / 30 % 3))),.no,.no,.no,.no,.no]=some (decide (sc=0)&&decide (2 < m / 6 % 5)) :=
    iq (ax (ar (ag rfl) e_c (bT _ _))) (ax (ar (ar (ar (ag rfl) e_c (be (by decide) (by decide +kernel))) e_c (aM (by decide))) e_c rfl))
   have first:=aD (i:=7) (aV (τ:=[.shr (scr ns),.shr (.int k),.shr (.int sc),.shr (.bl parts),.shr (.int m),.shr (PF.fr nat),.shr (PF.fr wd),.no,.no,.no,.no,.no,.no]) (F:=bh) (ga:=ah (dOp oMod (dOp oDiv (ao 4) (dC (.int 6))) (dC (.int 5))) (ah (dOp cp (dC (.int 1)) (dOp oMod (dOp oDiv (ao 4) (dC (.int 30))) (dC (.int 3)))) aC)) (ae (ar (ar (ag rfl) e_c (be (by decide) (by decide +kernel))) e_c (aM (by decide))) (ae (ar e_c (ar (ar (ag rfl) e_c (be (by decide) (by decide +kernel))) e_c (aM (by decide))) rfl) aq)) sh1 rfl)
   by_cases c:(decide (sc=0)&&decide (2 < m / 6 % 5))=true
   ·rw [c] at tst
    exact ⟨l4,ll4,az first (fh (b:=true) tst (λ _=>aD (aV (ae (ag rfl) (ae (ar (ag rfl) e_c rfl) (ae (ag rfl) aq))) hl4 rfl)) nofun)⟩
   ·rw [Bool.not_eq_true] at c
    rw [c] at tst;exact ⟨_,sh2,az first (fh (b:=false) tst nofun (λ _=>rfl))⟩
  obtain ⟨v0,H1,y0,t0,o0,_,l0,g0⟩:=BA (parts:=parts) (m:=m) (x5:=.shr (PF.fr nat)) (x6:=.shr (PF.fr wd)) (x7:=.shr (PF.fr sh)) (x11:=.no) h63 k0 s0 s1 (Hs:=[.str h0,.str h1,.str h2]) (T:=[]) (j:=0) (h:=h0) (by decide) rfl rfl rfl k0';have hH1:H1[1]?=some (.str h1):=by rw [g0 1 (by decide)]; rfl
  have hH2:H1[2]?=some (.str h2):=by rw [g0 2 (by decide)]; rfl
  obtain ⟨v1,H2,y1,t1,o1,n1,l1,g1⟩:=BA (parts:=parts) (m:=m) (x5:=.shr (PF.fr nat)) (x6:=.shr (PF.fr wd)) (x7:=.shr (PF.fr sh)) (x11:=y0) h63 k0 s0 s1 (Hs:=H1) (T:=[]++[vlD v0]) (j:=1) (h:=h1) (by decide) l0 rfl hH1 (.inr k1');have hH2':H2[2]?=some (.str h2):=by rw [g1 2 (by decide)]; exact hH2
  obtain ⟨v2,H3,y2,t2,o2,_,l2,g2⟩:=BA (parts:=parts) (m:=m) (x5:=.shr (PF.fr nat)) (x6:=.shr (PF.fr wd)) (x7:=.shr (PF.fr sh)) (x11:=y1) h63 k0 s0 s1 (Hs:=H2) (T:=[]++[vlD v0]++[vlD v1]) (j:=2) (h:=h2) (by decide) l1 rfl hH2' k2'
  have loop:nF (gy (ah (dC (.int 3)) aC)) (gN 10) wb (wst ns k sc parts m (.shr (PF.fr nat)) (.shr (PF.fr wd)) (.shr (PF.fr sh)) [.str h0,.str h1,.str h2] [] .no .no)=some (.next (wst ns k sc parts m (.shr (PF.fr nat)) (.shr (PF.fr wd)) (.shr (PF.fr sh)) H3 [vlD v0,vlD v1,vlD v2] (.shr (.int 2)) y2)):=by
   refine uF (ds:=[.int 0,.int 1,.int 2]) ((qh (j:=3) rfl (by decide)).trans rfl) ?_
   refine ji (τ':=wst ns k sc parts m (.shr (PF.fr nat)) (.shr (PF.fr wd)) (.shr (PF.fr sh)) H1 ([]++[vlD v0]) (.shr (.int 0)) y0) t0 ?_
   refine ji (τ':=wst ns k sc parts m (.shr (PF.fr nat)) (.shr (PF.fr wd)) (.shr (PF.fr sh)) H2 ([]++[vlD v0]++[vlD v1]) (.shr (.int 1)) y1) t1 ?_
   exact ji (τ':=wst ns k sc parts m (.shr (PF.fr nat)) (.shr (PF.fr wd)) (.shr (PF.fr sh)) H3 ([]++[vlD v0]++[vlD v1]++[vlD v2]) (.shr (.int 2)) y2) t2 rfl
  refine ⟨⟨v0,v1,v2,sh,Rat.divInt (m / 6480 % 4) (1+m / 25920 % 3),nat⟩,bj ?_,⟨o0,o1,o2,n1 nw1,lsh,ot2,ln⟩⟩
  have assoc:∀ {f g h:DS} {τ τ':List Sl} {o:Option Out},aL f g τ=some (.next τ')->h τ'=o->aL f (aL g h) τ=o:=λ {f g h τ τ' o} q1 q2=>by
   unfold aL at q1 ⊢
   cases e:f τ with
   | none=>rw [e] at q1; cases q1
   | some out =>
    rw [e] at q1
    cases out with
    | next τ2=>simp only at q1 ⊢; rw [q1]; exact q2
    | ret s=>cases q1
    | brk s=>cases q1
    | cnt s=>cases q1
  refine az (aD (aV (ae (ag rfl) (ae (ag rfl) aq)) hm rfl)) ?_
  refine az (aD (aV (ae (ag rfl) (ae (ag rfl) (ae (ag rfl) aq))) hn rfl)) ?_
  refine az (aD (aV (ae (ag rfl) (ae (ar (ag rfl) e_c rfl) (ae (ag rfl) aq))) hw rfl)) ?_
  refine aR (ax (ar (ar (ag rfl) e_c (aM (by decide))) e_c (by rw [bT,Za c5]))) ?_
  refine assoc esh ?_
  refine az (cT (d:=.lst [.str h0,.str h1]) (cB (ae (ar (cB (ae e_c (ae e_c (ae e_c aq))) (Zb rfl)) (ar (ar (ag rfl) e_c (be (by decide) (by decide +kernel))) e_c (aM (by decide))) eh0) (ae (ar (cB (ae e_c (ae e_c (ae e_c aq))) (Zb rfl)) (ar (ar (ag rfl) e_c (be (by decide) (by decide +kernel))) e_c (aM (by decide))) eh1) aq)) (Zb rfl)) (Zb rfl)) ?_
  refine az (kE (d:=.str h2) (ar (cB (ae e_c (ae e_c (ae e_c (ae e_c aq)))) (Zb rfl)) (ar (ar (ag rfl) e_c (be (by decide) (by decide +kernel))) e_c (aM (by decide))) eh2) rfl (Zb rfl)) ?_
  refine az (cT (cB aq (Zs _)) (Zb rfl)) ?_
  refine az loop ?_
  refine az (aD (aV (ae (ar (ar (ag rfl) e_c (be (by decide) (by decide +kernel))) e_c (aM (by decide))) (ae (ar e_c (ar (ar (ag rfl) e_c (be (by decide) (by decide +kernel))) e_c (aM (by decide))) rfl) aq)) ot1 rfl)) ?_
  refine nR rfl (bz ?_);exact a9 (ae (ar (ag rfl) e_c rfl) (ae (ar (ag rfl) e_c rfl) (ae (ar (ag rfl) e_c rfl) (ae (ar (a9 (ae e_c aq) (Zb rfl)) (ag rfl) (nA _)) (ae (ar (a9 (ae e_c aq) (Zb rfl)) (ag rfl) (nA _)) (ae (ag rfl) aq)))))) (Zb rfl)
end
def key_ne {K k:Str} (h:K≠k):(Sum.inr K:Key)≠.inr k:=λ e=>h (Sum.inr.inj e)
def xV (head:Int) (gap pad:Rat) {fl sp:Str} (of:PyData.strOk fl=true) (os:PyData.strOk sp=true):∃ kvs,d8 [.int head,PF.fr gap,PF.fr pad,.str fl,.str sp]=some (.own (.dct kvs))/\u9 kvs=true /\
  cV kvs (.inr "pad")=some (jU pad)/\cV kvs (.inr "gap")=some (jU gap)/\cV kvs (.inr "flow")=some (.tup [.str "word",.str fl])/\cV kvs (.inr "spread")=some (.tup [.str "word",.str sp]):=by
 have okw:∀ x ∈ (["red","auto","none","top"]:List Str),PyData.strOk x=true:=by decide +kernel
 obtain ⟨kv0,hk0⟩:∃ kv0:List (Key×D),kv0=[(.inr "ink",.tup [.str "word",.str "red"]),(.inr "size",.tup [.str "number",.int 1,.int 1]),(.inr "gap",jU gap),(.inr "pad",jU pad)]:=⟨_,rfl⟩
 have ok0:u9 kv0=true:=by
  rw [hk0];show (okD 9 _&&(okD 9 _&&(okD 9 _&&(okD 9 _&&true))))=true;rw [okW (okw "red" (by simp)),okN,show okD 9 (jU gap)=true from okN _ _,show okD 9 (jU pad)=true from okN _ _];rfl
 have g0:cV kv0 (.inr "gap")=some (jU gap):=by
  rw [hk0];exact (val_neg (by decide +kernel)).trans ((val_neg (by decide +kernel)).trans (fG rfl))
 have p0:cV kv0 (.inr "pad")=some (jU pad):=by
  rw [hk0];exact (val_neg (by decide +kernel)).trans ((val_neg (by decide +kernel)).trans ((val_neg (key_ne (K:="gap") (k:="pad") (by decide +kernel))).trans (fG rfl)))
 have l0:kv0.length=4:=by rw [hk0]; rfl
 obtain ⟨kv2,hk2⟩:∃ kv2,kv2=putD (putD kv0 (.inr "wide") (.tup [.str "word",.str "auto"])) (.inr "most") (.tup [.str "word",.str "none"]):=⟨_,rfl⟩
 have ok2:u9 kv2=true:=by rw [hk2]; exact gW (gW ok0 (okW (okw _ (by simp)))) (okW (okw _ (by simp)))
 have g2:cV kv2 (.inr "gap")=some (jU gap):=by rw [hk2]; exact bJ (by decide +kernel) (bJ (by decide +kernel) g0)
 have p2:cV kv2 (.inr "pad")=some (jU pad):=by rw [hk2]; exact bJ (by decide +kernel) (bJ (by decide +kernel) p0)
 have l2:kv2.length<=6:=by
  have a1:=gu (kvs:=kv0) (k:=.inr "wide") (v:=.tup [.str "word",.str "auto"]);have a2:=gu (kvs:=putD kv0 (.inr "wide") (.tup [.str "word",.str "auto"])) (k:=.inr "most") (v:=.tup [.str "word",.str "none"]);rw [hk2];omega
 have a0:=Z4 (head / 7) (show (4:Int)≠0 by decide)
 obtain ⟨τ',e1,kv,x6,ok,gp,pp,ln,rfl⟩:=cM (f:=kF 5 (cY (ah (dC (.str "number")) (ah (dOp oMod (dOp oDiv (ao 0) (dC (.int 7))) (dC (.int 4))) (ah (dC (.int 1)) aC)))) (ao 6)) (gg:=gN 6) (it:=d7 (lU (ah (dC (.str "least")) (ah (dC (.str "grow")) (ah (dC (.str "shrink")) (ah (dC (.str "tall")) aC))))))
  (τ:=[.shr (.int head),.shr (PF.fr gap),.shr (PF.fr pad),.shr (.str fl),.shr (.str sp),.own (.dct kv2),.no])
  (λ j τ=>∃ (kv:List (Key×D)) (x6:Sl),u9 kv=true/\cV kv (.inr "gap")=some (jU gap)/\cV kv (.inr "pad")=some (jU pad)/\kv.length<=6+j/\τ=[.shr (.int head),.shr (PF.fr gap),.shr (PF.fr pad),.shr (.str fl),.shr (.str sp),.own (.dct kv),x6])
  (dO (ds:=(["least","grow","shrink","tall"]:List Str).map .str) (cB (ae e_c (ae e_c (ae e_c (ae e_c aq)))) (Zb rfl))) ⟨kv2,.no,ok2,g2,p2,l2,rfl⟩ (by
    rintro j d τ hd ⟨kv,x6,ok,gp,pp,ln,rfl⟩
    rw [List.getElem?_map] at hd
    cases e:(["least","grow","shrink","tall"]:List Str)[j]? with
    | none=>rw [e] at hd; cases hd
    | some K =>
     rw [e] at hd;have ed:D.str K=d:=Zj hd;subst ed;have hj:j < 4:=(List.getElem?_eq_some_iff.mp e).1;have mK:=List.mem_of_getElem? e;have nK:∀ x ∈ (["least","grow","shrink","tall"]:List Str),x≠"gap"/\x≠"pad":=by decide +kernel
     obtain ⟨n1,n2⟩:=nK K mK;have pl:=gu (kvs:=kv) (k:=.inr K) (v:=.tup [.str "number",.int (head / 7 % 4),.int 1])
     refine ⟨_,_,rfl,gq (a9 (ae e_c (ae (ar (ar (ag rfl) e_c (be (by decide) (by decide +kernel))) e_c (aM (by decide))) (ae e_c aq))) (Zb rfl)) (ag rfl) rfl rfl (by omega),putD kv (.inr K) (.tup [.str "number",.int (head / 7 % 4),.int 1]),_,gW ok (okN _ _),bJ (key_ne λ z=>n1 z.symm) gp,bJ (key_ne λ z=>n2 z.symm) pp,by omega,rfl⟩)
 have ln4:kv.length<=10:=ln;have q1:=gu (kvs:=kv) (k:=.inr "flow") (v:=.tup [.str "word",.str fl]);have q2:=gu (kvs:=putD kv (.inr "flow") (.tup [.str "word",.str fl])) (k:=.inr "spread") (v:=.tup [.str "word",.str sp]);refine ⟨putD (putD (putD kv (.inr "flow") (.tup [.str "word",.str fl])) (.inr "spread") (.tup [.str "word",.str sp])) (.inr "stand") (.tup [.str "word",.str "top"]),?_,gW (gW (gW ok (okW of)) (okW os)) (okW (okw _ (by simp))),bJ (by decide +kernel) (bJ (by decide +kernel) (bJ (by decide +kernel) pp)),bJ (by decide +kernel) (bJ (by decide +kernel) (bJ (by decide +kernel) gp)),bJ (by decide +kernel) (bJ (by decide +kernel) kf),bJ (by decide +kernel) kf⟩;unfold d8 fU;dsimp only;refine bj ?_
 refine az (cT (d:=.dct kv0) ?_ (Zb rfl)) ?_
 ·have:=Be (τ:=[.shr (.int head),.shr (PF.fr gap),.shr (PF.fr pad),.shr (.str fl),.shr (.str sp),.no,.no]) (ps:=((dC (.str "ink")),(cY (ah (dC (.str "word")) (ah (dC (.str "red")) aC))))::(((dC (.str "size")),(cY (ah (dC (.str "number")) (ah (dC (.int 1)) (ah (dC (.int 1)) aC)))))::(((dC (.str "gap")),(dOp oe (cY (ah (dC (.str "number")) aC)) (ao 1)))::(((dC (.str "pad")),(dOp oe (cY (ah (dC (.str "number")) aC)) (ao 2)))::[])))) (kvs:=kv0) (by rw [hk0]; rfl) (by rw [l0]; decide)
  rw [hk0] at this ⊢;exact this
 refine az (gq (d:=.tup [.str "word",.str "auto"]) (a9 (ae e_c (ae e_c aq)) (Zb rfl)) e_c rfl rfl (by omega)) ?_
 refine az (gq (d:=.tup [.str "word",.str "none"]) (a9 (ae e_c (ae e_c aq)) (Zb rfl)) e_c rfl rfl (by have a1:=gu (kvs:=kv0) (k:=.inr "wide") (v:=.tup [.str "word",.str "auto"]); omega)) ?_
 rw [hk2] at e1;refine az e1 ?_
 refine az (gq (a9 (ae e_c (ae (ag rfl) aq)) (Zb rfl)) e_c rfl rfl (by omega)) ?_
 refine az (gq (a9 (ae e_c (ae (ag rfl) aq)) (Zb rfl)) e_c rfl rfl (by omega)) ?_
 refine az (gq (a9 (ae e_c (ae e_c aq)) (Zb rfl)) e_c rfl rfl (by omega)) ?_
 exact jb rfl
end N36
end
section
set_option exponentiation.threshold 5000
namespace N36
open PySem L2 PF MU DL
def zR {B:Nat}:∀ {qs:List Rat},(∀ q ∈ qs,q.den<=B)->cG qs<=B ^ qs.length
 | [],_=>Ze _
 | q::qs,h=>by
  show q.den * cG qs<=_;rw [Zw,Nat.pow_succ,Nat.mul_comm];exact Nat.mul_le_mul (zR λ x hx=>h x (Zg _ hx)) (h q (Zo ..))
def vq (v:Vl) (o:Rat):Rat:=match v with
 | .num q=>q
 | .part q=>q
 | .word _=>o
def vals (ws:List Wi):List Rat:=ws.flatMap λ w=>[vq w.b w.nat,vq w.l 0,vq w.m 0]
def qU:∀ ws:List Wi,(vals ws).length=3 * ws.length
 | []=>rfl
 | w::ws=>by
  have:=qU ws;unfold vals at this ⊢;rw [List.flatMap_cons,Zu,this,Zw];simp only [Zw,Xm];omega
def Few (sc:Int) (n:Nat):Prop:=(sc=0/\n<=3)\/(sc≠0/\n<=17)
def Few.le {sc:Int} {n:Nat} (h:Few sc n):n<=17:=by rcases h with ⟨_,h⟩ | ⟨_,h⟩ <;> omega
def shw (g:Bool) (w:Wi):Rat:=if g then w.g else w.s
section
variable {sc:Int} {parts:Bool} {ws:List Wi} {l2 pad gap:Rat}
def BD {v:Vl} {o:Rat} (h:VOk sc parts v) (ho:o.den<=Dn sc):(vq v o).den<=Dn sc:=by
 cases v with
 | num q=>exact Lg.dn h
 | part q=>exact h.2.1.dn
 | word s=>exact ho
def HX (hn:Few sc ws.length) (h:∀ w ∈ ws,WOk sc parts w) (h2:Lg sc l2) (hp:Lg sc pad) (hg:Lg sc gap):2 * (cG [l2,pad,gap] * cG (vals ws))<=2 ^ 600:=by
 have d1:cG [l2,pad,gap]<=Dn sc ^ 3:=zR (B:=Dn sc) (qs:=[l2,pad,gap]) λ q hq=>by
  rcases Zl.mp hq with rfl | hq
  · exact h2.dn
  rcases Zl.mp hq with rfl | hq
  · exact hp.dn
  rcases Zl.mp hq with rfl | hq
  · exact hg.dn
  · cases hq
 have z0:(0:Rat).den<=Dn sc:=Zc (by decide) (t6 sc)
 have d2:cG (vals ws)<=Dn sc ^ (3 * ws.length):=by
  rw [<- qU];refine zR λ q hq=>?_
  obtain ⟨w,hw,hq⟩:=List.mem_flatMap.mp hq;have o:=h w hw;rcases Zl.mp hq with rfl | hq
  · exact BD o.b o.nat.dn
  rcases Zl.mp hq with rfl | hq
  · exact BD o.l z0
  rcases Zl.mp hq with rfl | hq
  · exact BD o.m z0
  · cases hq
 have hD:=t6 sc;refine Zc (Y1 2 (Nat.mul_le_mul d1 d2)) ?_
 rcases hn with ⟨rfl,hn⟩ | ⟨hw,hn⟩
 ·refine Zc (Y1 2 (Y1 _ (Yc (by omega) (show 3 * ws.length<=9 by omega)))) ?_
  show 2 * ((10 ^ 15) ^ 3 * (10 ^ 15) ^ 9)<=2 ^ 600;decide +kernel
 ·refine Zc (Y1 2 (Y1 _ (Yc (by omega) (show 3 * ws.length<=51 by omega)))) ?_
  unfold Dn;rw [if_neg hw];decide +kernel
def Mq (hn:Few sc ws.length) (h:∀ w ∈ ws,WOk sc parts w) (g:Bool):cG (ws.map (shw g))<=2 ^ 200:=by
 have d:=zR (B:=Dn sc) (qs:=ws.map (shw g)) λ q hq=>by
  obtain ⟨w,hw,rfl⟩:=Yw.mp hq;unfold shw
  cases g with
  | true=>exact (h w hw).g.dn
  | false=>exact (h w hw).s.dn
 rw [Zd] at d;have hD:=t6 sc;refine Zc d ?_
 rcases hn with ⟨rfl,hn⟩ | ⟨hw,hn⟩
 ·refine Zc (Yc (by omega) hn) ?_
  show (10 ^ 15) ^ 3<=2 ^ 200;decide +kernel
 ·refine Zc (Yc (by omega) hn) ?_
  unfold Dn;rw [if_neg hw];decide +kernel
structure Rm (parts:Bool) (A B:Nat) (room:Rat):Prop where
 a0:0 < A
 b0:0 < B
 nn:0<=room
 is:In (A * B) (24 * 10 ^ 30) room
 pt:parts=true->In A (8 * 10 ^ 30) room
def Es {A B:Nat} {room o:Rat} (R:Rm parts A B room) {v:Vl} (h:VOk sc parts v) (hd:(vq v o).den ∣ B) (ho:In o.den (10 ^ 30) o) (o0:0<=o):In (A * B) (10 ^ 32) (amQ v room o)/\0<=amQ v room o/\(parts=false->In (A * B) (10 ^ 30) (amQ v room o)):=by
 have up:∀ {q:Rat},In q.den (10 ^ 30) q->q.den ∣ B->In (A * B) (10 ^ 30) q:=λ i d=>gc i (Yg d (Yn _ _))
 cases v with
 | num q =>
  have h:Lg sc q:=h;have:=up h.is hd;exact ⟨this.mono (by decide +kernel),h.nn,λ _=>this⟩
 | part q =>
  obtain ⟨hp,hl,h4⟩:=h;have i4:In q.den 4 q:=⟨Ww _,by have:=hl.nn; show -(4:Rat)<=q; grind,h4⟩
  have i:=rX q.den_pos R.a0 i4 (R.pt hp) hl.nn R.nn;have dd:q.den * A ∣ A * B:=by rw [Nat.mul_comm A B]; exact Nat.mul_dvd_mul hd (Ww _)
  exact ⟨(dv i dd).mono (by decide +kernel),Wq hl.nn R.nn,λ z=>by rw [hp] at z; cases z⟩
 | word s =>
  have:=up ho hd;exact ⟨this.mono (by decide +kernel),o0,λ _=>this⟩
def HW {v:Vl} {room x:Rat} (h:amM v room=some x):amQ v room 0=x/\vq v 0=vq v 1:=by
 cases v with
 | num q=>exact ⟨Zj h,rfl⟩
 | part q=>exact ⟨Zj h,rfl⟩
 | word s=>cases h
def BE {w:Wi} (hw:w ∈ ws):(vq w.b w.nat).den ∣ cG (vals ws)/\(vq w.l 0).den ∣ cG (vals ws)/\(vq w.m 0).den ∣ cG (vals ws):=by
 refine ⟨dG (List.mem_flatMap.mpr ⟨w,hw,?_⟩),dG (List.mem_flatMap.mpr ⟨w,hw,?_⟩),dG (List.mem_flatMap.mpr ⟨w,hw,?_⟩)⟩ <;> simp
def in0 (sc:Int):In (0:Rat).den (10 ^ 30) 0/\(0:Rat)<=0:=⟨(In.zero _).mono (Zs _),Yh⟩
def tJ {A:Nat} {room:Rat} (R:Rm parts A (cG (vals ws)) room) (h:∀ w ∈ ws,WOk sc parts w) {w:Wi} (hw:w ∈ ws) :
  (In (A * cG (vals ws)) (10 ^ 32) (eZ room w).base/\(parts=false->In (A * cG (vals ws)) (10 ^ 30) (eZ room w).base))/\(In (A * cG (vals ws)) (10 ^ 32) (eZ room w).least/\0<=(eZ room w).least/\(parts=false->In (A * cG (vals ws)) (10 ^ 30) (eZ room w).least)) /\
  ∀ m,(eZ room w).most=some m->In (A * cG (vals ws)) (10 ^ 32) m/\(parts=false->In (A * cG (vals ws)) (10 ^ 30) m):=by
 obtain ⟨v1,v2,v3⟩:=BE hw;have o:=h w hw;obtain ⟨z1,z2⟩:=in0 sc;have a:=Es R o.b v1 o.nat.is o.nat.nn;have b:=Es R o.l v2 z1 z2;have c:=Es R o.m v3 z1 z2;refine ⟨⟨a.1,a.2.2⟩,b,λ m e=>?_⟩;obtain ⟨e1,_⟩:=HW (show amM w.m room=some m from e);rw [e1] at c;exact ⟨c.1,c.2.2⟩
def EO {A:Nat} {room:Rat} (R:Rm parts A (cG (vals ws)) room) (h:∀ w ∈ ws,WOk sc parts w) (hN:A * cG (vals ws)<=2 ^ 600) {w:Wi} (hw:w ∈ ws):WZ room w:=by
 have o:=h w hw;obtain ⟨a,b,c⟩:=tJ R h hw;have z:∀ {q:Rat},In (A * cG (vals ws)) (10 ^ 32) q->Zq q:=λ i=>Zq.of (m:=120) i (Xi R.a0 R.b0) hN (by decide +kernel) (by decide) (by decide)
 have vz:∀ {v:Vl},VOk sc parts v->VZ v:=λ {v} hv=>by
  cases v with
  | num q=>exact Lg.z hv
  | part q=>exact hv.2.1.z
  | word s=>trivial
 exact ⟨vz o.b,vz o.l,vz o.m,o.nw,z a.1,z b.1,λ x e=>z (c x e).1⟩
def E8 {A:Nat} {room edge:Rat} (R:Rm parts A (cG (vals ws)) room) (hn:Few sc ws.length) (h:∀ w ∈ ws,WOk sc parts w) (hN:2 * (A * cG (vals ws))<=2 ^ 600) (hg:Lg sc gap) (dg:gap.den ∣ A) (he:In (2 * (A * cG (vals ws))) (10 ^ 32) edge) :
  Sit (2 * (A * cG (vals ws))) (λ g=>cG (ws.map (shw g))) (ws.map (eZ room)) gap edge room:=by
 have d2:A * cG (vals ws) ∣ 2 * (A * cG (vals ws)):=Yn _ _;have n0:=Xi R.a0 R.b0;have few:=hn.le
 have ig:∀ g,∀ w ∈ ws,In (cG (ws.map (shw g))) (10 ^ 32) (shw g w)/\0<=shw g w:=λ g w hw=>by
  have l:Lg sc (shw g w):=by
   unfold shw
   cases g with
   | true=>exact (h w hw).g
   | false=>exact (h w hw).s
  exact ⟨(gc l.is (dG (Yw.mpr ⟨w,hw,rfl⟩))).mono (by decide +kernel),l.nn⟩
 have mem:∀ {i:Item},i ∈ ws.map (eZ room)->∃ w ∈ ws,i=eZ room w:=λ {i} hi=>by
  obtain ⟨w,hw,e⟩:=Yw.mp hi;exact ⟨w,hw,e.symm⟩
 refine ⟨Xi (by decide) n0,λ g=>g7 _,hN,λ g=>Mq hn h g,by rw [Zd]; omega,λ i hi=>?_,λ i hi=>?_,λ i hi m e=>?_,λ i hi=>?_,λ i hi=>?_,?_,hg.nn,he,(dv R.is d2).mono (by decide +kernel)⟩
 ·obtain ⟨w,hw,rfl⟩:=mem hi
  exact dv (tJ R h hw).1.1 d2
 ·obtain ⟨w,hw,rfl⟩:=mem hi
  exact ⟨dv (tJ R h hw).2.1.1 d2,(tJ R h hw).2.1.2.1⟩
 ·obtain ⟨w,hw,rfl⟩:=mem hi
  exact dv ((tJ R h hw).2.2 m e).1 d2
 ·obtain ⟨w,hw,rfl⟩:=mem hi
  exact ig true w hw
 ·obtain ⟨w,hw,rfl⟩:=mem hi
  exact ig false w hw
 · exact (gc hg.is (Yg dg (Yg (Yb _ _) d2))).mono (by decide +kernel)
end
def Hm (x:Rat):((2:Int):Rat) * (x * Rat.divInt 1 2)=x:=by
 have e:((2:Int):Rat) * Rat.divInt 1 2=1:=by decide +kernel
 rw [Rat.mul_comm x,<- Rat.mul_assoc,e,Rat.one_mul]
def xX (x:Rat):((2:Int):Rat) * x=x+x:=by
 show (2:Rat) * x=_;grind
def room_in {X M M':Nat} {width pad:Rat} (hX:0 < X) (hw:In X M width) (hp:In X M' pad):In X (M+(M'+M')) (width - ((2:Int):Rat) * edQ width pad)/\0<=width - ((2:Int):Rat) * edQ width pad:=by
 unfold edQ
 by_cases c:width * Rat.divInt 1 2 < pad
 ·rw [if_pos c,Hm]
  have:width - width=0:=by grind
  rw [this];exact ⟨(In.zero _).mono (Zs _),Yh⟩
 ·rw [if_neg c,xX]
  refine ⟨hw.sub hX (hp.add hX hp),?_⟩;have h2:=Hm width;rw [xX] at h2;grind
def D8 {X M M':Nat} {width pad:Rat} (hX:0 < X) (hw:In X M width) (hp:In X M' pad):In (2 * X) (M+M') (edQ width pad):=by
 unfold edQ;split
 · exact (k5 hX hw).mono (by omega)
 · exact (dv hp (Yn X 2)).mono (by omega)
def D9 (width pad:Rat):(if pad < width * Rat.divInt 1 2 then pad else width * Rat.divInt 1 2)=edQ width pad:=by
 unfold edQ;split <;> split <;> grind
end N36
end
section
set_option exponentiation.threshold 5000
namespace N36
open PySem L2 PF MU DL
def vE {gg:D->Option D} {P:Wi->Prop}:∀ {ds:List D},(∀ d ∈ ds,∃ w,gg d=some (wiD w)/\P w)->∃ ws:List Wi,kj gg ds=some (ws.map wiD)/\ws.length=ds.length/\∀ w ∈ ws,P w
 | [],_=>⟨[],rfl,rfl,λ _ h=>nomatch h⟩
 | d::ds,h=>by
  obtain ⟨w,e,p⟩:=h d (Zo ..);obtain ⟨ws,e2,l,p2⟩:=vE λ x hx=>h x (Zg _ hx)
  refine ⟨w::ws,?_,by rw [Zw,Zw,l],λ x hx=>?_⟩
  ·simp only [kj,e,e2,Z7]
   rfl
  ·rcases Zl.mp hx with rfl | hx
   · exact p
   · exact p2 x hx
def NA {sc:Int} {parts:Bool} {w:Wi} (h:WOk sc parts w):okD 8 (wiD w)=true:=by
 have e:∀ {n:Nat} {v:Vl},VOk sc parts v->okD (n+1) (vlD v)=true:=λ {n v} hv=>by
  cases v with
  | num q=>show (PyData.strOk "number"&&(true&&(true&&true)))=true; decide +kernel
  | part q=>show (PyData.strOk "part"&&(true&&(true&&true)))=true; decide +kernel
  | word s =>
   have h:PyData.strOk s=true:=hv;show (PyData.strOk "word"&&(PyData.strOk s&&true))=true;rw [h]; decide +kernel
 have en:∀ {n:Nat} (q:Rat),okD (n+1) (jU q)=true:=λ q=>by show (PyData.strOk "number"&&(true&&(true&&true)))=true; decide +kernel
 show (okD 7 (vlD w.b)&&(okD 7 (vlD w.l)&&(okD 7 (vlD w.m)&&(okD 7 (jU w.g)&&(okD 7 (jU w.s)&&(okD 7 (PF.fr w.nat)&&true))))))=true;rw [e h.b,e h.l,e h.m,en,en,vd];rfl
def GR {sc:Int} {parts:Bool} {ws:List Wi} (h:∀ w ∈ ws,WOk sc parts w):oNe (.lst (ws.map wiD)) (.lst (ws.map wiD))=some (.bl false):=by
 have:kL 8 (ws.map wiD)=true:=mM λ d hd=>by
  obtain ⟨w,hw,rfl⟩:=Yw.mp hd;exact NA (h w hw)
 rw [vo this this,g6];rfl
def xl {f:Nat->Nat->List Rat} {E:Nat->Nat->Prop} {n p:Nat} {cs:List Nat} (h:Ch E n p cs) (hf:∀ p c,1<=c->p+c<=n->(f p c).length=c):(cat f p cs).length=n - p:=by
 induction h with
 | nil=>show 0=_; omega
 | @cons p e cs h l m r ih =>
  show (f p (e - p)++cat f (p+(e - p)) cs).length=_;rw [Zu,hf p (e - p) (by omega) (by omega),show p+(e - p)=e by omega,ih];omega
def xm {f:Nat->Nat->List Rat} {E:Nat->Nat->Prop} {P:Rat->Prop} {n p:Nat} {cs:List Nat} (h:Ch E n p cs) (hf:∀ p c,1<=c->p+c<=n->∀ q ∈ f p c,P q):∀ q ∈ cat f p cs,P q:=by
 induction h with
 | nil=>intro q hq; cases hq
 | @cons p e cs h l m r ih =>
  intro q hq;rw [show cat f p ((e - p)::cs)=f p (e - p)++cat f (p+(e - p)) cs from rfl,show p+(e - p)=e by omega] at hq;rcases Y5.mp hq with hq | hq
  · exact hf p (e - p) (by omega) (by omega) q hq
  · exact ih q hq
def vL (t:Adr) {ns:List Int} {head sc:Int} {many:Nat} {parts:Bool} {fl sp:Str} {l2 gap pad width:Rat} {ws:List Wi} {x11:Sl} (hn:Few sc ws.length) (hlen:ws.length=many) (h:∀ w ∈ ws,WOk sc parts w) (h2:Lg sc l2) (hg:Lg sc gap) (hp:Lg sc pad)
  (hfl:fl="stack"\/fl="row"\/fl="wrap"\/fl="fair") (okf:PyData.strOk fl=true) (oks:PyData.strOk sp=true) (hs:¬ (sp="right"/\sp="middle"))
  (iw:In (cG [l2,pad,gap] * cG (vals ws)) (20 * 10 ^ 30) width) (iw2:parts=true->In (cG [l2,pad,gap]) (6 * 10 ^ 30) width) :
  (aL (bA 12 (dFn a7 (ah (ao 10) (ah (cY (ah (dC (.int 1)) (ah (dC (.int 2)) aC))) aC))))
  (aL (sIf (dT (dFn aZ (ah (ao 8) (ah (ao 12) aC)))) (bA 12 (ao 8)) bg)
  (aL (bA 13 (dFn cF (ah (ao 10) (ah (dFn a7 (ah (ao 12) (ah (cY (ah (dC (.int 2)) (ah (dC (.int 1)) aC))) aC))) aC))))
  (aL (bA 14 (dFn d8 (ah (ao 1) (ah (ao 7) (ah (ao 8) (ah (ao 5) (ah (ao 6) aC)))))))
  (aL (bA 15 (bf vw (ah (ao 14) aC)))
  (aL (bA 16 (bf tx (ah (ao 9) aC)))
  (aL (bA 17 (dFn (nC t) (ah (ao 15) (ah (ao 10) (ah (ao 16) aC)))))
  (aL (sIf (dOr (dT (dOp Gg (ao 15) (ao 14))) (dOr (dT (dOp oNe (ao 16) (ao 9))) (dOr (nj (dT (bf pH (ah (ao 17) (ah (dC (.ty "tuple")) aC))))) (dT (dOp oNe (bf d6 (ah (ao 17) aC)) (dC (.int 3))))))) (dJ (dC (.bl false))) bg)
  (aL (sIf (dOr (nj (dT (dFn bU (ah (dOp oIx (ao 17) (dC (.int 1))) (ah (ao 3) aC))))) (nj (dT (dFn bU (ah (dOp oIx (ao 17) (dC (.int 2))) (ah (ao 3) aC)))))) (dJ (dC (.bl false))) bg)
  (dJ (dFn cI (ah (ao 17) (ah (cx (d7 (ao 9)) (dFn cR (ah (ao 0) (ah (ao 1) aC))) [("_law_room",13)]) (ah (ao 5) (ah (ao 6) (ah (ao 12) (ah (ao 7) (ah (ao 13) aC))))))))))))))))))
    [.shr (scr ns),.shr (.int head),.shr (.int sc),.shr (.int (many:Int)),.shr (.bl (!parts)),.shr (.str fl),.shr (.str sp),.shr (PF.fr gap),.shr (PF.fr pad),.shr (.lst (ws.map wiD)),.shr (PF.fr width),x11,.no,.no,.no,.no,.no,.no]=some (.ret (.shr (.bl true))):=by
 have hN:=HX hn h h2 hp hg;have a0:0 < cG [l2,pad,gap]:=g7 _;have b0:0 < cG (vals ws):=g7 _;have dp:pad.den ∣ cG [l2,pad,gap]:=dG (by simp);have dg:gap.den ∣ cG [l2,pad,gap]:=dG (by simp);generalize cG [l2,pad,gap]=A at *;have X0:=Xi a0 b0;have few:=hn.le;have ipA:In A (10 ^ 30) pad:=gc hp.is dp;have ip:In (A * cG (vals ws)) (10 ^ 30) pad:=dv ipA (Yb _ _)
 have R:Rm parts A (cG (vals ws)) (width - ((2:Int):Rat) * edQ width pad):=by
  have r1:=room_in X0 iw ip;exact ⟨a0,b0,r1.2,r1.1.mono (by decide +kernel),λ c=>(room_in a0 (iw2 c) ipA).1.mono (by decide +kernel)⟩
 have ie:In (2 * (A * cG (vals ws))) (10 ^ 32) (edQ width pad):=(D8 X0 iw ip).mono (by decide +kernel);have H:=E8 R hn h hN hg dg ie;have X1:A * cG (vals ws)<=2 ^ 600:=Zc (Nat.le_mul_of_pos_left _ (by decide)) hN;have z1:∀ {q:Rat} {M:Nat},In (A * cG (vals ws)) M q->M<=2 ^ 120->Zq q:=λ i m=>Zq.of i X0 X1 m (by decide) (by decide)
 have z2:∀ {q:Rat} {M:Nat},In (2 * (A * cG (vals ws))) M q->M<=2 ^ 120->Zq q:=λ i m=>Zq.of i H.n0 hN m (by decide) (by decide)
 have zw:Zq width:=z1 iw (by decide +kernel);have zh:Zq (width * Rat.divInt 1 2):=z2 (k5 X0 iw) (by decide +kernel);have zp:Zq pad:=hp.z;have ze:Zq (edQ width pad):=z2 ie (by decide +kernel)
 have ze2:Zq (((2:Int):Rat) * edQ width pad):=by
  rw [xX];exact z2 (ie.add H.n0 ie) (by decide +kernel)
 have zr:Zq (width - ((2:Int):Rat) * edQ width pad):=z1 R.is (by decide +kernel);obtain ⟨kvs,ev,okk,vp,vg,vf,vs⟩:=xV head gap pad okf oks;have hz:∀ w ∈ ws,WZ (width - ((2:Int):Rat) * edQ width pad) w:=λ w hw=>EO R h X1 hw
 have e12:=gx zw A8;rw [<- mZ] at e12;have eu:=iu zp zh
 have e13:a7 [PF.fr (edQ width pad),.tup [.int 2,.int 1]]=some (.shr (PF.fr (((2:Int):Rat) * edQ width pad))):=by
  rw [ui,Rat.mul_comm];exact gx ze (EC (i:=2) (by decide +kernel))
 have em:=jV zw ze2;generalize hroom:width - ((2:Int):Rat) * edQ width pad=room at *;have lis:(ws.map (eZ room)).length=ws.length:=Zd _
 have ex:∀ p c:Nat,∃ W,1<=c->p+c<=(ws.map (eZ room)).length->EH (2 * (A * cG (vals ws))) (ws.map (eZ room)) gap (edQ width pad) room p c W:=λ p c=>by
  by_cases q:1<=c/\p+c<=(ws.map (eZ room)).length
  · obtain ⟨W,l⟩:=Du H q.1 q.2
    exact ⟨W,λ _ _=>l⟩
  · exact ⟨[],λ q1 q2=>absurd ⟨q1,q2⟩ q⟩
 obtain ⟨W,hW⟩:∃ W:Nat->Nat->List Rat,∀ p c,1<=c->p+c<=(ws.map (eZ room)).length->EH (2 * (A * cG (vals ws))) (ws.map (eZ room)) gap (edQ width pad) room p c (W p c) :=
  ⟨λ p c=>Classical.choose (ex p c),λ p c=>Xc (ex p c)⟩
 obtain ⟨cs,eLn,c2,c3⟩:=Dt t vp vg vf vs zw zh zp ze2 ze hroom.symm hz H hW hfl;have eG:=Ds H hW hs c2 c3;have lW:(cat W 0 cs).length=many:=by rw [xl c2 (λ p c q1 q2=>(hW p c q1 q2).len),lis,Nat.sub_zero,hlen]
 have lX:(cat (XQ W sp gap (edQ width pad) room) 0 cs).length=many:=by
  rw [xl c2 (λ p c q1 q2=>by unfold XQ; rw [nG]; exact (hW p c q1 q2).len),lis,Nat.sub_zero,hlen]
 have zW:∀ q ∈ cat W 0 cs,Zq q:=xm c2 λ p c q1 q2 q hq=>by
  obtain ⟨K,ln⟩:=(hW p c q1 q2).ln;exact ln.w.zq hq
 have zX:∀ q ∈ cat (XQ W sp gap (edQ width pad) room) 0 cs,Zq q:=xm c2 λ p c q1 q2 q hq=>by
  have L:=hW p c q1 q2;obtain ⟨K,ln⟩:=L.ln;unfold XQ xsQ at hq;obtain ⟨j,hj,rfl⟩:=Yw.mp hq;have:=ln.zx sp (j:=j) (Xq (Xw.mp hj));rw [L.len] at this;have:=ln.zx sp (j:=j) (Xq (Xw.mp hj));have e:c=(W p c).length:=L.len.symm;have hq2:=ln.zM this (by decide);rw [<- e] at hq2;rw [<- e];exact hq2
 have eF1:=wx lW (by omega) zW;have eF2:=wx lX (by omega) zX
 have eC:∀ (s0 s1 s2 s3 s4 s5 s6 s7 s8 s10 s11 s12:Sl) (r:List Sl),cx (d7 (ao 9)) (dFn cR (ah (ao 0) (ah (ao 1) aC))) [("_law_room",13)] (s0::s1::s2::s3::s4::s5::s6::s7::s8::.shr (.lst (ws.map wiD))::s10::s11::s12::.shr (PF.fr room)::r)=some (.lst ((ws.map (eZ room)).map liD)):=λ s0 s1 s2 s3 s4 s5 s6 s7 s8 s10 s11 s12 r=>by
  rw [Yu];refine di (dO rfl) (by rw [Zd]; omega) (eN λ y hy=>?_);exact aV (ae (ag rfl) (ae (ag rfl) aq)) (vJ (hz y hy) zr) rfl
 refine az (aD (aV (ae (ag rfl) (ae (a9 (ae e_c (ae e_c aq)) (Zb rfl)) aq)) e12 rfl)) ?_
 refine az (τ':=[.shr (scr ns),.shr (.int head),.shr (.int sc),.shr (.int (many:Int)),.shr (.bl (!parts)),.shr (.str fl),.shr (.str sp),.shr (PF.fr gap),.shr (PF.fr pad),.shr (.lst (ws.map wiD)),.shr (PF.fr width),x11,.shr (PF.fr (edQ width pad)),.no,.no,.no,.no,.no]) ?_ ?_
 ·rw [<- D9]
  refine fh (b:=decide (pad < width * Rat.divInt 1 2)) (ax (aV (ae (ag rfl) (ae (ag rfl) aq)) eu rfl)) (λ q=>?_) (λ q=>?_)
  · rw [if_pos (Zx q)]; exact aD (ag rfl)
  · rw [if_neg (Y3 q)]; rfl
 refine az (aD (aV (ae (ag rfl) (ae (aV (ae (ag rfl) (ae (a9 (ae e_c (ae e_c aq)) (Zb rfl)) aq)) e13 rfl) aq)) em rfl)) ?_
 refine az (aD (aV (ae (ag rfl) (ae (ag rfl) (ae (ag rfl) (ae (ag rfl) (ae (ag rfl) aq))))) ev rfl)) ?_
 refine az (aD (aU (ae (ag rfl) aq) rfl)) ?_
 refine az (aD (aU (ae (ag rfl) aq) rfl)) ?_
 refine az (aD (aV (ae (ag rfl) (ae (ag rfl) (ae (ag rfl) aq))) eLn rfl)) ?_
 refine aR (nN (b:=false) (ax (ar (ag rfl) (ag rfl) (vt okk))) (λ _=>nN (b:=false) (ax (ar (ag rfl) (ag rfl) (GR h))) (λ _=>nN (b:=false) (gh (b:=true) (ax (aU (ae (ag rfl) (ae e_c aq)) (vV _)))) (λ _=>ax (ar (aU (z:=.int 3) (ae (ag rfl) aq) rfl) e_c (by rw [eK,Zh rfl]; rfl))) nofun) nofun) nofun) ?_
 refine aR (nN (b:=false) (gh (b:=true) (ax (aV (ae (ar (ag rfl) e_c (aY _ _ _)) (ae (ag rfl) aq)) eF1 rfl))) (λ _=>gh (b:=true) (ax (aV (ae (ar (ag rfl) e_c (jS _ _ _ _)) (ae (ag rfl) aq)) eF2 rfl))) nofun) ?_
 exact bz (aV (ae (ag rfl) (ae (eC _ _ _ _ _ _ _ _ _ _ _ _ _) (ae (ag rfl) (ae (ag rfl) (ae (ag rfl) (ae (ag rfl) (ae (ag rfl) aq))))))) eG rfl)
def HK {N M:Nat} {g:Rat} {ps:List Rat} (hN:0 < N) (hq:∀ q ∈ ps,In N M q) (hg:In N M g):In N ((ps.length+ps.length) * M) (cm g ps):=by
 unfold cm
 by_cases z:ps=[]
 · subst z; rw [if_pos rfl]; exact (In.zero N).mono (Zs _)
 ·rw [if_neg z]
  have s:=In.sum hN hq ps.length (Ze _);rw [Ym] at s;refine (s.add hN (In.AY hN hg (ps.length - 1))).mono ?_
  rw [<- Nat.add_mul];exact Zn _ (by omega)
def Ef {ws:List Wi} {k:Int} (k0:0<=k) (k8:k<=8):∃ ws':List Wi,oSl (.lst (ws.map wiD)) none (some k)=some (.lst (ws'.map wiD))/\(∀ w ∈ ws',w ∈ ws)/\ws'.length<=8:=by
 refine ⟨ws.take (min k.toNat ws.length),?_,λ w hw=>List.mem_of_mem_take hw,by rw [Xu]; omega⟩;show some (D.lst (cutD _ _ _))=_;unfold cutD;rw [Zd];have l1:HT.sIx ws.length 0 none=0:=rfl
 have l2:HT.sIx ws.length ws.length (some k)=min k.toNat ws.length:=by
  simp only [HT.sIx];rw [if_neg (by omega)]
 rw [l1,l2,Xy,Nat.sub_zero,List.map_take]
def yZ (t:Adr) (ns:List Int) (h63:ns.length<=63):H9 t [.fz (ns.map .int)]=some (.shr (.bl true)):=by
 obtain ⟨head,ehd,hd0⟩:=p8 h63 (k:=0) (by decide);obtain ⟨c1,ec1⟩:=xj h63 (k:=1) (by decide);have m0:=Z4 c1 (Z3 b13);have m1:=Zy c1 b13;have q9:=Z4 (head / 3) (show (9:Int)≠0 by decide);have q9':=Zy (head / 3) (show (0:Int) < 9 by decide);have one13:(1:Int)<=10 ^ 13:=by decide +kernel
 unfold H9 EA;dsimp only;refine bj ?_
 show aL _ _ [.shr (scr ns),.no,.no,.no,.no,.no,.no,.no,.no,.no,.no,.no,.no,.no,.no,.no,.no,.no]=_;refine az (aD (aV (ae (ag rfl) (ae e_c aq)) ehd rfl)) ?_
 refine az (aD e_c) ?_
 refine uG (b:=decide (0 < head % 3)) (λ τ=>∃ sc:Int,1<=sc/\sc<=10 ^ 13/\τ=[.shr (scr ns),.shr (.int head),.shr (.int sc),.no,.no,.no,.no,.no,.no,.no,.no,.no,.no,.no,.no,.no,.no,.no]) (ax (ar (ar (ag rfl) e_c (aM (by decide))) e_c rfl)) (λ _=>⟨_,aD (ar e_c (ar (aV (ae (ag rfl) (ae e_c aq)) ec1 rfl) (ar e_c e_c Gf) (aM b13)) rfl),1+c1 % 10 ^ 13,by omega,by omega,rfl⟩) (λ _=>⟨1,by decide,one13,rfl⟩) ?_
 rintro τ ⟨sc,s1,s2,rfl⟩
 refine az (aD (ar (ar (ag rfl) e_c (be (by decide) (by decide +kernel))) e_c (aM (by decide)))) ?_
 refine uG (b:=decide (head / 27 % 5=1)) (λ τ=>∃ sc many:Int,((sc=0/\0<=many/\many<=3)\/(1<=sc/\sc<=10 ^ 13/\0<=many/\many<=8))/\τ=[.shr (scr ns),.shr (.int head),.shr (.int sc),.shr (.int many),.no,.no,.no,.no,.no,.no,.no,.no,.no,.no,.no,.no,.no,.no]) (ax (ar (ar (ar (ag rfl) e_c (be (by decide) (by decide +kernel))) e_c (aM (by decide))) e_c (bT _ _))) (λ _=>⟨_,az (aD e_c) (aD (ar (ag rfl) e_c (aM (by decide)))),0,head / 3 % 9 % 4,.inl ⟨rfl,by omega,by omega⟩,rfl⟩) (λ _=>⟨sc,head / 3 % 9,.inr ⟨s1,s2,by omega,by omega⟩,rfl⟩) ?_
 clear s1 s2
 rintro τ ⟨sc,many,hsm,rfl⟩
 refine uG (b:=decide (head / 27 % 10=2)) (λ τ=>∃ sc many:Int,((sc=0/\0<=many/\many<=3)\/(1<=sc/\sc<=10 ^ 13/\0<=many/\many<=17))/\τ=[.shr (scr ns),.shr (.int head),.shr (.int sc),.shr (.int many),.no,.no,.no,.no,.no,.no,.no,.no,.no,.no,.no,.no,.no,.no]) (ax (ar (ar (ar (ag rfl) e_c (be (by decide) (by decide +kernel))) e_c (aM (by decide))) e_c (bT _ _))) (λ _=>⟨_,az (aD e_c) (aD (ar e_c (ag rfl) rfl)),1,9+many,.inr ⟨by decide,one13,by omega,by omega⟩,rfl⟩) (λ _=>⟨sc,many,by omega,rfl⟩) ?_
 clear hsm
 rintro τ ⟨sc,manyI,hsm,rfl⟩
 obtain ⟨many,rfl⟩:∃ n:Nat,manyI=(n:Int):=⟨manyI.toNat,by omega⟩
 have s0:0<=sc:=by omega
 have s13:sc<=10 ^ 13:=by
  rcases hsm with ⟨h,_⟩ | ⟨_,h,_⟩
  · rw [h]; exact Int.le_trans (by decide) one13
  · exact h
 have hfew:Few sc many:=by
  rcases hsm with ⟨h1,h2,h3⟩ | ⟨h1,h2,h3,h4⟩
  · exact .inl ⟨h1,by omega⟩
  · exact .inr ⟨by omega,by omega⟩
 obtain ⟨fl,mf,ef⟩:=pick (xs:=["stack","row","wrap","fair","wrap","row"]) (i:=head / 1080 % 6) (Z4 _ (by decide)) (Zy _ (by decide));obtain ⟨sp,msp,es⟩:=pick (xs:=["left","middle","right","apart"]) (i:=head / 6480 % 4) (Z4 _ (by decide)) (Zy _ (by decide));have okf:∀ x ∈ (["stack","row","wrap","fair","wrap","row"]:List Str),PyData.strOk x=true/\(x="stack"\/x="row"\/x="wrap"\/x="fair"):=by decide +kernel
 have oks:∀ x ∈ (["left","middle","right","apart"]:List Str),PyData.strOk x=true/\¬ (x="right"/\x="middle"):=by decide +kernel
 obtain ⟨okf1,okf2⟩:=okf fl mf;obtain ⟨oks1,oks2⟩:=oks sp msp;simp only [Z8,Wv] at ef es;obtain ⟨gap,eg,lg⟩:=fP h63 (k:=3) (sc:=sc) (by decide) s0 s13;obtain ⟨pad,ep,lp⟩:=fP h63 (k:=4) (sc:=sc) (by decide) s0 s13;obtain ⟨l2,e2,ll2⟩:=fP h63 (k:=2) (sc:=sc) (by decide) s0 s13;have few:=hfew.le;have r6:=Z4 (head / 25920) (show (6:Int)≠0 by decide);have r6':=Zy (head / 25920) (show (0:Int) < 6 by decide);have r8:=Z4 (head / 25920) (show (8:Int)≠0 by decide);have r8':=Zy (head / 25920) (show (0:Int) < 8 by decide);obtain ⟨kn,hkn,ekn⟩:∃ kn:Nat,kn<=6/\1+head / 25920 % 6=(kn:Int):=⟨(1+head / 25920 % 6).toNat,by omega,by omega⟩
 refine az (aD (ar (ar (ar (ag rfl) e_c (be (by decide) (by decide +kernel))) e_c (aM (by decide))) e_c (bT _ _))) ?_
 refine az (aD (ar (cB (ae e_c (ae e_c (ae e_c (ae e_c (ae e_c (ae e_c aq)))))) (Zb rfl)) (ar (ar (ag rfl) e_c (be (by decide) (by decide +kernel))) e_c (aM (by decide))) ef)) ?_
 refine az (aD (ar (cB (ae e_c (ae e_c (ae e_c (ae e_c aq)))) (Zb rfl)) (ar (ar (ag rfl) e_c (be (by decide) (by decide +kernel))) e_c (aM (by decide))) es)) ?_
 refine az (aD (aV (ae (ag rfl) (ae e_c (ae (ag rfl) aq))) eg rfl)) ?_
 refine az (aD (aV (ae (ag rfl) (ae e_c (ae (ag rfl) aq))) ep rfl)) ?_
 generalize decide (head / 270 % 4=1)=ex
 obtain ⟨ws,ews,lws,hws⟩:=vE (gg:=λ d=>dFn f7 (ah (ao 1) (ah (dOp cp (dC (.int 5)) (dOp gi (dC (.int 5)) (ao 0))) (ah (ao 2) (ah (tS (ao 3)) aC)))) [.shr d,.shr (scr ns),.shr (.int sc),.shr (.bl ex)]) (P:=WOk sc (!ex)) (ds:=mh 0 many) (λ d hd=>by
  obtain ⟨j,hj,rfl⟩:=BX hd;obtain ⟨w,ew,ow⟩:=ER (parts:=!ex) h63 (k:=5+5 * (j:Int)) (sc:=sc) (by omega) s0 s13
  exact ⟨w,aV (ae (ag rfl) (ae (ar e_c (ar e_c (ag rfl) (kR (by decide) (by decide))) rfl) (ae (ag rfl) (ae (Mc (ag rfl)) aq)))) ew rfl,ow⟩)
 rw [dX] at lws;refine az (aD (d:=.lst (ws.map wiD)) (di (ds:=mh 0 many) (by rw [<- Yr (n:=many)]; exact qh (j:=(many:Int)) (ae (ag rfl) aq) (by omega)) (by rw [dX]; omega) ews)) ?_
 have zk:Zq ((kn:Int):Rat):=EC (by rw [Y7]; exact Zc hkn (Zc (show 6<=2 ^ 3 by decide) (Yc (by decide) (by decide))))
 have ew:a7 [PF.fr l2,.tup [.int (1+head / 25920 % 6),.int 1]]=some (.shr (PF.fr (l2 * ((kn:Int):Rat)))):=by
  rw [ekn,oy];exact gx ll2.z zk
 refine az (aD (aV (ae (aV (ae (ag rfl) (ae e_c (ae (ag rfl) aq))) e2 rfl) (ae (a9 (ae (ar e_c (ar (ar (ag rfl) e_c (be (by decide) (by decide +kernel))) e_c (aM (by decide))) rfl) (ae e_c aq)) (Zb rfl)) aq)) ew rfl)) ?_
 have hfew':Few sc ws.length:=by rw [lws]; exact hfew
 have hN:=HX hfew' hws ll2 lp lg;have a0:0 < cG [l2,pad,gap]:=g7 _;have b0:0 < cG (vals ws):=g7 _;have X0:=Xi a0 b0;have X1:cG [l2,pad,gap] * cG (vals ws)<=2 ^ 600:=Zc (Nat.le_mul_of_pos_left _ (by decide)) hN;have d2:l2.den ∣ cG [l2,pad,gap]:=dG (by simp);have dp:pad.den ∣ cG [l2,pad,gap]:=dG (by simp);have dg:gap.den ∣ cG [l2,pad,gap]:=dG (by simp)
 cases ex with
 | false =>
  refine aR (ax (ag rfl)) ?_
  have i2:In (cG [l2,pad,gap]) (6 * 10 ^ 30) (l2 * ((kn:Int):Rat)):=(In.AY a0 (gc ll2.is d2) kn).mono (Zn _ hkn);exact vL t hfew' lws hws ll2 lg lp okf2 okf1 oks1 oks2 ((dv i2 (Yb _ _)).mono (by decide +kernel)) (λ _=>i2)
 | true =>
  obtain ⟨ws',esl,sub',l8⟩:=Ef (ws:=ws) (k:=1+head / 25920 % 8) (by omega) (by omega);have R:Rm false (cG [l2,pad,gap]) (cG (vals ws)) 0:=⟨a0,b0,Yh,(In.zero _).mono (Zs _),λ h=>nomatch h⟩
  have ibeg:∀ w ∈ ws',In (cG [l2,pad,gap] * cG (vals ws)) (10 ^ 30) (bG (eZ 0 w)):=λ w hw=>by
   obtain ⟨a,b,c⟩:=tJ R hws (sub' w hw);exact qi (a.2 rfl) (b.2.2 rfl) (λ m e=>(c m e).2 rfl)
  have ifst:∀ q ∈ ws'.map (λ w=>bG (eZ 0 w)),In (cG [l2,pad,gap] * cG (vals ws)) (10 ^ 30) q:=λ q hq=>by
   obtain ⟨w,hw,rfl⟩:=Yw.mp hq;exact ibeg w hw
  have lf8:(ws'.map (λ w=>bG (eZ 0 w))).length<=8:=by rw [Zd]; exact l8
  have z1:∀ {q:Rat} {M:Nat},In (cG [l2,pad,gap] * cG (vals ws)) M q->M<=2 ^ 120->Zq q:=λ i m=>Zq.of i X0 X1 m (by decide) (by decide)
  have ig:In (cG [l2,pad,gap] * cG (vals ws)) (10 ^ 30) gap:=dv (gc lg.is dg) (Yb _ _);have ip:In (cG [l2,pad,gap] * cG (vals ws)) (10 ^ 30) pad:=dv (gc lp.is dp) (Yb _ _);have ecm:=Hb (qs:=ws'.map (λ w=>bG (eZ 0 w))) (g:=gap) (by omega) (λ q hq=>z1 (ifst q hq) (by decide +kernel)) (λ i hi=>z1 ((In.sum X0 ifst i hi).mono (Zn _ (show i<=8 by omega))) (by decide +kernel)) lg.z (z1 ((In.AY X0 ig _).mono (Zn _ (show _<=8 by omega))) (by decide +kernel));have icm:=(HK X0 ifst ig).mono (Zn _ (show _<=16 by omega))
  have ep2:a7 [PF.fr pad,.tup [.int 2,.int 1]]=some (.shr (PF.fr (((2:Int):Rat) * pad))):=by
   rw [ui,Rat.mul_comm];exact gx lp.z (EC (i:=2) (by decide +kernel))
  have ip2:In (cG [l2,pad,gap] * cG (vals ws)) (10 ^ 30+10 ^ 30) (((2:Int):Rat) * pad):=by
   rw [xX];exact ip.add X0 ip
  have epl:=mS (z1 icm (by decide +kernel)) (z1 ip2 (by decide +kernel))
  have ecomp:∀ (s0 s2 s3 s4 s5 s6 s7 s8:Sl) (r:List Sl),cx (d7 (dSl (ao 9) xO (dP (dOp cp (dC (.int 1)) (dOp oMod (dOp oDiv (ao 1) (dC (.int 25920))) (dC (.int 8))))))) (dOp oIx (dFn cR (ah (ao 0) (ah (cY (ah (dC (.int 0)) (ah (dC (.int 1)) aC))) aC))) (dC (.int 0))) [] (s0::.shr (.int head)::s2::s3::s4::s5::s6::s7::s8::.shr (.lst (ws.map wiD))::r)=some (.lst (PF.frs (ws'.map (λ w=>bG (eZ 0 w))))):=λ s0 s2 s3 s4 s5 s6 s7 s8 r=>by
   have:PF.frs (ws'.map (λ w=>bG (eZ 0 w)))=ws'.map λ w=>PF.fr (bG (eZ 0 w)):=by unfold PF.frs; rw [Yu]; rfl
   rw [this];refine di (ds:=ws'.map wiD) (dO (tR (ag rfl) CW (cy (ar e_c (ar (ar (ag rfl) e_c (be (by decide) (by decide +kernel))) e_c (aM (by decide))) rfl)) esl)) (by rw [Zd]; omega) (eN λ y hy=>?_);have zz:Zq 0:=⟨sz0.n,by decide +kernel⟩
   have el:cR [wiD y,PF.fr 0]=some (.shr (liD (eZ 0 y))):=vJ (EO R hws X1 (sub' y hy)) zz;exact ar (aV (ae (ag rfl) (ae (a9 (xs:=[.int 0,.int 1]) (ae e_c (ae e_c aq)) (Zb rfl)) aq)) el rfl) e_c (l0 _)
  refine me (τ':=[.shr (scr ns),.shr (.int head),.shr (.int sc),.shr (.int (many:Int)),.shr (.bl (!false)),.shr (.str fl),.shr (.str sp),.shr (PF.fr gap),.shr (PF.fr pad),.shr (.lst (ws.map wiD)),.shr (PF.fr (cm gap (ws'.map (λ w=>bG (eZ 0 w)))+((2:Int):Rat) * pad)),.shr (.lst (PF.frs (ws'.map (λ w=>bG (eZ 0 w))))),.no,.no,.no,.no,.no,.no]) (ax (ag rfl)) (az (aD (ecomp _ _ _ _ _ _ _ _ _)) (aD (aV (ae (aV (ae (ag rfl) (ae (ag rfl) aq)) ecm rfl) (ae (aV (ae (ag rfl) (ae (a9 (ae e_c (ae e_c aq)) (Zb rfl)) aq)) ep2 rfl) aq)) epl rfl))) ?_
  have iw:=(icm.add X0 ip2).mono (show 16 * 10 ^ 30+(10 ^ 30+10 ^ 30)<=20 * 10 ^ 30 by decide +kernel);have no:false=true->In (cG [l2,pad,gap]) (6 * 10 ^ 30) (cm gap (ws'.map (λ w=>bG (eZ 0 w)))+((2:Int):Rat) * pad):=λ h=>by cases h
  have hws':∀ w ∈ ws,WOk sc false w:=hws
  exact vL (parts:=false) t hfew' lws hws' ll2 lg lp okf2 okf1 oks1 oks2 iw no
end N36
end
namespace N36
open PySem L2
def Aj (K:W.Frag):Sp:=λ vs H Q _=>∃ (a:Addr) (ns:List Int),vs=[.ref a]/\SqL K H a (ns.map V.int)/\ns.length<=63/\∀ H',Q (.bl true) H'
def C3 {P:Program} {w:World} {K:W.Frag} {mg:Str->Option Value} {base:Heap} {t:Adr} {a d} (T:Txt K mg t) (F:Fun K "law" "law" (top 61) a d):ko P w K mg base CX0 8 a d ["_law_script"] (Aj K) :=
 ((EA t).2 T F).imp λ vs H Q E ⟨a,ns,e,hS,h63,k⟩=>by
   subst e;refine ⟨H,[.fz (ns.map .int)],_,.refl H,.cons (.fz hS (Rps.ints ns)) .nil,yZ t ns h63,λ v Hs' H' g r=>?_⟩;cases (show Rp K Hs' v (.bl true) from r);exact k H'
def EX {K:W.Frag} {mg:Str->Option Value} {c0:Addr} (h:Txt K mg ⟨c0⟩):∃ t,Txt K mg t:=⟨_,h⟩
end N36
open PySem PySem.W PyProof.Rows
set_option maxRecDepth 100000 in
set_option maxHeartbeats 0 in
theorem PySem.Challenge.cw_stylehouse_k36_lined_by_levels_holds : PySem.Challenge.rw_stylehouse_k36_lined_by_levels.Holds := by
 refine PySem.W.holds_law HD36.Ho fun said=>?_
 refine HD36.Ht said ?hw (by rfl) (by rfl) (by rfl) ?hc
 case hw=>w_witness2
 k_fill
 refine L2.xU (fun P=>rfl) ?_
 refine L2.xT (l:=PySem.Challenge.rw_stylehouse_k36_lined_by_levels) (n:=63) (k:=8) (x:="_law_script") (CX:=L2.CX0) (sp:=N36.Aj) rfl (by decide) rfl ⟨rfl,by decide,by decide⟩ (fun w h Y=>Y) ?F ?S ?C
 case F =>
  intro w mg fa h KX G hmg
  have T:∃ t,N36.Txt (L2.KOf KX) mg t:=by
   dsimp only [L2.KOf]
   refine' N36.EX ?h
   case h =>
   constructor
   exact PySem.W.mg_of KX G (by k_is)
   exact ⟨by k_is,by k_is,by k_is,by k_is⟩
   (show W.findIn _ _ _=_; k_is)
   iterate 6 (exact L2.Fn0.df ⟨_,_,_,_,_,_,_,_,_,by k_is,by k_is,by k_is,by k_is⟩ KX G fun _ _ _ _ _ _ us hl=>match us,hl with | [_],_=>rfl)
   exact L2.LU ⟨_,_,_,_,_,_,_,_,_,by k_is,by k_is,by k_is,by k_is⟩ KX G (fun _ _ _ _ _ _ s v=>.of_eq rfl)
   iterate 22 (exact L2.Fn0.df ⟨_,_,_,_,_,_,_,_,_,by k_is,by k_is,by k_is,by k_is⟩ KX G fun _ _ _ _ _ _ us hl=>match us,hl with | [_,_],_=>rfl)
   iterate 15 (exact L2.Fn0.df ⟨_,_,_,_,_,_,_,_,_,by k_is,by k_is,by k_is,by k_is⟩ KX G fun _ _ _ _ _ _ us hl=>match us,hl with | [_,_,_],_=>rfl)
   iterate 2 (exact L2.Fn0.df ⟨_,_,_,_,_,_,_,_,_,by k_is,by k_is,by k_is,by k_is⟩ KX G fun _ _ _ _ _ _ us hl=>match us,hl with | [_,_,_,_],_=>rfl)
   iterate 3 (exact L2.Fn0.df ⟨_,_,_,_,_,_,_,_,_,by k_is,by k_is,by k_is,by k_is⟩ KX G fun _ _ _ _ _ _ us hl=>match us,hl with | [_,_,_,_,_],_=>rfl)
   exact L2.Fn0.df ⟨_,_,_,_,_,_,_,_,_,by k_is,by k_is,by k_is,by k_is⟩ KX G fun _ _ _ _ _ _ us hl=>match us,hl with | [_,_,_,_,_,_],_=>rfl
   exact L2.Fn0.df ⟨_,_,_,_,_,_,_,_,_,by k_is,by k_is,by k_is,by k_is⟩ KX G fun _ _ _ _ _ _ us hl=>match us,hl with | [_,_,_,_,_,_,_],_=>rfl
   exact L2.LY (by k_is) (by k_is) (by k_is) (by k_is) (by k_is) (by k_is) (by k_is) fun _ _ _ _ _ _ us hl=>match us,hl with | [_,_],_=>rfl
   exact L2.LQ (by k_is) (by k_is) (by k_is) (by k_is) (by k_is) fun _ _ _ _ _ _ us hl=>match us,hl with | [_,_,_,_],_=>rfl
   iterate 12 (exact PySem.W.mg_none_of KX G (by k_is))
   exact ⟨_,PySem.W.mg_of KX G (by k_is),fun H=>.tup (xs:=[.int 0,.int 1]) (.inr ⟨_,_,_,(by k_is),rfl,rfl,by show 2<=PySem.sizeLine; decide,.cons ⟨_,rfl⟩ (.cons ⟨_,rfl⟩ .nil)⟩) (.cons (.int _) (.cons (.int _) .nil))⟩
  obtain ⟨t,T⟩:=T
  obtain ⟨a,d,Fl,ml,bl⟩:=T.Mb
  have e0:=hmg.symm.trans ml
  cases e0
  exact ⟨d,bl,fun base kb nb=>N36.C3 T Fl⟩
 case S=>exact fun K H a ns hl hO hS=>⟨a,ns,rfl,hS,hl,fun _=>rfl⟩
 case C=>exact fun H s e s' z=>z
