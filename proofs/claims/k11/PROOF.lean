import PyProof.Rows.All
import Wide.All
import OpenK.AllK
import Wide.FinOn
import Lean
import PyProof.EqAt
import PyProof.EqKinds
import PyProof.TupleCall
import PyProof.ZipIter
import PyProof.Rows.ZipGen
import PyProof.EnumIter
import PyProof.EnumFor
import PyProof.EnumMake
import PyProof.EnumStmt
import PyProof.SliceStr2
import PyProof.StrBlockI
import PyProof.MinMaxWalk
import PyProof.Rows.CallKwBuiltin
import PyProof.Rows.Range3
import KE.KRevIter
import PyProof.AttrMissHeap
import KE.KDictOf
import PyProof.FactsAll.range_2
import PyProof.P3Eq
import PyProof.DictWalks
import PyProof.Rows.SeqMore2
import PyProof.Rows.SortStr
import PyProof.StrOps2
import PySem.Challenge.RW_stylehouse_k11_refused
set_option Elab.async false
set_option linter.all false
set_option maxRecDepth 100000
set_option genSizeOfSpec false
noncomputable section
local macro_rules | `(tactic| walk_at "v")=>`(tactic| first | exact .inl rfl | exact .inr rfl | assumption)
local macro_rules | `(tactic| walk_at "w")=>`(tactic| first | exact .inl rfl | exact .inr (.inl rfl) | exact .inr (.inr rfl))
local macro_rules | `(tactic| walk_at "r")=>`(tactic| repeat' first | exact trivial | rfl | constructor)
local macro_rules | `(tactic| walk_at "s")=>`(tactic| exact ⟨rfl,rfl,rfl,by decide +kernel,rfl,by decide +kernel,by decide +kernel⟩)
abbrev My.{u} (α:Type u):Type u:=List α
abbrev Px.{u} (α:Type u):Type u:=Option α
abbrev Py:=PySem.Value
abbrev Pz:=PySem.Addr
abbrev PB:=PySem.W.Frag
abbrev PD:=PySem.Shared
abbrev PF:=PySem.Params
def Zj {α:Type _} {a b:α} (h:some a=some b):a=b:=Option.some.inj h
def Zb {a b:Nat} (h:Nat.ble a b=true):a<=b:=Nat.le_of_ble_eq_true h
def Zf:false≠true:=Bool.false_ne_true
def Zm {α:Type _} {β:Type _} {f:α->β} {x:Px α} {b:β} (h:x.map f=some b):∃ a,x=some a/\f a=b:=Option.map_eq_some_iff.mp h
def Za:=@List.mem_cons_of_mem
def Zc:=@List.length_map
def Zd:=@List.mem_cons_self
def Ze:=@List.mem_append_right
def Zg:=@List.map_cons
def Zh:=@List.mem_cons
def Zi:=@List.mem_append
def Zk:=@List.mem_append_left
def Zl:=@decide_eq_false
def Zn:=@Nat.le_refl
def Zo:=@decide_eq_true
def Zp:=@List.map_append
def Zq:=@List.size_toArray
def Zr:=@List.mem_singleton
def Zs:=@PySem.Heap.lt_size
def Zt:=@PySem.wpAny_bind
def Zu:=@List.length_cons
def Zv:=@List.append_nil
def Zw:=@List.nodup_cons
def Zx:=@Nat.lt_of_lt_of_le
def Zy:=@List.map_map
def Zz:=@PySem.W.Fast.te14364793385576792824
def Z0:=@List.map_congr_left
def Z1:=@List.length_append
def Z2:=@Nat.ne_of_lt
def Z3:=@of_decide_eq_true
def Z4:=@Option.bind_some
def Z5:=@PySem.wpAny_pure
def Z6:=@Nat.le_trans
def Z7:=@Bool.and_eq_true
def Z8:=@Nat.zero_le
def Z9:=@List.mem_map_of_mem
def Yb:=@PySem.W.Fast.te10110043849684766642
def Yc:=@List.nodup_append
def Yd:=@List.flatMap_cons
def Ye:=@PySem.wpAny_truthy_bool
def Yg:=@List.drop_eq_getElem_cons
def Yh:=@of_decide_eq_false
def Yi:=@PySem.W.kia_one
def Yj:=@Option.isSome_iff_exists
def Yk:=@List.mem_flatMap
def Yl:=@PySem.mem_of_lookup
def Ym:=@List.flatMap_append
def Yn:=@PyProof.Rows.callWith_type1
def Yo:=@congrArg
def Yq:=@List.all_eq_true
def Yr:=@decide_eq_decide
def Ys:=@Nat.lt_irrefl
def Yt:=@List.mem_map
def Yu:=@PySem.wpAny_mono
def Yv:=@PySem.wpAny_Call_Name_kw
def Yw:=@List.not_mem_nil
def Yy:=@PySem.F.plainAttrs_list
def Yz:=@beq_eq_false_iff_ne
def Y0:=@List.replicate_succ
def Y1:=@List.drop_length
def Y2:=@beq_iff_eq
def Y3:=@Classical.choose_spec
def Y4:=@List.mem_filter
def Y5:=@PySem.wpAny_passesOwn
def Y6:=@List.length_set
def Y7:=@Int.le_refl
def Y8:=@Nat.lt_succ_self
def Y9:=@PySem.wpAny_getItem_str_slice
def Xa:=@Nat.le_of_lt
def Xb:=@List.mem_filterMap
def Xc:=@PySem.Calls.spliced_cons
def Xd:=@PySem.W.callWith_K
def Xe:=@PySem.Calls.callWith_builtin
def Xf:=@PySem.tupleKind_room_in1
def Xg:=@Int.emod_lt_of_pos
def Xh:=@List.length_nil
def Xi:=@List.any_cons
def Xj:=@List.reverse_cons
def Xk:=@PySem.Calls.Name_function_global
def Xm:=@PySem.Calls.evalArgs_plain
def Xn:=@List.length_take
def Xo:=@List.map_nil
def Xp:=@List.getElem_mem
def Xq:=@PySem.Txt.slice_le
def Xr:=@Array.length_toList
def Xs:=@List.filter_sublist
def Xu:=@List.filter_eq_self
def Xv:=@List.all_cons
def Xw:=@Bool.eq_iff_iff
def Xx:=@List.filter_map
def Xy:=@Int.emod_nonneg
def Xz:=@PySem.sizeLine_eq
section
namespace L2
open PySem PySem.Spec PyProof.Rows
abbrev Key:=Sum Int Str
noncomputable def rZ:Key->Py->Bool
 | .inl k,v=>Value.isInt k v
 | .inr x,v=>Value.isStrOf x v
def O3 (w:World):Key->Int
 | .inl k=>hashInt k
 | .inr x=>hashStr w x
theorem bI:∀ {k:Key} {v:Py},rZ k v=true->(∃ i t,k=Sum.inl i/\v=Value.int i t)\/(∃ x t,k=Sum.inr x/\v=Value.str x t)
 | .inl i,v,h=>by
  obtain ⟨t,e⟩:=Value.isInt_shape (k:=i) (v:=v) h;exact .inl ⟨i,t,rfl,e⟩
 | .inr x,v,h=>by
  obtain ⟨t,e⟩:=Value.isStrOf_shape (x:=x) (v:=v) h;exact .inr ⟨x,t,rfl,e⟩
def yj (i:Int) (t:Tok):rZ (.inl i) (.int i t)=true:=by simp [rZ,Value.isInt]
def yi (x:Str) (t:Tok):rZ (.inr x) (.str x t)=true:=by simp [rZ,Value.isStrOf]
theorem Hn (a b:Int):decide ((Sum.inl a:Key)=Sum.inl b)=(a == b):=by
 by_cases e:a=b
 · subst e; simp
 ·have h:¬ (Sum.inl a:Key)=Sum.inl b:=λ q=>e (Sum.inl.inj q)
  rw [Zl h];exact (Yz.mpr e).symm
theorem Hk (a b:Str):decide ((Sum.inr a:Key)=Sum.inr b)=decide (a=b):=by
 by_cases e:a=b
 · subst e; simp
 ·have h:¬ (Sum.inr a:Key)=Sum.inr b:=λ q=>e (Sum.inr.inj q)
  rw [Zl h,Zl e]
def Hm (a:Int) (b:Str):decide ((Sum.inl a:Key)=Sum.inr b)=false:=Zl (λ q=>nomatch q)
def Hl (a:Str) (b:Int):decide ((Sum.inr a:Key)=Sum.inl b)=false:=Zl (λ q=>nomatch q)
def bO (prog:Program) (w:World):PySem.KeyKind prog w Key where
 is:=rZ
 hash:=O3 w
 inj:=λ v a b ha hb=>by
  rcases bI ha with ⟨i,t,rfl,rfl⟩ | ⟨x,t,rfl,rfl⟩
  ·rcases bI hb with ⟨j,u,rfl,e⟩ | ⟨y,u,rfl,e⟩
   · injection e with e1 _; rw [e1]
   · exact nomatch e
  ·rcases bI hb with ⟨j,u,rfl,e⟩ | ⟨y,u,rfl,e⟩
   · exact nomatch e
   · injection e with e1 _; rw [e1]
 byValue:=λ k v h=>by
  rcases bI h with ⟨i,t,rfl,rfl⟩ | ⟨x,t,rfl,rfl⟩ <;> rfl
 pyHash:=λ hv h=>by
  rcases bI hv with ⟨i,t,rfl,rfl⟩ | ⟨x,t,rfl,rfl⟩
  · exact wpAny_pyHash_int h
  · exact wpAny_pyHash_str h
 eqBool:=λ hu hv h=>by
  rcases bI hu with ⟨i,t,rfl,rfl⟩ | ⟨x,t,rfl,rfl⟩
  ·rcases bI hv with ⟨j,u,rfl,rfl⟩ | ⟨y,u,rfl,rfl⟩
   · rw [Hn] at h; exact wpAny_eqBool_int h
   · rw [Hm] at h; exact SeqAt.EqAt.int_str i t y u _ _ _ _ h
  ·rcases bI hv with ⟨j,u,rfl,rfl⟩ | ⟨y,u,rfl,rfl⟩
   · rw [Hl] at h; exact SeqAt.EqAt.str_int x t j u _ _ _ _ h
   · rw [Hk] at h; exact wpAny_eqBool_str h
 «strs»:=λ k x t v h=>by
  rcases bI h with ⟨i,u,rfl,e⟩ | ⟨y,u,rfl,e⟩
  · exact nomatch e
  ·injection e with e1 _
   subst e1;cases v <;> rfl
def rW (prog:Program) (w:World) (i:Int) (t:Tok):(bO prog w).is (.inl i) (.int i t)=true:=yj i t
def rV (prog:Program) (w:World) (x:Str) (t:Tok):(bO prog w).is (.inr x) (.str x t)=true:=yi x t
inductive V where
 | non | bl (b:Bool) | int (i:Int) | str (x:Str) | byt (b:Array UInt8) | flt (b:UInt64) | ref (a:Addr) | ty (n:String)
 deriving DecidableEq
def RelV:V->Py->Prop
 | .non,u=>u=Value.none
 | .bl b,u=>u=Value.bool b
 | .int i,u=>∃ t,u=Value.int i t
 | .str x,u=>∃ t,u=Value.str x t
 | .byt b,u=>∃ t,u=Value.bytes b t
 | .flt b,u=>∃ t,u=Value.float b t
 | .ref a,u=>u=Value.ref a
 | .ty n,u=>u=Value.type n
abbrev bX:My V->My Py->Prop:=Paired RelV
def bX.length (r:bX xs us):xs.length=us.length:=Paired.length r
theorem bX.get:∀ {xs:My V} {us:My Py} {i:Nat} {x:V},bX xs us->xs[i]?=some x->∃ u,us[i]?=some u/\RelV x u
 | _,_,_,_,.nil,e=>by simp at e
 | _,_,0,_,.cons r _,e=>by simp at e; subst e; exact ⟨_,rfl,r⟩
 | _,_,i+1,x,.cons _ t,e=>by
  obtain ⟨u,h1,h2⟩:=bX.get (i:=i) (x:=x) t (by simpa using e);exact ⟨u,by simpa using h1,h2⟩
theorem bX.append:∀ {xs ys:My V} {us ws:My Py},bX xs us->bX ys ws->bX (xs++ys) (us++ws)
 | _,_,_,_,.nil,s=>s
 | _,_,_,_,.cons r t,s=>.cons r (bX.append t s)
theorem bX.take:∀ {xs:My V} {us:My Py} (n:Nat),bX xs us->bX (xs.take n) (us.take n)
 | _,_,0,_=>.nil
 | _,_,_+1,.nil=>.nil
 | _,_,n+1,.cons r t=>.cons r (bX.take n t)
theorem bX.drop:∀ {xs:My V} {us:My Py} (n:Nat),bX xs us->bX (xs.drop n) (us.drop n)
 | _,_,0,r=>r
 | _,_,_+1,.nil=>.nil
 | _,_,n+1,.cons _ t=>bX.drop n t
def pb:Px V->Px Py->Prop
 | some v,some u=>RelV v u
 | none,none=>True
 | _,_=>False
def KV {κ:Type}:My (κ×V)->My (κ×Py)->Prop:=Paired λ (p:κ×V) (q:κ×Py)=>p.1=q.1/\RelV p.2 q.2
def kV:Key->V
 | .inl i=>.int i
 | .inr x=>.str x
inductive HO where
 | lst (xs:List V)
 | tup (xs:List V)
 | dK (kvs:List (Key×V)) | dT (kvs:List (List Key×V))
 | set (S:Int->Bool) (n:Nat)
 | ins (C dx:Addr) (fs:List (Str×V))
 | own (x:Addr)
 | xd (fs:List (Str×V))
 | met (f x:Addr)
 | rng (lo hi:Int)
 | frz (o:Obj) (u:HO)
 | tbl (ps:Array Value)
 | ext (φ:Heap->Prop)
abbrev Hp:=Pz->Px HO
def upd (H:Hp) (a:Pz) (o:HO):Hp:=λ b=>if b=a then some o else H b
def ay:upd H a o a=some o:=by unfold upd; rw [if_pos rfl]
def au (h:b≠a):upd H a o b=H b:=by unfold upd; rw [if_neg h]
def L7 {H:Hp} {a b:Pz} {o u:HO} (h:H a=some o) (h':H b=some u) (d:o≠u):a≠b:=by
 intro e; subst e; rw [h] at h'; exact d (Zj h')
def dG {H:Hp} {a b:Pz} {o:HO} (h:H a=some o) (h':H b=none):a≠b:=by
 intro e; subst e; rw [h] at h'; cases h'
section
variable (P:Program) (w:World)
def dg (H:Hp) (h:Heap) (a:Pz):HO->Prop
 | .lst xs=>xs.length<=sizeLine/\∃ (its:My Py) (n:Nat),bX xs its/\h.get? a=some { cls:=.type "list",data:=.seq its.toArray n }
 | .tup xs=>xs.length<=sizeLine/\∃ its:My Py,bX xs its/\IsTup h a its.toArray
 | .dK kvs=>kvs.length<=sizeLine/\(a == sysModules)=false/\∃ vs,KV kvs vs/\h.DictOf (bO P w) a vs
 | .dT kvs=>kvs.length<=sizeLine/\(a == sysModules)=false/\∃ xs:My (My Key×Pz×Py),
  Paired (λ (p:My Key×V) (q:My Key×Pz×Py)=>p.1=q.1/\H q.2.1=some (.tup (p.1.map kV))/\RelV p.2 q.2.2) kvs xs/\∃ o es ep,h.get? a=some o/\o.ExactDict/\o.data=.dict es ep/\es.toList=xs.map (entryOfKey (tupleKind (bO P w)))/\(xs.map (·.1)).Nodup
 | .set S n=>h.SetOf (intKind P w) a S n
 | .ins C dx fs=>H dx=some (.own a)/\fs.length<=1000/\dx≠a/\h.get? a=some (PySem.W.instObj C dx)/\∃ mA,h.Ns1 dx mA/\(∀ f,pb (fs.lookup f) (mA f))/\PySem.Within mA (fs.map (·.1))
 | .own _=>∃ o,h.get? a=some o
 | .xd fs=>∃ mA,h.Ns1 a mA/\∀ f,pb (fs.lookup f) (mA f)
 | .rng lo hi=>∃ t u v,h.get? a=some { cls:=.type "range",data:=.fields #[.int lo t,.int hi u,.int 1 v] }
 | .frz o u=>h.get? a=some o/\dg H h a u
 | .tbl ps=>h.get? a=some { cls:=.none,data:=.fields ps }
 | .met f x=>h.get? a=some (PySem.W.methodObj (.ref f) (.ref x))
 | .ext φ=>φ h/\(∃ o,h.get? a=some o)/\∀ h1 h2:Heap,φ h1->(∀ o,h1.get? a=some o->h2.get? a=some o)->φ h2
def HOk (H:Hp) (h:Heap):Prop:=∀ a o,H a=some o->dg P w H h a o
end
section
variable {P:Program} {w:World} {H H':Hp} {h h':Heap} {a:Pz} {o:HO}
theorem dg.lt (x:dg P w H h a o):a < h.objs.size:=by
 cases o with
 | lst xs=>obtain ⟨_,_,_,_,e⟩:=x; exact Zs e
 | tup xs=>obtain ⟨_,_,_,p⟩:=x; exact p.lt
 | dK kvs=>obtain ⟨_,_,_,_,o,_,_,e,_⟩:=x; exact Zs e
 | dT kvs=>obtain ⟨_,_,_,_,o,_,_,e,_⟩:=x; exact Zs e
 | set S n=>obtain ⟨o,_,_,_,e,_⟩:=x; exact Zs e
 | ins C dx fs=>obtain ⟨_,_,_,e,_⟩:=x; exact Zs e
 | own y=>obtain ⟨_,e⟩:=x; exact Zs e
 | xd fs=>obtain ⟨_,⟨_,_,_,e,_⟩,_⟩:=x; exact Zs e
 | rng lo hi=>obtain ⟨_,_,_,e⟩:=x; exact Zs e
 | frz ob u=>obtain ⟨e,_⟩:=x; exact Zs e
 | tbl ps=>exact Zs (show h.get? a=some _ from x)
 | met f y=>exact Zs (show h.get? a=some _ from x)
 | ext φ=>obtain ⟨_,⟨_,e⟩,_⟩:=x; exact Zs e
theorem Paired.Mh {α β:Type} {F G:α->β->Prop}:∀ {l₁:My α} {l₂:My β},Paired F l₁ l₂->(∀ a b,F a b->G a b)->Paired G l₁ l₂
 | _,_,.nil,_=>.nil
 | _,_,.cons r t,f=>.cons (f _ _ r) (Paired.Mh t f)
theorem dg.vX (x:dg P w H h a o) (k:∀ b u,(b=a\/H b=some (.own a))->h.get? b=some u->h'.get? b=some u)
  (ho:∀ b,H b=some (.own a)->H' b=some (.own a)) (ht:∀ b xs,H b=some (.tup xs)->H' b=some (.tup xs)):dg P w H' h' a o:=by
 induction o with
 | lst xs=>obtain ⟨z,its,n,r,e⟩:=x; exact ⟨z,its,n,r,k _ _ (.inl rfl) e⟩
 | tup xs=>obtain ⟨z,its,r,ob,e,c⟩:=x; exact ⟨z,its,r,ob,k _ _ (.inl rfl) e,c⟩
 | dK kvs=>obtain ⟨z,y,vs,r,ob,es,ep,e,c⟩:=x; exact ⟨z,y,vs,r,ob,es,ep,k _ _ (.inl rfl) e,c⟩
 | dT kvs=>
  obtain ⟨z,y,xs,r,ob,es,ep,e,c⟩:=x;exact ⟨z,y,xs,Paired.Mh r λ p q z=>⟨z.1,ht _ _ z.2.1,z.2.2⟩,ob,es,ep,k _ _ (.inl rfl) e,c⟩
 | set S n=>obtain ⟨ob,es,ep,t,e,c⟩:=x; exact ⟨ob,es,ep,t,k _ _ (.inl rfl) e,c⟩
 | ins C dx fs=>
  obtain ⟨d,z,ne,e,mA,⟨od,es,ep,e2,c⟩,r⟩:=x;exact ⟨ho _ d,z,ne,k _ _ (.inl rfl) e,mA,⟨od,es,ep,k _ _ (.inr d) e2,c⟩,r⟩
 | own y=>obtain ⟨ob,e⟩:=x; exact ⟨ob,k _ _ (.inl rfl) e⟩
 | xd fs=>obtain ⟨mA,⟨od,es,ep,e,c⟩,r⟩:=x; exact ⟨mA,⟨od,es,ep,k _ _ (.inl rfl) e,c⟩,r⟩
 | rng lo hi=>obtain ⟨t,u,v,e⟩:=x; exact ⟨t,u,v,k _ _ (.inl rfl) e⟩
 | frz ob u ih=>obtain ⟨e,q⟩:=x; exact ⟨k _ _ (.inl rfl) e,ih q⟩
 | tbl ps=>
  have e:h.get? a=some { cls:=.none,data:=.fields ps }:=x;show h'.get? a=some { cls:=.none,data:=.fields ps };exact k a _ (.inl rfl) e
 | met f y=>
  have e:h.get? a=some (PySem.W.methodObj (.ref f) (.ref y)):=x;show h'.get? a=some (PySem.W.methodObj (.ref f) (.ref y));exact k a _ (.inl rfl) e
 | ext φ=>obtain ⟨p,⟨o,e⟩,st⟩:=x; exact ⟨st _ _ p λ o q=>k _ _ (.inl rfl) q,⟨o,k _ _ (.inl rfl) e⟩,st⟩
def HOk.lt (x:HOk P w H h) (e:H a=some o):a < h.objs.size:=(x a o e).lt
def HOk.fresh (x:HOk P w H h) (e:h.objs.size<=a):H a=none:=by
 cases q:H a with
 | none=>rfl
 | some u=>exact absurd (Zx (x.lt q) e) (Ys _)
theorem HOk.kept (x:HOk P w H h) (k:∀ b u,h.get? b=some u->h'.get? b=some u):HOk P w H h':=λ a o e=>
 (x a o e).vX (λ b u _ q=>k b u q) (λ _ q=>q) λ _ _ q=>q
theorem HOk.laid (x:HOk P w H h) (k:∀ b u,h.get? b=some u->h'.get? b=some u) (hp:h.objs.size<=a) (new:dg P w (upd H a o) h' a o):HOk P w (upd H a o) h':=λ b u e=>by
 have hn:=x.fresh hp
 by_cases hb:b=a
 · subst hb; rw [ay] at e; cases e; exact new
 ·rw [au hb] at e
  exact (x b u e).vX (λ c v _ q=>k c v q) (λ c q=>by rw [au (dG q hn)]; exact q) λ c xs q=>by rw [au (dG q hn)]; exact q
end
def Rd (H:Hp) (a:Pz) (u:HO):Prop:=H a=some u\/∃ o,H a=some (.frz o u)
def Rd.ok (r:Rd H a u) (x:HOk P w H h):dg P w H h a u:=by
 rcases r with r | ⟨o,r⟩
 · exact x a u r
 ·obtain ⟨_,q⟩:=x a _ r
  exact q
def Mut:Px HO->Prop
 | some (.lst _)=>True
 | some (.dK _)=>True
 | some (.dT _)=>True
 | some (.set _ _)=>True
 | some (.ins _ _ _)=>True
 | some (.ext _)=>True
 | _=>False
section
variable {P:Program} {w:World} {H:Hp} {h h':Heap} {x e:Pz} {o':HO}
theorem HOk.write (ok:HOk P w H h) (mu:Mut (H x)) (he:e=x\/H e=some (.own x)) (k:∀ b u,b≠e->h.get? b=some u->h'.get? b=some u) (heo:∃ u,h'.get? e=some u)
  (new:dg P w (upd H x o') h' x o'):HOk P w (upd H x o') h':=λ b u q=>by
 have nown:∀ c y,H c=some (.own y)->c≠x:=λ c y r z=>by subst z; rw [r] at mu; exact mu
 have ntup:∀ c xs,H c=some (.tup xs)->c≠x:=λ c xs r z=>by subst z; rw [r] at mu; exact mu
 by_cases hb:b=x
 · subst hb; rw [ay] at q; cases q; exact new
 ·rw [au hb] at q
  by_cases hbe:b=e
  ·have q':H b=some (.own x):=by
    rcases he with z | z
    · exact absurd (hbe.trans z) hb
    · rw [hbe]; exact z
   rw [q] at q'; cases q'
   obtain ⟨v,hv⟩:=heo;exact ⟨v,by rw [hbe]; exact hv⟩
  ·refine (ok b u q).vX (λ c v hc r=>k c v ?_ r) (λ c r=>by rw [au (nown c b r)]; exact r) λ c xs r=>by rw [au (ntup c xs r)]; exact r
   rcases hc with rfl | hc
   · exact hbe
   ·rintro rfl
    rcases he with z | z
    · exact nown c b hc z
    · rw [hc] at z; cases z; exact hb rfl
end
structure Un (fs ex:List Addr) (H H':Hp) (h h':Heap):Prop where
 keep:∀ b o,h.get? b=some o->H b=none->b ∉ fs->b ∉ ex->h'.get? b=some o
 slot:∀ b o,h.get? b=some o->H b=none->b ∈ fs->b ∉ ex->∃ sl,h'.get? b=some { o with slots:=sl }
 free:∀ b o,h.get? b=some o->H b=none->b ∉ ex->H' b=none
 there:∀ b o,h.get? b=some o->b ∉ ex->∃ o',h'.get? b=some o'
 qQ:∀ b xs,H b=some (.tup xs)->H' b=some (.tup xs)
 ql:∀ b o u,H b=some (.frz o u)->H' b=some (.frz o u)
 qR:∀ b ps,H b=some (.tbl ps)->∃ more,H' b=some (.tbl (ps++more))
section
variable {fs fs' ex ex':My Pz} {H H1 H2:Hp} {h h1 h2 h':Heap} {a x e:Pz} {o:HO}
theorem Un.any (u:Un fs ex H H1 h h1) (q:h.get? b=some ob) (n:H b=none) (hx:b ∉ ex):∃ sl,h1.get? b=some { ob with slots:=sl }:=by
 by_cases hb:b ∈ fs
 · exact u.slot b ob q n hb hx
 · exact ⟨ob.slots,u.keep b ob q n hb hx⟩
theorem Un.kept (k:∀ b u,h.get? b=some u->h'.get? b=some u):Un fs ex H H h h':=
 ⟨λ b ob q _ _ _=>k b ob q,λ b ob q _ _ _=>⟨ob.slots,k b ob q⟩,λ _ _ _ n _=>n,λ b ob q _=>⟨ob,k b ob q⟩,λ _ _ q=>q,λ _ _ _ q=>q,λ _ ps q=>⟨#[],by rw [q]; simp⟩⟩
def Un.refl:Un fs ex H H h h:=Un.kept λ _ _ q=>q
theorem Un.laid (k:∀ b u,h.get? b=some u->h'.get? b=some u) (hp:h.objs.size<=a) (hn:H a=none):Un fs ex H (upd H a o) h h' where
 keep:=λ b u q _ _ _=>k b u q
 slot:=λ b u q _ _ _=>⟨u.slots,k b u q⟩
 free:=λ b u q n _=>by rw [au (Z2 (Zx (Zs q) hp))]; exact n
 there:=λ b u q _=>⟨u,k b u q⟩
 qQ:=λ b xs q=>by rw [au (dG q hn)]; exact q
 ql:=λ b u xs q=>by rw [au (dG q hn)]; exact q
 qR:=λ b ps q=>⟨#[],by rw [au (dG q hn),q]; simp⟩
theorem Un.write (mu:Mut (H x)) (he:e=x\/H e=some (.own x)) (k:∀ b u,b≠e->h.get? b=some u->h'.get? b=some u) (heo:∃ u,h'.get? e=some u):Un fs ex H (upd H x o) h h':=by
 have hx:∀ b,H b=none->b≠x:=λ b n z=>by subst z; rw [n] at mu; exact mu
 have hb:∀ b,H b=none->b≠e:=λ b n z=>by
  subst z;rcases he with r | r
  · exact hx b n r
  · rw [n] at r; cases r
 have hm:∀ b u,H b=some u->¬ Mut (some u)->b≠x:=λ b u q nm z=>by subst z; rw [q] at mu; exact nm mu
 refine ⟨λ b u q n _ _=>k b u (hb b n) q,λ b u q n _ _=>⟨u.slots,k b u (hb b n) q⟩,λ b u q n _=>by rw [au (hx b n)]; exact n,λ b u q _=>?_,
  λ b xs q=>by rw [au (hm b _ q λ z=>z)]; exact q,λ b u xs q=>by rw [au (hm b _ q λ z=>z)]; exact q,λ b ps q=>⟨#[],by rw [au (hm b _ q λ z=>z),q]; simp⟩⟩
 by_cases hbe:b=e
 · subst hbe; exact heo
 · exact ⟨u,k b u hbe q⟩
end
def trk (h:Heap) (H:Hp):My Pz:=(List.range h.objs.size).filter λ a=>(H a).isSome
def AN (h:Heap) (H:Hp):Heap:=PySem.W.hideAll h (trk h H)
def yw (h:Heap) (H:Hp):(AN h H).objs.size=h.objs.size:=PySem.W.hideAll_size _ _
theorem AM (e:h.get? b=some o) (n:H b=none):(AN h H).get? b=some o:=
 PySem.W.hideAll_get _ e λ hm=>by
  have q:(H b).isSome=true:=(Y4.mp hm).2;rw [n] at q; simp at q
theorem De (e:(AN h H).get? b=some o):h.get? b=some o/\H b=none:=by
 have e':h.get? b=some o:=PySem.W.of_hideAll (trk h H) e;refine ⟨e',?_⟩
 cases q:H b with
 | none=>rfl
 | some x=>
  have hm:b ∈ trk h H:=Y4.mpr ⟨List.mem_range.mpr (Zs e'),by simp [q]⟩;have z:(AN h H).get? b=none:=PySem.W.hideAll_none (trk h H) hm;rw [z] at e; cases e
structure Mod (K:W.Frag) (mg:Str->Option Value) (base:Heap):Prop where
 kin:K.In base
 glob:base.Ns mainGlobals mg
 blt:∃ mb,base.Ns builtinsNs mb/\∀ x:Str,x≠"__name__"->mb x=bootBuiltins x
 nolimit:base.NoLimit
set_option genInjectivity false in
structure Cx where
 prog:Program
 w:World
 K:W.Frag
 mg:Str->Option Value
 base:Heap
 A:Around
 N:List Str
 s₀:Shared
 H₀:Hp
 env:Env
 outer:List Env
 stack:List Env
 ex:List Addr
 fn:Str->Bool
 calm:Bool
 pn:List (Addr×Obj)
 xe:Value->Shared->Prop
abbrev Se (X:Cx) (e:Expr) (es:My Expr):Prop:=starEach (e::es) X.env=(false,eval e X.env)::starEach es X.env
abbrev Sb (X:Cx) (p:Pos) (es:My Expr):Prop:=(backTo p (starEach es X.env)).any (·.1)=false
abbrev Dg (x:Str):Prop:=(x == ("__debug__":Str))=false
abbrev Ue (X:Cx) (o:Expr) (n:Str):Prop:=attributeBase o n X.env (eval o X.env)=eval o X.env
abbrev Uf (X:Cx) (e:Expr) (c:Pos):Prop:=((backTo c (starEach [e] X.env)).all (λ x=>!x.1)&&(backToKw c (keywordEach [] X.env)).all (λ x=>x.1.isSome)&& decide ([e].length+([]:My Keyword).length+(if ([]:My Keyword).isEmpty then 0 else 1) < 30))=true
abbrev Ug (a c:Pos):Prop:=(a.endLine == c.line)=true
abbrev Uh (X:Cx) (x:Str):Prop:=X.env.scope.names.lookup x=some .local
def frs (l:My Env):My Pz:=l.filterMap (·.frame)
abbrev Cx.fs (X:Cx):My Pz:=frs X.outer
def Vis (sc:Scope) (x:Str):Prop:=sc.names.lookup x=some .local\/sc.names.lookup x=some .cell\/sc.names.lookup x=some .free
def Loc (sc:Scope) (x:Str):Prop:=sc.names.lookup x=some .local\/sc.names.lookup x=some .cell
def Look (env:Env) (h:Heap) (m:Str->Px Py) (x:Str) (u:Py):Prop:=
 (env.kindOf x=some .local/\m x=some u)\/((env.kindOf x=some .cell\/env.kindOf x=some .free)/\∃ c,env.cells.lookup x=some c/\h.IsCell c (some u))
structure Cx.Ok (X:Cx):Prop where
 mod:Mod X.K X.mg X.base
 kind:X.env.scope.kind=.function
 glob:X.env.globals=mainGlobals
 blt:X.env.builtins=builtinsNs
 above:X.s₀.heap.objs.size<=X.env.locals
 inj:∀ x y c,X.env.cells.lookup x=some c->X.env.cells.lookup y=some c->x=y
 has:∀ x,(X.env.kindOf x=some .cell\/X.env.kindOf x=some .free)->∃ c,X.env.cells.lookup x=some c
 cab:∀ x c,X.fn x=true->X.env.cells.lookup x=some c->X.s₀.heap.objs.size<=c
 hd:X.calm=true->X.A.handled=none
 frames:X.A.frames=some X.stack
 stk:X.stack=X.outer\/(X.stack=X.env::X.outer/\X.env.frame=some X.env.locals)
 exf:∀ b ∈ X.ex,b≠X.env.locals/\∀ x c,X.env.cells.lookup x=some c->c≠b
 bs:∀ b o,X.base.get? b=some o->X.s₀.heap.get? b=some o/\X.H₀ b=none
 bsz:X.base.objs.size<=X.s₀.heap.objs.size
 Dn:∀ b o,X.base.get? b=some o->b ∉ X.ex
 Fj:∀ b ∈ X.ex,b ∉ X.fs
 ug:X.s₀.heap.FunFrames X.base X.outer
 frf:∀ b ∈ X.fs,X.H₀ b=none
structure Inv (X:Cx) (Pn:List (Addr×Obj)) (σ:List (Option V)) (H:Hp) (s:Shared):Prop where
 ok:X.Ok
 os:s.os=X.s₀.os
 bare:AllBare s.gens
 base:Un X.fs X.ex X.H₀ H X.s₀.heap s.heap
 loc:∃ m,s.heap.Ns X.env.locals m/\∀ (i:Nat) (x:Str) (v:V),X.N[i]?=some x->σ[i]?=some (some v)->Vis X.env.scope x->∃ u,RelV v u/\Look X.env s.heap m x u
 cell:∀ x c,X.env.cells.lookup x=some c->∃ v,s.heap.IsCell c v
 free:H X.env.locals=none
 ic:∀ x c,X.env.cells.lookup x=some c->H c=none
 pin:∀ p ∈ X.pn++Pn,s.heap.get? p.1=some p.2/\H p.1=none/\p.1≠X.env.locals/\p.1 ∉ X.fs/\∀ v,p.2.data≠.cell v
 hok:HOk X.prog X.w H s.heap
 len:σ.length=X.N.length
section
variable {X:Cx} {Pn:My (Pz×Obj)} {σ:My (Px V)} {H H':Hp} {s:PD} {h':Heap}
def Cx.Ok.OL (ok:X.Ok) (e:X.base.get? b=some o):b ∉ X.fs:=λ hb=>by
 have:=(ok.ug.mem hb).1;rw [e] at this; cases this
theorem Inv.bs (I:Inv X Pn σ H s):∀ b o,X.base.get? b=some o->s.heap.get? b=some o/\H b=none:=λ b o e=>
 ⟨I.base.keep b o (I.ok.bs b o e).1 (I.ok.bs b o e).2 (I.ok.OL e) (I.ok.Dn b o e),I.base.free b o (I.ok.bs b o e).1 (I.ok.bs b o e).2 (I.ok.Dn b o e)⟩
def Inv.bk (I:Inv X Pn σ H s):∀ b o,X.base.get? b=some o->s.heap.get? b=some o:=λ b o e=>(I.bs b o e).1
def Inv.mod (I:Inv X Pn σ H s):Mod X.K X.mg X.base:=I.ok.mod
def Inv.kIn (I:Inv X Pn σ H s):X.K.In s.heap:=I.ok.mod.kin.keeps I.bk
def Inv.lt (I:Inv X Pn σ H s):X.env.locals < s.heap.objs.size:=let ⟨_,hn,_⟩:=I.loc; hn.lt
def Inv.sz (I:Inv X Pn σ H s):X.s₀.heap.objs.size<=s.heap.objs.size:=Z6 I.ok.above (Xa I.lt)
theorem Inv.OK (I:Inv X Pn σ H s) (h:s.heap.objs.size<=a):a ∉ X.fs:=λ hb=>by
 obtain ⟨_,o,ho,_⟩:=I.ok.ug.mem hb;exact absurd (Zx (Zs ho) (Z6 I.sz h)) (Ys _)
theorem Inv.cne (I:Inv X Pn σ H s):∀ x c,X.env.cells.lookup x=some c->c≠X.env.locals:=λ x c e z=>by
 obtain ⟨v,o,ho,hd⟩:=I.cell x c e;obtain ⟨m,⟨o',es,ep,ho',hd',_⟩,_⟩:=I.loc;rw [z,ho'] at ho; cases ho; rw [hd'] at hd; cases hd
theorem Inv.ug (I:Inv X Pn σ H s):s.heap.FunFrames X.base X.outer:=by
 have all:∀ (l:My Env),(∀ b ∈ frs l,b ∈ X.fs)->X.s₀.heap.FunFrames X.base l->s.heap.FunFrames X.base l:=by
  intro l
  induction l with
  | nil=>intro _ _; trivial
  | cons env r ih=>
   intro hs hl;obtain ⟨hk,⟨L,o,hf,hn,ho,hd⟩,hr⟩:=hl;have hL:L ∈ X.fs:=hs L (by unfold frs; rw [List.filterMap_cons,hf]; exact Zd);obtain ⟨sl,e⟩:=I.base.slot L o ho (I.ok.frf L hL) hL λ z=>I.ok.Fj L z hL
   exact ⟨hk,⟨L,_,hf,hn,e,hd⟩,ih (λ b hb=>hs b (by unfold frs; rw [List.filterMap_cons,hf]; exact Za _ hb)) hr⟩
 exact all X.outer (λ _ hb=>hb) I.ok.ug
theorem Inv.stack (I:Inv X Pn σ H s):s.heap.FunFrames X.base X.stack:=by
 rcases I.ok.stk with e | ⟨e,hf⟩
 · rw [e]; exact I.ug
 ·rw [e]
  obtain ⟨m,hn,_⟩:=I.loc;refine .cons (by rw [I.ok.kind]; decide) hf hn ?_ I.ug;exact Heap.get?_none_of_le (Z6 I.ok.bsz I.ok.above)
theorem Inv.gL (I:Inv X Pn σ H s):∀ b ∈ frs X.stack,b ∈ X.env.locals::X.fs:=λ b hb=>by
 rcases I.ok.stk with e | ⟨e,hf⟩
 · rw [e] at hb; exact Za _ hb
 ·rw [e] at hb
  unfold frs at hb;rw [List.filterMap_cons,hf] at hb;exact hb
theorem Inv.jW (I:Inv X Pn σ H s):∀ b ∈ frs X.stack,H b=none:=λ b hb=>by
 rcases Zh.mp (I.gL b hb) with e | hb
 · rw [e]; exact I.free
 ·obtain ⟨_,o,ho,_⟩:=I.ok.ug.mem hb
  exact I.base.free b o ho (I.ok.frf b hb) λ z=>I.ok.Fj b z hb
theorem Inv.step {g':Array GenState} {t':Nat} {d':Drawn} {ch:My Pz} (I:Inv X Pn σ H s)
  (hch:∀ b ∈ ch,(b ∈ X.ex\/X.s₀.heap.objs.size<=b)/\b≠X.env.locals/\(∀ x c,X.env.cells.lookup x=some c->c≠b)/\∀ p ∈ X.pn++Pn,p.1≠b)
  (keep:∀ b o,b≠X.env.locals->b ∉ X.fs->b ∉ ch->s.heap.get? b=some o->H b=none->h'.get? b=some o)
  (slot:∀ b o,b≠X.env.locals->b ∈ X.fs->b ∉ ch->s.heap.get? b=some o->H b=none->∃ sl,h'.get? b=some { o with slots:=sl }) (free:∀ b o,b ∉ ch->s.heap.get? b=some o->H b=none->H' b=none)
  (there:∀ b o,b ∉ ch->s.heap.get? b=some o->∃ o',h'.get? b=some o')
  (qQ:∀ b xs,H b=some (.tup xs)->H' b=some (.tup xs)) (ql:∀ b o u,H b=some (.frz o u)->H' b=some (.frz o u)) (qR:∀ b ps,H b=some (.tbl ps)->∃ more,H' b=some (.tbl (ps++more)))
  (ns:∀ m,s.heap.Ns X.env.locals m->h'.Ns X.env.locals m) (hok:HOk X.prog X.w H' h') (hg:AllBare g'):Inv X Pn σ H' { s with heap:=h',gens:=g',drawn:=d',toks:=t' }:=by
 have neL:∀ b o,X.s₀.heap.get? b=some o->b≠X.env.locals:=λ b o e=>Z2 (Zx (Zs e) I.ok.above)
 have neC:∀ b o,X.s₀.heap.get? b=some o->b ∉ X.ex->b ∉ ch:=λ b o e hx hb=>by
  rcases (hch b hb).1 with z | z
  · exact hx z
  · exact absurd (Zx (Zs e) z) (Ys _)
 have cellK:∀ x c,X.env.cells.lookup x=some c->∀ v,s.heap.IsCell c v->h'.IsCell c v:=λ x c e v ⟨o,ho,hd⟩=>by
  have nch:c ∉ ch:=λ z=>(hch c z).2.2.1 x c e rfl
  by_cases hc:c ∈ X.fs
  ·obtain ⟨sl,q⟩:=slot c o (I.cne x c e) hc nch ho (I.ic x c e)
   exact ⟨_,q,hd⟩
  · exact ⟨o,keep c o (I.cne x c e) hc nch ho (I.ic x c e),hd⟩
 refine ⟨I.ok,I.os,hg,⟨λ b o e n hb hx=>?_,λ b o e n hb hx=>?_,λ b o e n hx=>?_,λ b o e hx=>?_,λ b xs e=>qQ b xs (I.base.qQ b xs e),λ b o xs e=>ql b o xs (I.base.ql b o xs e),λ b ps e=>?_⟩,?_,λ x c e=>?_,?_,λ x c e=>?_,λ p hp=>?_,hok,I.len⟩
 · exact keep b o (neL b o e) hb (neC b o e hx) (I.base.keep b o e n hb hx) (I.base.free b o e n hx)
 ·obtain ⟨sl,e1⟩:=I.base.slot b o e n hb hx
  obtain ⟨sl',e2⟩:=slot b _ (neL b o e) hb (neC b o e hx) e1 (I.base.free b o e n hx);exact ⟨sl',e2⟩
 ·obtain ⟨o',e1⟩:=I.base.there b o e hx
  exact free b o' (neC b o e hx) e1 (I.base.free b o e n hx)
 ·obtain ⟨o',e1⟩:=I.base.there b o e hx
  exact there b o' (neC b o e hx) e1
 ·obtain ⟨m1,e1⟩:=I.base.qR b ps e
  obtain ⟨m2,e2⟩:=qR b _ e1;exact ⟨m1++m2,by rw [e2,Array.append_assoc]⟩
 ·obtain ⟨m,hn,hl⟩:=I.loc
  refine ⟨m,ns m hn,λ i x v e1 e2 e3=>?_⟩;obtain ⟨u,r,l⟩:=hl i x v e1 e2 e3;refine ⟨u,r,?_⟩;rcases l with l | ⟨k,c,e,z⟩
  · exact .inl l
  · exact .inr ⟨k,c,e,cellK x c e _ z⟩
 ·obtain ⟨v,z⟩:=I.cell x c e
  exact ⟨v,cellK x c e v z⟩
 ·obtain ⟨m,⟨o,_,_,ho,_⟩,_⟩:=I.loc
  exact free _ o (λ z=>(hch _ z).2.1 rfl) ho I.free
 ·obtain ⟨v,o,ho,hd⟩:=I.cell x c e
  exact free c o (λ z=>(hch c z).2.2.1 x c e rfl) ho (I.ic x c e)
 ·obtain ⟨e,n,ne,nf,d⟩:=I.pin p hp
  have nch:p.1 ∉ ch:=λ z=>(hch p.1 z).2.2.2 p hp rfl
  exact ⟨keep p.1 p.2 ne nf nch e n,free p.1 p.2 nch e n,ne,nf,d⟩
theorem Inv.un {t':Nat} (I:Inv X Pn σ H s) (u:Un X.fs [] H H' s.heap h') (hok:HOk X.prog X.w H' h'):Inv X Pn σ H' { s with heap:=h',toks:=t' }:=by
 obtain ⟨m,⟨o,es,ep,ho,r⟩,_⟩:=id I.loc;obtain ⟨sl,hL⟩:=u.any ho I.free (by simp)
 exact I.step (g':=s.gens) (d':=s.drawn) (ch:=[]) (λ _ z=>nomatch z) (λ b o _ hb _ e n=>u.keep b o e n hb (by simp)) (λ b o _ hb _ e n=>u.slot b o e n hb (by simp)) (λ b o _ e n=>u.free b o e n (by simp)) (λ b o _ e=>u.there b o e (by simp)) u.qQ u.ql u.qR (λ m' hm=>by
  obtain ⟨o',es',ep',ho',r'⟩:=hm;rw [ho] at ho'; cases ho'
  exact ⟨_,es',ep',hL,r'⟩) hok I.bare
theorem Inv.call {g':Array GenState} {t':Nat} {d':Drawn} {ch:My Pz} (I:Inv X Pn σ H s) (u:Un (frs X.stack) ch H H' s.heap h') (hok:HOk X.prog X.w H' h') (hg:AllBare g')
  (hch:∀ b ∈ ch,(b ∈ X.ex\/X.s₀.heap.objs.size<=b)/\b≠X.env.locals/\(∀ x c,X.env.cells.lookup x=some c->c≠b)/\∀ p ∈ X.pn++Pn,p.1≠b):Inv X Pn σ H' { s with heap:=h',gens:=g',drawn:=d',toks:=t' }:=by
 obtain ⟨m,⟨o,es,ep,ho,r⟩,_⟩:=id I.loc;obtain ⟨sl,hL⟩:=u.any ho I.free λ z=>(hch _ z).2.1 rfl
 exact I.step (ch:=ch) hch (λ b o hL hb hc e n=>u.keep b o e n (λ z=>(Zh.mp (I.gL b z)).elim hL hb) hc) (λ b o _ _ hc e n=>u.any e n hc) (λ b o hc e n=>u.free b o e n hc) (λ b o hc e=>u.there b o e hc) u.qQ u.ql u.qR (λ m' hm=>by
  obtain ⟨o',es',ep',ho',r'⟩:=hm;rw [ho] at ho'; cases ho'
  exact ⟨_,es',ep',hL,r'⟩) hok hg
theorem Inv.turned {t':Nat} {it:Pz} (I:Inv X Pn σ H s) (k:∀ b o,b≠it->s.heap.get? b=some o->h'.get? b=some o) (hn:H it=none) (hL:it≠X.env.locals)
  (h1:it ∈ X.ex\/X.s₀.heap.objs.size<=it) (h2:∀ x c,X.env.cells.lookup x=some c->c≠it) (h3:∀ p ∈ X.pn++Pn,p.1≠it):Inv X Pn σ H { s with heap:=h',toks:=t' }:=by
 have nit:∀ b u,H b=some u->b≠it:=λ b u e z=>by rw [z,hn] at e; cases e
 refine I.step (g':=s.gens) (d':=s.drawn) (ch:=[it]) (λ b hb=>?_) (λ b o _ _ hc e _=>k b o (λ z=>hc (by simp [z])) e) (λ b o _ _ hc e _=>⟨o.slots,k b o (λ z=>hc (by simp [z])) e⟩) (λ _ _ _ _ n=>n)
  (λ b o hc e=>⟨o,k b o (λ z=>hc (by simp [z])) e⟩) (λ _ _ e=>e) (λ _ _ _ e=>e) (λ b ps e=>⟨#[],by rw [e]; simp⟩) (λ m hm=>?_) (λ b u e=>?_) I.bare
 ·have e:b=it:=by simpa using hb
  subst e;exact ⟨h1,hL,h2,h3⟩
 ·obtain ⟨o,es,ep,ho,r⟩:=hm
  exact ⟨o,es,ep,k _ o (Ne.symm hL) ho,r⟩
 ·refine (I.hok b u e).vX (λ c v hc q=>k c v ?_ q) (λ _ q=>q) λ _ _ q=>q
  rcases hc with z | z
  · rw [z]; exact nit b u e
  · exact nit c _ z
def Inv.tok (I:Inv X Pn σ H s) (t:Nat):Inv X Pn σ H { s with toks:=t }:=I.un (h':=s.heap) (t':=t) Un.refl I.hok
theorem Inv.kept (I:Inv X Pn σ H s) (k:∀ b u,s.heap.get? b=some u->h'.get? b=some u):Inv X Pn σ H { s with heap:=h',toks:=t' }:=I.un (Un.kept k) (I.hok.kept k)
theorem Inv.laid (I:Inv X Pn σ H s) (k:∀ b u,s.heap.get? b=some u->h'.get? b=some u) (hp:s.heap.objs.size<=a) (new:dg X.prog X.w (upd H a o) h' a o):Inv X Pn σ (upd H a o) { s with heap:=h',toks:=t' }:=I.un (Un.laid k hp (I.hok.fresh hp)) (I.hok.laid k hp new)
theorem Inv.write (I:Inv X Pn σ H s) (mu:Mut (H x)) (he:e=x\/H e=some (.own x)) (k:∀ b u,b≠e->s.heap.get? b=some u->h'.get? b=some u) (heo:∃ u,h'.get? e=some u)
 (new:dg X.prog X.w (upd H x o) h' x o):Inv X Pn σ (upd H x o) { s with heap:=h',toks:=t' }:=I.un (Un.write mu he k heo) (I.hok.write mu he k heo new)
theorem Inv.lJ (I:Inv X Pn σ H s) (h:∀ p ∈ pins',s.heap.get? p.1=some p.2/\H p.1=none/\p.1≠X.env.locals/\p.1 ∉ X.fs/\∀ v,p.2.data≠.cell v):Inv X pins' σ H s:=
 ⟨I.ok,I.os,I.bare,I.base,I.loc,I.cell,I.free,I.ic,λ p hp=>(Zi.mp hp).elim (λ z=>I.pin p (Zk _ z)) (h p),I.hok,I.len⟩
theorem ot {N:My Str} (hN:N.Nodup) {i j:Nat} {x:Str} (a:N[i]?=some x) (b:N[j]?=some x):i=j:=by
 obtain ⟨h1,e1⟩:=List.getElem?_eq_some_iff.mp a;obtain ⟨h2,e2⟩:=List.getElem?_eq_some_iff.mp b;exact (List.getElem_inj hN).mp (e1.trans e2.symm)
theorem lA {M:Model} {A:Around} {E:Py->PD->Prop} {i:Nat} {x:Str} {v:V} {u:Py} {Q:Unit->PD->Prop} (I:Inv X Pn σ H s) (hN:X.N.Nodup) (hi:X.N[i]?=some x) (hx:Loc X.env.scope x) (r:RelV v u)
  (h:∀ s',Inv X Pn (σ.set i (some v)) H s'->(∃ a,Heap.SameBut a s.heap s'.heap/\(a=X.env.locals\/X.env.cells.lookup x=some a))->Q () s') (hf:X.fn x=true\/X.env.scope.names.lookup x=some .local:=by walk_at "v"):wpAny M A (storeName X.env x u) Q E s:=by
 obtain ⟨m,hn,hl⟩:=id I.loc;have hcls:(X.env.scope.kind == .class||(X.env.scope.kind == .module&&X.env.locals != X.env.globals))=false:=by rw [I.ok.kind]; rfl
 have hiσ:i < σ.length:=by rw [I.len]; exact (List.getElem?_eq_some_iff.mp hi).1
 have cne:=I.cne
 have tracked:∀ {a:Pz} {h':Heap},(∃ o,s.heap.get? a=some o/\H a=none)->Heap.SameBut a s.heap h'->HOk X.prog X.w H h':=λ {a h'} ha hs b ob e=>by
  obtain ⟨_,_,hfree⟩:=ha;refine (I.hok b ob e).vX (λ c w' hc q=>(hs.2 c ?_).trans q) (λ _ q=>q) λ _ _ q=>q
  rintro rfl
  rcases hc with rfl | hc
  · rw [hfree] at e; cases e
  · rw [hfree] at hc; cases hc
 rcases hx with hk | hk
 ·refine wpAny_storeName_local hk hn (λ h' hn' hs=>?_) hcls
  obtain ⟨oL,_,_,hoL,_⟩:=id hn;refine h _ ⟨I.ok,I.os,I.bare,⟨λ b o e n hb hx=>?_,λ b o e n hb hx=>?_,I.base.free,λ b o e hx=>?_,I.base.qQ,I.base.ql,I.base.qR⟩,⟨_,hn',λ j y v' e1 e2 e3=>?_⟩,λ y c e=>?_,I.free,I.ic,λ p hp=>?_,tracked ⟨oL,hoL,I.free⟩ hs,by simpa using I.len⟩ ⟨_,hs,.inl rfl⟩
  · exact (hs.2 b (Z2 (Zx (Zs e) I.ok.above))).trans (I.base.keep b o e n hb hx)
  ·obtain ⟨sl,e1⟩:=I.base.slot b o e n hb hx
   exact ⟨sl,(hs.2 b (Z2 (Zx (Zs e) I.ok.above))).trans e1⟩
  ·obtain ⟨o',e1⟩:=I.base.there b o e hx
   exact ⟨o',(hs.2 b (Z2 (Zx (Zs e) I.ok.above))).trans e1⟩
  ·by_cases hj:j=i
   ·subst hj
    rw [hi] at e1; cases e1
    rw [List.getElem?_set_self hiσ] at e2;cases e2;exact ⟨u,r,.inl ⟨hk,by simp⟩⟩
   ·rw [List.getElem?_set_ne (Ne.symm hj)] at e2
    obtain ⟨u',r',q⟩:=hl j y v' e1 e2 e3;refine ⟨u',r',?_⟩;rcases q with ⟨k,e⟩ | ⟨k,c,e,z⟩
    ·refine .inl ⟨k,?_⟩
     have:y≠x:=λ e=>hj (ot hN e1 (e ▸ hi))
     simp [this,e]
    · exact .inr ⟨k,c,e,z.sameBut hs (cne y c e)⟩
  ·obtain ⟨w',z⟩:=I.cell y c e
   exact ⟨w',z.sameBut hs (cne y c e)⟩
  ·obtain ⟨e,n,ne,nf,d⟩:=I.pin p hp
   exact ⟨(hs.2 p.1 ne).trans e,n,ne,nf,d⟩
 ·have hfn:X.fn x=true:=by
   rcases hf with z | z
   · exact z
   · rw [z] at hk; cases hk
  obtain ⟨c,hc⟩:=I.ok.has x (.inl hk);obtain ⟨w',z⟩:=I.cell x c hc;refine wpAny_storeName_cell I.ok.kind hk hc z (λ h' hc' hs=>?_);obtain ⟨oc,hoc,hocd⟩:=id z;refine h { s with heap:=h' } ⟨I.ok,I.os,I.bare,⟨λ b o e n hb hx=>?_,λ b o e n hb hx=>?_,I.base.free,λ b o e hx=>?_,I.base.qQ,I.base.ql,I.base.qR⟩,⟨m,hn.sameBut hs (Ne.symm (cne x c hc)),λ j y v' e1 e2 e3=>?_⟩,λ y c' e=>?_,I.free,I.ic,λ p hp=>?_,tracked ⟨oc,hoc,I.ic x c hc⟩ hs,by simpa using I.len⟩ ⟨c,hs,.inr hc⟩
  · exact (hs.2 b (Z2 (Zx (Zs e) (I.ok.cab x c hfn hc)))).trans (I.base.keep b o e n hb hx)
  ·obtain ⟨sl,e1⟩:=I.base.slot b o e n hb hx
   exact ⟨sl,(hs.2 b (Z2 (Zx (Zs e) (I.ok.cab x c hfn hc)))).trans e1⟩
  ·obtain ⟨o',e1⟩:=I.base.there b o e hx
   exact ⟨o',(hs.2 b (Z2 (Zx (Zs e) (I.ok.cab x c hfn hc)))).trans e1⟩
  ·by_cases hj:j=i
   ·subst hj
    rw [hi] at e1; cases e1
    rw [List.getElem?_set_self hiσ] at e2;cases e2;exact ⟨u,r,.inr ⟨.inl hk,c,hc,hc'⟩⟩
   ·rw [List.getElem?_set_ne (Ne.symm hj)] at e2
    obtain ⟨u',r',q⟩:=hl j y v' e1 e2 e3;refine ⟨u',r',?_⟩;rcases q with q | ⟨k,c',e,z'⟩
    · exact .inl q
    ·refine .inr ⟨k,c',e,z'.sameBut hs ?_⟩
     rintro rfl
     exact hj (ot hN e1 (I.ok.inj _ _ _ e hc ▸ hi))
  ·by_cases hcc:c'=c
   · subst hcc; exact ⟨_,hc'⟩
   ·obtain ⟨w2,z2⟩:=I.cell y c' e
    exact ⟨w2,z2.sameBut hs hcc⟩
  ·obtain ⟨e,n,ne,nf,d⟩:=I.pin p hp
   refine ⟨(hs.2 p.1 ?_).trans e,n,ne,nf,d⟩;intro q;rw [q,hoc] at e;have q':oc=p.2:=Zj e;exact d w' (by rw [<- q']; exact hocd)
theorem tD (I:Inv X Pn σ H s) (hN:X.N.Nodup) (hi:X.N[i]?=some x) (hx:Loc X.env.scope x) (r:RelV v u)
  (h:∀ s',Inv X Pn (σ.set i (some v)) H s'->Q () s') (hf:X.fn x=true\/X.env.scope.names.lookup x=some .local:=by walk_at "v"):wpAny M A (storeName X.env x u) Q E s:=
 lA I hN hi hx r (λ s' I' _=>h s' I') hf
theorem Inv.Ie (I:Inv X Pn σ H s) (ho:s'.os=s.os) (u:Un (frs X.stack) ch H H' s.heap s'.heap) (hok:HOk X.prog X.w H' s'.heap) (hg:AllBare s'.gens)
  (hch:∀ b ∈ ch,(b ∈ X.ex\/X.s₀.heap.objs.size<=b)/\b≠X.env.locals/\(∀ x c,X.env.cells.lookup x=some c->c≠b)/\∀ p ∈ X.pn++Pn,p.1≠b):Inv X Pn σ H' s':=by
 obtain ⟨h',g',d',t',o'⟩:=s';have e:o'=s.os:=ho;subst e;exact I.call (g':=g') (t':=t') (d':=d') u hok hg hch
end
abbrev XK:=Py->Px Pz->Hp->Prop
abbrev St:=My (Px V)
abbrev VK:=V->Hp->Prop
abbrev TE:=St->Hp->VK->Prop
abbrev TT:=St->Hp->(Bool->Hp->Prop)->Prop
abbrev TA:=St->Hp->(My V->Hp->Prop)->Prop
structure Ends where
 nx:St->Hp->Prop
 rt:VK
 bk:St->Hp->Prop:=λ _ _=>False
 ct:St->Hp->Prop:=λ _ _=>False
abbrev TS:=Ends->St->Hp->Prop
def EP (X:Cx) (Pn:My (Pz×Obj)) (σ:St) (Q:VK) (u:Py) (s':PD):Prop:=∃ v H',Inv X Pn σ H' s'/\RelV v u/\Q v H'
def TP (X:Cx) (Pn:My (Pz×Obj)) (σ:St) (Q:Bool->Hp->Prop) (b:Bool) (s':PD):Prop:=∃ H',Inv X Pn σ H' s'/\Q b H'
def AP (X:Cx) (Pn:My (Pz×Obj)) (σ:St) (Q:My V->Hp->Prop) (us:My Py) (s':PD):Prop:=∃ vs H',Inv X Pn σ H' s'/\bX vs us/\Q vs H'
def SP (X:Cx) (Pn:My (Pz×Obj)) (D:Ends) (f:Flow) (s':PD):Prop:=
 match f with
 | .next=>∃ σ' H',Inv X Pn σ' H' s'/\D.nx σ' H'
 | .brk=>∃ σ' H',Inv X Pn σ' H' s'/\D.bk σ' H'
 | .cont=>∃ σ' H',Inv X Pn σ' H' s'/\D.ct σ' H'
 | .ret u=>∃ v σ' H',Inv X Pn σ' H' s'/\RelV v u/\D.rt v H'
def PE (X:Cx) (e:Expr) (t:TE):Prop:=
 ∀ (Pn:My (Pz×Obj)) (s:PD) (σ:St) (H:Hp) (Q:VK),Inv X Pn σ H s->t σ H Q->wpAny (model X.prog X.w) X.A (eval e X.env) (EP X Pn σ Q) X.xe s
def PT (X:Cx) (e:Expr) (t:TT):Prop:=
 ∀ (Pn:My (Pz×Obj)) (s:PD) (σ:St) (H:Hp) (Q:Bool->Hp->Prop),Inv X Pn σ H s->t σ H Q->wpAny (model X.prog X.w) X.A (isTrue e X.env (eval e X.env)) (TP X Pn σ Q) X.xe s
def PW (X:Cx) (e:Expr) (t:TT):Prop:=
 ∀ (whole:Sem Py) (Pn:My (Pz×Obj)) (s:PD) (σ:St) (H:Hp) (Q:Bool->Hp->Prop),Inv X Pn σ H s->t σ H Q->wpAny (model X.prog X.w) X.A (isTrue e X.env whole) (TP X Pn σ Q) X.xe s
def PW.pt (h:PW X e t):PT X e t:=h _
def PA (X:Cx) (es:My Expr) (t:TA):Prop:=
 ∀ (pos:Pos) (Pn:My (Pz×Obj)) (s:PD) (σ:St) (H:Hp) (Q:My V->Hp->Prop),Inv X Pn σ H s->t σ H Q->wpAny (model X.prog X.w) X.A (spliced (backTo pos (starEach es X.env))) (AP X Pn σ Q) X.xe s
def PS (X:Cx) (st:Stmt) (t:TS):Prop:=
 ∀ (Pn:My (Pz×Obj)) (s:PD) (σ:St) (H:Hp) (D:Ends),Inv X Pn σ H s->t D σ H->wpAny (model X.prog X.w) X.A (exec st X.env) (SP X Pn D) X.xe s
def PSs (X:Cx) (st:My Stmt) (t:TS):Prop:=
 ∀ (Pn:My (Pz×Obj)) (s:PD) (σ:St) (H:Hp) (D:Ends),Inv X Pn σ H s->t D σ H->wpAny (model X.prog X.w) X.A (execs st X.env) (SP X Pn D) X.xe s
def thn {α:Type} {t:Sem α} {Q Q':α->PD->Prop} (h:wpAny M A t Q E s) (hQ:∀ a s,Q a s->Q' a s):wpAny M A t Q' E s:=Yu h hQ λ _ _ x=>x
section
variable {X:Cx}
def zV (i:Nat):TE:=λ σ H Q=>∃ v,σ[i]?=some (some v)/\Q v H
def tC (v:V):TE:=λ _ H Q=>Q v H
theorem fU (hN:X.N[i]?=some x) (hv:Vis X.env.scope x) (hd:Dg x:=by decide) (hcd:(x == ("__classdict__":Str))=false:=by decide):PE X (.Name x pos) (zV i):=by
 intro Pn s σ H Q I h;obtain ⟨v,e,h⟩:=h;obtain ⟨m,hn,hl⟩:=I.loc;obtain ⟨u,r,l⟩:=hl i x v hN e hv;have fin:EP X Pn σ Q u s:=⟨v,H,I,r,h⟩
 rcases l with ⟨hk,hm⟩ | ⟨hk,c,hc,hcell⟩
 · exact wpAny_Name (wpAny_loadName_local I.ok.kind hk hn hm fin) hd
 ·rcases hk with hk | hk
  · exact wpAny_Name (wpAny_loadName_cell I.ok.kind hk hc hcell fin) hd
  · exact wpAny_Name (wpAny_loadName_free I.ok.kind hk hc hcell fin hcd) hd
def xt {i j pos}:PE X (.Constant (.int i) j pos) (tC (.int i)):=λ _ _ _ H _ I h=>wpAny_Constant_int ⟨.int i,H,I.tok _,⟨_,rfl⟩,h⟩
def rN {b j pos}:PE X (.Constant (.bool b) j pos) (tC (.bl b)):=λ _ _ _ H _ I h=>Constant_bool ⟨.bl b,H,I,rfl,h⟩
def GG {j pos}:PE X (.Constant .none j pos) (tC .non):=λ _ _ _ H _ I h=>Constant_none ⟨.non,H,I,rfl,h⟩
def Bz {x j pos}:PE X (.Constant (.str x) j pos) (tC (.str x)):=λ _ _ _ H _ I h=>Calls.Constant_str ⟨.str x,H,I.tok _,⟨_,rfl⟩,h⟩
def Gl (X:Cx) (x:Str):Prop:=X.env.kindOf x=some .globalImplicit
theorem j4 (I:Inv X Pn σ H s) (hg:Gl X x) (hm:X.mg x=some u) (h:Q u s)
  (hd:Dg x:=by decide):wpAny (model X.prog X.w) X.A (eval (.Name x pos) X.env) Q E s:=
 Xk I.ok.kind hg (Calls.loadGlobal_global (by rw [I.ok.glob]; exact I.mod.glob.keeps I.bk) hm h) hd
theorem kC (I:Inv X Pn σ H s) (hg:Gl X x) (hm:X.mg x=none) (hv:bootBuiltins x=some u) (h:Q u s)
  (hn:x≠"__name__":=by decide) (hd:Dg x:=by decide):wpAny (model X.prog X.w) X.A (eval (.Name x pos) X.env) Q E s:=by
 obtain ⟨mb,h1,h2⟩:=I.mod.blt;exact Xk I.ok.kind hg (Calls.loadGlobal_builtin (by rw [I.ok.glob]; exact I.mod.glob.keeps I.bk) hm (by rw [I.ok.blt]; exact h1.keeps I.bk) ((h2 x hn).trans hv) h) hd
def jY (hg:Gl X x) (hm:X.mg x=some u) (r:RelV v u) (hd:Dg x:=by decide):PE X (.Name x pos) (tC v):=
 λ _ _ _ H _ I h=>j4 I hg hm ⟨v,H,I,r,h⟩ hd
theorem xw (hg:Gl X x) (hm:X.mg x=none) (hv:bootBuiltins x=some u) (r:RelV v u) (hn:x≠"__name__":=by decide) (hd:Dg x:=by decide):PE X (.Name x pos) (tC v):=
 λ _ _ _ H _ I h=>kC I hg hm hv ⟨v,H,I,r,h⟩ hn hd
variable {a b:Expr} {ta tb:TE} {pos:Pos}
def PC (X:Cx) (op:CmpOp) (a b:Expr) (t:TE):Prop:=
  ∀ (Pn:My (Pz×Obj)) (s:PD) (σ:St) (H:Hp) (Q:VK),Inv X Pn σ H s->t σ H Q->wpAny (model X.prog X.w) X.A (eval a X.env) (λ v s₁=>wpAny (model X.prog X.w) X.A (eval b X.env) (λ u s₂=>wpAny (model X.prog X.w) X.A (compareOp op v u) (EP X Pn σ Q) X.xe s₂) X.xe s₁) X.xe s
def tB (t:TE):TT:=λ σ H Q=>t σ H λ x H1=>∃ c,x=.bl c/\Q c H1
theorem GI (h:PC X op a b t) (h1:behindInMarks op b=false:=by rfl):PE X (.Compare a [op] [b] pos) t:=λ Pn s σ H Q I hw=>wpAny_Compare1 (h Pn s σ H Q I hw) h1
theorem Bv (h:PC X op a b t) (h1:behindInMarks op b=false:=by rfl):PT X (.Compare a [op] [b] pos) (tB t):=by
 intro Pn s σ H Q I hw;refine wpAny_isTrue_Compare1 (thn (h Pn s σ H _ I hw) λ v s1 h1=>thn h1 λ u s2 h2=>thn h2 λ c s3 ⟨x,H1,I1,r1,q1⟩=>?_) h1;obtain ⟨d,rfl,q⟩:=q1;cases r1;exact Ye ⟨H1,I1,q⟩
theorem tP (h:PE X e t) (he:∀ whole,isTrue e X.env whole=(do let v <- whole; standAt e.pos; holding [v] (truthy v)):=by intro _; rfl):PT X e (tB t):=by
 intro Pn s σ H Q I hw;refine isTrue_plain (thn (h Pn s σ H _ I hw) λ v s1 ⟨x,H1,I1,r1,q1⟩=>?_) (he _);obtain ⟨d,rfl,q⟩:=q1;cases r1;exact Ye ⟨H1,I1,q⟩
variable {tA tB':TT} {rest:My Expr}
def Oh (t u:TT):TT:=λ σ H Q=>t σ H λ c H1=>if c=true then u σ H1 Q else Q false H1
def tOr (t u:TT):TT:=λ σ H Q=>t σ H λ c H1=>if c=true then Q true H1 else u σ H1 Q
def MT (t:TT):TT:=λ σ H Q=>t σ H λ c H1=>Q (!c) H1
theorem pw_and1 (ha:PT X a tA):PW X (.BoolOp .And [a] pos) tA:=by
 intro wh Pn s σ H Q I h;refine isTrue_and (thn (ha Pn s σ H Q I h) λ c s1 e=>?_)
 cases c with
 | true=>exact isTrue_and_nil e
 | false=>exact e
theorem pw_or1 (ha:PT X a tA):PW X (.BoolOp .Or [a] pos) tA:=by
 intro wh Pn s σ H Q I h;refine isTrue_or (thn (ha Pn s σ H Q I h) λ c s1 e=>?_)
 cases c with
 | false=>exact isTrue_or_nil e
 | true=>exact e
theorem pw_and (ha:PT X a tA) (hb:PW X (.BoolOp .And (b::rest) pos) tB'):PW X (.BoolOp .And (a::b::rest) pos) (Oh tA tB'):=by
 intro wh Pn s σ H Q I h;refine isTrue_and (thn (ha Pn s σ H _ I h) λ c s1 ⟨H1,I1,q1⟩=>?_)
 cases c with
 | true=>exact hb wh Pn s1 σ H1 Q I1 q1
 | false=>exact ⟨H1,I1,q1⟩
theorem pw_or (ha:PT X a tA) (hb:PW X (.BoolOp .Or (b::rest) pos) tB'):PW X (.BoolOp .Or (a::b::rest) pos) (tOr tA tB'):=by
 intro wh Pn s σ H Q I h;refine isTrue_or (thn (ha Pn s σ H _ I h) λ c s1 ⟨H1,I1,q1⟩=>?_)
 cases c with
 | true=>exact ⟨H1,I1,q1⟩
 | false=>exact hb wh Pn s1 σ H1 Q I1 q1
def wY (ha:PT X a tA):PT X (.UnaryOp .Not a pos) (MT tA):=by
 intro Pn s σ H Q I h;exact isTrue_not (ha Pn s σ H (λ c H1=>Q (!c) H1) I h)
def JZ (ta tb:TE):TE:=λ σ H Q=>ta σ H λ x H1=>∃ c,x=.bl c/\if c=true then tb σ H1 Q else Q (.bl false) H1
def Ob (ta tb:TE):TE:=λ σ H Q=>ta σ H λ x H1=>∃ c,x=.bl c/\if c=true then Q (.bl true) H1 else tb σ H1 Q
def JV (ta:TE):TE:=λ σ H Q=>ta σ H λ x H1=>∃ c,x=.bl c/\Q (.bl (!c)) H1
def BA {op} (h:PE X a t):PE X (.BoolOp op [a] pos) t:=λ Pn s σ H Q I hw=>BoolOp_one (h Pn s σ H Q I hw)
theorem BC (ha:PE X a ta) (hb:PE X (.BoolOp .And (b::rest) pos) tb):PE X (.BoolOp .And (a::b::rest) pos) (JZ ta tb):=by
 intro Pn s σ H Q I h;refine BoolOp_and (thn (ha Pn s σ H _ I h) λ v s1 ⟨x,H1,I1,r1,q1⟩=>?_);obtain ⟨c,rfl,q1⟩:=q1;cases r1;refine Ye ?_
 cases c with
 | true=>exact hb Pn s1 σ H1 Q I1 q1
 | false=>exact ⟨.bl false,H1,I1,rfl,q1⟩
theorem Kb (ha:PE X a ta) (hb:PE X (.BoolOp .Or (b::rest) pos) tb):PE X (.BoolOp .Or (a::b::rest) pos) (Ob ta tb):=by
 intro Pn s σ H Q I h;refine BoolOp_or (thn (ha Pn s σ H _ I h) λ v s1 ⟨x,H1,I1,r1,q1⟩=>?_);obtain ⟨c,rfl,q1⟩:=q1;cases r1;refine Ye ?_
 cases c with
 | false=>exact hb Pn s1 σ H1 Q I1 q1
 | true=>exact ⟨.bl true,H1,I1,rfl,q1⟩
theorem GF (ha:PE X a ta):PE X (.UnaryOp .Not a pos) (JV ta):=by
 intro Pn s σ H Q I h;refine UnaryOp_ (thn (ha Pn s σ H _ I h) λ v s1 ⟨x,H1,I1,r1,q1⟩=>?_);obtain ⟨c,rfl,q1⟩:=q1;cases r1;exact not_of (Ye ⟨.bl (!c),H1,I1,rfl,q1⟩)
end
def SqL (K:PB) (H:Hp) (a:Pz) (xs:My V):Prop:=
 Rd H a (.lst xs)\/∃ (o:Obj) (its:Array Py) (n:Nat),K.lookup a=some o/\o.cls=.type "list"/\o.dict=none/\o.data=.seq its n/\its.size<=sizeLine/\bX xs its.toList
def SqT (K:PB) (H:Hp) (a:Pz) (xs:My V):Prop:=
 Rd H a (.tup xs)\/∃ (o:Obj) (its:Array Py) (n:Nat),K.lookup a=some o/\o.cls=.type "tuple"/\o.data=.seq its n/\its.size<=sizeLine/\bX xs its.toList
noncomputable def Pk:Py->Px V
 | .none=>some .non
 | .bool b=>some (.bl b)
 | .int i _=>some (.int i)
 | .str x _=>some (.str x)
 | .bytes b _=>some (.byt b)
 | .float b _=>some (.flt b)
 | .ref a=>some (.ref a)
 | .type n=>some (.ty n)
 | _=>none
theorem RelV.abs (r:RelV x u):Pk u=some x:=by
 cases x with
 | non=>cases r; rfl
 | bl _=>cases r; rfl
 | int _=>obtain ⟨t,rfl⟩:=r; rfl
 | str _=>obtain ⟨t,rfl⟩:=r; rfl
 | byt _=>obtain ⟨t,rfl⟩:=r; rfl
 | flt _=>obtain ⟨t,rfl⟩:=r; rfl
 | ref _=>cases r; rfl
 | ty _=>cases r; rfl
def RelV.inj (r:RelV x u) (q:RelV y u):x=y:=Zj (r.abs.symm.trans q.abs)
theorem bX.inj:∀ {xs ys:My V} {us:My Py},bX xs us->bX ys us->xs=ys
 | _,_,_,.nil,.nil=>rfl
 | _,_,_,.cons r t,.cons r' t'=>by rw [r.inj r',bX.inj t t']
section
variable {X:Cx} {Pn:My (Pz×Obj)} {σ:St} {H:Hp} {s:PD} {a:Pz} {xs ys:My V}
def SqL.of {K:PB} (h:H a=some (.lst xs)):SqL K H a xs:=.inl (.inl h)
def SqT.of {K:PB} (h:H a=some (.tup xs)):SqT K H a xs:=.inl (.inl h)
theorem Inv.list (I:Inv X Pn σ H s) (h:SqL X.K H a xs):∃ its:My Py,bX xs its/\PlainL s.heap a its.toArray/\xs.length<=sizeLine:=by
 rcases h with h | ⟨o,its,n,hk,hc,hd,hs,hz,r⟩
 ·obtain ⟨z,its,n,r,e⟩:=h.ok I.hok
  exact ⟨its,r,⟨_,n,e,rfl,rfl,rfl⟩,z⟩
 ·refine ⟨its.toList,r,⟨o,n,I.kIn a o hk,hc,hd,by simpa using hs⟩,?_⟩
  have e:=r.length;simp only [Xr] at e;omega
theorem Inv.tuple (I:Inv X Pn σ H s) (h:SqT X.K H a xs):∃ its:My Py,bX xs its/\IsTup s.heap a its.toArray/\xs.length<=sizeLine:=by
 rcases h with h | ⟨o,its,n,hk,hc,hs,hz,r⟩
 ·obtain ⟨z,its,r,p⟩:=h.ok I.hok
  exact ⟨its,r,p,z⟩
 ·refine ⟨its.toList,r,⟨o,I.kIn a o hk,hc,n,by simpa using hs⟩,?_⟩
  have e:=r.length;simp only [Xr] at e;omega
theorem Inv.t9 (I:Inv X Pn σ H s) (h:SqL X.K H a xs) (h':SqL X.K H a ys):xs=ys:=by
 obtain ⟨its,r,⟨o,n,e,_,_,d⟩,_⟩:=I.list h;obtain ⟨its',r',⟨o',n',e',_,_,d'⟩,_⟩:=I.list h';rw [e] at e'; cases e'
 rw [d] at d';injection d' with d1 _
 have:its=its':=by simpa using Yo Array.toList d1
 subst this;exact r.inj r'
theorem Inv.wq (I:Inv X Pn σ H s) (h:SqT X.K H a xs) (h':SqT X.K H a ys):xs=ys:=by
 obtain ⟨its,r,⟨o,e,_,n,d⟩,_⟩:=I.tuple h;obtain ⟨its',r',⟨o',e',_,n',d'⟩,_⟩:=I.tuple h';rw [e] at e'; cases e'
 rw [d] at d';injection d' with d1 _
 have:its=its':=by simpa using Yo Array.toList d1
 subst this;exact r.inj r'
end
abbrev Cx.uP (X:Cx) (E:Py->PD->Prop):Cx:={ X with xe:=E }
abbrev Cx.nox (X:Cx):Cx:=X.uP λ _ _=>False
theorem Cx.Ok.uP {X:Cx} (ok:X.Ok) (E:Py->PD->Prop):(X.uP E).Ok:=
 ⟨ok.mod,ok.kind,ok.glob,ok.blt,ok.above,ok.inj,ok.has,ok.cab,ok.hd,ok.frames,ok.stk,ok.exf,ok.bs,ok.bsz,ok.Dn,ok.Fj,ok.ug,ok.frf⟩
theorem Cx.Ok.kl {X:Cx} {E:Py->PD->Prop} (ok:(X.uP E).Ok):X.Ok:=
 ⟨ok.mod,ok.kind,ok.glob,ok.blt,ok.above,ok.inj,ok.has,ok.cab,ok.hd,ok.frames,ok.stk,ok.exf,ok.bs,ok.bsz,ok.Dn,ok.Fj,ok.ug,ok.frf⟩
section
variable {X:Cx} {Pn:My (Pz×Obj)} {σ:St} {H:Hp} {s:PD} {E:Py->PD->Prop}
def Inv.uP (I:Inv X Pn σ H s) (E:Py->PD->Prop):Inv (X.uP E) Pn σ H s:=⟨I.ok.uP E,I.os,I.bare,I.base,I.loc,I.cell,I.free,I.ic,I.pin,I.hok,I.len⟩
def Inv.kl (I:Inv (X.uP E) Pn σ H s):Inv X Pn σ H s:=⟨I.ok.kl,I.os,I.bare,I.base,I.loc,I.cell,I.free,I.ic,I.pin,I.hok,I.len⟩
theorem SP.kl (h:SP (X.uP E) Pn D f s'):SP X Pn D f s':=by
 cases f with
 | next=>obtain ⟨σ',H',I,q⟩:=h; exact ⟨σ',H',I.kl,q⟩
 | brk=>obtain ⟨σ',H',I,q⟩:=h; exact ⟨σ',H',I.kl,q⟩
 | cont=>obtain ⟨σ',H',I,q⟩:=h; exact ⟨σ',H',I.kl,q⟩
 | ret u=>obtain ⟨v,σ',H',I,r,q⟩:=h; exact ⟨v,σ',H',I.kl,r,q⟩
def PSs.nox {st:My Stmt} {t:TS} (h:PSs X.nox st t):PSs X st t:=λ Pn s σ H D I hw=>
 Yu (h Pn s σ H D (I.uP _) hw) (λ _ _ q=>q.kl) λ _ _ z=>False.elim z
end
section
variable {X:Cx} {st:Stmt} {rest:My Stmt} {t u:TS} {e:Expr} {te:TE} {pos:Pos}
def wy:TS:=λ D σ H=>D.nx σ H
def FU (t u:TS):TS:=λ D σ H=>t { D with nx:=u D } σ H
def gX:PSs X [] wy:=λ _ _ σ H _ I h=>wpAny_execs_nil ⟨σ,H,I,h⟩
theorem dm (h1:PS X st t) (h2:PSs X rest u):PSs X (st::rest) (FU t u):=by
 intro Pn s σ H D I h;refine wpAny_execs_cons (thn (h1 Pn s σ H { D with nx:=u D } I h) λ f s1 q=>?_)
 cases f with
 | next=>
  obtain ⟨σ',H',I',q⟩:=q;exact h2 Pn s1 σ' H' D I' q
 | ret v=>exact q
 | brk=>exact q
 | cont=>exact q
theorem cR (h1:PS X st t):PSs X [st] t:=by
 intro Pn s σ H D I h;refine wpAny_execs_cons (thn (h1 Pn s σ H D I h) λ f s1 q=>?_)
 cases f with
 | next=>exact wpAny_execs_nil q
 | ret v=>exact q
 | brk=>exact q
 | cont=>exact q
def Inv.quiet (I:Inv X Pn σ H s):interactive X.env=false:=by simp [interactive,I.ok.kind]
def JX (te:TE):TS:=λ D σ H=>te σ H λ _ H1=>D.nx σ H1
theorem dS (he:PE X e te) (hs:swapsWith e none pos.line X.env=pure false:=by rfl):PS X (.Expr e pos) (JX te):=by
 intro Pn s σ H D I h;exact wpAny_Expr_any (thn (he Pn s σ H _ I h) λ v s1 ⟨x,H1,I1,r1,q1⟩=>⟨σ,H1,I1,q1⟩) I.quiet hs
def Fc (te:TE):TS:=λ D σ H=>te σ H D.rt
theorem iR (he:PE X e te):PS X (.Return (some e) pos) (Fc te):=by
 intro Pn s σ H D I h;exact wpAny_Return_some (thn (he Pn s σ H _ I h) λ v s1 ⟨x,H1,I1,r1,q1⟩=>⟨x,σ,H1,I1,r1,q1⟩)
def Fd (c:TT) (t u:TS):TS:=λ D σ H=>c σ H λ b H1=>if b=true then t D σ H1 else u D σ H1
theorem mK (hc:PT X c tc) (ha:PSs X a t) (hb:PSs X b u):PS X (.If c a b pos) (Fd tc t u):=by
 intro Pn s σ H D I h;refine wpAny_If (thn (hc Pn s σ H _ I h) λ d s1 ⟨H1,I1,q1⟩=>?_)
 cases d with
 | true=>exact ha Pn s1 σ H1 D I1 q1
 | false=>exact hb Pn s1 σ H1 D I1 q1
def FW:TS:=λ _ _ _=>False
def tQ:PS X st FW:=λ _ _ _ _ _ _ h=>h.elim
end
abbrev TG:=V->St->Hp->(St->Hp->Prop)->Prop
abbrev TGs:=My V->St->Hp->(St->Hp->Prop)->Prop
def PG (X:Cx) (target:Expr) (t:TG):Prop:=
  ∀ (Pn:My (Pz×Obj)) (s:PD) (σ:St) (H:Hp) (v:V) (u:Py) (Q:St->Hp->Prop),Inv X Pn σ H s->RelV v u->t v σ H Q->wpAny (model X.prog X.w) X.A (assign target X.env u) (λ _ s'=>∃ σ' H',Inv X Pn σ' H' s'/\Q σ' H') X.xe s
def PGs (X:Cx) (ts:My Expr) (t:TGs):Prop:=
  ∀ (Pn:My (Pz×Obj)) (s:PD) (σ:St) (H:Hp) (vs:My V) (us:My Py) (Q:St->Hp->Prop),Inv X Pn σ H s->bX vs us->t vs σ H Q->wpAny (model X.prog X.w) X.A (assignInOrder ((assignEach ts X.env).map (·.2)) us) (λ _ s'=>∃ σ' H',Inv X Pn σ' H' s'/\Q σ' H') X.xe s
section
variable {X:Cx} {pos:Pos}
def oB (i:Nat):TG:=λ v σ H Q=>Q (σ.set i (some v)) H
theorem jb (hN:X.N.Nodup) (hi:X.N[i]?=some x) (hx:Loc X.env.scope x) (hf:X.fn x=true\/X.env.scope.names.lookup x=some .local:=by walk_at "v"):PG X (.Name x pos) (oB i):=by
 intro Pn s σ H v u Q I r h;exact wpAny_assign_Name (tD I hN hi hx r (λ s' I'=>⟨_,H,I',h⟩) hf)
def NZ:TGs:=λ vs σ H Q=>vs=[]/\Q σ H
def En (t:TG) (u:TGs):TGs:=λ vs σ H Q=>∃ v r,vs=v::r/\t v σ H λ σ' H'=>u r σ' H' Q
def xo:PGs X [] NZ:=by
 intro Pn s σ H vs us Q I r h;obtain ⟨e,h⟩:=h;subst e;cases r;exact assignInOrder_nil ⟨σ,H,I,h⟩
theorem og (h1:PG X e t) (h2:PGs X es u)
  (hs:(assignEach (e::es) X.env).map (·.2)=assign e X.env::(assignEach es X.env).map (·.2):=by rfl):PGs X (e::es) (En t u):=by
 intro Pn s σ H vs us Q I r h;obtain ⟨v,vr,e1,h⟩:=h;subst e1
 cases r with
 | cons r rr=>
  rw [hs];refine assignInOrder_cons (thn (h1 Pn s σ H _ _ _ I r h) λ _ s1 ⟨σ1,H1,I1,q1⟩=>?_);exact h2 Pn s1 σ1 H1 _ _ Q I1 rr q1
def NY (K:PB) (n:Nat) (t:TGs):TG:=λ v σ H Q=>∃ a xs,v=.ref a/\SqT K H a xs/\xs.length=n/\t xs σ H Q
theorem By (hc:X.calm=true) (h:PGs X es t)
  (hn:(assignEach es X.env).length=n:=by rfl) (hst:(assignEach es X.env).findIdx? (·.1)=none:=by rfl):PG X (.Tuple es k pos) (NY X.K n t):=by
 intro Pn s σ H v u Q I r hw;obtain ⟨a,xs,e1,hq,hl,hw⟩:=hw;subst e1;cases r;obtain ⟨its,rv,ht,hz⟩:=I.tuple hq;refine assign_Tuple_tuple (I.ok.hd hc) ht (by simp [hn,<- hl,rv.length]) hst λ h' hx=>?_
 have I1:Inv X Pn σ H { s with heap:=h' }:=I.kept (t':=s.toks) λ b o e=>hx b o (Z2 (Zs e)) e
 exact h Pn _ σ H xs _ Q I1 (by simpa using rv) hw
def Ip (te:TE) (g:TG):TS:=λ D σ H=>te σ H λ x H1=>g x σ H1 D.nx
theorem Gz (he:PE X e te) (hg:PG X tg g) (hs:swapsWithSole [tg] e pos.line X.env=pure false:=by rfl) (hw:swappedStores [tg] e X.env=pure none:=by rfl)
  (h1:(assignEach [tg] X.env).map (·.2)=[assign tg X.env]:=by rfl):PS X (.Assign [tg] e pos) (Ip te g):=by
 intro Pn s σ H D I h;refine wpAny_Assign_stores (thn (he Pn s σ H _ I h) λ v s1 ⟨x,H1,I1,r1,q1⟩=>?_) hs hw;rw [h1];exact thn (hg Pn s1 σ H1 x v _ I1 r1 q1) λ _ s2 q=>q
theorem pL {i:Nat} {x:Str} {e:Expr} {te:TE} {pos':Pos} (hN:X.N.Nodup) (hi:X.N[i]?=some x) (hx:Loc X.env.scope x) (he:PE X e te) (hs:swapsWith e (some (.Name x pos')) pos.line X.env=pure false:=by rfl) (hf:X.fn x=true\/X.env.scope.names.lookup x=some .local:=by walk_at "v"):PS X (.Assign [.Name x pos'] e pos) (Ip te (oB i)):=by
 intro Pn s σ H D I h;refine wpAny_Assign_Name (thn (he Pn s σ H _ I h) λ v s1 ⟨y,H1,I1,r1,q1⟩=>?_) hs;exact tD I1 hN hi hx r1 (λ s2 I2=>⟨_,H1,I2,q1⟩) hf
def FQ (c:TT) (tb:TS):TS:=λ D σ H=>∃ W:Nat->St->Hp->Prop,(∃ m,W m σ H)/\∀ m σ H,W m σ H->c σ H λ b H1=>if b=true then ∃ N:St->Hp->Prop,(∀ σ' H',N σ' H'->∃ m',m' < m/\W m' σ' H')/\tb { D with nx:=N,ct:=N,bk:=D.nx } σ H1 else D.nx σ H1
theorem Aj (hp:PassesOwn (model X.prog X.w) X.A X.env X.xe) (hc:PT X c tc) (hb:PSs X body tb):PS X (.While c body [] pos) (FQ tc tb):=by
 intro Pn s σ H D I h;obtain ⟨W,⟨m0,w0⟩,turn⟩:=h;refine wpAny_While (codeAny_whileLoop (λ n s'=>∃ σ' H',Inv X Pn σ' H' s'/\W n σ' H') ?_ m0 ⟨σ,H,I,w0⟩)
 rintro n s1 ⟨σ1,H1,I1,w1⟩
 refine Y5 hp (thn (hc Pn s1 σ1 H1 _ I1 (turn n σ1 H1 w1)) λ b s2 ⟨H2,I2,q2⟩=>?_)
 cases b with
 | true=>
  obtain ⟨N,hN,q2⟩:=q2;rw [if_pos rfl];refine Y5 hp (thn (hb Pn s2 σ1 H2 _ I2 q2) λ f s3 q3=>?_)
  cases f with
  | next=>
   obtain ⟨σ3,H3,I3,n3⟩:=q3;obtain ⟨m',hm,w3⟩:=hN σ3 H3 n3;exact ⟨m',hm,σ3,H3,I3,w3⟩
  | cont=>
   obtain ⟨σ3,H3,I3,n3⟩:=q3;obtain ⟨m',hm,w3⟩:=hN σ3 H3 n3;exact ⟨m',hm,σ3,H3,I3,w3⟩
  | brk=>exact q3
  | ret v=>exact q3
 | false=>
  rw [if_neg Zf];exact wpAny_execs_nil ⟨σ1,H2,I2,q2⟩
end
structure It where
 go:Nat->Hp->Prop
 yld:Nat->Hp->V->Hp->Prop
 stop:Nat->Hp->Prop
def uK (X:Cx) (Pn:My (Pz×Obj)) (H:Hp) (b:Pz):Prop:=
 H b=none/\b≠X.env.locals/\b ∉ X.fs/\(b ∈ X.ex\/X.s₀.heap.objs.size<=b)/\(∀ x c,X.env.cells.lookup x=some c->c≠b)/\∀ p ∈ X.pn++Pn,p.1≠b
theorem Inv.AQ (I:Inv X Pn σ H s) (hb:s.heap.objs.size<=b) (hn:H' b=none):uK X Pn H' b:=by
 refine ⟨hn,Nat.ne_of_gt (Zx I.lt hb),I.OK hb,.inr (Z6 I.sz hb),λ x c e z=>?_,λ p hp z=>?_⟩
 ·obtain ⟨v,q⟩:=I.cell x c e
  exact absurd (Zx q.lt (by rw [z]; exact hb)) (Ys _)
 · exact absurd (Zx (Zs (I.pin p hp).1) (by rw [z]; exact hb)) (Ys _)
structure Turn (P:Program) (w:World) (K:W.Frag) (tg:Expr) (J:It) (fp:List Addr) (it:Addr) (tn:Nat->Heap->Prop):Prop where
 mem:it ∈ fp
 obj:∀ i h,tn i h->∀ b ∈ fp,∃ o,h.get? b=some o/\∀ v,o.data≠.cell v
 keep:∀ i h h',tn i h->(∀ b ∈ fp,∀ o,h.get? b=some o->h'.get? b=some o)->tn i h'
 item:∀ (X:Cx),X.prog=P->X.w=w->X.K=K->X.calm=true->∀ (i:Nat) (Pn:List (Addr×Obj)) (s:Shared) (σ:St) (H:Hp) (E:Value->Shared->Prop),Inv X Pn σ H s->(∀ b ∈ fp,uK X Pn H b)->tn i s.heap->J.go i H->wpAny (model P w) X.A (pyNext (.ref it)) (λ r s1=>∃ u,r=some u/\wpAny (model P w) X.A (letOwnedTupleGo tg (.ref it) u) (λ _ s2=>∃ x H',Inv X Pn σ H' s2/\RelV x u/\J.yld i H x H'/\tn (i+1) s2.heap/\∀ b ∈ fp,H' b=none) E s1) E s
 done:∀ (X:Cx),X.prog=P->X.w=w->X.K=K->X.calm=true->∀ (i:Nat) (Pn:List (Addr×Obj)) (s:Shared) (σ:St) (H:Hp) (E:Value->Shared->Prop),Inv X Pn σ H s->(∀ b ∈ fp,uK X Pn H b)->tn i s.heap->J.stop i H->wpAny (model P w) X.A (pyNext (.ref it)) (λ r s1=>r=none/\Inv X Pn σ H s1) E s
 self:∀ (A:Around) (i:Nat) (s:Shared) (Q:Value->Shared->Prop) (E:Value->Shared->Prop),tn i s.heap->Q (.ref it) s->wpAny (model P w) A (pyIter (.ref it)) Q E s
abbrev TI:=St->Hp->(It->Hp->Prop)->Prop
def PIE (X:Cx) (Pn:My (Pz×Obj)) (σ:St) (tg:Expr) (R:It->Hp->Prop) (itv:Py) (s2:PD):Prop:=
 ∃ (it:Pz) (fp:My Pz) (tn:Nat->Heap->Prop) (J:It) (H':Hp),itv=.ref it/\Inv X Pn σ H' s2/\Turn X.prog X.w X.K tg J fp it tn/\tn 0 s2.heap/\(∀ b ∈ fp,uK X Pn H' b)/\R J H'
def PI (X:Cx) (tg iter:Expr) (wi:TI):Prop:=
  ∀ (Pn:My (Pz×Obj)) (s:PD) (σ:St) (H:Hp) (R:It->Hp->Prop),Inv X Pn σ H s->wi σ H R->wpAny (model X.prog X.w) X.A (eval iter X.env) (λ v s1=>wpAny (model X.prog X.w) X.A (pyIter v) (PIE X Pn σ tg R) X.xe s1) X.xe s
theorem vv (ho:s.heap.get? it=some o) (hc:o.cls=.type n) (hd:o.data=.fields vs)
    (hn:["enumerate","zip","dict_itemiterator","dict_reverseitemiterator","odict_iterator","itertools.zip_longest","itertools.pairwise"].contains n=false) (hQ:Q () s):wpAny M A (letOwnedTupleGo tg (.ref it) u) Q E s:=by
  unfold letOwnedTupleGo
  cases tg <;> first
    | exact Z5 hQ
    | (cases u <;> first
        | exact Z5 hQ
        | (refine Zt (wpAny_load ho ?_)
           rw [hc,hd];show wpAny M A (if (["enumerate","zip","dict_itemiterator","dict_reverseitemiterator","odict_iterator","itertools.zip_longest","itertools.pairwise"].contains n&&vs[0]? == some (rawInt _))=true then _ else _) Q E s;rw [if_neg (by intro h; rw [hn,Bool.false_and] at h; cases h)]
           exact Z5 hQ))
def Itl (K:PB) (a:Pz):It:=
 ⟨λ i H=>∃ xs x,SqL K H a xs/\xs[i]?=some x,λ i H x H'=>H'=H/\∀ xs,SqL K H a xs->xs[i]?=some x,λ i H=>∃ xs,SqL K H a xs/\xs.length<=i⟩
def Itt (K:PB) (a:Pz):It:=
 ⟨λ i H=>∃ xs x,SqT K H a xs/\xs[i]?=some x,λ i H x H'=>H'=H/\∀ xs,SqT K H a xs->xs[i]?=some x,λ i H=>∃ xs,SqT K H a xs/\xs.length<=i⟩
def Itr (lo:Int) (n:Nat):It:=⟨λ i _=>i < n,λ i H x H'=>H'=H/\x=.int (lo+i),λ i _=>n<=i⟩
theorem wk {P:Program} {w:World} {K:PB} {tg:Expr} (a it:Pz):Turn P w K tg (Itl K a) [it] it (λ i h=>h.IsListIter it a i) where
 mem:=by simp
 obj:=λ i h st b hb=>by
  have e:b=it:=by simpa using hb
  subst e;obtain ⟨o,e,c,d⟩:=st;exact ⟨o,e,λ v z=>by rw [d] at z; cases z⟩
 keep:=λ i h h' st k=>st.at λ o e=>k it (by simp) o e
 item:=by
  intro X hP hw hK hc i Pn s σ H E I hf st hg;subst hP hw hK;obtain ⟨xs,x,hq,hx⟩:=hg;obtain ⟨its,rv,p,hz⟩:=I.list hq;obtain ⟨u,hu,ru⟩:=rv.get hx;obtain ⟨f0,f1,f2,f3,f4,f5⟩:=hf it (by simp);refine wpAny_pyNext_list_item st p.isList (x:=u) (by simpa using hu) λ h' st' sb=>?_
  have I1:Inv X Pn σ H { s with heap:=h' }:=I.turned (t':=s.toks) (λ b o hb e=>(sb.2 b hb).trans e) f0 f1 f3 f4 f5;obtain ⟨o,e,c,d⟩:=id st';exact ⟨u,rfl,vv (s:={ s with heap:=h' }) e c d (by decide) ⟨x,H,I1,ru,⟨rfl,λ ys hy=>by rw [I.t9 hy hq]; exact hx⟩,st',λ b hb=>(hf b hb).1⟩⟩
 done:=by
  intro X hP hw hK hc i Pn s σ H E I hf st hg;subst hP hw hK;obtain ⟨xs,hq,hx⟩:=hg;obtain ⟨its,rv,p,hz⟩:=I.list hq;obtain ⟨f0,f1,f2,f3,f4,f5⟩:=hf it (by simp);have hl:=rv.length;exact wpAny_pyNext_list_end (I.ok.hd hc) st p.isList (by simp; omega) λ h' eb=>⟨rfl,I.turned (t':=s.toks) (λ b o hb e=>eb b o hb e) f0 f1 f3 f4 f5⟩
 self:=λ _ _ _ _ _ st h=>wpAny_pyIter_listiter st h
theorem uR {P:Program} {w:World} {K:PB} {tg:Expr} (a it:Pz):Turn P w K tg (Itt K a) [it] it (λ i h=>h.IsTupleIter it a i) where
 mem:=by simp
 obj:=λ i h st b hb=>by
  have e:b=it:=by simpa using hb
  subst e;obtain ⟨o,e,c,d⟩:=st;exact ⟨o,e,λ v z=>by rw [d] at z; cases z⟩
 keep:=λ i h h' st k=>st.at λ o e=>k it (by simp) o e
 item:=by
  intro X hP hw hK hc i Pn s σ H E I hf st hg;subst hP hw hK;obtain ⟨xs,x,hq,hx⟩:=hg;obtain ⟨its,rv,p,hz⟩:=I.tuple hq;obtain ⟨u,hu,ru⟩:=rv.get hx;obtain ⟨f0,f1,f2,f3,f4,f5⟩:=hf it (by simp);refine wpAny_pyNext_tuple_item st (show s.heap.IsTuple a its.toArray from p) (x:=u) (by simpa using hu) λ h' st' sb=>?_
  have I1:Inv X Pn σ H { s with heap:=h' }:=I.turned (t':=s.toks) (λ b o hb e=>(sb.2 b hb).trans e) f0 f1 f3 f4 f5;obtain ⟨o,e,c,d⟩:=id st';exact ⟨u,rfl,vv (s:={ s with heap:=h' }) e c d (by decide) ⟨x,H,I1,ru,⟨rfl,λ ys hy=>by rw [I.wq hy hq]; exact hx⟩,st',λ b hb=>(hf b hb).1⟩⟩
 done:=by
  intro X hP hw hK hc i Pn s σ H E I hf st hg;subst hP hw hK;obtain ⟨xs,hq,hx⟩:=hg;obtain ⟨its,rv,p,hz⟩:=I.tuple hq;obtain ⟨f0,f1,f2,f3,f4,f5⟩:=hf it (by simp);have hl:=rv.length;exact wpAny_pyNext_tuple_end (I.ok.hd hc) st (show s.heap.IsTuple a its.toArray from p) (by simp; omega) λ h' eb=>⟨rfl,I.turned (t':=s.toks) (λ b o hb e=>eb b o hb e) f0 f1 f3 f4 f5⟩
 self:=λ _ _ _ _ _ st h=>wpAny_pyIter_tupleiter st h
theorem uT {P:Program} {w:World} {K:PB} {tg:Expr} (it:Pz) (lo:Int) (n:Nat):Turn P w K tg (Itr lo n) [it] it (λ i h=>IsRangeIter h it (lo+(i:Nat) * 1) ((n:Int) - (i:Nat)) 1) where
 mem:=by simp
 obj:=λ i h st b hb=>by
  have e:b=it:=by simpa using hb
  subst e
  exact ⟨_,st,λ v z=>by
   have z':Data.fields _=Data.cell v:=z
   cases z'⟩
 keep:=λ i h h' st k=>k it (by simp) _ st
 item:=by
  intro X hP hw hK hc i Pn s σ H E I hf st hg;subst hP hw hK;obtain ⟨f0,f1,f2,f3,f4,f5⟩:=hf it (by simp);have W:=Walks.range (prog:=X.prog) (w:=X.w) (I.ok.hd hc) it lo 1 n;refine W.item i s _ _ hg st λ v h' tk hv st' kk=>?_
  obtain ⟨t,rfl⟩:=hv;have I1:Inv X Pn σ H { s with heap:=h',toks:=tk }:=I.turned (λ b o hb e=>kk b o (by simpa using hb) e) f0 f1 f3 f4 f5;refine ⟨_,rfl,vv (s:={ s with heap:=h',toks:=tk }) (n:="range_iterator") st' rfl rfl (by decide) ⟨.int (lo+i),H,I1,⟨t,?_⟩,⟨rfl,rfl⟩,st',λ b hb=>(hf b hb).1⟩⟩;rw [Int.mul_one]
 done:=by
  intro X hP hw hK hc i Pn s σ H E I hf st hg;subst hP hw hK;obtain ⟨f0,f1,f2,f3,f4,f5⟩:=hf it (by simp);exact wpAny_pyNext_range_end (I.ok.hd hc) st (by have:n<=i:=hg; omega) λ h' eb=>⟨rfl,I.turned (t':=s.toks) (λ b o hb e=>eb b o hb e) f0 f1 f3 f4 f5⟩
 self:=λ _ _ _ _ _ st h=>wpAny_pyIter_rangeiter st h
section
variable {X:Cx} {tg:Expr}
def Ms (K:PB) (tl:TE):TI:=λ σ H R=>tl σ H λ x H1=>∃ a,x=.ref a/\(∃ xs,SqL K H1 a xs)/\R (Itl K a) H1
def O5 (K:PB) (tl:TE):TI:=λ σ H R=>tl σ H λ x H1=>∃ a,x=.ref a/\(∃ xs,SqT K H1 a xs)/\R (Itt K a) H1
theorem rL {l:Expr} {tl:TE} (hl:PE X l tl):PI X tg l (Ms X.K tl):=by
 intro Pn s σ H R I h;refine thn (hl Pn s σ H _ I h) λ v s1 ⟨x,H1,I1,r1,q1⟩=>?_
 obtain ⟨a,e,⟨xs,hq⟩,q⟩:=q1;subst e;cases r1;obtain ⟨its,rv,p,hz⟩:=I1.list hq;refine wpAny_pyIter_list p.isList ?_
 refine ⟨s1.heap.objs.size,[s1.heap.objs.size],_,_,H1,rfl,I1.kept (t':=s1.toks) λ b o e=>Heap.get?_push_of_some _ e,wk a _,⟨_,Heap.get?_push_size _ rfl,rfl,rfl⟩,λ b hb=>?_,q⟩;have e:b=s1.heap.objs.size:=by simpa using hb
 subst e;exact I1.AQ (Zn _) (I1.hok.fresh (Zn _))
theorem GA {l:Expr} {tl:TE} (hl:PE X l tl):PI X tg l (O5 X.K tl):=by
 intro Pn s σ H R I h;refine thn (hl Pn s σ H _ I h) λ v s1 ⟨x,H1,I1,r1,q1⟩=>?_
 obtain ⟨a,e,⟨xs,hq⟩,q⟩:=q1;subst e;cases r1;obtain ⟨its,rv,p,hz⟩:=I1.tuple hq;refine wpAny_pyIter_tuple (show s1.heap.IsTuple a its.toArray from p) ?_
 refine ⟨s1.heap.objs.size,[s1.heap.objs.size],_,_,H1,rfl,I1.kept (t':=s1.toks) λ b o e=>Heap.get?_push_of_some _ e,uR a _,⟨_,Heap.get?_push_size _ rfl,rfl,rfl⟩,λ b hb=>?_,q⟩;have e:b=s1.heap.objs.size:=by simpa using hb
 subst e;exact I1.AQ (Zn _) (I1.hok.fresh (Zn _))
theorem tM {Pn:My (Pz×Obj)} {σ:St} {H:Hp} {s:PD} {R:It->Hp->Prop} {E:Py->PD->Prop} {lo hi:Int} {t u v:Tok} {tk:Nat} (I:Inv X Pn σ H s) (h1:-(2 ^ 62)<=lo) (h2:lo < 2 ^ 62) (h3:-(2 ^ 62)<=hi) (h4:hi < 2 ^ 62)
  (q:R (Itr lo (hi - lo).toNat) H):wpAny (model X.prog X.w) X.A (pyIter (.ref s.heap.objs.size)) (PIE X Pn σ tg R) E { s with heap:=s.heap.push { cls:=.type "range",data:=.fields #[.int lo t,.int hi u,.int 1 v] },toks:=tk }:=by
 refine wpAny_pyIter_range (IsRange.new ..) (small_one h1 h2 h3 h4) ?_
 have I1:Inv X Pn σ H { s with heap:=s.heap.push { cls:=.type "range",data:=.fields #[.int lo t,.int hi u,.int 1 v] },toks:=tk }:=I.kept λ b o e=>Heap.get?_push_of_some _ e
 refine ⟨(s.heap.push { cls:=.type "range",data:=.fields #[.int lo t,.int hi u,.int 1 v] }).objs.size,[(s.heap.push { cls:=.type "range",data:=.fields #[.int lo t,.int hi u,.int 1 v] }).objs.size],_,_,H,rfl,
  I1.kept (t':=tk) λ b o e=>Heap.get?_push_of_some _ e,uT _ lo (hi - lo).toNat,?_,λ b hb=>?_,q⟩
 ·have e1:lo+((0:Nat):Int) * 1=lo:=by simp
  have e2:(((hi - lo).toNat:Nat):Int) - ((0:Nat):Int)=Builtin.Range.rangeSize lo hi 1:=by rw [rangeSize_one]; split <;> omega
  show IsRangeIter _ _ (lo+((0:Nat):Int) * 1) ((((hi - lo).toNat:Nat):Int) - ((0:Nat):Int)) 1;rw [e1,e2];exact Heap.get?_push_size _ rfl
 ·have e:b=(s.heap.push { cls:=.type "range",data:=.fields #[.int lo t,.int hi u,.int 1 v] }).objs.size:=by simpa using hb
  subst e;exact I1.AQ (Zn _) (I1.hok.fresh (Zn _))
def Mr (ta:TA):TI:=λ σ H R=>ta σ H λ vs H1=>∃ j:Int,vs=[.int j]/\-(2 ^ 62)<=j/\j < 2 ^ 62/\R (Itr 0 j.toNat) H1
def Mq (ta:TA):TI:=λ σ H R=>ta σ H λ vs H1=>∃ i j:Int,vs=[.int i,.int j]/\(-(2 ^ 62)<=i/\i < 2 ^ 62/\-(2 ^ 62)<=j/\j < 2 ^ 62)/\R (Itr i (j - i).toNat) H1
theorem xj {a:Expr} {ta:TA} {p pos:Pos} (hg:Gl X "range") (hm:X.mg "range"=none) (ha:PA X [a] ta) (hs:starEach [a] X.env=[(false,eval a X.env)]:=by rfl):PI X tg (.Call (.Name "range" p) [a] [] pos) (Mr ta):=by
 intro Pn s σ H R I h;refine Call_ (kC I hg hm boot_range (Yn (thn (ha pos Pn s σ H _ I h) λ us s1 ⟨vs,H1,I1,r1,q1⟩=>?_) hs rfl));obtain ⟨j,e,q1,q2,q⟩:=q1;subst e
 cases r1 with
 | cons r rr=>
  cases rr;obtain ⟨t,rfl⟩:=r;exact call_range_1 (tM I1 (by omega) (by omega) q1 q2 (by simpa using q))
theorem xi (hg:Gl X "range") (hm:X.mg "range"=none) (ha:PA X [a,b] ta) (hs:starEach [a,b] X.env=[(false,eval a X.env),(false,eval b X.env)]:=by rfl) (hs2:starEach [b] X.env=[(false,eval b X.env)]:=by rfl):PI X tg (.Call (.Name "range" p) [a,b] [] pos) (Mq ta):=by
 intro Pn s σ H R I h;refine Call_ (kC I hg hm boot_range (Yn (thn (ha pos Pn s σ H _ I h) λ us s1 ⟨vs,H1,I1,r1,q1⟩=>?_) (by rw [hs,hs2]) (by rw [hs2]; rfl)));obtain ⟨i,j,e,⟨q1,q2,q3,q4⟩,q⟩:=q1;subst e
 cases r1 with
 | cons r rr=>
  cases rr with
  | cons r' rr=>
   cases rr;obtain ⟨t,rfl⟩:=r;obtain ⟨t',rfl⟩:=r';exact call_range_2 (tM I1 q1 q2 q3 q4 q)
def MU (wi:TI) (g:TG) (tb:TS):TS:=λ D σ H=>wi σ H λ J H1=>∃ W:Nat->Nat->St->Hp->Prop,(∃ m,W 0 m σ H1)/\∀ i m σ H,W i m σ H->(J.stop i H/\D.nx σ H)\/(J.go i H/\∃ N:St->Hp->Prop,(∀ σ' H',N σ' H'->∃ m',m' < m/\W (i+1) m' σ' H')/\∀ x H',J.yld i H x H'->g x σ H' λ σ2 H2=>tb { D with nx:=N,ct:=N,bk:=D.nx } σ2 H2)
def tR (fp:My Pz) (h:Heap):My (Pz×Obj):=fp.filterMap λ b=>(h.get? b).map λ o=>(b,o)
def iL (hb:b ∈ fp) (e:h.get? b=some o):(b,o) ∈ tR fp h:=Xb.mpr ⟨b,hb,by rw [e]; rfl⟩
theorem xJ (hp:p ∈ tR fp h):p.1 ∈ fp/\h.get? p.1=some p.2:=by
 obtain ⟨b,hb,e⟩:=Xb.mp hp
 cases q:h.get? b with
 | none=>rw [q] at e; cases e
 | some o=>
  rw [q] at e;have e':(b,o)=p:=Zj e;subst e';exact ⟨hb,q⟩
theorem Inv.pinned (I:Inv X Pn σ H s) (hf:∀ b ∈ fp,uK X Pn H b) (ho:∀ b ∈ fp,∃ o,s.heap.get? b=some o/\∀ v,o.data≠.cell v):Inv X (Pn++tR fp s.heap) σ H s:=
 I.lJ λ p hp=>(Zi.mp hp).elim (λ z=>I.pin p (Ze _ z)) λ z=>by
  obtain ⟨hb,e⟩:=xJ z;obtain ⟨f0,f1,f2,_⟩:=hf p.1 hb;obtain ⟨o,e',d⟩:=ho p.1 hb;rw [e] at e'; cases e'
  exact ⟨e,f0,f1,f2,d⟩
def Inv.nS (I:Inv X (Pn++pl) σ H s):Inv X Pn σ H s:=I.lJ λ p hp=>I.pin p (Ze _ (Zk _ hp))
theorem m7 (hp:PassesOwn (model X.prog X.w) X.A X.env X.xe) (hc:X.calm=true) (hi:PI X tg iter wi) (hg:PG X tg g) (hb:PSs X body tb)
  (hs:∀ x,foldedSetIterable iter X.env x=pure x:=by intro _; rfl):PS X (.For tg iter body [] pos) (MU wi g tb):=by
 intro Pn s σ H D I h;refine wpAny_For (thn (hi Pn s σ H _ I h) λ v s1 h1=>thn h1 λ itv s2 h2=>?_) hs;obtain ⟨it,fp,tn,J,H2,e,I2,T,st2,f2,W,⟨m0,w0⟩,turn⟩:=h2;subst e;have stat:∀ {H':Hp},(∀ b ∈ fp,H' b=none)->∀ b ∈ fp,uK X Pn H' b:=λ hn b hb=>⟨hn b hb,(f2 b hb).2⟩
 refine codeAny_forLoop_any (λ n s'=>∃ i σ' H',Inv X Pn σ' H' s'/\tn i s'.heap/\(∀ b ∈ fp,H' b=none)/\W i n σ' H') ?_ m0 ⟨0,σ,H2,I2,st2,λ b hb=>(f2 b hb).1,w0⟩
 rintro n s3 ⟨i,σ3,H3,I3,st3,fr3,w3⟩
 rcases turn i n σ3 H3 w3 with ⟨stop,qn⟩ | ⟨go,N,hN,step⟩
 ·refine Y5 hp (thn (T.done X rfl rfl rfl hc i Pn s3 σ3 H3 X.xe I3 (stat fr3) st3 stop) λ r s4 ⟨hr,I4⟩=>?_)
  subst hr;exact wpAny_execs_nil ⟨σ3,H3,I4,qn⟩
 ·refine Y5 hp (thn (T.item X rfl rfl rfl hc i Pn s3 σ3 H3 X.xe I3 (stat fr3) st3 go) λ r s4 ⟨u,hr,h4⟩=>?_)
  subst hr;refine Y5 hp (thn h4 λ _ s5 ⟨x,H5,I5,r5,y5,st5,fr5⟩=>?_);have I5':=I5.pinned (stat fr5) (T.obj _ _ st5);refine Y5 hp (thn (hg _ s5 σ3 H5 x u _ I5' r5 (step x H5 y5)) λ _ s6 ⟨σ6,H6,I6,q6⟩=>?_);refine Y5 hp (thn (hb _ s6 σ6 H6 _ I6 q6) λ f s7 q7=>?_)
  have again:∀ {σ7:St} {H7:Hp},Inv X (Pn++tR fp s5.heap) σ7 H7 s7->N σ7 H7->∃ m,m < n/\∃ i σ' H',Inv X Pn σ' H' s7/\tn i s7.heap/\(∀ b ∈ fp,H' b=none)/\W i m σ' H':=λ {σ7 H7} I7 n7=>by
   obtain ⟨m',hm,w7⟩:=hN σ7 H7 n7;refine ⟨m',hm,i+1,σ7,H7,I7.nS,T.keep _ _ _ st5 λ b hb o e=>(I7.pin (b,o) (Ze _ (Ze _ (iL hb e)))).1,λ b hb=>?_,w7⟩;obtain ⟨o,e,d⟩:=T.obj _ _ st5 b hb;exact (I7.pin (b,o) (Ze _ (Ze _ (iL hb e)))).2.1
  cases f with
  | next=>obtain ⟨σ7,H7,I7,n7⟩:=q7; exact again I7 n7
  | cont=>obtain ⟨σ7,H7,I7,n7⟩:=q7; exact again I7 n7
  | brk=>obtain ⟨σ7,H7,I7,q7⟩:=q7; exact ⟨σ7,H7,I7.nS,q7⟩
  | ret v=>obtain ⟨x7,σ7,H7,I7,r7,q7⟩:=q7; exact ⟨x7,σ7,H7,I7.nS,r7,q7⟩
end
abbrev R2:=V->V->Hp->VK->Prop
def OpR (X:Cx) (f:Py->Py->Sem Py) (r:R2):Prop:=
  ∀ (Pn:My (Pz×Obj)) (s:PD) (σ:St) (H:Hp) (x y:V) (v u:Py) (Q:VK),Inv X Pn σ H s->RelV x v->RelV y u->r x y H Q->wpAny (model X.prog X.w) X.A (f v u) (EP X Pn σ Q) X.xe s
def UnR (X:Cx) (f:Py->Sem Py) (r:V->Hp->VK->Prop):Prop:=
  ∀ (Pn:My (Pz×Obj)) (s:PD) (σ:St) (H:Hp) (x:V) (v:Py) (Q:VK),Inv X Pn σ H s->RelV x v->r x H Q->wpAny (model X.prog X.w) X.A (f v) (EP X Pn σ Q) X.xe s
def fw (X:Cx) (f:Py) (r:My V->Hp->VK->Prop):Prop:=
  ∀ (Pn:My (Pz×Obj)) (s:PD) (σ:St) (H:Hp) (xs:My V) (us:My Py) (Q:VK),Inv X Pn σ H s->bX xs us->r xs H Q->wpAny (model X.prog X.w) X.A (call f us) (EP X Pn σ Q) X.xe s
def Pl (X:Cx) (r:V->Hp->(Bool->Hp->Prop)->Prop):Prop:=
  ∀ (Pn:My (Pz×Obj)) (s:PD) (σ:St) (H:Hp) (x:V) (v:Py) (Q:Bool->Hp->Prop),Inv X Pn σ H s->RelV x v->r x H Q->wpAny (model X.prog X.w) X.A (truthy v) (TP X Pn σ Q) X.xe s
def tOp (r:R2) (ta tb:TE):TE:=λ σ H Q=>ta σ H λ x H1=>tb σ H1 λ y H2=>r x y H2 Q
def tUn (r:V->Hp->VK->Prop) (ta:TE):TE:=λ σ H Q=>ta σ H λ x H1=>r x H1 Q
def rI (C:Int->Int->Prop) (g:Int->Int->V):R2:=λ x y H Q=>∃ i j,x=.int i/\y=.int j/\C i j/\Q (g i j) H
def rI0 (g:Int->Int->V):R2:=λ x y H Q=>∃ i j,x=.int i/\y=.int j/\Q (g i j) H
def rU (g:Int->V):V->Hp->VK->Prop:=λ x H Q=>∃ i,x=.int i/\Q (g i) H
section
variable {X:Cx} {a b c:Expr} {ta tb tc:TE} {pos:Pos}
theorem MN (ha:PE X a ta) (hb:PE X b tb) {Pn:My (Pz×Obj)} {s:PD} {σ:St} {H:Hp} {R:V->V->Hp->Prop} (I:Inv X Pn σ H s)
  (h:ta σ H λ x H1=>tb σ H1 λ y H2=>R x y H2) {Q:Py->PD->Prop} {f:Py->Py->Sem Py}
  (hf:∀ v u s2 x y H2,Inv X Pn σ H2 s2->RelV x v->RelV y u->R x y H2->wpAny (model X.prog X.w) X.A (f v u) Q X.xe s2):wpAny (model X.prog X.w) X.A (eval a X.env) (λ v s₁=>wpAny (model X.prog X.w) X.A (eval b X.env) (λ u s₂=>wpAny (model X.prog X.w) X.A (f v u) Q X.xe s₂) X.xe s₁) X.xe s:=by
 refine thn (ha Pn s σ H _ I h) λ v s1 ⟨x,H1,I1,r1,q1⟩=>?_
 refine thn (hb Pn s1 σ H1 _ I1 q1) λ u s2 ⟨y,H2,I2,r2,q2⟩=>?_
 exact hf v u s2 x y H2 I2 r1 r2 q2
theorem CU {op:Operator} {r:R2} (ho:OpR X (binaryOp op) r) (ha:PE X a ta) (hb:PE X b tb):PE X (.BinOp a op b pos) (tOp r ta tb):=by
 intro Pn s σ H Q I h;exact wpAny_BinOp (MN ha hb I h λ v u s2 x y H2 I2 rx ry q=>ho Pn s2 σ H2 x y v u Q I2 rx ry q)
theorem Ka (ho:UnR X (unaryOp op) r) (ha:PE X a ta):PE X (.UnaryOp op a pos) (tUn r ta):=by
 intro Pn s σ H Q I h;exact UnaryOp_ (thn (ha Pn s σ H _ I h) λ v s1 ⟨x,H1,I1,r1,q1⟩=>ho Pn s1 σ H1 x v Q I1 r1 q1)
theorem opI {f:Py->Py->Sem Py} {C:Int->Int->Prop} {g:Int->Int->Int}
  (rule:∀ (i j:Int) (t u:Tok) (s:PD) (Q:Py->PD->Prop) (E:Py->PD->Prop),C i j->Q (.int (g i j) s.toks) { s with toks:=s.toks+1 }->wpAny (model X.prog X.w) X.A (f (.int i t) (.int j u)) Q E s):OpR X f (rI C λ i j=>.int (g i j)):=by
 intro Pn s σ H x y v u Q I rx ry h;obtain ⟨i,j,rfl,rfl,hc,q⟩:=h;obtain ⟨t,rfl⟩:=rx;obtain ⟨t',rfl⟩:=ry;exact rule i j t t' s _ _ hc ⟨.int (g i j),H,I.tok _,⟨_,rfl⟩,q⟩
theorem M6 {f:Py->Py->Sem Py} {g:Int->Int->Int}
  (rule:∀ (i j:Int) (t u:Tok) (s:PD) (Q:Py->PD->Prop) (E:Py->PD->Prop),Q (.int (g i j) s.toks) { s with toks:=s.toks+1 }->wpAny (model X.prog X.w) X.A (f (.int i t) (.int j u)) Q E s):OpR X f (rI0 λ i j=>.int (g i j)):=by
 intro Pn s σ H x y v u Q I rx ry h;obtain ⟨i,j,rfl,rfl,q⟩:=h;obtain ⟨t,rfl⟩:=rx;obtain ⟨t',rfl⟩:=ry;exact rule i j t t' s _ _ ⟨.int (g i j),H,I.tok _,⟨_,rfl⟩,q⟩
theorem Iv {f:Py->Py->Sem Py} {g:Int->Int->Bool}
  (rule:∀ (i j:Int) (t u:Tok) (s:PD) (Q:Py->PD->Prop) (E:Py->PD->Prop),Q (.bool (g i j)) s->wpAny (model X.prog X.w) X.A (f (.int i t) (.int j u)) Q E s):OpR X f (rI0 λ i j=>.bl (g i j)):=by
 intro Pn s σ H x y v u Q I rx ry h;obtain ⟨i,j,rfl,rfl,q⟩:=h;obtain ⟨t,rfl⟩:=rx;obtain ⟨t',rfl⟩:=ry;exact rule i j t t' s _ _ ⟨.bl (g i j),H,I,rfl,q⟩
def JG (i j:Int):Prop:=0<=j/\j<=1000000/\i.natAbs < 2 ^ 64
def Ca (i j:Int):Prop:=(-(2 ^ 64) < i/\i < 2 ^ 64)\/(-(2 ^ 64) < j/\j < 2 ^ 64)
def Ca.ok (h:Ca i j):IntMulOk i j:=by
 rcases h with ⟨h1,h2⟩ | ⟨h1,h2⟩
 · exact .of_left (intBits_le_64 h1 h2)
 · exact .of_right (intBits_le_64 h1 h2)
def GR:OpR X (binaryOp .Add) (rI0 λ i j=>.int (i+j)):=M6 λ _ _ _ _ _ _ _ q=>add_int q
def GL:OpR X (binaryOp .Sub) (rI0 λ i j=>.int (i - j)):=M6 λ _ _ _ _ _ _ _ q=>sub_int q
def C6:OpR X (binaryOp .Mod) (rI (λ _ j=>j≠0) λ i j=>.int (i.fmod j)):=opI λ _ _ _ _ _ _ _ hc q=>mod_int' hc q
def GN:OpR X (binaryOp .Pow) (rI JG λ i j=>.int (i ^ j.toNat)):=opI λ _ _ _ _ _ _ _ hc q=>pow_int_small hc.1 hc.2.1 hc.2.2 q
theorem unI {f:Py->Sem Py} {g:Int->Int}
  (rule:∀ (i:Int) (t:Tok) (s:PD) (Q:Py->PD->Prop) (E:Py->PD->Prop),Q (.int (g i) s.toks) { s with toks:=s.toks+1 }->wpAny (model X.prog X.w) X.A (f (.int i t)) Q E s):UnR X f (rU λ i=>.int (g i)):=by
 intro Pn s σ H x v Q I rx h;obtain ⟨i,rfl,q⟩:=h;obtain ⟨t,rfl⟩:=rx;exact rule i t s _ _ ⟨.int (g i),H,I.tok _,⟨_,rfl⟩,q⟩
def FH:UnR X (unaryOp .USub) (rU λ i=>.int (-i)):=unI λ _ _ _ _ _ q=>neg_int q
end
noncomputable def J1:V->V->Bool
 | .non,.non=>true | .non,.int _=>true | .int _,.non=>true | .non,.bl _=>true | .bl _,.non=>true | .non,.str _=>true | .str _,.non=>true
 | .int _,.int _=>true | .bl _,.bl _=>true | .str _,.str _=>true | .byt _,.byt _=>true
 | .int _,.str _=>true | .str _,.int _=>true | .bl _,.str _=>true | .str _,.bl _=>true
 | _,_=>false
def rEq:R2:=λ x y H Q=>J1 x y=true/\Q (.bl (decide (x=y))) H
def rNe:R2:=λ x y H Q=>J1 x y=true/\Q (.bl (!decide (x=y))) H
def yZ:decide (V.int i=V.int j)=(i == j):=by
 rw [Xw];simp
def BZ:decide (V.bl i=V.bl j)=(i == j):=by
 rw [Xw];simp
def yY:decide (V.str i=V.str j)=(i == j):=by
 rw [Xw];simp
def za:decide (V.byt i=V.byt j)=(i.toList == j.toList):=by
 rw [Xw];cases i;cases j;simp
section
variable {X:Cx} {a b c:Expr} {ta tb tc:TE} {pos:Pos}
def bw (I:Inv X Pn σ H s) (q:Q (.bl k) H) (e:k=k'):EP X Pn σ Q (.bool k') s:=by
 subst e;exact ⟨.bl k,H,I,rfl,q⟩
theorem Kj:OpR X (compareOp .Eq) rEq:=by
 intro Pn s σ H x y v u Q I rx ry h;obtain ⟨hs,q⟩:=h
 cases x with
 | non=>
  cases rx
  cases y with
  | non=>cases ry; exact PySem.EqNone.eq_none_none (bw I q (by simp))
  | bl j=>cases ry; exact PySem.EqNone.eq_none_bool (bw I q (by simp))
  | int j=>obtain ⟨t',rfl⟩:=ry; exact PySem.EqNone.eq_none_int (bw I q (by simp))
  | str j=>obtain ⟨t',rfl⟩:=ry; exact PySem.EqNone.eq_none_str (bw I q (by simp))
  | _=>exact absurd (show false=true from hs) Zf
 | bl i=>
  cases rx
  cases y with
  | non=>cases ry; exact PySem.EqNone.eq_bool_none (bw I q (by simp))
  | bl j=>cases ry; exact eq_bool (bw I q BZ)
  | str j=>obtain ⟨t',rfl⟩:=ry; exact PySem.EqMixed.eq_bool_str (bw I q (by simp))
  | _=>exact absurd (show false=true from hs) Zf
 | int i=>
  obtain ⟨t,rfl⟩:=rx
  cases y with
  | non=>cases ry; exact PySem.EqNone.eq_int_none (bw I q (by simp))
  | int j=>obtain ⟨t',rfl⟩:=ry; exact eq_int (bw I q yZ)
  | str j=>obtain ⟨t',rfl⟩:=ry; exact PySem.EqMixed.eq_int_str (bw I q (by simp))
  | _=>exact absurd (show false=true from hs) Zf
 | str i=>
  obtain ⟨t,rfl⟩:=rx
  cases y with
  | non=>cases ry; exact PySem.EqNone.eq_str_none (bw I q (by simp))
  | bl j=>cases ry; exact PySem.EqMixed.eq_str_bool (bw I q (by simp))
  | int j=>obtain ⟨t',rfl⟩:=ry; exact PySem.EqMixed.eq_str_int (bw I q (by simp))
  | str j=>obtain ⟨t',rfl⟩:=ry; exact eq_str (bw I q yY)
  | _=>exact absurd (show false=true from hs) Zf
 | byt i=>
  obtain ⟨t,rfl⟩:=rx
  cases y with
  | byt j=>obtain ⟨t',rfl⟩:=ry; exact PySem.W.eq_bytes (bw I q za)
  | _=>exact absurd (show false=true from hs) Zf
 | _=>cases y <;> exact absurd (show false=true from hs) Zf
theorem Ke:OpR X (compareOp .NotEq) rNe:=by
 intro Pn s σ H x y v u Q I rx ry h;obtain ⟨hs,q⟩:=h
 cases x with
 | non=>
  cases rx
  cases y with
  | non=>cases ry; exact PySem.EqNone.ne_none_none (bw I q (by simp))
  | bl j=>cases ry; exact PySem.EqNone.ne_none_bool (bw I q (by simp))
  | int j=>obtain ⟨t',rfl⟩:=ry; exact PySem.EqNone.ne_none_int (bw I q (by simp))
  | str j=>obtain ⟨t',rfl⟩:=ry; exact PySem.EqNone.ne_none_str (bw I q (by simp))
  | _=>exact absurd (show false=true from hs) Zf
 | bl i=>
  cases rx
  cases y with
  | non=>cases ry; exact PySem.EqNone.ne_bool_none (bw I q (by simp))
  | bl j=>cases ry; exact ne_bool (bw I q (Yo not BZ))
  | str j=>obtain ⟨t',rfl⟩:=ry; exact PySem.EqMixed.ne_bool_str (bw I q (by simp))
  | _=>exact absurd (show false=true from hs) Zf
 | int i=>
  obtain ⟨t,rfl⟩:=rx
  cases y with
  | non=>cases ry; exact PySem.EqNone.ne_int_none (bw I q (by simp))
  | int j=>obtain ⟨t',rfl⟩:=ry; exact ne_int (bw I q (Yo not yZ))
  | str j=>obtain ⟨t',rfl⟩:=ry; exact PySem.EqMixed.ne_int_str (bw I q (by simp))
  | _=>exact absurd (show false=true from hs) Zf
 | str i=>
  obtain ⟨t,rfl⟩:=rx
  cases y with
  | non=>cases ry; exact PySem.EqNone.ne_str_none (bw I q (by simp))
  | bl j=>cases ry; exact PySem.EqMixed.ne_str_bool (bw I q (by simp))
  | int j=>obtain ⟨t',rfl⟩:=ry; exact PySem.EqMixed.ne_str_int (bw I q (by simp))
  | str j=>obtain ⟨t',rfl⟩:=ry; exact ne_str (bw I q (Yo not yY))
  | _=>exact absurd (show false=true from hs) Zf
 | byt i=>
  obtain ⟨t,rfl⟩:=rx
  cases y with
  | byt j=>obtain ⟨t',rfl⟩:=ry; exact PySem.W.ne_bytes (bw I q (Yo not za))
  | _=>exact absurd (show false=true from hs) Zf
 | _=>cases y <;> exact absurd (show false=true from hs) Zf
def Kf:OpR X (compareOp .Lt) (rI0 λ i j=>.bl (decide (i < j))):=Iv λ _ _ _ _ _ _ _ q=>lt_int q
def Kg:OpR X (compareOp .LtE) (rI0 λ i j=>.bl (decide (i<=j))):=Iv λ _ _ _ _ _ _ _ q=>le_int q
def Kh:OpR X (compareOp .Gt) (rI0 λ i j=>.bl (decide (j < i))):=Iv λ _ _ _ _ _ _ _ q=>gt_int q
def Ki:OpR X (compareOp .GtE) (rI0 λ i j=>.bl (decide (j<=i))):=Iv λ _ _ _ _ _ _ _ q=>ge_int q
theorem xD:OpR X (compareOp .Lt) (λ x y H Q=>∃ i j,x=.str i/\y=.str j/\Q (.bl (decide (i.cps.toList < j.cps.toList))) H):=by
 intro Pn s σ H x y v u Q I rx ry h;obtain ⟨i,j,rfl,rfl,q⟩:=h;obtain ⟨t,rfl⟩:=rx;obtain ⟨t',rfl⟩:=ry;exact lt_str (bw I q rfl)
theorem GP:OpR X (compareOp .Is) (λ x y H Q=>y=.non/\Q (.bl (decide (x=.non))) H):=by
 intro Pn s σ H x y v u Q I rx ry h;obtain ⟨rfl,q⟩:=h;cases ry;refine is_none_gen (bw I q ?_)
 cases x <;> first
  | (cases rx; rfl)
  | (obtain ⟨t,rfl⟩:=rx; rfl)
theorem C4:OpR X (compareOp .IsNot) (λ x y H Q=>y=.non/\Q (.bl (!decide (x=.non))) H):=by
 intro Pn s σ H x y v u Q I rx ry h;obtain ⟨rfl,q⟩:=h;cases ry;refine isnot_none_gen (bw I q ?_)
 cases x <;> first
  | (cases rx; rfl)
  | (obtain ⟨t,rfl⟩:=rx; rfl)
theorem OpR.or (h:OpR X f r) (h':OpR X f r'):OpR X f (λ x y H Q=>r x y H Q\/r' x y H Q):=by
 intro Pn s σ H x y v u Q I rx ry q;rcases q with q | q
 · exact h Pn s σ H x y v u Q I rx ry q
 · exact h' Pn s σ H x y v u Q I rx ry q
theorem pT (b:Expr) (h:op≠.In:=by decide) (h2:op≠.NotIn:=by decide):behindInMarks op b=false:=by
 have e1:(op == CmpOp.In)=false:=by cases op <;> first | rfl | exact absurd rfl h
 have e2:(op == CmpOp.NotIn)=false:=by cases op <;> first | rfl | exact absurd rfl h2
 cases b <;> simp [behindInMarks,e1,e2]
theorem xu (ho:OpR X (compareOp op) r) (ha:PE X a ta) (hb:PE X b tb) (hm:behindInMarks op b=false):PE X (.Compare a [op] [b] pos) (tOp r ta tb):=by
 intro Pn s σ H Q I h;exact wpAny_Compare1 (MN ha hb I h λ v u s2 x y H2 I2 rx ry q=>ho Pn s2 σ H2 x y v u Q I2 rx ry q) hm
def Cg (t:TE):TT:=λ σ H Q=>t σ H λ x H'=>∃ k,x=.bl k/\Q k H'
theorem rH (ho:OpR X (compareOp op) r) (ha:PE X a ta) (hb:PE X b tb) (hm:behindInMarks op b=false):PT X (.Compare a [op] [b] pos) (Cg (tOp r ta tb)):=by
 intro Pn s σ H Q I h
 refine wpAny_isTrue_Compare1 (thn (ha Pn s σ H _ I h) λ v s1 ⟨x,H1,I1,r1,q1⟩=>thn (hb Pn s1 σ H1 _ I1 q1) λ u s2 ⟨y,H2,I2,r2,q2⟩=>
  thn (ho Pn s2 σ H2 x y v u _ I2 r1 r2 q2) λ c s3 ⟨z,H3,I3,r3,k,e,q3⟩=>?_) hm
 subst e;cases r3;exact Ye ⟨H3,I3,q3⟩
def wz (r r':R2) (ta tb tc:TE):TE:=λ σ H Q=>ta σ H λ x H1=>tb σ H1 λ y H2=>r x y H2 λ z H3=>∃ k,z=.bl k/\(if k=true then tc σ H3 λ w' H4=>r' y w' H4 Q else Q (.bl false) H3)
theorem Ax (ho:OpR X (compareOp op) r) (ho':OpR X (compareOp op') r') (ha:PE X a ta) (hb:PE X b tb) (hc:PE X c tc)
  (hm:lastMarks [op,op'] [b,c]=false:=by with_unfolding_all rfl):PE X (.Compare a [op,op'] [b,c] pos) (wz r r' ta tb tc):=by
 intro Pn s σ H Q I h
 refine Compare_chain (thn (ha Pn s σ H _ I h) λ v s1 ⟨x,H1,I1,r1,q1⟩=>chain_link (thn (hb Pn s1 σ H1 _ I1 q1) λ u s2 ⟨y,H2,I2,r2,q2⟩=>
  thn (ho Pn s2 σ H2 x y v u _ I2 r1 r2 q2) λ d s3 ⟨z,H3,I3,r3,k,e,q3⟩=>?_)) hm
 subst e;cases r3;refine Ye ?_
 cases k with
 | false=>exact ite_ff ⟨.bl false,H3,I3,rfl,q3⟩
 | true=>exact ite_tt (chain_last (thn (hc Pn s3 σ H3 _ I3 q3) λ w' s4 ⟨z',H4,I4,r4,q4⟩=>ho' Pn s4 σ H4 y z' u w' Q I4 r2 r4 q4))
theorem Ai (ho:OpR X (compareOp op) r) (ho':OpR X (compareOp op') r') (ha:PE X a ta) (hb:PE X b tb) (hc:PE X c tc)
  (hm:lastMarks [op,op'] [b,c]=false:=by with_unfolding_all rfl):PT X (.Compare a [op,op'] [b,c] pos) (Cg (wz r r' ta tb tc)):=by
 intro Pn s σ H Q I h
 refine isTrue_chain (thn (ha Pn s σ H _ I h) λ v s1 ⟨x,H1,I1,r1,q1⟩=>test_link (thn (hb Pn s1 σ H1 _ I1 q1) λ u s2 ⟨y,H2,I2,r2,q2⟩=>
  thn (ho Pn s2 σ H2 x y v u _ I2 r1 r2 q2) λ d s3 ⟨z,H3,I3,r3,k,e,q3⟩=>?_)) hm
 subst e;cases r3;refine Ye ?_
 cases k with
 | false=>
  obtain ⟨k',e',q'⟩:=q3;cases e';exact ite_ff ⟨H3,I3,q'⟩
 | true=>
  refine ite_tt (test_last (thn (hc Pn s3 σ H3 _ I3 q3) λ w' s4 ⟨z',H4,I4,r4,q4⟩=>thn (ho' Pn s4 σ H4 y z' u w' _ I4 r2 r4 q4) λ d' s5 ⟨z2,H5,I5,r5,k2,e2,q5⟩=>?_));subst e2;cases r5;exact Ye ⟨H5,I5,q5⟩
def N3 (K:PB) (x:V) (H:Hp) (k:Bool):Prop:=
 match x with
 | .non=>k=false
 | .bl b=>k=b
 | .int i=>k=(i != 0)
 | .str y=>y.length<=sizeLine/\k=((y.length:Int) != 0)
 | .byt y=>y.size<=sizeLine/\k=((y.size:Int) != 0)
 | .ref p=>(∃ xs,SqL K H p xs/\k=!xs.isEmpty)\/(∃ xs,SqT K H p xs/\k=!xs.isEmpty)\/∃ kvs,H p=some (.dK kvs)/\k=!kvs.isEmpty
 | _=>False
def vp {κ:Type} {kvs:My (κ×V)} {vs:My (κ×Py)} (r:KV kvs vs):(!vs.isEmpty)=!kvs.isEmpty:=by
 cases r <;> rfl
def nu (r:bX xs its):(!its.toArray.isEmpty)=!xs.isEmpty:=by
 cases r <;> simp
def p9:(sizeLine:Nat) < 2 ^ 63:=by rw [Xz]; decide
theorem FK:Pl X (λ x H Q=>∃ k,N3 X.K x H k/\Q k H):=by
 intro Pn s σ H x v Q I rx h;obtain ⟨k,e,q⟩:=h;have hl:=p9;have hs:sizeLine=16777216:=Xz
 cases x with
 | non=>
  cases rx;have e':k=false:=e;subst e';exact truthy_none ⟨H,I,q⟩
 | bl b=>
  cases rx;have e':k=b:=e;subst e';exact Ye ⟨H,I,q⟩
 | int i=>
  obtain ⟨t,rfl⟩:=rx;have e':k=(i != 0):=e;subst e';exact PySem.P.truthy_int ⟨H,I,q⟩
 | str y=>
  obtain ⟨t,rfl⟩:=rx;obtain ⟨hy,e'⟩:y.length<=sizeLine/\k=((y.length:Int) != 0):=e;subst e';exact PySem.P.truthy_str (by omega) ⟨H,I.tok _,q⟩
 | byt y=>
  obtain ⟨t,rfl⟩:=rx;obtain ⟨hy,e'⟩:y.size<=sizeLine/\k=((y.size:Int) != 0):=e;subst e';exact PySem.W.truthy_bytes (by omega) ⟨H,I.tok _,q⟩
 | ref p=>
  cases rx;have e':(∃ xs,SqL X.K H p xs/\k=!xs.isEmpty)\/(∃ xs,SqT X.K H p xs/\k=!xs.isEmpty)\/∃ kvs,H p=some (.dK kvs)/\k=!kvs.isEmpty:=e
  rcases e' with ⟨xs,hx,e'⟩ | ⟨xs,hx,e'⟩ | ⟨kvs,hx,e'⟩
  ·subst e'
   obtain ⟨its,r,pl,hz⟩:=I.list hx;have hlen:=r.length;exact wpAny_truthy_list pl.isList (by simp only [Zq]; omega) ⟨H,I.tok _,by rw [nu r]; exact q⟩
  ·subst e'
   obtain ⟨its,r,pl,hz⟩:=I.tuple hx;have hlen:=r.length;exact truthy_tuple pl (by simp only [Zq]; omega) ⟨H,I.tok _,by rw [nu r]; exact q⟩
  ·subst e'
   obtain ⟨hz,hS,vs,r,m⟩:kvs.length<=sizeLine/\(p == sysModules)=false/\∃ vs,KV kvs vs/\s.heap.DictOf (bO X.prog X.w) p vs:=I.hok p _ hx
   have hlen:kvs.length=vs.length:=Paired.length r;exact wpAny_truthy_dict hS m (by omega) ⟨H,I.tok _,by rw [vp r]; exact q⟩
 | _=>exact (show False from e).elim
theorem Ah (ha:PE X a ta) (he:∀ whole,isTrue a X.env whole=(do let v <- whole; standAt a.pos; holding [v] (truthy v))):PT X a (λ σ H Q=>ta σ H λ x H'=>∃ k,N3 X.K x H' k/\Q k H'):=by
 intro Pn s σ H Q I h;exact isTrue_plain (thn (ha Pn s σ H _ I h) λ v s1 ⟨x,H1,I1,r1,q1⟩=>FK Pn s1 σ H1 x v Q I1 r1 q1) (he _)
theorem vc:OpR X (binaryOp .Add) (λ x y H Q=>∃ i j,x=.str i/\y=.str j/\i.length+j.length<=sizeLine/\Q (.str (i++j)) H):=by
 intro Pn s σ H x y v u Q I rx ry h;obtain ⟨i,j,rfl,rfl,hz,q⟩:=h;obtain ⟨t,rfl⟩:=rx;obtain ⟨t',rfl⟩:=ry;exact add_str (λ t' tk=>⟨.str (i++j),H,I.tok _,⟨_,rfl⟩,q⟩) hz
def vals1 (r:bX [x] us):∃ u,us=[u]/\RelV x u:=by
 cases r with
 | cons r1 r2=>cases r2; exact ⟨_,rfl,r1⟩
theorem vals2 (r:bX [x,y] us):∃ u w',us=[u,w']/\RelV x u/\RelV y w':=by
 cases r with
 | cons r1 r2=>
  cases r2 with
  | cons r3 r4=>cases r4; exact ⟨_,_,rfl,r1,r3⟩
theorem zm:fw X (.type "int") (λ xs H Q=>(∃ i,xs=[.int i]/\Q (.int i) H)\/∃ k,xs=[.bl k]/\Q (.int (if k then 1 else 0)) H):=by
 intro Pn s σ H xs us Q I r h;rcases h with ⟨i,rfl,q⟩ | ⟨k,rfl,q⟩
 ·obtain ⟨u,rfl,t,rfl⟩:=vals1 r
  exact call_int_int ⟨.int i,H,I,⟨_,rfl⟩,q⟩
 ·obtain ⟨u,rfl,r1⟩:=vals1 r
  cases r1;exact call_int_bool ⟨.int (if k then 1 else 0),H,I.tok _,⟨_,rfl⟩,q⟩
def Pm (K:PB) (x:V) (H:Hp) (n:Nat):Prop:=
 match x with
 | .str y=>y.length<=sizeLine/\n=y.length
 | .byt y=>y.size<=sizeLine/\n=y.size
 | .ref p=>(∃ xs,SqL K H p xs/\n=xs.length)\/∃ xs,SqT K H p xs/\n=xs.length
 | _=>False
theorem A5:fw X (.builtin "len") (λ xs H Q=>∃ x n,xs=[x]/\Pm X.K x H n/\Q (.int n) H):=by
 intro Pn s σ H xs us Q I r h;obtain ⟨x,n,rfl,e,q⟩:=h;obtain ⟨u,rfl,rx⟩:=vals1 r;have hl:=p9;have hs:sizeLine=16777216:=Xz
 cases x with
 | str y=>
  obtain ⟨t,rfl⟩:=rx;obtain ⟨hy,e'⟩:y.length<=sizeLine/\n=y.length:=e;subst e';exact len_str (by omega) ⟨.int _,H,I.tok _,⟨_,rfl⟩,q⟩
 | byt y=>
  obtain ⟨t,rfl⟩:=rx;obtain ⟨hy,e'⟩:y.size<=sizeLine/\n=y.size:=e;subst e';exact PySem.W.len_bytes (by omega) ⟨.int _,H,I.tok _,⟨_,rfl⟩,q⟩
 | ref p=>
  cases rx;have e':(∃ xs,SqL X.K H p xs/\n=xs.length)\/∃ xs,SqT X.K H p xs/\n=xs.length:=e
  rcases e' with ⟨xs,hx,e'⟩ | ⟨xs,hx,e'⟩
  ·subst e'
   obtain ⟨its,r',pl,hz⟩:=I.list hx;have hlen:=r'.length;exact Calls.call_len_list pl.isList (by simp only [Zq]; omega) ⟨.int xs.length,H,I.tok _,⟨_,by simp only [Zq]; rw [hlen]⟩,q⟩
  ·subst e'
   obtain ⟨its,r',pl,hz⟩:=I.tuple hx;have hlen:=r'.length;exact len_tuple pl (by simp only [Zq]; omega) ⟨.int xs.length,H,I.tok _,⟨_,by simp only [Zq]; rw [hlen]⟩,q⟩
 | _=>exact (show False from e).elim
end
structure E7 (h:Heap) (x dx C:Addr) (mA:Str->Option Value):Prop where
 obj:h.get? x=some (PySem.W.instObj C dx)
 ns:h.Ns1 dx mA
 ne:dx≠x
theorem yd {h:Heap} {dx:Pz} {mA:Str->Px Py} (n:h.Ns1 dx mA):∃ od,h.get? dx=some od/\∀ name,PySem.W.lookIn name od=some (mA name):=by
 obtain ⟨o,es,ep,ho,hd,hk,_,hm⟩:=n;refine ⟨o,ho,λ name=>?_⟩;have e:=hm name;unfold nsFind findBy at e;rw [<- Array.find?_toList] at e;unfold PySem.W.lookIn;rw [hd];dsimp only;split
 ·rename_i y q
  rw [q] at e;exact Yo some e
 ·rename_i q
  rw [q] at e
  have a:es.toList.any (·.refKey)=false:=by
   rw [List.any_eq_false];intro y hy;obtain ⟨z,t,hkey⟩:=hk y (Array.mem_toList_iff.mp hy);simp [DictEntry.refKey,hkey]
  have a':¬ es.toList.any (·.refKey)=true:=by rw [a]; exact Zf
  rw [if_neg a'];exact Yo some e
theorem E7.look (I:E7 h x dx C mA):∃ od,PySem.W.InstAt h x (PySem.W.instObj C dx) C (some od)/\∀ name,PySem.W.lookIn name od=some (mA name):=
 let ⟨od,ho,hl⟩:=yd I.ns
 ⟨od,⟨I.obj,rfl,rfl,ho⟩,hl⟩
section
variable {prog:Program} {w:World} {A:Around} {E:Py->PD->Prop} {s:PD} {K:PB} {x dx C f:Pz} {mA:Str->Px Py} {name:Str} {v:Py}
theorem get_map (X:K.In s.heap) (I:E7 s.heap x dx C mA) (hg:PySem.W.plainGet K C name=true) (hh:PySem.W.hasDictIn K C=true)
  (ha:W.findIn K (.ref C) name=some none) (hv:mA name=some v) (hv':PySem.W.handedIn v=true) (h:Q v { s with toks:=s.toks+1 }):wpAny (model prog w) A (getAttr (.ref x) name expr) Q E s:=by
 obtain ⟨od,J,hl⟩:=I.look;exact PySem.W.get_value X J (PySem.W.plainGet_of hg).1 (PySem.W.findObj_own hh ha rfl (by rw [hl,hv])) hv' h
theorem AO (X:K.In s.heap) (I:E7 s.heap x dx C mA) (hg:PySem.W.plainGet K C name=true)
  (hf:W.findIn K (.ref C) name=some (some (.ref f))) (ht:PySem.W.isFn K (.ref f)=true) (hv:mA name=none) (h:Q (.ref f,[.ref x]) s):wpAny (model prog w) A (getMethod (.ref x) name pl) Q E s:=by
 obtain ⟨od,J,hl⟩:=I.look;exact PySem.W.method_fn X J (PySem.W.plainGet_of hg).1 (PySem.W.plainGet_of hg).2 hf (Y2.mp ht) (by show (PySem.W.lookIn name od).map (·.isSome)=some false; rw [hl,hv]; rfl) h
theorem Cr (X:K.In s.heap) (I:E7 s.heap x dx C mA)
  (hs:W.findIn K (.ref C) "__setattr__"=some (some (.builtin "object.__setattr__"))) (hp:PySem.W.plainOver K C=true) (ht:PySem.W.takerIn K C name=some none) (hh:PySem.W.hasDictIn K C=true)
  (hw:PySem.Within mA ns) (hsz:ns.length<=sizeLine)
  (h:∀ h',E7 h' x dx C (λ y=>if y=name then some v else mA y)->Heap.SameBut dx s.heap h'->Q () { s with heap:=h',toks:=s.toks+2 }):wpAny (model prog w) A (setAttr (.ref x) name v) Q E s:=by
 obtain ⟨od,J,hl⟩:=I.look;refine PySem.W.set_plain X J hs (PySem.W.osa_open (s:={ s with toks:=s.toks+1 }) (r:=none) X J hp ht λ b=>?_);obtain ⟨cd,hc,hd'⟩:=PySem.W.any_some hh;have hx:s.heap.get? x=some ⟨.ref C,some dx,.plain,#[]⟩:=I.obj;refine Zt (Z5 (Zt (Zt (wpAny_loadPart hx (Zt (PySem.W.Looks.here (s:={ s with toks:=s.toks+1 }) (PySem.W.looks_clsIn X hc) ?_))))));rw [hd'];refine Z5 (a:=some dx) (Zt (Z5 (Zt ?_)));refine wpAny_nsSet1 (s:={ s with toks:=s.toks+1 }) I.ns λ h' hn2 hs2=>?_
 obtain ⟨oD,esD,epD,hoD,hdD,hcD⟩:=hn2.count (PySem.Within.cons name v hw);refine Zt (wpAny_lookBehind hoD (by rw [hdD]; exact pastItsLine_dict (Z6 hcD (by rw [Zu]; omega))) ?_);exact Z5 (h _ ⟨(hs2.2 _ (Ne.symm I.ne)).trans I.obj,hn2,I.ne⟩ hs2)
theorem t6 (X:K.In s.heap) (hm:PySem.W.makesIn K C=true)
  (hi:W.findIn K (.ref C) "__init__"=some (some (.ref f))) (hf:PySem.W.typeIn K (.ref f)=some (.type "function"))
  (h : codeAny (model prog w) (A.under (.builtin "type.__call__" ⟨.ref C::vs,kw⟩)) (.call (.ref f) ⟨.ref (s.heap.objs.size+1)::vs,kw⟩) (PySem.W.InitBack (s.heap.objs.size+1) R)
    { s with heap:=(s.heap.push PySem.W.emptyDict).push (PySem.W.instObj C s.heap.objs.size) }):codeAny (model prog w) A (.call (.ref C) ⟨vs,kw⟩) R s:=by
 obtain ⟨hh,g,d,t,os⟩:=s;exact PySem.W.make_core (PySem.W.makes_of X hm) (PySem.W.looks_findIn X hi) (λ self=>PySem.W.bind_fn X self hf) (.inl rfl) h
end
noncomputable def mJ (f:Str) (v:V):My (Str×V)->My (Str×V)
 | []=>[(f,v)]
 | (g,x)::r=>if g=f then (g,v)::r else (g,x)::mJ f v r
theorem lU (f g:Str) (v:V):∀ fs:My (Str×V),(mJ f v fs).lookup g=if g=f then some v else fs.lookup g
 | []=>by
  show List.lookup g [(f,v)]=_
  by_cases h:g=f
  ·have hb:(g == f)=true:=Y2.mpr h
   simp only [List.lookup,hb,if_pos h]
  ·have hb:(g == f)=false:=Yz.mpr h
   simp only [List.lookup,hb,if_neg h]
 | (k,x)::r=>by
  have ih:=lU f g v r;rw [show mJ f v ((k,x)::r)=(if k=f then (k,v)::r else (k,x)::mJ f v r) from rfl]
  by_cases hk:k=f
  ·rw [if_pos hk]
   by_cases h:g=k
   ·have hb:(g == k)=true:=Y2.mpr h
    simp only [List.lookup,hb,if_pos (h.trans hk)]
   ·have hb:(g == k)=false:=Yz.mpr h
    simp only [List.lookup,hb,if_neg (λ e:g=f=>h (e.trans hk.symm))]
  ·rw [if_neg hk]
   by_cases h:g=k
   ·have hb:(g == k)=true:=Y2.mpr h
    simp only [List.lookup,hb,if_neg (λ e:g=f=>hk (h.symm.trans e))]
   ·have hb:(g == k)=false:=Yz.mpr h
    simp only [List.lookup,hb];exact ih
theorem lY (f:Str) (v:V):∀ fs:My (Str×V),f ∈ (mJ f v fs).map (·.1)/\∀ g,g ∈ fs.map (·.1)->g ∈ (mJ f v fs).map (·.1)
 | []=>⟨by simp [mJ],λ g h=>by simp at h⟩
 | (k,x)::r=>by
  obtain ⟨i1,i2⟩:=lY f v r;rw [show mJ f v ((k,x)::r)=(if k=f then (k,v)::r else (k,x)::mJ f v r) from rfl]
  by_cases hk:k=f
  ·rw [if_pos hk]
   subst hk;exact ⟨by simp,λ g h=>by simpa using h⟩
  ·rw [if_neg hk]
   refine ⟨?_,λ g h=>?_⟩
   ·rw [Zg]
    exact Za _ i1
   ·rw [Zg] at h ⊢
    rcases Zh.mp h with e | e
    · exact Zh.mpr (.inl e)
    · exact Za _ (i2 g e)
theorem lV (f:Str) (v:V):∀ fs:My (Str×V),(mJ f v fs).length<=fs.length+1
 | []=>by simp [mJ]
 | (k,x)::r=>by
  have ih:=lV f v r;rw [show mJ f v ((k,x)::r)=(if k=f then (k,v)::r else (k,x)::mJ f v r) from rfl]
  by_cases hk:k=f
  · rw [if_pos hk,Zu,Zu]; omega
  · rw [if_neg hk,Zu,Zu]; omega
def pb.some_of (r:pb (some v) o):∃ u,o=some u/\RelV v u:=by
 cases o with
 | none=>exact (show False from r).elim
 | some u=>exact ⟨u,rfl,r⟩
def pb.none_of (r:pb none o):o=none:=by
 cases o with
 | none=>rfl
 | some u=>exact (show False from r).elim
theorem yx (r:RelV v u):PySem.W.handedIn u=true:=by
 cases v with
 | non=>cases (show u=Value.none from r); rfl
 | bl b=>cases (show u=Value.bool b from r); rfl
 | int i=>obtain ⟨t,e⟩:=(show ∃ t,u=Value.int i t from r); cases e; rfl
 | str x=>obtain ⟨t,e⟩:=(show ∃ t,u=Value.str x t from r); cases e; rfl
 | byt b=>obtain ⟨t,e⟩:=(show ∃ t,u=Value.bytes b t from r); cases e; rfl
 | flt b=>obtain ⟨t,e⟩:=(show ∃ t,u=Value.float b t from r); cases e; rfl
 | ref a=>cases (show u=Value.ref a from r); rfl
 | ty n=>cases (show u=Value.type n from r); rfl
section
variable {P:Program} {w:World} {H H':Hp} {h h':Heap} {a C dx:Pz} {fs fs':My (Str×V)}
theorem oA (hok:HOk P w H h) (e:H a=some (.ins C dx fs)):∃ mA,E7 h a dx C mA/\(∀ f,pb (fs.lookup f) (mA f))/\PySem.Within mA (fs.map (·.1))/\fs.length<=1000/\H dx=some (.own a):=by
 obtain ⟨d,z,ne,ob,mA,n,r,q⟩:=(show dg P w H h a (.ins C dx fs) from hok a _ e)
 exact ⟨mA,⟨ob,n,ne⟩,r,q,z,d⟩
end
structure Cls (K:W.Frag) (C:Addr):Prop where
 pg:PySem.W.plainGet K C Str.empty=true
 hd:PySem.W.hasDictIn K C=true
 po:PySem.W.plainOver K C=true
 sa:W.findIn K (.ref C) "__setattr__"=some (some (.builtin "object.__setattr__"))
def Cls.get {K:PB} {C:Pz} (c:Cls K C) (f:Str):PySem.W.plainGet K C f=true:=c.pg
def dX (K:PB) (C:Pz) (f:Str):Prop:=W.findIn K (.ref C) f=some none
theorem dX.JQ {K:PB} {C:Pz} {f:Str} (n:dX K C f):PySem.W.takerIn K C f=some none:=by
 unfold PySem.W.takerIn;rw [show W.findIn K (.ref C) f=some none from n];rfl
structure B7 (K:W.Frag) (C:Addr) (m:Str) (f:Addr):Prop where
 at_:W.findIn K (.ref C) m=some (some (.ref f))
 fn:PySem.W.isFn K (.ref f)=true
 kp:W.keepIn K (.ref f)=true
section
variable {X:Cx} {Pn:My (Pz×Obj)} {σ:St} {H:Hp} {s:PD} {a C dx:Pz} {fs:My (Str×V)} {f:Str} {v:V} {A:Around} {E:Py->PD->Prop}
theorem vw (I:Inv X Pn σ H s) (e:H a=some (.ins C dx fs)) (c:Cls X.K C) (n:dX X.K C f) (l:fs.lookup f=some v)
  (h:∀ u s',Inv X Pn σ H s'->RelV v u->Q u s'):wpAny (model X.prog X.w) A (getAttr (.ref a) f b) Q E s:=by
 obtain ⟨mA,O,r,_,_,_⟩:=oA I.hok e;obtain ⟨u,hu,ru⟩:=pb.some_of (v:=v) (o:=mA f) (by rw [<- l]; exact r f);exact get_map I.kIn O (c.get f) c.hd n hu (yx ru) (h u _ (I.tok _) ru)
theorem nv (I:Inv X Pn σ H s) (e:H a=some (.ins C dx fs)) (c:Cls X.K C) (k:B7 X.K C m g) (l:fs.lookup m=none)
  (h:Q (.ref g,[.ref a]) s):wpAny (model X.prog X.w) A (getMethod (.ref a) m pl) Q E s:=by
 obtain ⟨mA,O,r,_,_,_⟩:=oA I.hok e;have hn:mA m=none:=pb.none_of (by rw [<- l]; exact r m);exact AO I.kIn O (c.get m) k.at_ k.fn hn h
theorem uZ (I:Inv X Pn σ H s) (e:H a=some (.ins C dx fs)) (c:Cls X.K C) (n:dX X.K C f) (hl:fs.length < 1000) (ry:RelV y u)
  (h:∀ s',Inv X Pn σ (upd H a (.ins C dx (mJ f y fs))) s'->Q () s'):wpAny (model X.prog X.w) A (setAttr (.ref a) f u) Q E s:=by
 obtain ⟨mA,O,r,wi,_,ho⟩:=oA I.hok e;have hz:(fs.map (·.1)).length<=sizeLine:=by rw [Zc,Xz]; omega
 refine Cr I.kIn O c.sa c.po n.JQ c.hd wi hz λ h' O' sb=>h _ ?_
 have hd:∃ o,h'.get? dx=some o:=let ⟨o,_,_,e',_⟩:=O'.ns; ⟨o,e'⟩
 refine I.write (x:=a) (e:=dx) (by rw [e]; exact True.intro) (.inr ho) (λ b q hb z=>(sb.2 b hb).trans z) hd ?_
 refine ⟨by rw [au O.ne]; exact ho,?_,O.ne,O'.obj,_,O'.ns,λ g=>?_,λ g hg=>?_⟩
 · have:=lV f y fs; omega
 ·show pb ((mJ f y fs).lookup g) (if g=f then some u else mA g)
  rw [lU]
  by_cases q:g=f
  · rw [if_pos q,if_pos q]; exact ry
  · rw [if_neg q,if_neg q]; exact r g
 ·by_cases q:g=f
  · rw [q]; exact (lY f y fs).1
  ·refine (lY f y fs).2 g (wi g λ z=>hg ?_)
   show (if g=f then some u else mA g)=none;rw [if_neg q]; exact z
theorem Inv.made (I:Inv X Pn σ H s):Inv X Pn σ (upd (upd H s.heap.objs.size (.own (s.heap.objs.size+1))) (s.heap.objs.size+1) (.ins C s.heap.objs.size []))
  { s with heap:=(s.heap.push PySem.W.emptyDict).push (PySem.W.instObj C s.heap.objs.size) }:=by
 have e1:(s.heap.push PySem.W.emptyDict).get? s.heap.objs.size=some PySem.W.emptyDict:=Heap.get?_push_size s.heap rfl
 have e2:((s.heap.push PySem.W.emptyDict).push (PySem.W.instObj C s.heap.objs.size)).get? (s.heap.objs.size+1)=some (PySem.W.instObj C s.heap.objs.size):=by
  have:=Heap.get?_push_size (s.heap.push PySem.W.emptyDict) (o:=PySem.W.instObj C s.heap.objs.size) rfl
  rwa [Heap.size_push] at this
 have e3:(s.heap.push PySem.W.emptyDict).Ns s.heap.objs.size (λ _=>none):=⟨PySem.W.emptyDict,#[],_,e1,rfl,(λ e he=>absurd he (by simp)),λ _=>rfl⟩
 have I1:=I.laid (a:=s.heap.objs.size) (o:=.own (s.heap.objs.size+1)) (h':=s.heap.push PySem.W.emptyDict) (t':=s.toks) (λ b u q=>Heap.get?_push_of_some _ q) (Zn _) ⟨_,e1⟩;refine I1.laid (a:=s.heap.objs.size+1) (o:=.ins C s.heap.objs.size []) (t':=s.toks) (λ b u q=>Heap.get?_push_of_some _ q) (Nat.le_of_eq (Heap.size_push _ _)) ?_
 have ne:s.heap.objs.size≠s.heap.objs.size+1:=Z2 (Y8 _);refine ⟨by rw [au ne,ay],Z8 _,ne,e2,λ _=>none,(Heap.Ns1.of_empty e3).at λ o q=>Heap.get?_push_of_some _ q,λ _=>True.intro,λ y hy=>absurd rfl hy⟩
theorem E5 (hb:attributeBase e f env (eval e env)=eval e env)
  (h:wpAny (model prog w) A (eval e env) (λ o s₁=>wpAny (model prog w) A (getAttr o f true) Q E s₁) E s):wpAny (model prog w) A (eval (.Attribute e f pos) env) Q E s:=
 Attribute_any_ h (by rw [arm_eval_Attribute,hb])
end
def Oe (K:PB) (ta:TE) (f:Str):TE:=λ σ H Q=>ta σ H λ x H1=>∃ a C dx fs v,x=.ref a/\H1 a=some (.ins C dx fs)/\Cls K C/\dX K C f/\fs.lookup f=some v/\Q v H1
def Ol (K:PB) (ta tv:TE) (f:Str):TS:=λ D σ H=>tv σ H λ y H1=>ta σ H1 λ x H2=>∃ a C dx fs,x=.ref a/\H2 a=some (.ins C dx fs)/\Cls K C/\dX K C f/\fs.length < 1000/\D.nx σ (upd H2 a (.ins C dx (mJ f y fs)))
section
variable {X:Cx} {o e value:Expr} {f:Str} {pos pos' tpos:Pos} {ta tv:TE}
theorem BB (he:PE X e ta) (hb:attributeBase e f X.env (eval e X.env)=eval e X.env):PE X (.Attribute e f pos) (Oe X.K ta f):=by
 intro Pn s σ H Q I h;refine E5 hb (thn (he Pn s σ H _ I h) λ u s1 ⟨x,H1,I1,rx,a,C,dx,fs,v,ex,ea,c,n,l,q⟩=>?_);subst ex;obtain rfl:u=Value.ref a:=rx;exact vw I1 ea c n l λ u' s2 I2 ru=>⟨v,H1,I2,ru,q⟩
theorem Gx (ha:PE X o ta) (hv:PE X value tv) (hs:swapsWith value (some (.Attribute o f pos')) pos.line X.env=pure false):PS X (.Assign [.Attribute o f pos'] value pos) (Ol X.K ta tv f):=by
 intro Pn s σ H D I h;refine plainObj_wpAny_Assign_Attribute (thn (hv Pn s σ H _ I h) λ u s1 ⟨y,H1,I1,ry,q⟩=>thn (ha Pn s1 σ H1 _ I1 q) λ ov s2 ⟨x,H2,I2,rx,a,C,dx,fs,ex,ea,c,n,l,q2⟩=>?_) hs;subst ex;obtain rfl:ov=Value.ref a:=rx;exact uZ I2 ea c n l ry λ s3 I3=>⟨σ,_,I3,q2⟩
end
section
variable {X:Cx} {Pn:My (Pz×Obj)} {σ:St} {H:Hp} {s:PD} {A:Around} {E:Py->PD->Prop} {Q:Py->PD->Prop} {c:Py} {b:Bool}
inductive vW (K:W.Frag) (H:Hp):V->Value->Prop where
 | non:vW K H .non (.type "NoneType")
 | bl (x:Bool):vW K H (.bl x) (.type "bool")
 | int (i:Int):vW K H (.int i) (.type "int")
 | str (x:Str):vW K H (.str x) (.type "str")
 | flt (x:UInt64):vW K H (.flt x) (.type "float")
 | lst {a:Addr} {xs:List V} (e:H a=some (.lst xs)):vW K H (.ref a) (.type "list")
 | frz {a:Addr} {o:Obj} {xs:List V} (e:H a=some (.frz o (.lst xs))):vW K H (.ref a) (.type "list")
 | tup {a:Addr} {xs:List V} (e:H a=some (.tup xs)):vW K H (.ref a) (.type "tuple")
 | dK {a:Addr} {kvs:List (Key×V)} (e:H a=some (.dK kvs)):vW K H (.ref a) (.type "dict")
 | dT {a:Addr} {kvs:List (List Key×V)} (e:H a=some (.dT kvs)):vW K H (.ref a) (.type "dict")
 | ins {a C dx:Addr} {fs:List (Str×V)} (e:H a=some (.ins C dx fs)) (cl:Cls K C) (ha:W.findIn K (.ref C) "__class__"=some (some (.builtin "object.__class__")))
  (hn:PySem.W.specialIn K (.builtin "object.__class__") "__get__"=some (some (.builtin "getset_descriptor.__get__"))) (htk:PySem.W.takesIn K (.builtin "object.__class__")=some true)
  (hm:PySem.W.mroIn K C (.type "object")=some true):vW K H (.ref a) (.ref C)
theorem yo (I:Inv X Pn σ H s) (rx:RelV x u) (ty:vW X.K H x t) (e:PySem.W.kitOne X.K t c=some b) (h:∀ tk,Q (.bool b) { s with toks:=tk }):wpAny (model X.prog X.w) A (call (.builtin "isinstance") [u,c]) Q E s:=by
 cases ty with
 | non=>cases (show u=Value.none from rx); exact Yi PySem.W.kitx_none I.kIn True.intro e (λ z=>nomatch z) h
 | bl y=>cases (show u=Value.bool y from rx); exact Yi PySem.W.kitx_bool I.kIn True.intro e (λ z=>nomatch z) h
 | int i=>obtain ⟨t,q⟩:=(show ∃ t,u=Value.int i t from rx); cases q; exact Yi PySem.W.kitx_int I.kIn True.intro e (λ z=>nomatch z) h
 | str y=>obtain ⟨t,q⟩:=(show ∃ t,u=Value.str y t from rx); cases q; exact Yi PySem.W.kitx_str I.kIn True.intro e (λ z=>nomatch z) h
 | flt y=>obtain ⟨t,q⟩:=(show ∃ t,u=Value.float y t from rx); cases q; exact Yi PySem.W.kitx_float I.kIn True.intro e (λ z=>nomatch z) h
 | @lst a xs ea=>
  cases (show u=Value.ref a from rx);obtain ⟨_,_,n,_,h1⟩:=(show dg X.prog X.w H s.heap a (.lst xs) from I.hok a _ ea)
  exact Yi PySem.W.kitx_list I.kIn ⟨_,h1,rfl⟩ e (λ z=>nomatch z) h
 | @frz a ob xs ea=>
  cases (show u=Value.ref a from rx);obtain ⟨_,_,_,n,_,h1⟩:=(show dg X.prog X.w H s.heap a (.frz ob (.lst xs)) from I.hok a _ ea)
  exact Yi PySem.W.kitx_list I.kIn ⟨_,h1,rfl⟩ e (λ z=>nomatch z) h
 | @tup a xs ea=>
  cases (show u=Value.ref a from rx);obtain ⟨_,_,_,p⟩:=(show dg X.prog X.w H s.heap a (.tup xs) from I.hok a _ ea)
  obtain ⟨o,h1,h2,_⟩:=p;exact Yi PySem.W.kitx_tuple I.kIn ⟨o,h1,h2⟩ e (λ z=>nomatch z) h
 | @dK a kvs ea=>
  cases (show u=Value.ref a from rx);obtain ⟨_,_,vs,_,p⟩:=(show dg X.prog X.w H s.heap a (.dK kvs) from I.hok a _ ea)
  obtain ⟨o,es,ep,h1,h2,_⟩:=p;exact Yi PySem.W.kitx_dict I.kIn ⟨o,h1,h2.1⟩ e (λ z=>nomatch z) h
 | @dT a kvs ea=>
  cases (show u=Value.ref a from rx);obtain ⟨_,_,xs,_,o,es,ep,h1,h2,_⟩:=(show dg X.prog X.w H s.heap a (.dT kvs) from I.hok a _ ea)
  exact Yi PySem.W.kitx_dict I.kIn ⟨o,h1,h2.1⟩ e (λ z=>nomatch z) h
 | @ins a C dx fs ea cl ha hn htk hm=>
  cases (show u=Value.ref a from rx);obtain ⟨mA,O,_⟩:=oA I.hok ea;obtain ⟨od,J,_⟩:=O.look;exact Yi (PySem.W.kitx_own (cl.get _) cl.hd ha hn htk hm) I.kIn J e (λ z=>nomatch z) h
end
structure dD (k:Nat) (A:Around):Prop where
 hd:A.handled=none
 dp:A.depth+3 * k+5 < recursionLimit
 un:A.units+16 * k+200 < cLine
def dD.mono (r:dD k A) (h:j<=k):dD j A:=⟨r.hd,by have:=r.dp; omega,by have:=r.un; omega⟩
theorem dD.deeper (r:dD (k+1) A) (env:Env):dD k (A.deeper env):=
 ⟨r.hd,by have:=r.dp; show A.depth+1+3 * k+5 < _; omega,by have:=r.un; show A.units+3+16 * k+200 < _; omega⟩
theorem vh {A:Around} {C:Pz} {us:My Py} {kw:My (Str×Py)}:(A.under (.builtin "type.__call__" ⟨.ref C::us,kw⟩)).depth=A.depth+1:=by
 first | rfl | simp [Around.under,Code.weight,Code.isCreation,Code.isGuard,Code.isCaller,Code.frames,Code.isFrame,guardIds]
theorem vg {A:Around} {C:Pz} {us:My Py} {kw:My (Str×Py)}:(A.under (.builtin "type.__call__" ⟨.ref C::us,kw⟩)).units=A.units+1:=by
 first | rfl | simp [Around.under,Code.cUnits,Code.frames,Code.isFrame]
theorem dD.make (r:dD (k+1) A) (C:Pz) (us:My Py) (kw:My (Str×Py)):dD k (A.under (.builtin "type.__call__" ⟨.ref C::us,kw⟩)):=
 ⟨r.hd,by have:=r.dp; rw [vh]; omega,by have:=r.un; rw [vg]; omega⟩
def dD.depth (r:dD k A):A.depth < recursionLimit:=by have:=r.dp; omega
def dD.units (r:dD k A):A.units+64 < cLine:=by have:=r.un; omega
def Io:TA:=λ _ H Q=>Q [] H
def uW (ta:TE) (tr:TA):TA:=λ σ H Q=>ta σ H λ x H1=>tr σ H1 λ xs H2=>Q (x::xs) H2
section
variable {X:Cx} {e:Expr} {es:My Expr} {te:TE} {t:TA} {pos:Pos}
def du:PA X [] Io:=λ _ _ _ _ H Q I h=>Calls.spliced_nil ⟨[],H,I,.nil,h⟩
theorem a8 (ha:PE X e te) (hr:PA X es t) (hs:Se X e es:=by rfl):PA X (e::es) (uW te t):=by
 intro pos Pn s σ H Q I h;rw [hs];show wpAny _ _ (spliced ((false,eval e X.env)::backTo pos (starEach es X.env))) _ _ s;refine Xc (thn (ha Pn s σ H _ I h) λ u s1 ⟨x,H1,I1,r1,q1⟩=>?_);exact thn (hr pos Pn s1 σ H1 _ I1 q1) λ us s2 ⟨xs,H2,I2,r2,q2⟩=>⟨x::xs,H2,I2,.cons r1 r2,q2⟩
def N8 (t:TA):TE:=λ σ H Q=>t σ H λ xs H1=>xs.length<=sizeLine/\∀ p,H1 p=none->Q (.ref p) (upd H1 p (.tup xs))
def Oc (t:TA):TE:=λ σ H Q=>t σ H λ xs H1=>xs.length<=sizeLine/\∀ p,H1 p=none->Q (.ref p) (upd H1 p (.lst xs))
theorem xq {x1} (h:PA X es t):PE X (.Tuple es x1 pos) (N8 t):=by
 intro Pn s σ H Q I hq;refine wpAny_Tuple_spliced (thn (h pos Pn s σ H _ I hq) λ us s1 ⟨xs,H1,I1,r,z,q⟩=>⟨by rw [<- r.length]; exact z,?_⟩);have hf:H1 s1.heap.objs.size=none:=I1.hok.fresh (Zn _);refine ⟨.ref s1.heap.objs.size,upd H1 s1.heap.objs.size (.tup xs),I1.laid (t':=s1.toks) (λ b u e=>Heap.get?_push_of_some _ e) (Zn _) ?_,rfl,q _ hf⟩;exact ⟨z,us,r,⟨_,Heap.get?_push_size _ rfl,rfl,_,rfl⟩⟩
theorem xr (h:PA X es t):PE X (.List es pos) (Oc t):=by
 intro Pn s σ H Q I hq;refine wpAny_List_spliced (thn (h pos Pn s σ H _ I hq) λ us s1 ⟨xs,H1,I1,r,z,q⟩=>⟨by rw [<- r.length]; exact z,?_⟩);have hf:H1 s1.heap.objs.size=none:=I1.hok.fresh (Zn _);refine ⟨.ref s1.heap.objs.size,upd H1 s1.heap.objs.size (.lst xs),I1.laid (t':=s1.toks) (λ b u e=>Heap.get?_push_of_some _ e) (Zn _) ?_,rfl,q _ hf⟩;exact ⟨z,us,0,r,Heap.get?_push_size _ rfl⟩
end
abbrev Sp:=My V->Hp->VK->XK->Prop
abbrev CXT:=My Env->Hp->PD->XK->Py->PD->Prop
structure E9 (P:Program) (w:World) (K:W.Frag) (mg:Str->Option Value) (base:Heap) (A:Around) (outer:List Env) (s:Shared) (H:Hp):Prop where
 frames:A.frames=some outer
 mod:Mod K mg base
 bs:∀ b o,base.get? b=some o->s.heap.get? b=some o/\H b=none
 bsz:base.objs.size<=s.heap.objs.size
 ug:s.heap.FunFrames base outer
 frf:∀ b ∈ frs outer,H b=none
 hok:HOk P w H s.heap
 bare:AllBare s.gens
def CE (outer:My Env) (P:Program) (w:World) (H:Hp) (s:PD) (Q:VK) (u:Py) (s':PD):Prop:=
 ∃ v H',s'.os=s.os/\AllBare s'.gens/\Un (frs outer) [] H H' s.heap s'.heap/\HOk P w H' s'.heap/\RelV v u/\Q v H'
def CR (CX:CXT) (outer:My Env) (P:Program) (w:World) (H:Hp) (s:PD) (Q:VK) (E:XK) (r:Result) (s':PD):Prop:=
 match r with
 | .ok (.ret u)=>CE outer P w H s Q u s'
 | .ok _=>False
 | .error e=>CX outer H s E e s'
structure gO (P:Program) (w:World) (K:W.Frag) (mg:Str->Option Value) (base:Heap) (CX:CXT) (k:Nat) (f:Addr) (fd:FuncData) (ps:List Str) (sp:Sp):Prop where
 len:∀ vs H Q E,sp vs H Q E->vs.length=ps.length
 run:∀ (A:Around) (outer:List Env) (s:Shared) (H:Hp) (args:Args) (us:List Value) (vs:List V) (Q:VK) (E:XK),dD k A->E9 P w K mg base A outer s H->BindsTo s fd args (ps.zip us)->bX vs us->sp vs H Q E->codeAny (model P w) A (.call (.ref f) args) (CR CX outer P w H s Q E) s
theorem gO.imp {P:Program} {w:World} {K:PB} {mg:Str->Px Py} {base:Heap} {CX:CXT} {k:Nat} {f:Pz} {fd:FuncData} {ps:My Str} {sp sp':Sp} (F:gO P w K mg base CX k f fd ps sp)
  (h:∀ vs H Q E,sp' vs H Q E->sp vs H Q E):gO P w K mg base CX k f fd ps sp':=
 ⟨λ vs H Q E q=>F.len vs H Q E (h _ _ _ _ q),λ A outer s H args us vs Q E hr he hb hv hs=>F.run A outer s H args us vs Q E hr he hb hv (h _ _ _ _ hs)⟩
theorem E9.make {P:Program} {w:World} {K:PB} {mg:Str->Px Py} {base:Heap} {A:Around} {outer:My Env} {s:PD} {H:Hp} (e:E9 P w K mg base A outer s H) (C:Pz) (us:My Py) (kw:My (Str×Py)):E9 P w K mg base (A.under (.builtin "type.__call__" ⟨.ref C::us,kw⟩)) outer s H:=⟨by first | exact e.frames | (simpa [Around.under,Code.envs,Code.isFrame,pushEnvs] using e.frames),e.mod,e.bs,e.bsz,e.ug,e.frf,e.hok,e.bare⟩
section
variable {X:Cx} {Pn:My (Pz×Obj)} {σ:St} {H:Hp} {s s':PD}
def Inv.JB (I:Inv X Pn σ H s):E9 X.prog X.w X.K X.mg X.base X.A X.stack s H:=
 ⟨I.ok.frames,I.ok.mod,I.bs,Z6 I.ok.bsz I.sz,I.stack,I.jW,I.hok,I.bare⟩
theorem Inv.after (I:Inv X Pn σ H s) (h:CE X.stack X.prog X.w H s Q u s'):EP X Pn σ Q u s':=by
 obtain ⟨v,H',os,bare,un,hok,r,q⟩:=h;obtain ⟨hh,g,d,t,os'⟩:=s';obtain rfl:os'=s.os:=os;exact ⟨v,H',I.call (h':=hh) (g':=g) (d':=d) (t':=t) (ch:=[]) un hok bare (λ b z=>absurd z (by simp)),r,q⟩
end
def zW (sp:Sp) (dvs:My V) (E:XK) (t:TA):TE:=λ σ H Q=>t σ H λ vs H1=>sp (vs++dvs) H1 Q E
def Cj (C:Pz) (m:Str) (sp:Sp) (dvs:My V) (E:XK) (ta:TE) (t:TA):TE:=λ σ H Q=>ta σ H λ x H1=>∃ a dx fs,x=.ref a/\H1 a=some (.ins C dx fs)/\fs.lookup m=none/\t σ H1 λ vs H2=>sp (x::(vs++dvs)) H2 Q E
def JW (C:Pz) (sp:Sp) (dvs:My V) (E:XK) (t:TA):TE:=λ σ H Q=>t σ H λ vs H1=>∀ x dx,H1 x=none->H1 dx=none->dx≠x->sp (.ref x::(vs++dvs)) (upd (upd H1 dx (.own x)) x (.ins C dx [])) (λ v H2=>v=.non/\Q (.ref x) H2) E
def Binds (K:PB) (fd:FuncData) (ps:My Str) (ds:My Py):Prop:=
 ∀ (s:PD) (us:My Py),K.In s.heap->(us++ds).length=ps.length->BindsTo s fd ⟨us,[]⟩ (ps.zip (us++ds))
theorem Binds.all {K:PB} {fd:FuncData} {ps:My Str} (h:∀ us:My Py,us.length=ps.length->bindArgs fd ⟨us,[]⟩=pure (ps.zip us)):Binds K fd ps []:=λ s us _ hl=>by
 rw [Zv] at hl ⊢;exact .of_eq (h us hl)
def jR (CX:CXT) (X:Cx) (E:XK):Prop:=∀ (Pn:My (Pz×Obj)) (σ:St) (H:Hp) (s:PD) (e:Py) (s':PD),Inv X Pn σ H s->CX X.stack H s E e s'->X.xe e s'
section
variable {X:Cx} {CX:CXT} {k:Nat} {f C:Pz} {fd:FuncData} {ps:My Str} {sp:Sp} {dvs:My V} {ds:My Py} {E:XK} {x m:Str} {p pos Po:Pos} {e o:Expr} {es:My Expr} {ta:TE} {t:TA}
theorem Bp (F:gO X.prog X.w X.K X.mg X.base CX k f fd ps sp) (hr:dD k X.A) (hb:Binds X.K fd ps ds) (hd:bX dvs ds) (hx:jR CX X E)
  (I:Inv X Pn σ H s) (r:bX vs us) (h:sp (vs++dvs) H Q E):wpAny (model X.prog X.w) X.A (call (.ref f) us) (EP X Pn σ Q) X.xe s:=by
 have r2:bX (vs++dvs) (us++ds):=r.append hd;have hl:(us++ds).length=ps.length:=by rw [<- r2.length]; exact F.len _ _ _ _ h
 refine wpAny_call (codeAny_mono (F.run X.A X.stack s H ⟨us,[]⟩ (us++ds) (vs++dvs) Q E hr I.JB (hb s us I.kIn hl) r2 h) λ r s' hq=>?_)
 cases r with
 | error e=>exact hx Pn σ H s e s' I hq
 | ok fl=>
  cases fl with
  | ret u=>exact I.after hq
  | next=>exact False.elim hq
  | brk=>exact False.elim hq
  | cont=>exact False.elim hq
theorem lL (F:gO X.prog X.w X.K X.mg X.base CX k f fd ps sp) (hr:dD k X.A) (hg:Gl X x) (hm:X.mg x=some (.ref f)) (hk:W.keepIn X.K (.ref f)=true) (hb:Binds X.K fd ps ds) (hd:bX dvs ds) (hx:jR CX X E)
  (ha:PA X (e::es) t) (hdb:Dg x:=by decide) (he:Se X e es:=by rfl) (hpl:Sb X pos es:=by rfl):PE X (.Call (.Name x p) (e::es) [] pos) (zW sp dvs E t):=by
 intro Pn s σ H Q I h;refine Yv (j4 I hg hm ?_ hdb);refine Xd (h₀:=X.base) I.ok.mod.kin hk (thn (ha pos Pn s σ H _ I h) λ us s1 ⟨vs,H1,I1,r,q⟩=>⟨I1.kIn,?_⟩) he hpl;exact Bp F hr hb hd hx I1 r q
theorem rM (he:PE X o ta) (c:Cls X.K C) (hm:B7 X.K C m f) (F:gO X.prog X.w X.K X.mg X.base CX k f fd ps sp) (hr:dD k X.A) (hb:Binds X.K fd ps ds) (hd:bX dvs ds) (hx:jR CX X E) (ha:PA X (e::es) t)
  (hst:Se X e es:=by rfl) (hpl:Sb X pos es:=by rfl)
  (ht:eval (.Call (.Attribute o m Po) (e::es) [] pos) X.env=(do
    let ov <- eval o X.env
    standAt Po.atName
    let (f,first) <- holding [ov] (getMethod ov m pl)
    callWith pos f first (backTo pos (starEach (e::es) X.env)) (backToKw pos (keywordEach [] X.env))):=by rfl):PE X (.Call (.Attribute o m Po) (e::es) [] pos) (Cj C m sp dvs E ta t):=by
 intro Pn s σ H Q I h;refine PySem.W.methodCall_KW (pl:=pl) (thn (he Pn s σ H _ I h) λ u s1 ⟨x,H1,I1,rx,a,dx,fs,ex,ea,l,q⟩=>?_) ht;subst ex;obtain rfl:u=Value.ref a:=rx;refine nv I1 ea c hm l ?_
 refine Xd (first:=[.ref a]) (h₀:=X.base) I.ok.mod.kin hm.kp (thn (ha pos Pn s1 σ H1 _ I1 q) λ us s2 ⟨vs,H2,I2,r,q2⟩=>⟨I2.kIn,?_⟩) hst hpl;exact Bp (us:=.ref a::us) (vs:=.ref a::vs) F hr hb hd hx I2 (.cons rfl r) q2
structure Mk (K:W.Frag) (C f:Addr):Prop where
 makes:PySem.W.makesIn K C=true
 init:W.findIn K (.ref C) "__init__"=some (some (.ref f))
 fn:PySem.W.isFn K (.ref f)=true
 kp:W.keepIn K (.ref C)=true
theorem Ae (M:Mk X.K C f) (F:gO X.prog X.w X.K X.mg X.base CX k f fd ps sp) (hr:dD (k+1) X.A) (hb:Binds X.K fd ps ds) (hd:bX dvs ds)
  (hx:jR CX X E) (I:Inv X Pn σ H s) (r:bX vs us)
  (h:∀ x dx,H x=none->H dx=none->dx≠x->sp (.ref x::(vs++dvs)) (upd (upd H dx (.own x)) x (.ins C dx [])) (λ v H2=>v=.non/\Q (.ref x) H2) E):wpAny (model X.prog X.w) X.A (call (.ref C) us) (EP X Pn σ Q) X.xe s:=by
 have hq:=h (s.heap.objs.size+1) s.heap.objs.size (I.hok.fresh (Nat.le_succ _)) (I.hok.fresh (Zn _)) (Z2 (Y8 _));have I2:=Inv.made (C:=C) I;have r2:bX (V.ref (s.heap.objs.size+1)::(vs++dvs)) (Value.ref (s.heap.objs.size+1)::(us++ds)):=.cons rfl (r.append hd)
 have hl:(Value.ref (s.heap.objs.size+1)::us++ds).length=ps.length:=by
  have e:=r2.length;rw [F.len _ _ _ _ hq] at e;exact e.symm
 refine wpAny_call (t6 (f:=f) I.kIn M.makes M.init (Y2.mp M.fn) (codeAny_mono (F.run _ X.stack _ _ ⟨Value.ref (s.heap.objs.size+1)::us,[]⟩ (Value.ref (s.heap.objs.size+1)::(us++ds)) _ _ E (hr.make C us [])
  (I2.JB.make C us []) (hb _ (Value.ref (s.heap.objs.size+1)::us) I2.kIn hl) r2 hq) λ r s' hq'=>?_))
 cases r with
 | error e=>exact hx Pn σ _ _ e s' I2 hq'
 | ok fl=>
  cases fl with
  | ret u=>
   obtain ⟨v,H',I3,rv,ev,q3⟩:=I2.after hq';subst ev;exact ⟨rv,⟨V.ref (s.heap.objs.size+1),H',I3,rfl,q3⟩⟩
  | next=>exact False.elim hq'
  | brk=>exact False.elim hq'
  | cont=>exact False.elim hq'
theorem CV (M:Mk X.K C f) (F:gO X.prog X.w X.K X.mg X.base CX k f fd ps sp) (hr:dD (k+1) X.A) (hg:Gl X x) (hm:X.mg x=some (.ref C)) (hb:Binds X.K fd ps ds) (hd:bX dvs ds) (hx:jR CX X E)
  (ha:PA X (e::es) t) (hdb:Dg x:=by decide) (he:Se X e es:=by rfl) (hpl:Sb X pos es:=by rfl):PE X (.Call (.Name x p) (e::es) [] pos) (JW C sp dvs E t):=by
 intro Pn s σ H Q I h;refine Yv (j4 I hg hm ?_ hdb);refine Xd (h₀:=X.base) I.ok.mod.kin M.kp (thn (ha pos Pn s σ H _ I h) λ us s1 ⟨vs,H1,I1,r,q⟩=>⟨I1.kIn,?_⟩) he hpl;exact Ae M F hr hb hd hx I1 r q
end
structure cM (N P:List Str) (sc:Scope):Prop where
 kind:sc.kind=.function
 co:sc.isCoroutine=false
 gen:sc.isGenerator=false
 nd:N.Nodup
 pre:N.take P.length=P
 par:∀ x ∈ P,sc.names.lookup x=some .local\/sc.names.lookup x=some .cell
 G3:∀ y ∈ sc.names,y.2≠.free
theorem qJ {kindOf:Str->Px NameKind} {x:Str}:∀ {binds:My (Str×Py)} {m:Str->Px Py},(∀ v,(x,v) ∉ binds)->bindL kindOf binds m x=m x
 | [],_,_=>rfl
 | (n,v)::r,m,h=>by
  unfold bindL;rw [qJ λ w hw=>h w (Za _ hw)];split
  ·have:x≠n:=by rintro rfl; exact h v Zd
   simp [this]
  · rfl
theorem qL {kindOf:Str->Px NameKind} {x:Str}:∀ {binds:My (Str×Py)} {m:Str->Px Py},(∀ v,(x,v) ∉ binds)->bindC kindOf binds m x=m x
 | [],_,_=>rfl
 | (n,v)::r,m,h=>by
  unfold bindC;rw [qL λ w hw=>h w (Za _ hw)];split
  · rfl
  ·have:x≠n:=by rintro rfl; exact h v Zd
   simp [this]
theorem qK {kindOf:Str->Px NameKind} {x:Str} {v:Py}:∀ {P:My Str} {vs:My Py} {i:Nat} {m:Str->Px Py},P.Nodup->P[i]?=some x->vs[i]?=some v->kindOf x=some .local->bindL kindOf (P.zip vs) m x=some v
 | [],_,_,_,_,h,_,_=>by simp at h
 | _::_,[],_,_,_,_,h,_=>by simp at h
 | p::P,w::vs,0,m,nd,h1,h2,hk=>by
  simp at h1 h2; subst h1; subst h2
  show bindL kindOf ((p,w)::P.zip vs) m p=_;unfold bindL;rw [qJ λ v hv=>(Zw.mp nd).1 (List.of_mem_zip hv).1,if_pos hk];simp
 | p::P,w::vs,i+1,m,nd,h1,h2,hk=>by
  show bindL kindOf ((p,w)::P.zip vs) m x=_;unfold bindL;exact qK (i:=i) (Zw.mp nd).2 (by simpa using h1) (by simpa using h2) hk
theorem qM {kindOf:Str->Px NameKind} {x:Str} {v:Py}:∀ {P:My Str} {vs:My Py} {i:Nat} {m:Str->Px Py},P.Nodup->P[i]?=some x->vs[i]?=some v->kindOf x≠some .local->bindC kindOf (P.zip vs) m x=some v
 | [],_,_,_,_,h,_,_=>by simp at h
 | _::_,[],_,_,_,_,h,_=>by simp at h
 | p::P,w::vs,0,m,nd,h1,h2,hk=>by
  simp at h1 h2; subst h1; subst h2
  show bindC kindOf ((p,w)::P.zip vs) m p=_;unfold bindC;rw [qL λ v hv=>(Zw.mp nd).1 (List.of_mem_zip hv).1,if_neg hk];simp
 | p::P,w::vs,i+1,m,nd,h1,h2,hk=>by
  show bindC kindOf ((p,w)::P.zip vs) m x=_;unfold bindC;exact qM (i:=i) (Zw.mp nd).2 (by simpa using h1) (by simpa using h2) hk
def start (N:My Str) (vs:My V):St:=vs.map some++List.replicate (N.length - vs.length) none
noncomputable def qB (CX:CXT) (P:Program) (w:World) (K:PB) (mg:Str->Px Py) (base:Heap) (N:My Str) (qual:Str) (scope:Scope) (f:Pz) (cd:Py) (A:Around) (outer:My Env) (s:PD) (H:Hp) (E:XK):Cx where
 prog:=P
 w:=w
 K:=K
 mg:=mg
 base:=base
 A:=A.deeper (envOfC qual scope s.heap.objs.size f cd)
 N:=N
 s₀:=s
 H₀:=H
 env:=envOfC qual scope s.heap.objs.size f cd
 outer:=outer
 stack:=envOfC qual scope s.heap.objs.size f cd::outer
 ex:=[]
 calm:=true
 fn:=λ _=>true
 pn:=[]
 xe:=λ e s'=>wpAny (model P w) (A.deeper (envOfC qual scope s.heap.objs.size f cd)) (leaving (envOfC qual scope s.heap.objs.size f cd) e) (λ _ s''=>CX outer H s E e s'') (λ e' s''=>CX outer H s E e' s'') s'
theorem uC {sc:Scope} {n:Nat} {x:Str} (h:sc.names.lookup x=some .cell):∃ c,(cellsFrom n sc.names []).lookup x=some c:=by
 have q:=PySem.W.cellsFrom_some sc.names n [] (.inl h);exact Yj.mp q
theorem yp {CX:CXT} {P:Program} {w:World} {K:PB} {mg:Str->Px Py} {base:Heap} {N ps:My Str} {qual:Str} {scope:Scope} {f:Pz} {cd:Py} {A:Around} {outer:My Env} {s s1:PD} {H:Hp} {E:XK} {us:My Py} {vs:My V}
  (S:cM N ps scope) (hd:A.handled=none) (e0:E9 P w K mg base A outer s H) (hl:vs.length=ps.length) (r:bX vs us)
  (x:InCallC s s.heap.objs.size (bindL (envOfC qual scope s.heap.objs.size f cd).kindOf (ps.zip us) λ _=>none) (cellsFrom (s.heap.objs.size+1) scope.names []) (bindC (envOfC qual scope s.heap.objs.size f cd).kindOf (ps.zip us) λ _=>none) s1):Inv (qB CX P w K mg base N qual scope f cd A outer s H E) [] (start N vs) H s1:=by
 have hpl:ps.length<=N.length:=by have:=Yo List.length S.pre; rw [Xn] at this; omega
 obtain ⟨h1,tk,rfl,hk⟩:=x.done;have noA:∀ b:Pz,b ∉ (qB CX P w K mg base N qual scope f cd A outer s H E).ex:=λ b z=>absurd (show b ∈ ([]:My Pz) from z) (by simp)
 refine ⟨⟨e0.mod,S.kind,rfl,rfl,Zn _,λ y z c h1 h2=>?_,λ y hy=>?_,λ y c _ h=>?_,λ _=>hd,Around.frames_deeper e0.frames,.inr ⟨rfl,rfl⟩,λ b z=>absurd z (noA b),e0.bs,e0.bsz,λ b _ _=>noA b,λ b z=>absurd z (noA b),e0.ug,e0.frf⟩,
  rfl,e0.bare,Un.kept hk,⟨_,x.toInCall.ns,λ i y v h1 h2 h3=>?_⟩,λ y c h=>⟨_,x.cell y c h⟩,e0.hok.fresh (Zn _),λ y c h=>?_,λ p hp=>absurd (show p ∈ ([]:My (Pz×Obj)) from hp) (by simp),e0.hok.kept hk,?_⟩
 · exact name_of_addr x.apart (Yl h1) (Yl h2)
 ·have hy:scope.names.lookup y=some .cell\/scope.names.lookup y=some .free:=hy
  rcases hy with hy | hy
  · exact uC hy
  · exact absurd rfl (S.G3 _ (Yl hy))
 · exact Xa (x.above y c (Yl h))
 ·have hi:i < vs.length:=by
   unfold start at h2
   by_cases hi:i < vs.length
   · exact hi
   ·rw [List.getElem?_append_right (by simpa using hi)] at h2
    rw [List.getElem?_replicate] at h2;split at h2 <;> cases h2
  have ha:vs[i]?=some v:=by
   unfold start at h2;rw [List.getElem?_append_left (by simpa using hi),List.getElem?_map] at h2
   cases e:vs[i]? with
   | none=>rw [e] at h2; cases h2
   | some a=>rw [e] at h2; cases h2; rfl
  obtain ⟨u,hu,rv⟩:=r.get ha
  have hp:ps[i]?=some y:=by
   rw [<- S.pre,List.getElem?_take_of_lt (by omega)]; exact h1
  have ndP:ps.Nodup:=by rw [<- S.pre]; exact S.nd.sublist (List.take_sublist _ _)
  refine ⟨u,rv,?_⟩;rcases S.par y (List.mem_of_getElem? hp) with k | k
  · exact .inl ⟨k,qK ndP hp hu k⟩
  ·obtain ⟨c,e⟩:=uC (n:=s.heap.objs.size+1) k
   refine .inr ⟨.inl k,c,e,?_⟩;have q:=x.cell y c e;rw [qM ndP hp hu (by show scope.names.lookup y≠_; rw [k]; decide)] at q;exact q
 · exact e0.hok.fresh (Xa (x.above y c (Yl h)))
 ·unfold start
  show _=N.length;rw [Z1,Zc,List.length_replicate];omega
theorem HG {CX:CXT} {P:Program} {w:World} {K:PB} {mg:Str->Px Py} {base:Heap} {k:Nat} {f:Pz} {name qual:Str} {params:Arguments} {body:My Stmt} {scope:Scope} {dV kV doc pm cdv ct oc:Py} {an od:Px Pz}
  {osl:Array (Px Py)} {N ps:My Str} {sp:Sp} (lk:K.lookup f=some ⟨oc,od,.func (PySem.W.fnOf name qual params body scope dV kV doc pm an cdv ct),osl⟩) (hcd:PySem.W.codeIn K cdv qual=true) (S:cM N ps scope)
  (len:∀ vs H Q E,sp vs H Q E->vs.length=ps.length)
  (hbody:∀ (A:Around) (outer:My Env) (s:PD) (H:Hp) (vs:My V) (Q:VK) (E:XK),dD k (A.deeper (envOfC qual scope s.heap.objs.size f cdv))->sp vs H Q E->∃ t,PSs (qB CX P w K mg base N qual scope f cdv A outer s H E) body t/\t { nx:=λ _ H'=>Q .non H',rt:=Q } (start N vs) H):gO P w K mg base CX (k+1) f (PySem.W.fnOf name qual params body scope dV kV doc pm an cdv ct) ps sp:=by
 refine ⟨len,λ A outer s H args us vs Q E hr e0 hb r hsp=>?_⟩;have hl:=len _ _ _ _ hsp;have KX:K.In s.heap:=e0.mod.kin.keeps λ b o e=>(e0.bs b o e).1
 have lim:s.heap.NoLimit:=e0.mod.nolimit.keeps λ b o e=>(e0.bs b o e).1
 have hkind:∀ y ∈ ps.zip us,scope.names.lookup y.1=some .local\/(scope.names.lookup y.1=some .cell/\((cellsFrom (s.heap.objs.size+1) scope.names []).lookup y.1).isSome=true):=λ ⟨n,v⟩ hy=>by
  rcases S.par n (List.of_mem_zip hy).1 with q | q
  · exact .inl q
  · exact .inr ⟨q,PySem.W.cellsFrom_some _ _ _ (.inl q)⟩
 refine codeAny_call_function hr.depth (KX _ _ lk) rfl S.co S.gen rfl (PySem.W.codeRec_of KX hcd) (hb _ _ _ _ ?_);refine wpAny_newFunctionEnv_cells S.kind hkind λ env he s1 x=>?_
 subst he;refine ⟨lim.keeps x.toInCall.keep,codeAny_func ?_⟩;obtain ⟨t,ht,hq⟩:=hbody A outer s H vs Q E (hr.deeper _) hsp;have I:Inv (qB CX P w K mg base N qual scope f cdv A outer s H E) [] (start N vs) H s1:=yp S hr.hd e0 hl r x;refine Yu (ht [] s1 (start N vs) H _ I hq) (λ fl s' hs=>?_) λ e s' hs=>hs
 have fin:∀ {σ':St} {H':Hp} {v:V} {u:Py},Inv (qB CX P w K mg base N qual scope f cdv A outer s H E) [] σ' H' s'->RelV v u->Q v H'->CE outer P w H s Q u s':=
  λ {σ' H' v u} J rv q=>⟨v,H',J.os,J.bare,J.base,J.hok,rv,q⟩
 cases fl with
 | ret u=>
  obtain ⟨v,σ',H',J,rv,q⟩:=hs;exact fin J rv q
 | next=>
  obtain ⟨σ',H',J,q⟩:=hs;exact fin (v:=V.non) (u:=Value.none) J rfl q
 | brk=>
  obtain ⟨_,_,_,q⟩:=hs;exact False.elim q
 | cont=>
  obtain ⟨_,_,_,q⟩:=hs;exact False.elim q
section
variable {X:Cx} {x:Str} {p pos:Pos} {e:Expr} {es:My Expr} {t:TA} {id T:String} {r:My V->Hp->VK->Prop}
def tCB (r:My V->Hp->VK->Prop) (t:TA):TE:=λ σ H Q=>t σ H λ vs H1=>r vs H1 Q
theorem k6 (hc:fw X (.builtin id) r) (hg:Gl X x) (hm:X.mg x=none) (hv:bootBuiltins x=some (.builtin id)) (ha:PA X (e::es) t) (hn:x≠"__name__":=by decide) (hdb:Dg x:=by decide)
  (he:Se X e es:=by rfl) (hpl:Sb X pos es:=by rfl):PE X (.Call (.Name x p) (e::es) [] pos) (tCB r t):=by
 intro Pn s σ H Q I h;refine Yv (kC I hg hm hv ?_ hn hdb);exact PyProof.Rows.callWith_builtin1 (thn (ha pos Pn s σ H _ I h) λ us s1 ⟨vs,H1,I1,r1,q1⟩=>hc Pn s1 σ H1 vs us Q I1 r1 q1) he hpl
theorem lK (hc:fw X (.type T) r) (hg:Gl X x) (hm:X.mg x=none) (hv:bootBuiltins x=some (.type T)) (ha:PA X (e::es) t) (hn:x≠"__name__":=by decide) (hdb:Dg x:=by decide)
  (he:Se X e es:=by rfl) (hpl:Sb X pos es:=by rfl):PE X (.Call (.Name x p) (e::es) [] pos) (tCB r t):=by
 intro Pn s σ H Q I h;refine Yv (kC I hg hm hv ?_ hn hdb);exact Yn (thn (ha pos Pn s σ H _ I h) λ us s1 ⟨vs,H1,I1,r1,q1⟩=>hc Pn s1 σ H1 vs us Q I1 r1 q1) he hpl
end
end L2
namespace HT
open PySem PyProof.Rows
section
variable {prog:Program} {w:World} {A:Around} {E:Py->PD->Prop} {s:PD}
noncomputable def sIx (n d:Nat):Px Int->Nat
 | none=>d
 | some v=>if v < 0 then (v+(n:Int)).toNat else min v.toNat n
theorem wH (n d k:Nat):sIx n d (some (k:Int))=min k n:=by
 show (if (k:Int) < 0 then ((k:Int)+(n:Int)).toNat else min (k:Int).toNat n)=min k n;rw [if_neg (by omega),Int.toNat_natCast]
end
end HT
namespace L2
open PySem PySem.Spec PyProof.Rows
abbrev TO:=St->Hp->(Px Int->Hp->Prop)->Prop
def PO (X:Cx) (e:Px Expr) (t:TO):Prop:=
  ∀ (Pn:My (Pz×Obj)) (s:PD) (σ:St) (H:Hp) (Q:Px Int->Hp->Prop),Inv X Pn σ H s->t σ H Q->wpAny (model X.prog X.w) X.A (evalPart e X.env) (λ u s'=>∃ o H',Inv X Pn σ H' s'/\IsPart u o/\Q o H') X.xe s
def Ci:TO:=λ _ H Q=>Q none H
def JT (t:TE):TO:=λ σ H Q=>t σ H λ x H1=>∃ i,x=.int i/\Q (some i) H1
section
variable {X:Cx} {e:Expr} {te:TE} {lo hi:Px Expr} {tl th:TO} {pos p2:Pos}
def CN:PO X none Ci:=by
 intro Pn s σ H Q I h;rw [evalPart_none];exact Z5 ⟨none,H,I,.none,h⟩
theorem CM (h:PE X e te):PO X (some e) (JT te):=by
 intro Pn s σ H Q I hw;rw [evalPart_some];refine thn (h Pn s σ H _ I hw) λ u s1 ⟨x,H1,I1,r1,q1⟩=>?_
 obtain ⟨i,rfl,q⟩:=q1;obtain ⟨t,rfl⟩:=r1;exact ⟨some i,H1,I1,.int i t,q⟩
def SlR (X:Cx) (r:V->Px Int->Px Int->Hp->VK->Prop):Prop:=
  ∀ (Pn:My (Pz×Obj)) (s:PD) (σ:St) (H:Hp) (x:V) (v vl vu:Py) (lo hi:Px Int) (sl:Pz) (Q:VK),Inv X Pn σ H s->RelV x v->s.heap.IsSliceOf sl vl vu .none->IsPart vl lo->IsPart vu hi->r x lo hi H Q->∃ T id,typeLookup (.type T) "__getitem__"=pure (some (.builtin id))/\s.TypeIs v T/\wpAny (model X.prog X.w) X.A (getItem v (.ref sl)) (EP X Pn σ Q) X.xe s
def tSl (r:V->Px Int->Px Int->Hp->VK->Prop) (te:TE) (tl th:TO):TE:=λ σ H Q=>te σ H λ x H1=>tl σ H1 λ l H2=>th σ H2 λ u H3=>r x l u H3 Q
theorem tT (hr:SlR X r) (he:PE X e te) (hl:PO X lo tl) (hu:PO X hi th):PE X (.Subscript e (.Slice lo hi none p2) pos) (tSl r te tl th):=by
 intro Pn s σ H Q I h;refine Subscript_ (thn (he Pn s σ H _ I h) λ v s1 ⟨x,H1,I1,r1,q1⟩=>?_);refine wpAny_Slice (thn (hl Pn s1 σ H1 _ I1 q1) λ vl s2 ⟨l,H2,I2,pl,q2⟩=>thn (hu Pn s2 σ H2 _ I2 q2) λ vu s3 ⟨u,H3,I3,pu,q3⟩=>?_);rw [evalPart_none];refine Z5 ?_
 have I4:Inv X Pn σ H3 { s3 with heap:=s3.heap.push { cls:=.type "slice",data:=.fields #[vl,vu,.none] } }:=I3.kept (t':=s3.toks) λ b ob q=>Heap.get?_push_of_some _ q
 obtain ⟨T,id,hT,ht,hg⟩:=hr Pn { s3 with heap:=s3.heap.push { cls:=.type "slice",data:=.fields #[vl,vu,.none] } } σ H3 x v vl vu l u s3.heap.objs.size Q I4 r1 (Heap.IsSliceOf.new ..) pl pu q3;show wpAny (model X.prog X.w) X.A (subscriptTail e (.Slice lo hi none p2) v (.ref s3.heap.objs.size)) (EP X Pn σ Q) X.xe { s3 with heap:=s3.heap.push { cls:=.type "slice",data:=.fields #[vl,vu,.none] } };exact tail_any (ops:=[.ref s3.heap.objs.size,v]) ht hT hg (by with_unfolding_all rfl)
def Fq (xs:My V) (lo hi:Px Int):My V:=(xs.drop (HT.sIx xs.length 0 lo)).take (HT.sIx xs.length xs.length hi - HT.sIx xs.length 0 lo)
def sM (xs:My V) (lo hi:Px Int):(Fq xs lo hi).length<=xs.length:=by
 unfold Fq;rw [Xn,List.length_drop];omega
end
noncomputable def ixN (n:Nat) (i:Int):Px Nat:=if 0<=i then (if i < n then some i.toNat else none) else if -(n:Int)<=i then some (i+n).toNat else none
def atI {α:Type} (xs:My α) (i:Int):Px α:=(ixN xs.length i).bind λ j=>xs[j]?
theorem Ec (h:ixN n i=some j):seqIndex? i n=some j/\j < n/\-(n:Int)<=i/\i < n:=by
 unfold ixN at h
 by_cases h0:0<=i
 ·rw [if_pos h0] at h
  by_cases h1:i < n
  ·rw [if_pos h1] at h
   have e:i.toNat=j:=Zj h;exact ⟨by rw [seqIndex_of h0 h1,e],by omega,by omega,h1⟩
  · rw [if_neg h1] at h; cases h
 ·rw [if_neg h0] at h
  by_cases h1:-(n:Int)<=i
  ·rw [if_pos h1] at h
   have e:(i+n).toNat=j:=Zj h;exact ⟨by rw [seqIndex_neg (by omega) h1,e],by omega,h1,by omega⟩
  · rw [if_neg h1] at h; cases h
theorem sY {α:Type} {xs:My α} {v:α} (h:atI xs i=some v):∃ j,seqIndex? i xs.length=some j/\xs[j]?=some v/\j < xs.length/\-(xs.length:Int)<=i/\i < xs.length:=by
 unfold atI at h
 cases e:ixN xs.length i with
 | none=>rw [e] at h; cases h
 | some j=>
  rw [e] at h;obtain ⟨h1,h2,h3,h4⟩:=Ec e;exact ⟨j,h1,h,h2,h3,h4⟩
theorem E6 {α:Type} {xs:My α} {j:Nat} {v:α} (h:xs[j]?=some v):atI xs (j:Int)=some v:=by
 have hj:j < xs.length:=(List.getElem?_eq_some_iff.mp h).1
 have e:ixN xs.length (j:Int)=some j:=by
  unfold ixN;rw [if_pos (by omega),if_pos (by omega)]; simp
 unfold atI; rw [e]; exact h
theorem Bb {α:Type} (xs:My α) (v:α):atI (xs++[v]) (-1)=some v:=by
 have hl:(xs++[v]).length=xs.length+1:=by simp
 have e:ixN (xs++[v]).length (-1)=some xs.length:=by
  unfold ixN;rw [hl,if_neg (by decide),if_pos (by omega)];congr 1;omega
 unfold atI;rw [e];show (xs++[v])[xs.length]?=some v;simp
def zL (b:Expr):Prop:=∀ o i,subscripted b false o i=operate [o,i] (getItem o i)
def IxR (X:Cx) (r:R2):Prop:=
  ∀ (value slice:Expr) (Pn:My (Pz×Obj)) (s:PD) (σ:St) (H:Hp) (x y:V) (v u:Py) (Q:VK),Inv X Pn σ H s->RelV x v->RelV y u->r x y H Q->subscripted slice false v u=operate [v,u] (getItem v u)->wpAny (model X.prog X.w) X.A (subscriptTail value slice v u) (EP X Pn σ Q) X.xe s
def MtR (X:Cx) (id:String) (r:V->My V->Hp->VK->Prop):Prop:=
  ∀ (Pn:My (Pz×Obj)) (s:PD) (σ:St) (H:Hp) (x:V) (xs:My V) (v:Py) (us:My Py) (Q:VK),Inv X Pn σ H s->RelV x v->bX xs us->r x xs H Q->wpAny (model X.prog X.w) X.A (call (.builtin id) (v::us)) (EP X Pn σ Q) X.xe s
section
variable {X:Cx} {a b:Expr} {ta tb:TE} {pos:Pos}
theorem IxR.or (h:IxR X r) (h':IxR X r'):IxR X (λ x y H Q=>r x y H Q\/r' x y H Q):=by
 intro value slice Pn s σ H x y v u Q I rx ry q hs;rcases q with q | q
 · exact h value slice Pn s σ H x y v u Q I rx ry q hs
 · exact h' value slice Pn s σ H x y v u Q I rx ry q hs
theorem Kc (hr:IxR X r) (ha:PE X a ta) (hb:PE X b tb) (hs:zL b):PE X (.Subscript a b pos) (tOp r ta tb):=by
 intro Pn s σ H Q I h;exact Subscript_ (MN ha hb I h λ v u s2 x y H2 I2 rx ry q=>hr a b Pn s2 σ H2 x y v u Q I2 rx ry q (hs _ _))
def OC (K:PB):R2:=λ x y H Q=>∃ p xs i v,x=.ref p/\y=.int i/\SqL K H p xs/\atI xs i=some v/\Q v H
def OA (K:PB):R2:=λ x y H Q=>∃ p xs i v,x=.ref p/\y=.int i/\SqT K H p xs/\atI xs i=some v/\Q v H
def OB:R2:=λ x y H Q=>∃ z i c,x=.str z/\y=.int i/\z.length<=sizeLine/\atI z.cps.toList i=some c/\Q (.str ⟨#[c]⟩) H
theorem Ea:IxR X (OC X.K):=by
 intro value slice Pn s σ H x y v u Q I rx ry h hs;obtain ⟨p,xs,i,z,rfl,rfl,hq,he,q⟩:=h;cases rx;obtain ⟨t,rfl⟩:=ry;obtain ⟨its,r,pl,hz⟩:=I.list hq;obtain ⟨j,h1,h2,h3,h4,h5⟩:=sY he;obtain ⟨w,ew,rw'⟩:=r.get h2;have hl:=r.length;have hn:=p9;have fin:EP X Pn σ Q w s:=⟨z,H,I,rw',q⟩
 by_cases h0:0<=i
 ·have hj:i.toNat=j:=by
   rw [seqIndex_of h0 h5] at h1;exact Zj h1
  exact item_listR pl.isList h0 (by omega) (by rw [hj]; simpa using ew) fin hs
 ·have hj:(i+(its.toArray.size:Int)).toNat=j:=by
   rw [seqIndex_neg (by omega) h4] at h1;rw [Zq,<- hl];exact Zj h1
  exact subscriptTail_builtinR (x:=w) pl.isList.typeIs slot_list_getitem.lookup
   (wpAny_getItem_list_neg (Q:=λ r s'=>r=w/\EP X Pn σ Q r s') pl.isList (by omega) (by rw [Zq] <;> omega) (by omega) (by rw [hj]; simpa using ew) ⟨rfl,fin⟩) hs
theorem Ho:IxR X (OA X.K):=by
 intro value slice Pn s σ H x y v u Q I rx ry h hs;obtain ⟨p,xs,i,z,rfl,rfl,hq,he,q⟩:=h;cases rx;obtain ⟨t,rfl⟩:=ry;obtain ⟨its,r,pl,hz⟩:=I.tuple hq;obtain ⟨j,h1,h2,h3,h4,h5⟩:=sY he;obtain ⟨w,ew,rw'⟩:=r.get h2;have hl:=r.length;have hn:=p9;have fin:EP X Pn σ Q w s:=⟨z,H,I,rw',q⟩
 exact subscriptTail_builtinR (x:=w) pl.typeIs slot_tuple_getitem.lookup
  (getItem_tuple (j:=j) (Q:=λ r s'=>r=w/\EP X Pn σ Q r s') pl (by omega) (by omega) (by rw [Zq,<- hl]; exact h1) (by simpa using ew) ⟨rfl,fin⟩) hs
theorem Hq:IxR X OB:=by
 intro value slice Pn s σ H x y v u Q I rx ry h hs;obtain ⟨z,i,c,rfl,rfl,hz,he,q⟩:=h;obtain ⟨t,rfl⟩:=rx;obtain ⟨t',rfl⟩:=ry;obtain ⟨j,h1,h2,h3,h4,h5⟩:=sY he;have hl:z.cps.toList.length=z.length:=by simp [Str.length]
 rw [hl] at h1 h4 h5;have hn:=p9
 exact tail_any (typeIs_str s z t) slot_str_getitem.lookup (getItem_str (c:=c) (by
  have e1:decide (i < -(2 ^ 63:Int))=false:=Zl (by omega);have e2:decide (i ≥ 2 ^ 63)=false:=Zl (by omega)
  rw [e1,e2,Bool.or_false]) (by rw [h1]; simpa using h2) ⟨.str ⟨#[c]⟩,H,I.tok _,⟨_,rfl⟩,q⟩) hs
theorem pC (lo hi:Px Int) (n:Nat):(sliceBounds lo hi none n).1=((HT.sIx n 0 lo:Nat):Int)/\(sliceBounds lo hi none n).2.1=((HT.sIx n n hi:Nat):Int)/\(sliceBounds lo hi none n).2.2=1:=by
 refine ⟨?_,?_,rfl⟩
 ·cases lo with
  | none=>simp [sliceBounds,HT.sIx]
  | some i=>
   simp only [sliceBounds,HT.sIx,Option.getD_none,show (1:Int) > 0 by decide,if_true]
   by_cases h:i < 0
   · simp only [h,if_true] <;> omega
   · simp only [h,if_false] <;> omega
 ·cases hi with
  | none=>simp [sliceBounds,HT.sIx]
  | some i=>
   simp only [sliceBounds,HT.sIx,Option.getD_none,show (1:Int) > 0 by decide,if_true]
   by_cases h:i < 0
   · simp only [h,if_true] <;> omega
   · simp only [h,if_false] <;> omega
theorem nV (its:My Py) (lo hi:Px Int):slicePick its.toArray lo hi none=((its.drop (HT.sIx its.length 0 lo)).take (HT.sIx its.length its.length hi - HT.sIx its.length 0 lo)).toArray:=by
 obtain ⟨h1,h2,h3⟩:=pC lo hi its.toArray.size;unfold slicePick;rw [h1,h2,h3];simp only [sliceRange_one,pick_run,Zq] <;> rfl
def Ox (K:PB):V->Px Int->Px Int->Hp->VK->Prop:=λ x lo hi H Q=>∃ a xs,x=.ref a/\SqL K H a xs/\∀ p,H p=none->Q (.ref p) (upd H p (.lst (Fq xs lo hi)))
theorem Cp:SlR X (Ox X.K):=by
 intro Pn s σ H x v vl vu lo hi sl Q I rx hs pl pu h;obtain ⟨a,xs,rfl,hx,q⟩:=h;cases rx;obtain ⟨its,r,ht,hz⟩:=I.list hx;have hlen:=r.length;refine ⟨"list",_,slot_list_getitem.lookup,ht.isList.typeIs,?_⟩;refine wpAny_getItem_list_slice ht.isList hs pl pu .none (by simp) ?_ (by rw [Zq] <;> omega)
 rw [nV,<- hlen];refine ⟨.ref s.heap.objs.size,_,I.laid (t':=s.toks) (o:=.lst (Fq xs lo hi)) (λ b ob q=>Heap.get?_push_of_some _ q) (Zn _) ?_,rfl,q _ (I.hok.fresh (Zn _))⟩;exact ⟨Z6 (sM xs lo hi) hz,_,0,(r.drop (HT.sIx xs.length 0 lo)).take (HT.sIx xs.length xs.length hi - HT.sIx xs.length 0 lo),Heap.get?_push_size _ rfl⟩
def mS:V->Bool
 | .non=>true
 | .bl _=>true
 | .int _=>true
 | .str _=>true
 | _=>false
noncomputable def eqV:V->V->Bool
 | .non,.non=>true
 | .bl a,.bl b=>a == b
 | .bl a,.int b=>(if a then 1 else 0) == b
 | .int a,.bl b=>a == (if b then 1 else 0)
 | .int a,.int b=>a == b
 | .str a,.str b=>a == b
 | _,_=>false
theorem HS (ry:RelV y u) (rx:RelV x v) (fy:mS y=true) (fx:mS x=true):SeqAt.EqAt A s u v (eqV y x):=by
 cases y with
 | non=>
  cases ry
  cases x with
  | non=>cases rx; exact SeqAt.EqAt.same _
  | bl b=>cases rx; exact SeqAt.EqAt.none_bool b
  | int b=>obtain ⟨t,rfl⟩:=rx; exact SeqAt.EqAt.none_int b t
  | str b=>obtain ⟨t,rfl⟩:=rx; exact SeqAt.EqAt.none_str b t
  | _=>exact absurd (show false=true from fx) Zf
 | bl a=>
  cases ry
  cases x with
  | non=>cases rx; exact SeqAt.EqAt.bool_none a
  | bl b=>cases rx; exact SeqAt.EqAt.bool_bool a b
  | int b=>obtain ⟨t,rfl⟩:=rx; exact SeqAt.EqAt.bool_int a b t
  | str b=>obtain ⟨t,rfl⟩:=rx; exact SeqAt.EqAt.bool_str a b t
  | _=>exact absurd (show false=true from fx) Zf
 | int a=>
  obtain ⟨t',rfl⟩:=ry
  cases x with
  | non=>cases rx; exact SeqAt.EqAt.int_none a t'
  | bl b=>cases rx; exact SeqAt.EqAt.int_bool a t' b
  | int b=>obtain ⟨t,rfl⟩:=rx; exact SeqAt.EqAt.int_int a t' b t
  | str b=>obtain ⟨t,rfl⟩:=rx; exact SeqAt.EqAt.int_str a t' b t
  | _=>exact absurd (show false=true from fx) Zf
 | str a=>
  obtain ⟨t',rfl⟩:=ry
  cases x with
  | non=>cases rx; exact SeqAt.EqAt.str_none a t'
  | bl b=>cases rx; exact SeqAt.EqAt.str_bool a t' b
  | int b=>obtain ⟨t,rfl⟩:=rx; exact SeqAt.EqAt.str_int a t' b t
  | str b=>obtain ⟨t,rfl⟩:=rx; exact SeqAt.EqAt.str_str a t' b t
  | _=>exact absurd (show false=true from fx) Zf
 | _=>exact absurd (show false=true from fy) Zf
noncomputable def eqU (x:V) (u:Py):Bool:=match u with
 | .none=>eqV .non x
 | .bool b=>eqV (.bl b) x
 | .int i _=>eqV (.int i) x
 | .str z _=>eqV (.str z) x
 | _=>false
theorem BU (r:RelV y u) (f:mS y=true):eqU x u=eqV y x:=by
 cases y with
 | non=>cases r; rfl
 | bl b=>cases r; rfl
 | int i=>obtain ⟨t,rfl⟩:=r; rfl
 | str z=>obtain ⟨t,rfl⟩:=r; rfl
 | _=>exact absurd (show false=true from f) Zf
theorem mr:∀ {xs:My V} {us:My Py},bX xs us->xs.all mS=true->us.any (eqU x)=xs.any λ y=>eqV y x
 | _,_,.nil,_=>rfl
 | y::xs,u::us,.cons r t,f=>by
  rw [Xv,Z7] at f;rw [Xi,Xi,BU r f.1,mr t f.2]
theorem jD (rx:RelV x v) (fx:mS x=true):∀ {xs:My V} {us:My Py},bX xs us->xs.all mS=true->∀ u ∈ us,SeqAt.EqAt A s u v (eqU x u)
 | _,_,.nil,_=>λ u hu=>by cases hu
 | y::xs,u::us,.cons r t,f=>λ u' hu=>by
  rw [Xv,Z7] at f;rcases Zh.mp hu with rfl | hu
  · rw [BU r f.1]; exact HS r rx f.1 fx
  · exact jD rx fx t f.2 u' hu
def inV (x:V) (xs:My V):Bool:=xs.any λ y=>eqV y x
def rIn (K:PB) (neg:Bool):R2:=λ x y H Q=>∃ p xs,y=.ref p/\(SqL K H p xs\/SqT K H p xs)/\mS x=true/\xs.all mS=true/\Q (.bl (if neg then !inV x xs else inV x xs)) H
theorem xF:OpR X (compareOp .In) (rIn X.K false):=by
 intro Pn s σ H x y v u Q I rx ry h;obtain ⟨p,xs,rfl,hq,fx,fs,q⟩:=h;cases ry;rcases hq with hq | hq
 ·obtain ⟨its,r,pl,hz⟩:=I.list hq
  refine SeqAt.in_listAt (eqU x) pl.isList (λ w hw=>jD rx fx r fs w (by simpa using hw)) ⟨.bl _,H,I,rfl,?_⟩;rw [show its.toArray.any (eqU x)=its.any (eqU x) by simp,mr r fs];exact q
 ·obtain ⟨its,r,pl,hz⟩:=I.tuple hq
  refine SeqAt.in_tupleAt (eqU x) pl (λ w hw=>jD rx fx r fs w (by simpa using hw)) ⟨.bl _,H,I,rfl,?_⟩;rw [show its.toArray.any (eqU x)=its.any (eqU x) by simp,mr r fs];exact q
theorem pN:OpR X (compareOp .NotIn) (rIn X.K true):=by
 intro Pn s σ H x y v u Q I rx ry h;obtain ⟨p,xs,rfl,hq,fx,fs,q⟩:=h;cases ry;rcases hq with hq | hq
 ·obtain ⟨its,r,pl,hz⟩:=I.list hq
  refine SeqAt.notIn_listAt (eqU x) pl.isList (λ w hw=>jD rx fx r fs w (by simpa using hw)) ⟨.bl _,H,I,rfl,?_⟩;rw [show its.toArray.any (eqU x)=its.any (eqU x) by simp,mr r fs];exact q
 ·obtain ⟨its,r,pl,hz⟩:=I.tuple hq
  refine SeqAt.notIn_tupleAt (eqU x) pl (λ w hw=>jD rx fx r fs w (by simpa using hw)) ⟨.bl _,H,I,rfl,?_⟩;rw [show its.toArray.any (eqU x)=its.any (eqU x) by simp,mr r fs];exact q
theorem pM:OpR X (compareOp .NotIn) (λ x y H Q=>∃ i j,x=.str i/\y=.str j/\Q (.bl (!(!(Builtin.Str.occurrences j i 0 j.length 1).isEmpty))) H):=by
 intro Pn s σ H x y v u Q I rx ry h;obtain ⟨i,j,rfl,rfl,q⟩:=h;obtain ⟨t,rfl⟩:=rx;obtain ⟨t',rfl⟩:=ry;exact notIn_str ⟨.bl _,H,I,rfl,q⟩
theorem qC:fw X (.type "list") (λ xs H Q=>∃ p ys,xs=[.ref p]/\(SqL X.K H p ys\/SqT X.K H p ys)/\∀ l,H l=none->Q (.ref l) (upd H l (.lst ys))):=by
 intro Pn s σ H xs us Q I r h;obtain ⟨p,ys,rfl,hq,q⟩:=h;obtain ⟨u,rfl,rx⟩:=vals1 r;cases rx
 have fin:∀ (its:My Py),bX ys its->ys.length<=sizeLine->∀ (h':Heap) (c':Nat),(∀ b o',s.heap.get? b=some o'->h'.get? b=some o')->h'.get? s.heap.objs.size=some { cls:=.type "list",dict:=none,data:=.seq its.toArray c',slots:=#[] }->EP X Pn σ Q (.ref s.heap.objs.size) { s with heap:=h' }:=λ its r' hz h' c' kp e=>
  ⟨.ref s.heap.objs.size,_,I.laid (t':=s.toks) kp (Zn _) (show dg X.prog X.w _ h' _ (.lst ys) from ⟨hz,its,c',r',e⟩),rfl,q _ (I.hok.fresh (Zn _))⟩
 rcases hq with hq | hq
 ·obtain ⟨its,r',pl,hz⟩:=I.list hq
  have hlen:=r'.length;obtain ⟨o,ho,hc,n,hd⟩:=pl.isList;exact call_list_seq p (.inl rfl) ho hc hd (λ h' c' kp e=>fin its r' hz h' c' kp e) (by simp only [Zq] <;> omega)
 ·obtain ⟨its,r',pl,hz⟩:=I.tuple hq
  have hlen:=r'.length;obtain ⟨o,ho,hc,n,hd⟩:=pl;exact call_list_seq p (.inr rfl) ho hc hd (λ h' c' kp e=>fin its r' hz h' c' kp e) (by simp only [Zq] <;> omega)
def tyV (K:PB) (T:String) (x:V) (H:Hp):Prop:=match x with
 | .str _=>T="str"
 | .int _=>T="int"
 | .ref p=>(T="list"/\∃ xs,SqL K H p xs)\/(T="tuple"/\∃ o,K.lookup p=some o/\o.cls=.type "tuple"/\o.dict=none)\/(T="dict"/\((∃ kvs,H p=some (.dK kvs))\/∃ kvs,H p=some (.dT kvs)))\/(T="set"/\∃ S n,H p=some (.set S n))
 | _=>False
theorem Bj (I:Inv X Pn σ H s) (r:RelV x v) (ty:tyV X.K T x H):s.TypeIs v T/\∀ a,v=.ref a->∃ ob,s.heap.get? a=some ob/\ob.dict=none:=by
 cases x with
 | str z=>
  obtain ⟨t,rfl⟩:=r;cases (show T="str" from ty);exact ⟨typeIs_str s z t,λ _ e=>nomatch e⟩
 | int i=>
  obtain ⟨t,rfl⟩:=r;cases (show T="int" from ty);exact ⟨typeIs_int s i t,λ _ e=>nomatch e⟩
 | ref p=>
  cases r;rcases ty with ⟨rfl,xs,hq⟩ | ⟨rfl,o,hk,hc,hd⟩ | ⟨rfl,hk⟩ | ⟨rfl,S,n,hk⟩
  ·obtain ⟨its,_,pl,_⟩:=I.list hq
   refine ⟨pl.isList.typeIs,λ a e=>?_⟩;cases e;obtain ⟨o,n,e,c,hd,_⟩:=pl;exact ⟨o,e,hd⟩
  ·refine ⟨⟨o,I.kIn p o hk,hc⟩,λ a e=>?_⟩
   cases e;exact ⟨o,I.kIn _ o hk,hd⟩
  ·have z:∃ o,s.heap.get? p=some o/\o.ExactDict:=by
    rcases hk with ⟨kvs,hk⟩ | ⟨kvs,hk⟩
    ·obtain ⟨_,_,_,_,o,_,_,e,ex,_⟩:=I.hok p _ hk
     exact ⟨o,e,ex⟩
    ·obtain ⟨_,_,_,_,o,_,_,e,ex,_⟩:=I.hok p _ hk
     exact ⟨o,e,ex⟩
   obtain ⟨o,e,ex⟩:=z;refine ⟨⟨o,e,ex.1⟩,λ a e2=>?_⟩;cases e2;exact ⟨o,e,ex.2.1⟩
  ·obtain ⟨o,_,_,_,e,ex,_⟩:=I.hok p _ hk
   refine ⟨⟨o,e,ex.1⟩,λ a e2=>?_⟩;cases e2;exact ⟨o,e,ex.2.1⟩
 | _=>exact False.elim ty
def Og (K:PB) (T:String) (r:V->My V->Hp->VK->Prop) (to:TE):TE:=λ σ H Q=>to σ H λ x H1=>tyV K T x H1/\r x [] H1 Q
def tBM (K:PB) (T:String) (r:V->My V->Hp->VK->Prop) (to:TE) (t:TA):TE:=λ σ H Q=>to σ H λ x H1=>tyV K T x H1/\t σ H1 λ xs H2=>r x xs H2 Q
variable {o e:Expr} {es:My Expr} {to:TE} {t:TA} {name:Str} {Po Pp:Pos} {T id:String} {r:V->My V->Hp->VK->Prop}
theorem GJ (pa:PlainAttrs T) (slot:Slot T name id) (hty:typeOf (.builtin id)=pure (.type "method_descriptor")) (hm:MtR X id r) (ho:PE X o to)
  (Pu:Ue X o name:=by rfl) (Pr:Ug Po Pp:=by rfl):PE X (.Call (.Attribute o name Po) [] [] Pp) (Og X.K T r to):=by
 intro Pn s σ H Q I h;refine wpAny_Call_method0_late Pu Pr (thn (ho Pn s σ H _ I h) λ v s1 ⟨x,H1,I1,r1,ty,q1⟩=>?_);obtain ⟨h1,h2⟩:=Bj I1 r1 ty;exact ⟨T,id,pa,slot,hty,h1,h2,Xe rfl (PySem.evalArgs_none (hm Pn s1 σ H1 x [] v [] Q I1 r1 .nil q1))⟩
theorem xv (pa:PlainAttrs T) (slot:Slot T name id) (hty:typeOf (.builtin id)=pure (.type "method_descriptor")) (hm:MtR X id r) (ho:PE X o to) (ha:PA X (e::es) t)
  (Pu:Ue X o name:=by rfl)
  (Pq:((backTo Pp (starEach (e::es) X.env)).all (λ x=>!x.1)&&(backToKw Pp (keywordEach [] X.env)).all (λ x=>x.1.isSome)
    && decide ((e::es).length+([]:My Keyword).length+(if ([]:My Keyword).isEmpty then 0 else 1) < 30))=true:=by rfl)
  (Pr:Ug Po Pp:=by rfl) (hs:Se X e es:=by rfl) (Pt:Sb X Pp es:=by rfl):PE X (.Call (.Attribute o name Po) (e::es) [] Pp) (tBM X.K T r to t):=by
 intro Pn s σ H Q I h;refine wpAny_Call_method_late Pu Pq Pr rfl (thn (ho Pn s σ H _ I h) λ v s1 ⟨x,H1,I1,r1,ty,q1⟩=>?_);obtain ⟨h1,h2⟩:=Bj I1 r1 ty;refine ⟨T,id,pa,slot,hty,h1,h2,?_⟩;have hA:=ha Pp Pn s1 σ H1 _ I1 q1;rw [hs] at hA ⊢;refine Xe (by show (false||(backTo Pp (starEach es X.env)).any (·.1))=false; rw [Pt] <;> rfl) (Xm ?_);exact thn hA λ us s2 ⟨vs,H2,I2,r2,q2⟩=>hm Pn s2 σ H2 x vs v us Q I2 r1 r2 q2
end
def MtM (X:Cx) (id:String) (r:V->My V->Hp->VK->Prop):Prop:=
  ∀ (Pn:My (Pz×Obj)) (s:PD) (σ:St) (H:Hp) (x:V) (xs:My V) (v:Py) (us:My Py) (Q:VK),Inv X Pn σ H s->RelV x v->bX xs us->r x xs H Q->wpAny (model X.prog X.w) X.A (call (.builtin id) (v::us)) (EP X Pn σ Q) X.xe s
theorem bX.one:∀ {x:V} {us:My Py},bX [x] us->∃ u,us=[u]/\RelV x u
 | _,_,.cons r .nil=>⟨_,rfl,r⟩
theorem bX.zero:∀ {us:My Py},bX [] us->us=[]
 | _,.nil=>rfl
theorem bX.dropLast (h:bX xs us):bX xs.dropLast us.dropLast:=by
 induction h with
 | nil=>exact .nil
 | cons r t ih=>
  cases t with
  | nil=>exact .nil
  | cons q t'=>exact .cons r ih
theorem bX.reverse (h:bX xs us):bX xs.reverse us.reverse:=by
 induction h with
 | nil=>exact .nil
 | cons r t ih=>rw [Xj,Xj]; exact bX.append ih (.cons r .nil)
theorem vE {α:Type} (l:My α):l.eraseIdx (l.length - 1)=l.dropLast:=by
 induction l with
 | nil=>rfl
 | cons a r ih=>
  cases r with
  | nil=>rfl
  | cons b r=>
   have e:(a::b::r).length - 1=((b::r).length - 1)+1:=by
    have h1:(a::b::r).length=r.length+2:=rfl;have h2:(b::r).length=r.length+1:=rfl;omega
   rw [e,List.eraseIdx_cons_succ,ih]
   all_goals rfl
section
variable {X:Cx} {Pn:My (Pz×Obj)} {σ:St} {H:Hp} {s:PD} {l b:Pz} {xs ys zs:My V}
theorem Inv.Hd {its its':My Py} {n:Nat} {f:Array Py->Array Py} {t':Nat} (I:Inv X Pn σ H s) (hH:H l=some (.lst xs))
  (e:s.heap.get? l=some { cls:=.type "list",data:=.seq its.toArray n }) (hf:f its.toArray=its'.toArray) (hv:bX ys its') (hz:ys.length<=sizeLine):Inv X Pn σ (upd H l (.lst ys)) { s with heap:=s.heap.update l (Obj.mapSeq f),toks:=t' }:=by
 have q:=PySem.IsL.update e f;rw [hf] at q;refine I.write (x:=l) (e:=l) (by rw [hH]; exact trivial) (.inl rfl) (λ b' u hb hu=>(Heap.get?_update_other s.heap (Obj.mapSeq f) (Ne.symm hb)).trans hu) ⟨_,q⟩ ?_
 exact ⟨hz,its',_,hv,q⟩
theorem Inv.O2 (I:Inv X Pn σ H s) (hv:bX ys its) (hz:ys.length<=sizeLine):Inv X Pn σ (upd H s.heap.objs.size (.lst ys)) { s with heap:=s.heap.push { cls:=.type "list",data:=.seq its.toArray },toks:=t' }:=
 I.laid (λ _ _ q=>Heap.get?_push_of_some _ q) (Zn _) ⟨hz,its,0,hv,Heap.get?_push_size _ rfl⟩
def Inv.fresh (I:Inv X Pn σ H s):H s.heap.objs.size=none:=I.hok.fresh (Zn _)
theorem Inv.BK (I:Inv X Pn σ H s) (hH:H l=some (.lst xs)):xs.length<=sizeLine/\∃ (its:My Py) (n:Nat),bX xs its/\xs.length=its.length/\s.heap.get? l=some { cls:=.type "list",data:=.seq its.toArray n }:=by
 obtain ⟨z,its,n,r,e⟩:=I.hok l _ hH;exact ⟨z,its,n,r,r.length,e⟩
theorem AF (h:n<=sizeLine):Builtin.List.listTooLong n=false:=by
 unfold Builtin.List.listTooLong;exact Zl (by omega)
end
section
variable {X:Cx}
def CB:V->My V->Hp->VK->Prop:=λ x vs H Q=>∃ l xs y,x=.ref l/\vs=[y]/\H l=some (.lst xs)/\xs.length < sizeLine/\Q .non (upd H l (.lst (xs++[y])))
theorem xU:MtM X "list.append" CB:=by
 intro Pn s σ H x vs v us Q I rx rv h;obtain ⟨l,xs,y,rfl,rfl,hH,hz,q⟩:=h;cases rx;obtain ⟨u,rfl,ru⟩:=rv.one;obtain ⟨z,its,n,r,hl,e⟩:=I.BK hH;refine call_meets F.slot_list_append ⟨_,e,rfl⟩ F.entry_list_append (F.args_list_append_2 _ _) (PySem.list_append l its.toArray n u (by rw [Zq]; omega)) ⟨e,?_⟩;refine ⟨.non,_,I.Hd (its':=its++[u]) hH e (by simp) (r.append (.cons ru .nil)) ?_,rfl,q⟩;rw [Z1,List.length_singleton];omega
def CA:V->My V->Hp->VK->Prop:=λ x vs H Q=>∃ l b xs zs,x=.ref l/\vs=[.ref b]/\H l=some (.lst xs)/\H b=some (.lst zs)/\xs.length+zs.length<=sizeLine/\Q .non (upd H l (.lst (xs++zs)))
theorem xT:MtM X "list.extend" CA:=by
 intro Pn s σ H x vs v us Q I rx rv h;obtain ⟨l,b,xs,zs,rfl,rfl,hH,hB,hz,q⟩:=h;cases rx;obtain ⟨u,rfl,ru⟩:=rv.one;cases ru;obtain ⟨z,its,n,r,hl,e⟩:=I.BK hH;obtain ⟨z2,its2,n2,r2,hl2,e2⟩:=I.BK hB;have hsz:its.toArray.size+its2.toArray.size<=sizeLine:=by rw [Zq,Zq]; omega
 have hlong:¬ (!its.toArray.isEmpty&&Builtin.List.listTooLong (its.toArray.size+its2.toArray.size))=true:=by
  rw [AF hsz,Bool.and_false];exact Zf
 refine call_meets F.slot_list_extend ⟨_,e,rfl⟩ F.entry_list_extend (F.args_list_extend_2 _ _)
  (AutoSeq1.list_extend_list_list_0 l its.toArray n b its2.toArray n2 hlong (by rw [Zq]; omega) (by omega)) ⟨e,e2,?_⟩
 refine ⟨.non,_,I.Hd (its':=its++its2) hH e (by simp) (r.append r2) ?_,rfl,q⟩;rw [Z1];omega
def Oy:V->My V->Hp->VK->Prop:=λ x vs H Q=>∃ l xs y,x=.ref l/\vs=[]/\H l=some (.lst xs)/\xs[xs.length - 1]?=some y/\Q y (upd H l (.lst xs.dropLast))
theorem Ha:MtM X "list.pop" Oy:=by
 intro Pn s σ H x vs v us Q I rx rv h;obtain ⟨l,xs,y,rfl,rfl,hH,hy,q⟩:=h;cases rx;have hus:=rv.zero;subst hus;obtain ⟨z,its,n,r,hl,e⟩:=I.BK hH;obtain ⟨u,hu,ru⟩:=r.get hy
 have hy':its.toArray[its.toArray.size - 1]?=some u:=by
  show its.toArray[its.length - 1]?=some u;rw [<- Array.getElem?_toList,<- hl];exact hu
 refine call_meets F.slot_list_pop ⟨_,e,rfl⟩ F.entry_list_pop (F.args_list_pop_1 _) (MeetsSeq.list_pop_last l its.toArray n u hy' (by rw [Zq]; omega)) ⟨e,?_⟩;refine ⟨y,_,I.Hd (its':=its.dropLast) hH e ?_ r.dropLast ?_,ru,q⟩
 ·show its.toArray.eraseIdxIfInBounds (its.toArray.size - 1)=its.dropLast.toArray
  rw [Zq,List.eraseIdxIfInBounds_toArray,vE]
 ·rw [List.length_dropLast]
  omega
def OE:R2:=λ x y H Q=>∃ l b xs zs,x=.ref l/\y=.ref b/\H l=some (.lst xs)/\H b=some (.lst zs)/\xs.length+zs.length<=sizeLine/\∀ p,H p=none->Q (.ref p) (upd H p (.lst (xs++zs)))
theorem xG:OpR X (binaryOp .Add) OE:=by
 intro Pn s σ H x y v u Q I rx ry h;obtain ⟨l,b,xs,zs,rfl,rfl,hH,hB,hz,q⟩:=h;cases rx;cases ry;obtain ⟨z,its,n,r,hl,e⟩:=I.BK hH;obtain ⟨z2,its2,n2,r2,hl2,e2⟩:=I.BK hB;refine PySem.P.add_list e e2 ?_ (by rw [Zq,Zq]; omega)
 have ea:its.toArray++its2.toArray=(its++its2).toArray:=by simp
 rw [ea];exact ⟨.ref _,_,I.O2 (t':=s.toks) (r.append r2) (by rw [Z1]; omega),rfl,q _ I.fresh⟩
end
end L2
namespace Att
open PySem PySem.W PySem.Calls PyProof.Rows
theorem lZ:∀ (ns:My Int) (vs:My Py),WellAll P h vs (ns.map WData.int)->IntsAre vs ns:=by
 intro ns
 induction ns with
 | nil=>
  intro vs w;rw [Xo] at w;cases w;exact .nil
 | cons n ns ih=>
  intro vs w;rw [Zg] at w
  cases w with
  | cons a b=>
   cases a;exact .cons _ _ (ih _ b)
theorem wB {l:OpenLaw} {n:Nat} (hn:l.most=some n) {P:PF} {h:Heap} {args:My WData} {vals:My Py}
  (hpre:l.row.toRowW.claim.pre args=true) (hwl:WellAll P h vals args):∃ a vs ns,vals=[Value.ref a]/\args=[WData.list (ns.map WData.int)]/\h.get? a=some { cls:=.type "list",data:=.seq vs.toArray }/\IntsAre vs ns/\ns.length<=n:=by
 have hsh:WShape.hasAll [] args [.list .int]=true:=(pre_splitW hpre).1;have hc:l.pre.holds [] { args:=args }=true:=(pre_splitW hpre).2;obtain ⟨d,r,rfl,h1,h2⟩:=hasAllW_cons hsh;obtain rfl:=hasAllW_nil h2;obtain ⟨xs,rfl,h3⟩:=hasW_list h1;obtain ⟨ns,rfl⟩:=items_int h3
 have hlen:ns.length<=n:=by
  unfold OpenLaw.pre at hc
  have h4:(WTm.not (.lt (.lit (.int (n:Int))) (.len (.arg 0)))).holds [] { args:=[.list (ns.map .int)] }=true:=by
   have h4:=(holds_andW hc).1;rw [hn] at h4;exact h4
  have h5:=condW_of h4 (w_not (w_lt w_lit (w_len_list (w_arg rfl))));rw [Zc] at h5;refine Nat.le_of_not_lt λ q=>?_
  have q':(n:Int) < ((ns.length:Nat):Int):=by omega
  first
   | (rw [Zo q'] at h5; exact absurd h5 (by decide))
   | (simp at h5; omega)
 cases hwl with
 | cons w1 w2=>
  cases w2
  cases w1 with
  | list ho hall=>exact ⟨_,_,ns,rfl,rfl,ho,lZ ns _ hall,hlen⟩
theorem w9 (l:OpenLaw) (args:My WData):l.row.toRowW.claim.post args (.bool true) args=true:=
 postW_of (r:=l.row.toRowW) (X:=(true == true))
  (show WShape.has [] (.bool true) .bool=true by first | rfl | decide | simp [WShape.has,WShape.arms,WShape.armsAll])
  (show (WTm.eq .res (.lit (.bool true))).value [] { args:=args,res:=some (.bool true),after:=args }=some (.bool (true == true)) from w_eq_bool (w_res rfl) w_lit) rfl
theorem sW {l:OpenLaw} {n:Nat} {q:Program} {loose:My Str} {XP:(Str->Px Py)->Heap->Prop} {YP:World->Heap->Prop} {d:DefRec}
  (hn:l.most=some n) (hdf:d.params.defaults=[])
  (call:∀ (w:World) (s₀ s₁:PD) (mg mb:Str->Px Py) (fa:Pz) (o:Obj) (pm cd doc:Py) (a:Pz) (vs:My Py) (ns:My Int),
    Ground q loose [] XP w s₀ mg mb s₁.heap->YP w s₁.heap->s₁.heap.get? fa=some o->o.data=.func (docDef d.name d.params d.body d.scope pm cd doc)->s₁.heap.CodeRec cd d.name->mg d.name=some (.ref fa)->s₁.heap.get? a=some { cls:=.type "list",data:=.seq vs.toArray }->IntsAre vs ns->ns.length<=n->s₁.gens=#[]->codeAny (model l.prog w) callerA (.call (.ref fa) ⟨[.ref a],[]⟩) (λ r s'=>r=.ok (.ret (.bool true))/\OldK s₁.heap s'.heap/\s'.os=s₁.os/\AllBare s'.gens) s₁):WalkO q loose XP YP l.row.toRowW d [] (λ f vs=>PySem.call f vs):=by
 intro w s₀ s₁ mg mb G Y fa o pm cd doc dV kV ho hd hcd hD hmg hg args vals as hpre hlay hrd hwl hlo;obtain rfl:dV=.none:=Dflts.none hD hdf;obtain rfl:kV=.none:=Dflts.noKw hD;obtain ⟨a,vs,ns,rfl,rfl,hobj,hints,hlen⟩:=wB hn hpre hwl;refine enter_call (codeAny_mono (call w s₀ s₁ mg mb fa o pm cd doc a vs ns G Y ho (fd_plain hd) hcd hmg hobj hints hlen hg) λ r s' hq=>?_);obtain ⟨rfl,h2,h3,h4⟩:=hq;exact ⟨.inl ⟨.bool true,.bool true,[],rfl,λ _=>rfl,.bool true,w9 l _,λ _=>⟨List.Pairwise.nil,λ _ hm=>(nomatch hm)⟩⟩,h2,h3,h4⟩
end Att
namespace L2
open PySem PySem.Spec PyProof.Rows
theorem pq:∀ {vs:My Py} {ns:My Int},IntsAre vs ns->bX (ns.map V.int) vs
 | _,_,.nil=>.nil
 | _,_,.cons n t h=>.cons ⟨t,rfl⟩ (pq h)
def JE (H:Hp):Prop:=∀ b,H b=none\/∃ o xs,H b=some (.frz o (.lst xs))
theorem AK {P:Program} {w:World} {K:PB} {mg mb:Str->Px Py} {CX:CXT} {k:Nat} {fa a:Pz} {fd:FuncData} {x:Str} {sp:Sp} {s₁:PD} {vs:My Py} {ns:My Int}
  (KX:K.In s₁.heap) (hns:s₁.heap.Ns mainGlobals mg) (hb:s₁.heap.Ns builtinsNs mb) (hbb:∀ x:Str,x≠"__name__"->mb x=bootBuiltins x) (hlim:s₁.heap.NoLimit) (hg:s₁.gens=#[])
  (ha:s₁.heap.get? a=some { cls:=.type "list",data:=.seq vs.toArray }) (hi:IntsAre vs ns) (hl:ns.length<=sizeLine) (hr:dD k callerA)
  (F:∀ base:Heap,K.In base->base.Ns mainGlobals mg->gO P w K mg base CX k fa fd [x] sp) (hbind:∀ (s:PD) (u:Py),BindsTo s fd ⟨[u],[]⟩ [(x,u)])
  (hsp:∀ H:Hp,JE H->SqL K H a (ns.map V.int)->sp [.ref a] H (λ v _=>v=.bl true) λ _ _ _=>False)
  (hCX:∀ H e s',CX [] H s₁ (λ _ _ _=>False) e s'->False):codeAny (model P w) callerA (.call (.ref fa) ⟨[.ref a],[]⟩) (λ r s'=>r=.ok (.ret (.bool true))/\OldK s₁.heap s'.heap/\s'.os=s₁.os/\AllBare s'.gens) s₁:=by
 have rv:=pq hi;have lenV:=hi.length
 have core:∀ H:Hp,JE H->SqL K H a (ns.map V.int)->HOk P w H s₁.heap->(∀ b,H b≠none->b=a)->(H a≠none->K.lookup a=none)->codeAny (model P w) callerA (.call (.ref fa) ⟨[.ref a],[]⟩) (λ r s'=>r=.ok (.ret (.bool true))/\OldK s₁.heap s'.heap/\s'.os=s₁.os/\AllBare s'.gens) s₁:=by
  intro H hO hS hok hA hK;have base_of:∀ {b:Pz} {o:Obj},s₁.heap.get? b=some o->H b=none->(AN s₁.heap H).get? b=some o:=λ e n=>AM e n
  have noA:∀ {b:Pz} {o:Obj} {es:Array DictEntry} {ep:Nat},s₁.heap.get? b=some o->o.data=.dict es ep->H b=none:=λ {b o es ep} e d=>by
   cases q:H b with
   | none=>rfl
   | some u=>
    have e':b=a:=hA b (by rw [q]; simp);subst e';rw [ha] at e; cases e
    have d':Data.seq vs.toArray _=Data.dict es ep:=d;cases d'
  have nsK:∀ {b:Pz} {m:Str->Px Py},s₁.heap.Ns b m->(AN s₁.heap H).Ns b m:=λ {b m} ⟨o,es,ep,e,d,r⟩=>⟨o,es,ep,base_of e (noA e d),d,r⟩
  have hKb:K.In (AN s₁.heap H):=λ b o e=>base_of (KX b o e) (by
   cases q:H b with
   | none=>rfl
   | some u=>
    have e':b=a:=hA b (by rw [q]; simp);subst e'
    rw [hK (by rw [q]; simp)] at e; cases e)
  have hM:Mod K mg (AN s₁.heap H):=⟨hKb,nsK hns,⟨mb,nsK hb,hbb⟩,let ⟨mc,h1,h2⟩:=hlim; ⟨mc,nsK h1,h2⟩⟩
  have e0:E9 P w K mg (AN s₁.heap H) callerA [] s₁ H:=⟨rfl,hM,λ b o e=>De e,Nat.le_of_eq (yw _ _),trivial,λ b hb=>absurd (show b ∈ ([]:My Pz) from hb) (by simp),hok,.of_eq hg⟩
  refine codeAny_mono ((F _ hKb (nsK hns)).run callerA [] s₁ H ⟨[.ref a],[]⟩ [.ref a] [.ref a] _ _ hr e0 (hbind s₁ (.ref a)) (.cons rfl .nil) (hsp H hO hS)) λ r s' h=>?_
  cases r with
  | error e=>exact (hCX H e s' h).elim
  | ok fl=>
   cases fl with
   | next=>exact False.elim h
   | brk=>exact False.elim h
   | cont=>exact False.elim h
   | ret u=>
    obtain ⟨v,H',os,bare,un,hok',r',q⟩:=h;have q':v=.bl true:=q;subst q';obtain rfl:u=Value.bool true:=r';refine ⟨rfl,OldK.of_keep λ b o e=>?_,os,bare⟩
    cases q:H b with
    | none=>exact un.keep b o e q (by intro z; exact absurd (show b ∈ ([]:My Pz) from z) (by simp)) (by simp)
    | some u=>
     rcases hO b with z | ⟨ob,xs,z⟩
     · rw [q] at z; cases z
     ·have z2:=un.ql b ob _ z
      obtain ⟨e1,_⟩:=hok b _ z;obtain ⟨e2,_⟩:=hok' b _ z2;rw [e] at e1; cases e1
      exact e2
 cases hk:K.lookup a with
 | some o=>
  have e:=KX a o hk;rw [ha] at e;cases e;refine core (λ _=>none) (λ _=>.inl rfl) (.inr ⟨_,vs.toArray,_,hk,rfl,rfl,rfl,by rw [Zq,lenV]; exact hl,by simpa using rv⟩) (λ b u z=>by have z':(none:Px HO)=some u:=z; cases z') (λ b z=>absurd rfl z) λ z=>absurd rfl z
 | none=>
  refine core (λ b=>if b=a then some (.frz { cls:=.type "list",data:=.seq vs.toArray } (.lst (ns.map V.int))) else none) (λ b=>?_) (.inl (.inr ⟨{ cls:=.type "list",data:=.seq vs.toArray },if_pos rfl⟩)) (λ b u z=>?_) (λ b z=>?_) λ _=>hk
  ·by_cases hb:b=a
   · exact .inr ⟨_,_,if_pos hb⟩
   · exact .inl (if_neg hb)
  ·by_cases hb:b=a
   ·have z':=(if_pos hb).symm.trans z
    cases z';subst hb;exact ⟨ha,by rw [Zc]; exact hl,vs,_,rv,ha⟩
   ·have z':=(if_neg hb).symm.trans z
    cases z'
  ·by_cases hb:b=a
   · exact hb
   · exact absurd (if_neg hb) z
abbrev KOf {K:PB} {h:Heap} (_:K.In h):PB:=K
theorem Cc {l:PySem.W.OpenLaw} {n k:Nat} {q:Program} {loose:My Str} {XP:(Str->Px Py)->Heap->Prop} {YP:World->Heap->Prop} {d:DefRec} {K:PF->PB} {CX:World->CXT} {sp:World->Sp} {x:Str}
    (hn:l.most=some n) (hn2:n<=sizeLine) (hdf:d.params.defaults=[]) (hr:dD k callerA)
    (hY:∀ (w:World) (h:Heap),YP w h->(K w.params).In h)
    (F : ∀ (w:World) (mg:Str->Px Py) (fa:Pz) (h:Heap),(K w.params).In h->h.Ns mainGlobals mg->mg d.name=some (.ref fa)->∃ fd:FuncData,(∀ (s:PD) (u:Py),BindsTo s fd ⟨[u],[]⟩ [(x,u)])/\∀ base:Heap,(K w.params).In base->base.Ns mainGlobals mg->gO l.prog w (K w.params) mg base (CX w) k fa fd [x] (sp w))
    (hsp:∀ (w:World) (H:Hp) (a:Pz) (ns:My Int),ns.length<=n->JE H->SqL (K w.params) H a (ns.map V.int)->sp w [.ref a] H (λ v _=>v=.bl true) λ _ _ _=>False)
    (hCX:∀ (w:World) (H:Hp) (s:PD) (e:Py) (s':PD),CX w [] H s (λ _ _ _=>False) e s'->False):PySem.W.WalkO q loose XP YP l.row.toRowW d [] (λ f vs=>PySem.call f vs):=by
  refine Att.sW hn hdf λ w s₀ s₁ mg mb fa o pm cd doc a vs ns G Y ho hd hcd hmg hobj hints hlen hg=>?_
  have KX:=hY w _ Y;obtain ⟨fd,hb,hF⟩:=F w mg fa _ KX G.T.g hmg;exact AK KX G.T.g G.T.b G.T.builtins G.T.nolimit hg hobj hints (Z6 hlen hn2) hr hF hb (λ H hO hS=>hsp w H a ns hlen hO hS) λ H e s'=>hCX w H s₁ e s'
theorem zS {l:PySem.W.OpenLaw} {n k:Nat} {q:Program} {loose:My Str} {XP:(Str->Px Py)->Heap->Prop} {YP:World->Heap->Prop} {d:DefRec} {K:PF->PB} {CX:CXT} {sp:PB->Sp} {x:Str}
    (hn:l.most=some n) (hn2:n<=sizeLine) (hdf:d.params.defaults=[]) (hr:dD k callerA)
    (hY:∀ (w:World) (h:Heap),YP w h->(K w.params).In h)
    (F : ∀ (w:World) (mg:Str->Px Py) (fa:Pz) (h:Heap),(K w.params).In h->h.Ns mainGlobals mg->mg d.name=some (.ref fa)->∃ fd:FuncData,(∀ (s:PD) (u:Py),BindsTo s fd ⟨[u],[]⟩ [(x,u)])/\∀ base:Heap,(K w.params).In base->base.Ns mainGlobals mg->gO l.prog w (K w.params) mg base CX k fa fd [x] (sp (K w.params)))
    (hsp:∀ (K:PB) (H:Hp) (a:Pz) (ns:My Int),ns.length<=n->JE H->SqL K H a (ns.map V.int)->sp K [.ref a] H (λ v _=>v=.bl true) λ _ _ _=>False)
    (hCX:∀ (H:Hp) (s:PD) (e:Py) (s':PD),CX [] H s (λ _ _ _=>False) e s'->False):PySem.W.WalkO q loose XP YP l.row.toRowW d [] (λ f vs=>PySem.call f vs):=
  Cc (K:=K) (CX:=λ _=>CX) (sp:=λ w=>sp (K w.params)) hn hn2 hdf hr hY F (λ w H a ns h1 h2 h3=>hsp (K w.params) H a ns h1 h2 h3) λ _ H s e s'=>hCX H s e s'
end L2
namespace L2
open PySem PySem.Spec PyProof.Rows
noncomputable def inClass (s:Stmt) (j:Nat):Stmt:=match s with
 | .ClassDef _ _ _ body _ _ _ _ _ _ _=>body.getD j (.Pass ⟨0,0,0,0⟩)
 | _=>.Pass ⟨0,0,0,0⟩
def dv (s:Stmt):Arguments:=match s with
 | .FunctionDef _ a _ _ _ _ _ _ _ _=>a
 | _=>{ posonlyargs:=[],args:=[],vararg:=none,kwonlyargs:=[],kw_defaults:=[],kwarg:=none,defaults:=[] }
def bP (s:Stmt):My Stmt:=match s with
 | .FunctionDef _ _ b _ _ _ _ _ _ _=>b
 | _=>[]
def aD (s:Stmt):Scope:=match s with
 | .FunctionDef _ _ _ _ _ _ sc _ _ _=>sc
 | _=>{ kind:=.function,names:=[],isGenerator:=false,isCoroutine:=false }
abbrev CX0:CXT:=λ _ _ _ _ _ _=>False
abbrev E0:XK:=λ _ _ _=>False
def oj:jR CX0 X E0:=λ _ _ _ _ _ _ _ h=>h.elim
structure Fun (K:W.Frag) (x qual:Str) (st:Stmt) (f:Addr) (fd:FuncData):Prop where
 ex:∃ (oc:Value) (od:Option Addr) (kV doc pm:Value) (an:Option Addr) (cdv ct:Value) (osl:Array (Option Value)),
  fd=PySem.W.fnOf x qual (dv st) (bP st) (aD st) .none kV doc pm an cdv ct/\K.lookup f=some ⟨oc,od,.func fd,osl⟩/\PySem.W.codeIn K cdv qual=true
 kp:W.keepIn K (.ref f)=true
section
variable {P:Program} {w:World} {K:PB} {mg:Str->Px Py} {base:Heap}
theorem Fun.ok {x qual:Str} {st:Stmt} {f:Pz} {fd:FuncData} {N ps:My Str} {k:Nat} {sp:Sp} (F:Fun K x qual st f fd) (S:cM N ps (aD st)) (len:∀ vs H Q E,sp vs H Q E->vs.length=ps.length)
  (hbody:∀ (cdv:Py) (A:Around) (outer:My Env) (s:PD) (H:Hp) (vs:My V) (Q:VK) (E:XK),dD k (A.deeper (envOfC qual (aD st) s.heap.objs.size f cdv))->sp vs H Q E->∃ t,PSs (qB CX0 P w K mg base N qual (aD st) f cdv A outer s H E).nox (bP st) t/\t { nx:=λ _ H'=>Q .non H',rt:=Q } (start N vs) H):gO P w K mg base CX0 (k+1) f fd ps sp:=by
 obtain ⟨oc,od,kV,doc,pm,an,cdv,ct,osl,rfl,lk,hcd⟩:=F.ex;refine HG lk hcd S len λ A outer s H vs Q E hr hsp=>?_
 obtain ⟨t,h,q⟩:=hbody cdv A outer s H vs Q E hr hsp;exact ⟨t,h.nox,q⟩
theorem Fun.binds {x qual:Str} {st:Stmt} {f:Pz} {fd:FuncData} {ps:My Str} (F:Fun K x qual st f fd)
  (h:∀ (kV doc pm:Py) (an:Px Pz) (cdv ct:Py) (us:My Py),us.length=ps.length->bindArgs (PySem.W.fnOf x qual (dv st) (bP st) (aD st) .none kV doc pm an cdv ct) ⟨us,[]⟩=pure (ps.zip us)):Binds K fd ps []:=by
 obtain ⟨oc,od,kV,doc,pm,an,cdv,ct,osl,rfl,lk,hcd⟩:=F.ex;exact .all (h kV doc pm an cdv ct)
theorem l5 {x qual:Str} {st:Stmt} {f:Pz} {oc:Py} {od an:Px Pz} {osl:Array (Px Py)} {kV doc pm cdv ct:Py} (l:K.lookup f=some ⟨oc,od,.func (PySem.W.fnOf x qual (dv st) (bP st) (aD st) .none kV doc pm an cdv ct),osl⟩)
 (c:PySem.W.codeIn K cdv qual=true) (k:W.keepIn K (.ref f)=true):Fun K x qual st f (PySem.W.fnOf x qual (dv st) (bP st) (aD st) .none kV doc pm an cdv ct):=⟨⟨oc,od,kV,doc,pm,an,cdv,ct,osl,rfl,l,c⟩,k⟩
end
theorem ia (hr:dD k A):A.units+1 < cLine:=Nat.lt_of_le_of_lt (Nat.add_le_add_left (by decide:1<=64) _) hr.units
section
variable {X:Cx}
theorem pv (i:Nat) (hN:X.N[i]?=some x:=by rfl) (hv:Vis X.env.scope x:=by walk_at "w") (hd:Dg x:=by decide)
 (hcd:(x == ("__classdict__":Str))=false:=by decide):PE X (.Name x pos) (zV i):=fU hN hv hd hcd
end
def Eg {A B:Prop} (h:B):if false=true then A else B:=by
 rw [if_neg Zf];exact h
def Ef {A B:Prop} (h:A):if true=true then A else B:=by
 rw [if_pos rfl];exact h
def cc (H H':Hp):Prop:=∀ b o,H b=some o->H' b=some o
def cc.refl (H:Hp):cc H H:=λ _ _ h=>h
def cc.trans (a:cc H H1) (b:cc H1 H2):cc H H2:=λ c o h=>b c o (a c o h)
def cc.free (e:cc H H') (h:H' l=Option.none):H l=Option.none:=by
 cases q:H l with
 | none=>rfl
 | some o=>
  rw [e l o q] at h;cases h
theorem cc.seq {K:PB} {H H':Hp} {a:Pz} {xs:My V} (e:cc H H') (h:SqL K H a xs):SqL K H' a xs:=by
 rcases h with (h | ⟨o,h⟩) | h
 · exact .inl (.inl (e _ _ h))
 · exact .inl (.inr ⟨o,e _ _ h⟩)
 · exact .inr h
end L2
end
section
namespace HD11
open PySem PySem.W PySem.W.X PyProof.Rows L2
abbrev hp:Program:=PySem.Challenge.pw_stylehouse_k11_refused
abbrev hl:OpenLaw:=PySem.Challenge.rw_stylehouse_k11_refused
def Uc (i:Nat):Stmt:=PySem.Challenge.pw_stylehouse_k11_refused.main.body.getD i (.Pass ⟨0,0,0,0⟩)
abbrev tL (o:PF->Obj) (P:PF):BT:=.node (o P) .nil .nil
abbrev tN (o:PF->Obj) (l r:PF->BT) (P:PF):BT:=.node (o P) (l P) (r P)
abbrev tZ (_:PF):BT:=.nil
abbrev dE (P:PF) (n:Str) (t:Nat) (v:Py):DictEntry:=⟨PyData.keyHash P n,.str n t,v⟩
abbrev oF (y:String) (l:My Py) (_:PF):Obj:=⟨.type y,none,.fields ⟨l⟩,⟨[]⟩⟩
abbrev oQ (y:String) (l:My Py) (n:Nat) (_:PF):Obj:=⟨.type y,none,.seq ⟨l⟩ n,⟨[]⟩⟩
abbrev oD (y:String) (l:My DictEntry) (n:Nat):Obj:=⟨.type y,none,.dict ⟨l⟩ n,⟨[]⟩⟩
abbrev oM (y:String) (n q:Str) (s:Stmt) (g:Nat) (c:My (Str×Pz)) (d k dc pm:Py) (an:Px Pz) (cd ct:Py) (b:Nat):Obj:=⟨.type y,none,.func ⟨n,q,dv s,.stmts (bP s),aD s,g,c,d,k,dc,pm,an,cd,ct,b⟩,⟨[]⟩⟩
abbrev oC (y:String) (n:Str) (a:Nat) (q:Str) (b:Nat) (f:Str) (c i1 i2 i3 i4 i5 r1:Nat) (o:Bool) (i6 r2:Nat) (v1 v2 v3 v4:Py) (i7 i8:Nat) (g:Str) (d:Nat):Obj:=⟨.type y,none,.fields ⟨[.str n a,.str q b,.str f c,.int (.ofNat i1) 0,.int (.ofNat i2) 0,.int (.ofNat i3) 0,.int (.ofNat i4) 0,.int (.ofNat i5) 0,.ref r1,.bool o,.int (.ofNat i6) 0,.ref r2,v1,v2,v3,v4,.int (.ofNat i7) 0,.int (.ofNat i8) 0,.str g d]⟩,⟨[]⟩⟩
abbrev vI (i t:Nat):Py:=.int (.ofNat i) t
abbrev vS (s:Str) (t:Nat):Py:=.str s t
abbrev vR (a:Nat):Py:=.ref a
abbrev y0:String:=PySem.W.SL.s2766695959194262286x5
abbrev y1:String:=PySem.W.SL.s5856160107412720595x4
abbrev y2:String:=PySem.W.SL.s658472552662922059x5
abbrev y3:String:=PySem.W.SL.s14018661285674007319x4
abbrev y4:String:=PySem.W.SL.s7097527257260152453x26
abbrev y5:String:=PySem.W.SL.s7174869446012820540x8
abbrev y6:String:=PySem.W.SL.s6070975301684473832x10
abbrev y7:String:=PySem.W.SL.s11030030927630378310x26
abbrev y8:String:=PySem.W.SL.s10062305145149207511x16
abbrev y9:String:=PySem.W.SL.s17162191345867700912x4
abbrev y10:String:=PySem.W.SL.s5946037652744460706x9
abbrev y11:String:=PySem.W.SL.s4278001404047624695x13
abbrev y12:String:=PySem.W.SL.s2742458400755230247x6
abbrev y13:String:=PySem.W.SL.s4209523147560561109x18
abbrev y14:String:=PySem.W.SL.s14755015743595814543x17
abbrev y15:String:=PySem.W.SL.s10220274742760427390x26
abbrev y16:String:=PySem.W.SL.s4290257624100764138x5
abbrev y17:String:=PySem.W.SL.s4860613602091757760x24
abbrev y18:String:=PySem.W.SL.s11443829558043349243x14
abbrev y19:String:=PySem.W.SL.s6511155373996960695x17
abbrev y20:String:=PySem.W.SL.s12411053484034534018x21
def n0:Str:="<module>"
def n1:Str:="/claim/cut.py"
def n2:Str:="__main__"
def n3:Str:="__name__"
def n4:Str:="stylehouse.errors"
def n5:Str:="__doc__"
def n6:Str:="__package__"
def n7:Str:="__loader__"
def n8:Str:="__spec__"
def n9:Str:="__annotations__"
def n10:Str:="__builtins__"
def n11:Str:="__file__"
def n12:Str:="__cached__"
def n13:Str:="_wall"
def n14:Str:="HouseError"
def n15:Str:="NoFraction"
def n16:Str:="NoBox"
def n17:Str:="k"
def n18:Str:="__module__"
def n19:Str:="__qualname__"
def n20:Str:="__firstlineno__"
def n21:Str:="__static_attributes__"
def n22:Str:="__weakref__"
def n23:Str:="Rooted"
def n24:Str:="NoPlace"
def n25:Str:="NoName"
def n26:Str:="TooMuch"
def n27:Str:="NoRule"
def n28:Str:="NoValue"
def n29:Str:="stylehouse.tree"
def n30:Str:="NoText"
def n31:Str:="LONGEST_NAME"
def n32:Str:="is_name"
def n33:Str:="beneath"
def n34:Str:="holders_of"
def n35:Str:="depth_of"
def n36:Str:="MOST_BOXES"
def n37:Str:="MOST_DEEP"
def n38:Str:="ROOT"
def n39:Str:="stylehouse.names"
def n40:Str:="tree"
def n41:Str:="box"
def n42:Str:="found"
def n43:Str:="left"
def n44:Str:="one"
def n45:Str:="stylehouse.walks"
def n46:Str:="holder"
def n47:Str:="Tree"
def n48:Str:="check_name"
def n49:Str:="__init__"
def n50:Str:="enter"
def n51:Str:="check"
def n52:Str:="put"
def n53:Str:="cut"
def n54:Str:="move"
def n55:Str:="mark"
def n56:Str:="bare"
def n57:Str:="write"
def n58:Str:="dress"
def n59:Str:="stands"
def n60:Str:="name_of"
def n61:Str:="marks_of"
def n62:Str:="words_of"
def n63:Str:="rows_of"
def n64:Str:="holder_of"
def n65:Str:="boxes_of"
def n66:Str:="self"
def n67:Str:="name"
def n68:Str:="Tree.__init__"
def n69:Str:="Tree.enter"
def n70:Str:="Tree.check"
def n71:Str:="place"
def n72:Str:="Tree.put"
def n73:Str:="gone"
def n74:Str:="store"
def n75:Str:="Tree.cut"
def n76:Str:="Tree.move"
def n77:Str:="word"
def n78:Str:="Tree.mark"
def n79:Str:="Tree.bare"
def n80:Str:="words"
def n81:Str:="Tree.write"
def n82:Str:="rows"
def n83:Str:="Tree.dress"
def n84:Str:="Tree.stands"
def n85:Str:="Tree.name_of"
def n86:Str:="Tree.marks_of"
def n87:Str:="Tree.words_of"
def n88:Str:="Tree.rows_of"
def n89:Str:="Tree.holder_of"
def n90:Str:="Tree.boxes_of"
def n91:Str:="boxes"
def n92:Str:="given"
def n93:Str:="holders"
def n94:Str:="marks"
def n95:Str:="names"
def n96:Str:="__dict__"
def n97:Str:="law_stylehouse_k11_refused"
def n98:Str:="check_place"
def n99:Str:="_law_cell"
def DP:Str:="_law_mix"
def DN:Str:="_law_name"
def DM:Str:="_law_whole"
def DL:Str:="_law_same_row"
def DK:Str:="_law_under"
def DJ:Str:="_law_deep"
def DH:Str:="_law_stood"
def DF:Str:="_law_put"
def DD:Str:="_law_said"
def DC:Str:="_law_only"
def DB:Str:="_law_good"
def Dz:Str:="_law_due"
def Dy:Str:="_law_number"
def Dx:Str:="_law_word"
def Dw:Str:="_law_refusing"
def Dv:Str:="_law_deepest"
def Du:Str:="_law_fullest"
def Dt:Str:="law"
def O1:Str:="row"
def G8:Str:="_law_script"
def G7:Str:="_law_k"
def Jx:Str:="_law_cell_here"
def Md:Str:="_law_way"
def O0:Str:="_law_first"
def NX:Str:="_law_found"
def NW:Str:="_law_due_here"
def Jw:Str:="_law_rows"
def G6:Str:="_law_box"
def Mc:Str:="_law_told"
def OZ:Str:="_law_todo"
def NV:Str:="_law_one"
def Mb:Str:="_law_facts"
def OY:Str:="_law_deep_here"
def G5:Str:="_law_tree"
def Jv:Str:="_law_holder"
def Ju:Str:="_law_name_here"
def NU:Str:="_law_deed"
def NT:Str:="_law_place"
def Jt:Str:="_law_word_here"
def OX:Str:="e"
def OW:Str:="_law_sign"
def Ma:Str:="_law_coming"
def L9:Str:="_law_draw"
def NS:Str:="_law_some"
def OV:Str:="_law_odd"
def OU:Str:="_law_at"
def OT:Str:="_law_lost"
def OS:Str:="_law_under_here"
def OR:Str:="_law_size"
def OQ:Str:="_law_tall"
def OP:Str:="_law_more"
def OO:Str:="_law_goal"
def ON:Str:="_law_number_here"
def OM:Str:="_law_gone"
abbrev oN (n q:Str) (s:Stmt) (_:PF):Obj:=⟨.none,none,.func ⟨n,q,dv s,.stmts (bP s),aD s,0,[],.none,.none,.none,.none,none,.none,.none,0⟩,⟨[]⟩⟩
abbrev Uq (n:Str) (k:Nat):PF->Obj:=oN n n (Uc k)
noncomputable def tri:My Nat->My Py
 | a::b::r=>.int (.ofNat a) 0::.int (.ofNat 0) 0::.ref b::tri r
 | _=>[]
abbrev oR (l:My Nat) (_:PF):Obj:=⟨.none,none,.fields ⟨tri l⟩,⟨[]⟩⟩
abbrev oE (n q:Str) (t l a r s:Nat) (_:PF):Obj:=oC y1 n t q (t+1) n1 (t+2) l a 0 0 3 r true 181 (r+1) .none (.ref (r+2)) (.ref (r+3)) (.ref (r+4)) s l n1 (s+1)
abbrev oG (n q:Str) (s:Stmt) (m:Str) (t r:Nat) (_:PF):Obj:=oM y5 n q s 3 [] .none .none .none (.str m t) none (.ref r) .none 0
abbrev Ur (n:Str) (k:Nat) (m:Str) (t r:Nat):PF->Obj:=oG n n (Uc k) m t r
def o0:=oQ y0 [] 0
noncomputable def o1 (P:PF):Obj:=⟨.none,none,(.fields ⟨[]⟩),⟨[]⟩⟩
def o2 (P:PF):Obj:=oC y1 n0 182 n0 183 n1 184 1 0 0 0 0 11 false 181 12 .none .none .none .none 185 1 n1 186
def o3 (P:PF):Obj:=⟨(.type y2),none,.plain,⟨[(some (vR 13)),(some (vR 3)),(some (vR 3)),none,(some (vS n2 164)),none,(some (vR 0))]⟩⟩
def o4 (P:PF):Obj:=oD y3 [dE P n3 165 (vS n4 194),dE P n5 166 .none,dE P n6 167 .none,dE P n7 168 (.builtin y4),dE P n8 169 .none,dE P n9 170 (vR 6),dE P n10 171 (vR 4),dE P n11 173 (vS n1 172),dE P n12 174 .none,dE P n13 193 (vR 21),dE P n14 213 (vR 31),dE P n15 229 (vR 44),dE P n16 245 (vR 56)] 13
noncomputable def o5:=oR [1,20,5,27,7,40,9,52]
def o6:=oQ y0 [vS n17 190] 0
noncomputable def o7:=Uq n13 0
def o8:=oE n13 n13 187 1 1 15 191
def o9:=Ur n13 0 n2 164 20
def o10:=oQ y0 [(.type y6)] 0
def o11:=oF y7 [(.builtin y8),(.type y9)]
def o12 (P:PF):Obj:=oD y3 [dE P n18 203 (vS n4 194),dE P n19 205 (vS n14 204),dE P n20 207 (vI 5 206),dE P n21 208 (vR 29)] 4
def o13 (P:PF):Obj:=oC y1 n14 198 n14 199 n1 200 5 0 0 0 0 25 false 181 26 .none .none .none .none 201 5 n1 202
def o14 (P:PF):Obj:=⟨(.type y2),none,.plain,⟨[(some (vR 27)),(some (vR 3)),(some (vR 24)),none,(some (vS n4 194)),none,(some (vR 0))]⟩⟩
def o15 (P:PF):Obj:=oD y3 [dE P n18 203 (vS n4 194),dE P n20 207 (vI 5 206),dE P n21 208 (vR 29),dE P n22 210 (vR 32),dE P n5 211 .none] 3
def o16 (P:PF):Obj:=⟨(.type y9),none,(.cls ⟨n14,[(.type y6)],[vR 31,(.type y6),(.type y10),(.type y11),(.type y12)],30,n14,true,[],[vR 44,vR 56],false,none,false⟩),⟨[(some (vR 22)),none,(some (vS n14 196)),(some (vS n14 204)),(some (.builtin y13)),(some (.bool true))]⟩⟩
def o17:=oF y14 [vS n22 209,vR 31,(.builtin y15),.none]
def o18:=oF y16 [vR 31,vR 31,vR 31]
def o19:=oF y7 [(.builtin y17),vR 31]
def o20:=oQ y0 [vR 31] 0
def o21 (P:PF):Obj:=oD y3 [dE P n18 221 (vS n4 194),dE P n19 223 (vS n15 222),dE P n20 225 (vI 7 224),dE P n21 226 (vR 42)] 4
def o22 (P:PF):Obj:=oC y1 n15 216 n15 217 n1 218 7 0 0 0 0 38 false 181 39 .none .none .none .none 219 7 n1 220
def o23 (P:PF):Obj:=⟨(.type y2),none,.plain,⟨[(some (vR 40)),(some (vR 3)),(some (vR 37)),none,(some (vS n4 194)),none,(some (vR 0))]⟩⟩
def o24 (P:PF):Obj:=oD y3 [dE P n18 221 (vS n4 194),dE P n20 225 (vI 7 224),dE P n21 226 (vR 42),dE P n5 227 .none] 2
def o25 (P:PF):Obj:=⟨(.type y9),none,(.cls ⟨n15,[vR 31],[vR 44,vR 31,(.type y6),(.type y10),(.type y11),(.type y12)],43,n15,true,[],[],false,none,false⟩),⟨[(some (vR 35)),none,(some (vS n15 214)),(some (vS n15 222)),(some (.builtin y13)),(some (.bool true))]⟩⟩
def o26:=oF y16 [vR 44,vR 44,vR 44]
def o27:=oF y7 [(.builtin y17),vR 44]
def o28 (P:PF):Obj:=oD y3 [dE P n18 237 (vS n4 194),dE P n19 239 (vS n16 238),dE P n20 241 (vI 9 240),dE P n21 242 (vR 54)] 4
def o29 (P:PF):Obj:=oC y1 n16 232 n16 233 n1 234 9 0 0 0 0 50 false 181 51 .none .none .none .none 235 9 n1 236
def o30 (P:PF):Obj:=⟨(.type y2),none,.plain,⟨[(some (vR 52)),(some (vR 3)),(some (vR 49)),none,(some (vS n4 194)),none,(some (vR 0))]⟩⟩
def o31 (P:PF):Obj:=oD y3 [dE P n18 237 (vS n4 194),dE P n20 241 (vI 9 240),dE P n21 242 (vR 54),dE P n5 243 .none] 2
def o32 (P:PF):Obj:=⟨(.type y9),none,(.cls ⟨n16,[vR 31],[vR 56,vR 31,(.type y6),(.type y10),(.type y11),(.type y12)],55,n16,true,[],[],false,none,false⟩),⟨[(some (vR 47)),none,(some (vS n16 230)),(some (vS n16 238)),(some (.builtin y13)),(some (.bool true))]⟩⟩
def o33:=oF y16 [vR 56,vR 56,vR 56]
def o34:=oF y7 [(.builtin y17),vR 56]
def o35 (P:PF):Obj:=oD y3 [dE P n3 165 (vS n4 194),dE P n5 166 .none,dE P n6 167 .none,dE P n7 168 (.builtin y4),dE P n8 169 .none,dE P n9 170 (vR 6),dE P n10 171 (vR 4),dE P n11 173 (vS n1 172),dE P n12 174 .none,dE P n13 193 (vR 21),dE P n14 213 (vR 31),dE P n15 229 (vR 44),dE P n16 245 (vR 56),dE P n23 261 (vR 68),dE P n24 277 (vR 80),dE P n25 293 (vR 92)] 16
noncomputable def o36:=oR [1,20,5,27,7,40,9,52,11,64,13,76,15,88]
def o37 (P:PF):Obj:=⟨(.type y9),none,(.cls ⟨n14,[(.type y6)],[vR 31,(.type y6),(.type y10),(.type y11),(.type y12)],30,n14,true,[],[vR 44,vR 56,vR 68,vR 80,vR 92],false,none,false⟩),⟨[(some (vR 22)),none,(some (vS n14 196)),(some (vS n14 204)),(some (.builtin y13)),(some (.bool true))]⟩⟩
def o38 (P:PF):Obj:=oD y3 [dE P n18 253 (vS n4 194),dE P n19 255 (vS n23 254),dE P n20 257 (vI 11 256),dE P n21 258 (vR 66)] 4
def o39 (P:PF):Obj:=oC y1 n23 248 n23 249 n1 250 11 0 0 0 0 62 false 181 63 .none .none .none .none 251 11 n1 252
def o40 (P:PF):Obj:=⟨(.type y2),none,.plain,⟨[(some (vR 64)),(some (vR 3)),(some (vR 61)),none,(some (vS n4 194)),none,(some (vR 0))]⟩⟩
def o41 (P:PF):Obj:=oD y3 [dE P n18 253 (vS n4 194),dE P n20 257 (vI 11 256),dE P n21 258 (vR 66),dE P n5 259 .none] 2
def o42 (P:PF):Obj:=⟨(.type y9),none,(.cls ⟨n23,[vR 31],[vR 68,vR 31,(.type y6),(.type y10),(.type y11),(.type y12)],67,n23,true,[],[],false,none,false⟩),⟨[(some (vR 59)),none,(some (vS n23 246)),(some (vS n23 254)),(some (.builtin y13)),(some (.bool true))]⟩⟩
def o43:=oF y16 [vR 68,vR 68,vR 68]
def o44:=oF y7 [(.builtin y17),vR 68]
def o45 (P:PF):Obj:=oD y3 [dE P n18 269 (vS n4 194),dE P n19 271 (vS n24 270),dE P n20 273 (vI 13 272),dE P n21 274 (vR 78)] 4
def o46 (P:PF):Obj:=oC y1 n24 264 n24 265 n1 266 13 0 0 0 0 74 false 181 75 .none .none .none .none 267 13 n1 268
def o47 (P:PF):Obj:=⟨(.type y2),none,.plain,⟨[(some (vR 76)),(some (vR 3)),(some (vR 73)),none,(some (vS n4 194)),none,(some (vR 0))]⟩⟩
def o48 (P:PF):Obj:=oD y3 [dE P n18 269 (vS n4 194),dE P n20 273 (vI 13 272),dE P n21 274 (vR 78),dE P n5 275 .none] 2
def o49 (P:PF):Obj:=⟨(.type y9),none,(.cls ⟨n24,[vR 31],[vR 80,vR 31,(.type y6),(.type y10),(.type y11),(.type y12)],79,n24,true,[],[],false,none,false⟩),⟨[(some (vR 71)),none,(some (vS n24 262)),(some (vS n24 270)),(some (.builtin y13)),(some (.bool true))]⟩⟩
def o50:=oF y16 [vR 80,vR 80,vR 80]
def o51:=oF y7 [(.builtin y17),vR 80]
def o52 (P:PF):Obj:=oD y3 [dE P n18 285 (vS n4 194),dE P n19 287 (vS n25 286),dE P n20 289 (vI 15 288),dE P n21 290 (vR 90)] 4
def o53 (P:PF):Obj:=oC y1 n25 280 n25 281 n1 282 15 0 0 0 0 86 false 181 87 .none .none .none .none 283 15 n1 284
def o54 (P:PF):Obj:=⟨(.type y2),none,.plain,⟨[(some (vR 88)),(some (vR 3)),(some (vR 85)),none,(some (vS n4 194)),none,(some (vR 0))]⟩⟩
def o55 (P:PF):Obj:=oD y3 [dE P n18 285 (vS n4 194),dE P n20 289 (vI 15 288),dE P n21 290 (vR 90),dE P n5 291 .none] 2
def o56 (P:PF):Obj:=⟨(.type y9),none,(.cls ⟨n25,[vR 31],[vR 92,vR 31,(.type y6),(.type y10),(.type y11),(.type y12)],91,n25,true,[],[],false,none,false⟩),⟨[(some (vR 83)),none,(some (vS n25 278)),(some (vS n25 286)),(some (.builtin y13)),(some (.bool true))]⟩⟩
def o57:=oF y16 [vR 92,vR 92,vR 92]
def o58:=oF y7 [(.builtin y17),vR 92]
def o59 (P:PF):Obj:=oD y3 [dE P n3 165 (vS n4 194),dE P n5 166 .none,dE P n6 167 .none,dE P n7 168 (.builtin y4),dE P n8 169 .none,dE P n9 170 (vR 6),dE P n10 171 (vR 4),dE P n11 173 (vS n1 172),dE P n12 174 .none,dE P n13 193 (vR 21),dE P n14 213 (vR 31),dE P n15 229 (vR 44),dE P n16 245 (vR 56),dE P n23 261 (vR 68),dE P n24 277 (vR 80),dE P n25 293 (vR 92),dE P n26 309 (vR 104),dE P n27 325 (vR 116),dE P n28 341 (vR 128)] 19
noncomputable def o60:=oR [1,20,5,27,7,40,9,52,11,64,13,76,15,88,17,100,19,112,21,124]
def o61 (P:PF):Obj:=⟨(.type y9),none,(.cls ⟨n14,[(.type y6)],[vR 31,(.type y6),(.type y10),(.type y11),(.type y12)],30,n14,true,[],[vR 44,vR 56,vR 68,vR 80,vR 92,vR 104,vR 116,vR 128],false,none,false⟩),⟨[(some (vR 22)),none,(some (vS n14 196)),(some (vS n14 204)),(some (.builtin y13)),(some (.bool true))]⟩⟩
def o62 (P:PF):Obj:=oD y3 [dE P n18 301 (vS n4 194),dE P n19 303 (vS n26 302),dE P n20 305 (vI 17 304),dE P n21 306 (vR 102)] 4
def o63 (P:PF):Obj:=oC y1 n26 296 n26 297 n1 298 17 0 0 0 0 98 false 181 99 .none .none .none .none 299 17 n1 300
def o64 (P:PF):Obj:=⟨(.type y2),none,.plain,⟨[(some (vR 100)),(some (vR 3)),(some (vR 97)),none,(some (vS n4 194)),none,(some (vR 0))]⟩⟩
def o65 (P:PF):Obj:=oD y3 [dE P n18 301 (vS n4 194),dE P n20 305 (vI 17 304),dE P n21 306 (vR 102),dE P n5 307 .none] 2
def o66 (P:PF):Obj:=⟨(.type y9),none,(.cls ⟨n26,[vR 31],[vR 104,vR 31,(.type y6),(.type y10),(.type y11),(.type y12)],103,n26,true,[],[],false,none,false⟩),⟨[(some (vR 95)),none,(some (vS n26 294)),(some (vS n26 302)),(some (.builtin y13)),(some (.bool true))]⟩⟩
def o67:=oF y16 [vR 104,vR 104,vR 104]
def o68:=oF y7 [(.builtin y17),vR 104]
def o69 (P:PF):Obj:=oD y3 [dE P n18 317 (vS n4 194),dE P n19 319 (vS n27 318),dE P n20 321 (vI 19 320),dE P n21 322 (vR 114)] 4
def o70 (P:PF):Obj:=oC y1 n27 312 n27 313 n1 314 19 0 0 0 0 110 false 181 111 .none .none .none .none 315 19 n1 316
def o71 (P:PF):Obj:=⟨(.type y2),none,.plain,⟨[(some (vR 112)),(some (vR 3)),(some (vR 109)),none,(some (vS n4 194)),none,(some (vR 0))]⟩⟩
def o72 (P:PF):Obj:=oD y3 [dE P n18 317 (vS n4 194),dE P n20 321 (vI 19 320),dE P n21 322 (vR 114),dE P n5 323 .none] 2
def o73 (P:PF):Obj:=⟨(.type y9),none,(.cls ⟨n27,[vR 31],[vR 116,vR 31,(.type y6),(.type y10),(.type y11),(.type y12)],115,n27,true,[],[],false,none,false⟩),⟨[(some (vR 107)),none,(some (vS n27 310)),(some (vS n27 318)),(some (.builtin y13)),(some (.bool true))]⟩⟩
def o74:=oF y16 [vR 116,vR 116,vR 116]
def o75:=oF y7 [(.builtin y17),vR 116]
def o76 (P:PF):Obj:=oD y3 [dE P n18 333 (vS n4 194),dE P n19 335 (vS n28 334),dE P n20 337 (vI 21 336),dE P n21 338 (vR 126)] 4
def o77 (P:PF):Obj:=oC y1 n28 328 n28 329 n1 330 21 0 0 0 0 122 false 181 123 .none .none .none .none 331 21 n1 332
def o78 (P:PF):Obj:=⟨(.type y2),none,.plain,⟨[(some (vR 124)),(some (vR 3)),(some (vR 121)),none,(some (vS n4 194)),none,(some (vR 0))]⟩⟩
def o79 (P:PF):Obj:=oD y3 [dE P n18 333 (vS n4 194),dE P n20 337 (vI 21 336),dE P n21 338 (vR 126),dE P n5 339 .none] 2
def o80 (P:PF):Obj:=⟨(.type y9),none,(.cls ⟨n28,[vR 31],[vR 128,vR 31,(.type y6),(.type y10),(.type y11),(.type y12)],127,n28,true,[],[],false,none,false⟩),⟨[(some (vR 119)),none,(some (vS n28 326)),(some (vS n28 334)),(some (.builtin y13)),(some (.bool true))]⟩⟩
def o81:=oF y16 [vR 128,vR 128,vR 128]
def o82:=oF y7 [(.builtin y17),vR 128]
def o83 (P:PF):Obj:=oD y3 [dE P n3 165 (vS n29 399),dE P n5 166 .none,dE P n6 167 .none,dE P n7 168 (.builtin y4),dE P n8 169 .none,dE P n9 170 (vR 6),dE P n10 171 (vR 4),dE P n11 173 (vS n1 172),dE P n12 174 .none,dE P n13 193 (vR 21),dE P n14 213 (vR 31),dE P n15 229 (vR 44),dE P n16 245 (vR 56),dE P n23 261 (vR 68),dE P n24 277 (vR 80),dE P n25 293 (vR 92),dE P n26 309 (vR 104),dE P n27 325 (vR 116),dE P n28 341 (vR 128),dE P n30 357 (vR 140),dE P n31 361 (vI 8 360),dE P n32 367 (vR 147),dE P n33 380 (vR 154),dE P n34 390 (vR 161),dE P n35 398 (vR 168),dE P n36 402 (vI 90 401),dE P n37 404 (vI 12 403),dE P n38 406 (vI 0 405)] 28
noncomputable def o84:=oR [1,20,5,27,7,40,9,52,11,64,13,76,15,88,17,100,19,112,21,124,23,136,27,146,34,153,42,160,49,167]
def o85 (P:PF):Obj:=⟨(.type y9),none,(.cls ⟨n14,[(.type y6)],[vR 31,(.type y6),(.type y10),(.type y11),(.type y12)],30,n14,true,[],[vR 44,vR 56,vR 68,vR 80,vR 92,vR 104,vR 116,vR 128,vR 140],false,none,false⟩),⟨[(some (vR 22)),none,(some (vS n14 196)),(some (vS n14 204)),(some (.builtin y13)),(some (.bool true))]⟩⟩
def o86 (P:PF):Obj:=oD y3 [dE P n18 349 (vS n4 194),dE P n19 351 (vS n30 350),dE P n20 353 (vI 23 352),dE P n21 354 (vR 138)] 4
def o87 (P:PF):Obj:=oC y1 n30 344 n30 345 n1 346 23 0 0 0 0 134 false 181 135 .none .none .none .none 347 23 n1 348
def o88 (P:PF):Obj:=⟨(.type y2),none,.plain,⟨[(some (vR 136)),(some (vR 3)),(some (vR 133)),none,(some (vS n4 194)),none,(some (vR 0))]⟩⟩
def o89 (P:PF):Obj:=oD y3 [dE P n18 349 (vS n4 194),dE P n20 353 (vI 23 352),dE P n21 354 (vR 138),dE P n5 355 .none] 2
def o90 (P:PF):Obj:=⟨(.type y9),none,(.cls ⟨n30,[vR 31],[vR 140,vR 31,(.type y6),(.type y10),(.type y11),(.type y12)],139,n30,true,[],[],false,none,false⟩),⟨[(some (vR 131)),none,(some (vS n30 342)),(some (vS n30 350)),(some (.builtin y13)),(some (.bool true))]⟩⟩
def o91:=oF y16 [vR 140,vR 140,vR 140]
def o92:=oF y7 [(.builtin y17),vR 140]
noncomputable def o93:=Uq n32 14
def o94 (P:PF):Obj:=oC y1 n32 362 n32 363 n1 364 27 1 0 0 3 143 true 181 144 .none .none .none (vR 145) 365 27 n1 366
def o95:=Ur n32 14 n39 358 146
def o96:=oQ y0 [vS n40 373,vS n41 374,vS n42 375,vS n43 376,vS n44 377] 0
noncomputable def o97:=Uq n33 16
def o98:=oE n33 n33 370 34 2 148 378
def o99:=Ur n33 16 n45 368 153
def Js:=oQ y0 [vS n40 384,vS n41 385,vS n42 386,vS n46 387] 0
noncomputable def Jr:=Uq n34 17
def G2:=oE n34 n34 381 42 2 155 388
def G1:=Ur n34 17 n45 368 160
def Jq:=oQ y0 [vS n40 394,vS n41 395] 0
noncomputable def Jp:=Uq n35 18
def G0:=oE n35 n35 391 49 2 162 396
def GZ:=Ur n35 18 n45 368 167
def OJ (P:PF):Obj:=oD y3 [dE P n3 165 (vS n29 399),dE P n5 166 .none,dE P n6 167 .none,dE P n7 168 (.builtin y4),dE P n8 169 .none,dE P n9 170 (vR 6),dE P n10 171 (vR 4),dE P n11 173 (vS n1 172),dE P n12 174 .none,dE P n13 193 (vR 21),dE P n14 213 (vR 31),dE P n15 229 (vR 44),dE P n16 245 (vR 56),dE P n23 261 (vR 68),dE P n24 277 (vR 80),dE P n25 293 (vR 92),dE P n26 309 (vR 104),dE P n27 325 (vR 116),dE P n28 341 (vR 128),dE P n30 357 (vR 140),dE P n31 361 (vI 8 360),dE P n32 367 (vR 147),dE P n33 380 (vR 154),dE P n34 390 (vR 161),dE P n35 398 (vR 168),dE P n36 402 (vI 90 401),dE P n37 404 (vI 12 403),dE P n38 406 (vI 0 405),dE P n47 579 (vR 295),dE P n48 586 (vR 306)] 30
noncomputable def OI:=oR [1,20,5,27,7,40,9,52,11,64,13,76,15,88,17,100,19,112,21,124,23,136,27,146,34,153,42,160,49,167,55,174,178,305]
def L6 (P:PF):Obj:=oD y3 [dE P n18 414 (vS n29 399),dE P n19 416 (vS n47 415),dE P n20 418 (vI 55 417),dE P n49 426 (vR 182),dE P n50 436 (vR 189),dE P n51 444 (vR 196),dE P n52 455 (vR 203),dE P n53 466 (vR 210),dE P n54 472 (vR 215),dE P n55 481 (vR 222),dE P n56 490 (vR 229),dE P n57 499 (vR 236),dE P n58 508 (vR 243),dE P n59 516 (vR 250),dE P n60 524 (vR 257),dE P n61 532 (vR 264),dE P n62 540 (vR 271),dE P n63 548 (vR 278),dE P n64 556 (vR 285),dE P n65 564 (vR 292),dE P n21 572 (vR 293)] 21
noncomputable def L5 (P:PF):Obj:=⟨.none,none,(.fields ⟨[vI 57 0,vI 4 0,vR 181,vI 68 0,vI 4 0,vR 188,vI 79 0,vI 4 0,vR 195,vI 83 0,vI 4 0,vR 202,vI 95 0,vI 4 0,vR 209,vI 106 0,vI 4 0,vR 214,vI 125 0,vI 4 0,vR 221,vI 133 0,vI 4 0,vR 228,vI 141 0,vI 4 0,vR 235,vI 148 0,vI 4 0,vR 242,vI 155 0,vI 4 0,vR 249,vI 158 0,vI 4 0,vR 256,vI 162 0,vI 4 0,vR 263,vI 165 0,vI 4 0,vR 270,vI 168 0,vI 4 0,vR 277,vI 171 0,vI 4 0,vR 284,vI 175 0,vI 4 0,vR 291]⟩),⟨[]⟩⟩
def L4 (P:PF):Obj:=oC y1 n47 409 n47 410 n1 411 55 0 0 0 0 172 false 181 173 .none .none .none .none 412 55 n1 413
def L3 (P:PF):Obj:=⟨(.type y2),none,.plain,⟨[(some (vR 174)),(some (vR 3)),(some (vR 171)),none,(some (vS n29 399)),none,(some (vR 0))]⟩⟩
def L1:=oQ y0 [vS n66 422,vS n67 423] 0
noncomputable def L0:=oN n49 n68 (inClass (Uc 23) 0)
def Jo:=oE n49 n68 419 57 2 176 424
def Jn:=oG n49 n68 (inClass (Uc 23) 0) n29 399 181
def LZ:=oQ y0 [vS n66 430,vS n46 431,vS n67 432,vS n41 433] 0
noncomputable def LY:=oN n50 n69 (inClass (Uc 23) 1)
def Jm:=oE n50 n69 427 68 3 183 434
def Jl:=oG n50 n69 (inClass (Uc 23) 1) n29 399 188
def LX:=oQ y0 [vS n66 440,vS n41 441] 0
noncomputable def LW:=oN n51 n70 (inClass (Uc 23) 2)
def Jk:=oE n51 n70 437 79 2 190 442
def Jj:=oG n51 n70 (inClass (Uc 23) 2) n29 399 195
def LV:=oQ y0 [vS n66 448,vS n46 449,vS n71 450,vS n67 451,vS n41 452] 0
noncomputable def LU:=oN n52 n72 (inClass (Uc 23) 3)
def Ji:=oE n52 n72 445 83 4 197 453
def Jh:=oG n52 n72 (inClass (Uc 23) 3) n29 399 202
def LS:=oQ y0 [vS n66 459,vS n41 460,vS n73 461,vS n44 462,vS n74 463] 0
noncomputable def LR:=oN n53 n75 (inClass (Uc 23) 4)
def Jg:=oE n53 n75 456 95 2 204 464
def Jf:=oG n53 n75 (inClass (Uc 23) 4) n29 399 209
noncomputable def LQ:=oN n54 n76 (inClass (Uc 23) 5)
def Je (P:PF):Obj:=oC y1 n54 467 n76 468 n1 469 106 4 0 0 3 211 true 181 212 .none .none .none (vR 213) 470 106 n1 471
def Jd:=oG n54 n76 (inClass (Uc 23) 5) n29 399 214
def LP:=oQ y0 [vS n66 476,vS n41 477,vS n77 478] 0
noncomputable def LO:=oN n55 n78 (inClass (Uc 23) 6)
def Jc:=oE n55 n78 473 125 3 216 479
def Jb:=oG n55 n78 (inClass (Uc 23) 6) n29 399 221
def LN:=oQ y0 [vS n66 485,vS n41 486,vS n77 487] 0
noncomputable def LM:=oN n56 n79 (inClass (Uc 23) 7)
def Ja:=oE n56 n79 482 133 3 223 488
def I0:=oG n56 n79 (inClass (Uc 23) 7) n29 399 228
def LL:=oQ y0 [vS n66 494,vS n41 495,vS n80 496] 0
noncomputable def LK:=oN n57 n81 (inClass (Uc 23) 8)
def IZ:=oE n57 n81 491 141 3 230 497
def IY:=oG n57 n81 (inClass (Uc 23) 8) n29 399 235
def LJ:=oQ y0 [vS n66 503,vS n41 504,vS n82 505] 0
noncomputable def LI:=oN n58 n83 (inClass (Uc 23) 9)
def IX:=oE n58 n83 500 148 3 237 506
def IW:=oG n58 n83 (inClass (Uc 23) 9) n29 399 242
def LH:=oQ y0 [vS n66 512,vS n41 513] 0
noncomputable def LG:=oN n59 n84 (inClass (Uc 23) 10)
def IV:=oE n59 n84 509 155 2 244 514
def IU:=oG n59 n84 (inClass (Uc 23) 10) n29 399 249
def LF:=oQ y0 [vS n66 520,vS n41 521] 0
noncomputable def LD:=oN n60 n85 (inClass (Uc 23) 11)
def IT:=oE n60 n85 517 158 2 251 522
def IS:=oG n60 n85 (inClass (Uc 23) 11) n29 399 256
def LC:=oQ y0 [vS n66 528,vS n41 529] 0
noncomputable def LB:=oN n61 n86 (inClass (Uc 23) 12)
def IQ:=oE n61 n86 525 162 2 258 530
def IP:=oG n61 n86 (inClass (Uc 23) 12) n29 399 263
def LA:=oQ y0 [vS n66 536,vS n41 537] 0
noncomputable def Lz:=oN n62 n87 (inClass (Uc 23) 13)
def IM:=oE n62 n87 533 165 2 265 538
def IL:=oG n62 n87 (inClass (Uc 23) 13) n29 399 270
def Ly:=oQ y0 [vS n66 544,vS n41 545] 0
noncomputable def Lx:=oN n63 n88 (inClass (Uc 23) 14)
def IK:=oE n63 n88 541 168 2 272 546
def IJ:=oG n63 n88 (inClass (Uc 23) 14) n29 399 277
def Lw:=oQ y0 [vS n66 552,vS n41 553] 0
noncomputable def Lv:=oN n64 n89 (inClass (Uc 23) 15)
def II:=oE n64 n89 549 171 2 279 554
def IH:=oG n64 n89 (inClass (Uc 23) 15) n29 399 284
def Lu:=oQ y0 [vS n66 560,vS n41 561] 0
noncomputable def Ls:=oN n65 n90 (inClass (Uc 23) 16)
def IG:=oE n65 n90 557 175 2 286 562
def IF:=oG n65 n90 (inClass (Uc 23) 16) n29 399 291
def IE:=oQ y0 [vS n91 565,vS n92 566,vS n93 567,vS n94 568,vS n95 569,vS n82 570,vS n80 571] 0
def ID (P:PF):Obj:=oD y3 [dE P n18 414 (vS n29 399),dE P n20 418 (vI 55 417),dE P n49 426 (vR 182),dE P n50 436 (vR 189),dE P n51 444 (vR 196),dE P n52 455 (vR 203),dE P n53 466 (vR 210),dE P n54 472 (vR 215),dE P n55 481 (vR 222),dE P n56 490 (vR 229),dE P n57 499 (vR 236),dE P n58 508 (vR 243),dE P n59 516 (vR 250),dE P n60 524 (vR 257),dE P n61 532 (vR 264),dE P n62 540 (vR 271),dE P n63 548 (vR 278),dE P n64 556 (vR 285),dE P n65 564 (vR 292),dE P n21 572 (vR 293),dE P n96 574 (vR 296),dE P n22 576 (vR 297),dE P n5 577 .none] 4
def IC (P:PF):Obj:=⟨(.type y9),none,(.cls ⟨n47,[(.type y12)],[vR 295,(.type y12)],294,n47,true,[],[],false,none,false⟩),⟨[none,none,(some (vS n47 407)),(some (vS n47 415)),(some (.builtin y18)),(some (.bool true))]⟩⟩
def IB:=oF y14 [vS n96 573,vR 295,(.builtin y19),(.builtin y20)]
def IA:=oF y14 [vS n22 575,vR 295,(.builtin y15),.none]
def Lr:=oF y16 [vR 295,vR 295,vR 295]
def Lq:=oF y7 [(.builtin y17),vR 295]
def Lp:=oQ y0 [vS n67 583] 0
noncomputable def Ln:=Uq n48 24
def Iz:=oE n48 n48 580 178 1 300 584
def Iy:=Ur n48 24 n29 399 305
def Lm (P:PF):Obj:=oD y3 [dE P n3 165 (vS n97 595),dE P n5 166 .none,dE P n6 167 .none,dE P n7 168 (.builtin y4),dE P n8 169 .none,dE P n9 170 (vR 6),dE P n10 171 (vR 4),dE P n11 173 (vS n1 172),dE P n12 174 .none,dE P n13 193 (vR 21),dE P n14 213 (vR 31),dE P n15 229 (vR 44),dE P n16 245 (vR 56),dE P n23 261 (vR 68),dE P n24 277 (vR 80),dE P n25 293 (vR 92),dE P n26 309 (vR 104),dE P n27 325 (vR 116),dE P n28 341 (vR 128),dE P n30 357 (vR 140),dE P n31 361 (vI 8 360),dE P n32 367 (vR 147),dE P n33 380 (vR 154),dE P n34 390 (vR 161),dE P n35 398 (vR 168),dE P n36 402 (vI 90 401),dE P n37 404 (vI 12 403),dE P n38 406 (vI 0 405),dE P n47 579 (vR 295),dE P n48 586 (vR 306),dE P n98 594 (vR 313),dE P n99 604 (vR 320),dE P DP 613 (vR 327),dE P DN 619 (vR 332),dE P DM 626 (vR 339),dE P DL 635 (vR 346),dE P DK 646 (vR 353),dE P DJ 655 (vR 360),dE P DH 667 (vR 367),dE P DF 673 (vR 372),dE P DD 687 (vR 379),dE P DC 693 (vR 384),dE P DB 701 (vR 391),dE P Dz 707 (vR 396),dE P Dy 719 (vR 403),dE P Dx 731 (vR 410),dE P Dw 757 (vR 417),dE P Dv 771 (vR 424),dE P Du 784 (vR 431),dE P Dt 792 (vR 438)] 50
noncomputable def NR:=oR [1,20,5,27,7,40,9,52,11,64,13,76,15,88,17,100,19,112,21,124,23,136,27,146,34,153,42,160,49,167,55,174,178,305,181,312,185,319,189,326,192,331,196,338,198,345,205,352,213,359,219,366,232,371,245,378,269,383,271,390,276,395,288,402,300,409,312,416,344,423,372,430,390,437]
def NQ:=oQ y0 [vS n71 590,vS O1 591] 0
noncomputable def NP:=Uq n98 25
def Ll:=oE n98 n98 587 181 2 307 592
def Lk:=Ur n98 25 n29 399 312
def NO:=oQ y0 [vS G8 600,vS G7 601] 0
noncomputable def NN:=Uq n99 27
def Lj:=oE n99 n99 597 185 2 314 602
def Li:=Ur n99 27 n97 595 319
def NM:=oQ y0 [vS Jx 608,vS Md 609,vS O0 610] 0
noncomputable def NL:=Uq DP 28
def Lh:=oE DP DP 605 189 2 321 611
def Lg:=Ur DP 28 n97 595 326
noncomputable def NK:=Uq DN 29
def Le (P:PF):Obj:=oC y1 DN 614 DN 615 n1 616 192 2 0 0 3 328 true 181 329 .none .none .none (vR 330) 617 192 n1 618
def Ld:=Ur DN 29 n97 595 331
def NJ:=oQ y0 [vS NX 623] 0
noncomputable def NI:=Uq DM 30
def Lc:=oE DM DM 620 196 1 333 624
def Lb:=Ur DM 30 n97 595 338
def NH:=oQ y0 [vS NX 630,vS NW 631,vS G7 632] 0
noncomputable def NG:=Uq DL 31
def La:=oE DL DL 627 198 2 340 633
def K9:=Ur DL 31 n97 595 345
def NF:=oQ y0 [vS Jw 639,vS G6 640,vS Mc 641,vS OZ 642,vS NV 643] 0
noncomputable def ND:=Uq DK 32
def K8:=oE DK DK 636 205 2 347 644
def K7:=Ur DK 32 n97 595 352
def NC:=oQ y0 [vS Mb 650,vS G6 651,vS OY 652] 0
noncomputable def NB:=Uq DJ 33
def K6:=oE DJ DJ 647 213 2 354 653
def K5:=Ur DJ 33 n97 595 359
def NA:=oQ y0 [vS G5 659,vS Jw 660,vS Mb 661,vS G6 662,vS Jv 663,vS Ju 664] 0
noncomputable def Nz:=Uq DH 34
def K4:=oE DH DH 656 219 3 361 665
def K3:=Ur DH 34 n97 595 366
noncomputable def Ny:=Uq DF 35
def K2 (P:PF):Obj:=oC y1 DF 668 DF 669 n1 670 232 6 0 0 3 368 true 181 369 .none .none .none (vR 370) 671 232 n1 672
def K1:=Ur DF 35 n97 595 371
def Nx:=oQ y0 [vS G5 677,vS NU 678,vS G6 679,vS Jv 680,vS NT 681,vS Jt 682,vS OX 683,vS Mc 684] 0
noncomputable def Nw:=Uq DD 36
def K0:=oE DD DD 674 245 6 373 685
def KZ:=Ur DD 36 n97 595 378
noncomputable def Nv:=Uq DC 37
def KY (P:PF):Obj:=oC y1 DC 688 DC 689 n1 690 269 2 0 0 3 380 true 181 381 .none .none .none (vR 382) 691 269 n1 692
def KW:=Ur DC 37 n97 595 383
def Nu:=oQ y0 [vS Jt 697,vS OW 698] 0
noncomputable def Nt:=Uq DB 38
def KS:=oE DB DB 694 271 1 385 699
def KR:=Ur DB 38 n97 595 390
noncomputable def Nr:=Uq Dz 39
def KQ (P:PF):Obj:=oC y1 Dz 702 Dz 703 n1 704 276 6 0 0 3 392 true 181 393 .none .none .none (vR 394) 705 276 n1 706
def KP:=Ur Dz 39 n97 595 395
def Nq:=oQ y0 [vS Jw 711,vS Ma 712,vS Jx 713,vS Md 714,vS L9 715,vS NS 716] 0
noncomputable def Np:=Uq Dy 40
def KO:=oE Dy Dy 708 288 4 397 717
def KN:=Ur Dy 40 n97 595 402
def Nn:=oQ y0 [vS Jx 723,vS Md 724,vS OV 725,vS L9 726,vS Jt 727,vS OU 728] 0
noncomputable def Nm:=Uq Dx 41
def KL:=oE Dx Dx 720 300 2 404 729
def KJ:=Ur Dx 41 n97 595 409
def Nl:=oQ y0 [vS G8 735,vS Ju 736,vS G5 737,vS Jw 738,vS Mb 739,vS Ma 740,vS G7 741,vS OT 742,vS NV 743,vS Jx 744,vS NU 745,vS G6 746,vS Jv 747,vS OS 748,vS OR 749,vS NS 750,vS NT 751,vS Jt 752,vS NW 753,vS Mc 754] 0
noncomputable def Nk:=Uq Dw 42
def KI:=oE Dw Dw 732 312 1 411 755
def KH:=Ur Dw 42 n97 595 416
def Nj:=oQ y0 [vS G8 761,vS Ju 762,vS G5 763,vS G7 764,vS OQ 765,vS OP 766,vS OO 767,vS Ma 768] 0
noncomputable def Ni:=Uq Dv 43
def KG:=oE Dv Dv 758 344 1 418 769
def KD:=Ur Dv 43 n97 595 423
def Nh:=oQ y0 [vS G8 775,vS Ju 776,vS G5 777,vS ON 778,vS Jv 779,vS OM 780,vS G7 781] 0
noncomputable def Ng:=Uq Du 44
def KC:=oE Du Du 772 372 1 425 782
def KA:=Ur Du 44 n97 595 430
def Nc:=oQ y0 [vS G8 788,vS L9 789] 0
noncomputable def Nb:=Uq Dt 45
def Kz:=oE Dt Dt 785 390 1 432 790
def Ky:=Ur Dt 45 n97 595 437
noncomputable def lf0:Life:=⟨[],[],[],0,[],[],false,⟨[]⟩,[],0,false,false,false,(.ofNat 0),[(.ofNat 2000),(.ofNat 10),(.ofNat 10)],false,0,true,[],[],0,false⟩
def hcd:Py:=(vR 13)
def hq:Pos:=⟨0,0,0,0⟩
def hE:Env:={ scope:=hp.main.scope,locals:=mainNs,globals:=mainNs,cells:=[],code:=hcd,frame:=some 14 }
def hC:Code:=.body (behindTheImports hp) hE
noncomputable def hB:My Frame:=[topFrame hq]
def hAn:Px Py:=(some (vR 6))
def hA (P:PF):Heap:=⟨⟨(boot_o_0 P::boot_o_1 P::boot_o_2 P::boot_o_3 P::boot_o_4 P::boot_o_5 P::boot_o_6 P::boot_o_7 P::boot_o_8 P::boot_o_9 P::boot_o_10 P::o0 P::o1 P::o2 P::o3 P::[])⟩,lf0⟩
def Ui:=(tL o0)
def Uj:=(tL o1)
def Uk:=(tL o20)
def Ul:=(tL o11)
def Um:=(tN o0 Ui tZ)
def Uo:=(tN o1 Ui tZ)
def Up:=(tN o0 Ui Ui)
def tr1:=(tN boot_o_0 (tN boot_o_1 (tN boot_o_3 (tL boot_o_7) Ui) (tN boot_o_5 (tL boot_o_9) (tL o2))) (tN boot_o_2 (tN boot_o_4 (tL boot_o_8) Uj) (tN boot_o_6 (tL boot_o_10) (tL o3))))
def S1 (w:World) (os:OsState):SharedT:=⟨tr1 w.params,15,lf0,⟨[]⟩,⟨0,0,0,0⟩,187,os⟩
def tr2:=(tN boot_o_0 (tN boot_o_1 (tN o4 (tN boot_o_7 (tN o0 (tL o16) Uk) (tN o11 Uj (tL o31))) (tN o0 (tN o7 Uk Uj) (tN o13 (tL o24) tZ))) (tN boot_o_5 (tN boot_o_9 (tN o6 (tL o18) (tL o28)) (tN o0 (tL o23) (tL o33))) (tN o2 (tN o9 (tL o21) (tL o30)) (tN o0 (tL o26) tZ)))) (tN boot_o_2 (tN boot_o_4 (tN boot_o_8 (tN o1 (tL o17) Ul) (tN o12 (tL o22) (tL o32))) (tN o5 (tN o8 Ul (tL o29)) (tN o14 (tL o25) tZ))) (tN boot_o_6 (tN boot_o_10 (tN o0 (tL o19) Ui) (tN o1 Ui (tL o34))) (tN o3 (tN o10 Ui Ui) (tN o15 (tL o27) tZ)))))
def S2 (w:World) (os:OsState):SharedT:=⟨tr2 w.params,59,lf0,⟨[]⟩,⟨0,0,0,0⟩,246,os⟩
def tr3:=(tN boot_o_0 (tN boot_o_1 (tN o35 (tN boot_o_7 (tN o0 (tN o37 Uj tZ) (tN o20 (tL o48) tZ)) (tN o11 (tN o1 Uk tZ) (tN o31 Uj tZ))) (tN o0 (tN o7 (tN o20 (tL o41) tZ) (tN o1 Uk tZ)) (tN o13 (tN o24 Uj tZ) (tN o20 (tL o55) tZ)))) (tN boot_o_5 (tN boot_o_9 (tN o6 (tN o18 (tL o40) tZ) (tN o28 (tL o50) tZ)) (tN o0 (tN o23 (tL o45) tZ) (tN o33 (tL o54) tZ))) (tN o2 (tN o9 (tN o21 (tL o43) tZ) (tN o30 (tL o52) tZ)) (tN o0 (tN o26 (tL o47) tZ) (tN o38 (tL o57) tZ))))) (tN boot_o_2 (tN boot_o_4 (tN boot_o_8 (tN o1 (tN o17 (tL o39) tZ) (tN o11 (tL o49) tZ)) (tN o12 (tN o22 Ul tZ) (tN o32 (tL o53) tZ))) (tN o36 (tN o8 (tN o11 (tL o42) tZ) (tN o29 Ul tZ)) (tN o14 (tN o25 (tL o46) tZ) (tN o11 (tL o56) tZ)))) (tN boot_o_6 (tN boot_o_10 (tN o0 (tN o19 Ui tZ) (tN o0 (tL o51) tZ)) (tN o1 Um (tN o34 Ui tZ))) (tN o3 (tN o10 (tN o0 (tL o44) tZ) Um) (tN o15 (tN o27 Ui tZ) (tN o0 (tL o58) tZ))))))
def S3 (w:World) (os:OsState):SharedT:=⟨tr3 w.params,95,lf0,⟨[]⟩,⟨0,0,0,0⟩,294,os⟩
def tr4:=(tN boot_o_0 (tN boot_o_1 (tN o59 (tN boot_o_7 (tN o0 (tN o61 (tN o1 (tL o79) tZ) Uk) (tN o20 (tL o48) Uj)) (tN o11 (tN o1 Uk (tL o65)) (tN o31 Uj Uk))) (tN o0 (tN o7 (tN o20 (tL o41) Uj) (tN o1 Uk (tL o72))) (tN o13 (tN o24 Uj Uk) (tN o20 (tL o55) Uj)))) (tN boot_o_5 (tN boot_o_9 (tN o6 (tN o18 (tN o40 (tL o81) tZ) (tL o62)) (tN o28 (tL o50) (tL o71))) (tN o0 (tN o23 (tL o45) (tL o67)) (tN o33 (tL o54) (tL o76)))) (tN o2 (tN o9 (tN o21 (tL o43) (tL o64)) (tN o30 (tL o52) (tL o74))) (tN o0 (tN o26 (tL o47) (tL o69)) (tN o38 (tL o57) (tL o78)))))) (tN boot_o_2 (tN boot_o_4 (tN boot_o_8 (tN o1 (tN o17 (tN o39 (tL o80) tZ) Ul) (tN o11 (tL o49) (tL o70))) (tN o12 (tN o22 Ul (tL o66)) (tN o32 (tL o53) Ul))) (tN o60 (tN o8 (tN o11 (tL o42) (tL o63)) (tN o29 Ul (tL o73))) (tN o14 (tN o25 (tL o46) Ul) (tN o11 (tL o56) (tL o77))))) (tN boot_o_6 (tN boot_o_10 (tN o0 (tN o19 (tN o0 (tL o82) tZ) Ui) (tN o0 (tL o51) Ui)) (tN o1 (tN o0 Ui (tL o68)) (tN o34 Ui Ui))) (tN o3 (tN o10 (tN o0 (tL o44) Ui) (tN o0 Ui (tL o75))) (tN o15 (tN o27 Ui Ui) (tN o0 (tL o58) Ui))))))
def S4 (w:World) (os:OsState):SharedT:=⟨tr4 w.params,131,lf0,⟨[]⟩,⟨0,0,0,0⟩,342,os⟩
def tr5:=(tN boot_o_0 (tN boot_o_1 (tN o83 (tN boot_o_7 (tN o0 (tN o85 (tN o1 (tL o79) tZ) (tN o20 (tL Jr) tZ)) (tN o20 (tN o48 Ui tZ) Uj)) (tN o11 (tN o1 (tN o20 Uj tZ) (tN o65 (tL G0) tZ)) (tN o31 Uo Uk))) (tN o0 (tN o7 (tN o20 (tN o41 Uk tZ) (tN o1 Uj tZ)) (tN o1 (tN o20 (tL o95) tZ) (tL o72))) (tN o13 (tN o24 (tN o1 (tL o89) tZ) Uk) (tN o20 (tN o55 Ui tZ) Uj)))) (tN boot_o_5 (tN boot_o_9 (tN o6 (tN o18 (tN o40 (tL o81) tZ) (tN o62 (tL G1) tZ)) (tN o28 (tN o50 (tL o93) tZ) (tL o71))) (tN o0 (tN o23 (tN o45 (tL o88) tZ) (tL o67)) (tN o33 (tN o54 (tL o98) tZ) (tL o76)))) (tN o2 (tN o9 (tN o21 (tN o43 (tL o86) tZ) (tN o64 Ui tZ)) (tN o30 (tN o52 Uj tZ) (tL o74))) (tN o0 (tN o26 (tN o47 (tL o91) tZ) (tL o69)) (tN o38 (tN o57 (tL Js) tZ) (tL o78)))))) (tN boot_o_2 (tN boot_o_4 (tN boot_o_8 (tN o1 (tN o17 (tN o39 (tL o80) tZ) (tN o11 (tL G2) tZ)) (tN o11 (tN o49 Uj tZ) (tL o70))) (tN o12 (tN o22 (tN o11 (tL o87) tZ) (tN o66 (tL GZ) tZ)) (tN o32 (tN o53 (tL o97) tZ) Ul))) (tN o84 (tN o8 (tN o11 (tN o42 Ul tZ) (tN o63 (tL Jq) tZ)) (tN o29 (tN o11 Ui tZ) (tL o73))) (tN o14 (tN o25 (tN o46 (tL o90) tZ) Ul) (tN o11 (tN o56 Uj tZ) (tL o77))))) (tN boot_o_6 (tN boot_o_10 (tN o0 (tN o19 (tN o0 (tL o82) tZ) Um) (tN o0 (tN o51 (tL o94) tZ) Ui)) (tN o1 (tN o0 Um (tL o68)) (tN o34 (tN o0 (tL o99) tZ) Ui))) (tN o3 (tN o10 (tN o0 (tN o44 Ui tZ) (tN o0 (tL Jp) tZ)) (tN o0 (tN o0 (tL o96) tZ) (tL o75))) (tN o15 (tN o27 (tN o0 (tL o92) tZ) Ui) (tN o0 (tN o58 Ui tZ) Ui))))))
def S5 (w:World) (os:OsState):SharedT:=⟨tr5 w.params,169,lf0,⟨[]⟩,⟨0,0,0,0⟩,407,os⟩
def tr6:=(tN boot_o_0 (tN boot_o_1 (tN OJ (tN boot_o_7 (tN o0 (tN o85 (tN o1 (tN o79 (tL LD) tZ) Uj) (tN o20 (tN Jr Uj tZ) Ui)) (tN o20 (tN o48 (tN o0 (tL IL) tZ) Ui) (tN o1 (tN L3 Ui tZ) (tL LJ)))) (tN o11 (tN o1 (tN o20 (tN o1 (tL IQ) tZ) (tL LV)) (tN o65 (tN G0 (tL IC) tZ) Uj)) (tN o31 (tN o1 Um (tL Jd)) (tN o20 Ui Ui)))) (tN o0 (tN o7 (tN o20 (tN o41 (tN o20 Uj tZ) (tL Jk)) (tN o1 (tN o1 (tL IG) tZ) (tL LM))) (tN o1 (tN o20 (tN o95 Ui tZ) Ui) (tN o72 Ui (tL IW)))) (tN o13 (tN o24 (tN o1 (tN o89 (tL LA) tZ) (tL Jh)) (tN o20 (tN L6 (tL Lq) tZ) (tL IZ))) (tN o20 (tN o55 (tN o0 (tL Lv) tZ) Ui) (tN o1 (tL LY) Ui))))) (tN boot_o_5 (tN boot_o_9 (tN o6 (tN o18 (tN o40 (tN o81 (tL IS) tZ) Ui) (tN o62 (tN G1 Ui tZ) (tL LN))) (tN o28 (tN o50 (tN o93 Uj tZ) (tL Jg)) (tN o71 (tN o1 (tL Iz) tZ) (tL LI)))) (tN o0 (tN o23 (tN o45 (tN o88 Ui tZ) (tL LU)) (tN o67 (tN o0 (tL IA) tZ) Ui)) (tN o33 (tN o54 (tN o98 (tL Lw) tZ) Uj) (tN o76 (tL LZ) (tL IV))))) (tN o2 (tN o9 (tN o21 (tN o43 (tN o86 Ui tZ) Ui) (tN o64 (tN o0 (tL IE) tZ) (tL I0))) (tN o30 (tN o52 (tN o1 (tL IK) tZ) (tL LQ)) (tN o74 (tL Jo) Uj))) (tN o0 (tN o26 (tN o47 (tN o91 (tL Lz) tZ) Uj) (tN o69 (tN L5 Uj tZ) Ui)) (tN o38 (tN o57 (tN Js (tL IH) tZ) (tL Jc)) (tN o78 (tL Jl) (tL LF))))))) (tN boot_o_2 (tN boot_o_4 (tN boot_o_8 (tN o1 (tN o17 (tN o39 (tN o80 (tL IT) tZ) (tL LX)) (tN o11 (tN G2 (tL Lu) tZ) Uj)) (tN o11 (tN o49 Uo (tL LR)) (tN o70 (tN o0 (tL Ln) tZ) Ui))) (tN o12 (tN o22 (tN o11 (tN o87 (tL IP) tZ) Ui) (tN o66 (tN GZ (tL IB) tZ) (tL LL))) (tN o32 (tN o53 (tN o97 Uj tZ) Ui) (tN o11 Uj (tL LG))))) (tN OI (tN o8 (tN o11 (tN o42 (tN o11 (tL LC) tZ) (tL Jj)) (tN o63 (tN Jq (tL IF) tZ) (tL Ja))) (tN o29 (tN o11 (tN o0 (tL Lx) tZ) Uj) (tN o73 (tL L0) Ui))) (tN o14 (tN o25 (tN o46 (tN o90 Ui tZ) Ui) (tN o11 Um (tL IY))) (tN o11 (tN o56 (tN o1 (tL II) tZ) (tL LO)) (tN o77 (tL Jm) Uj))))) (tN boot_o_6 (tN boot_o_10 (tN o0 (tN o19 (tN o0 (tN o82 Ui tZ) (tL LW)) (tN o0 (tN o0 (tL Ls) tZ) Ui)) (tN o0 (tN o51 (tN o94 (tL Ly) tZ) (tL Jf)) (tN o0 (tN L1 (tL Iy) tZ) (tL IX)))) (tN o1 (tN o0 (tN o0 (tN o0 Uj tZ) (tL Ji)) (tN o68 (tN o11 (tL Lr) tZ) (tL LK))) (tN o34 (tN o0 (tN o99 Ui tZ) (tL LP)) (tN o0 Ui (tL IU))))) (tN o3 (tN o10 (tN o0 (tN o44 (tN o0 (tL LB) tZ) Uj) (tN o0 (tN Jp (tL ID) tZ) Ui)) (tN o0 (tN o0 (tN o96 (tL IJ) tZ) (tL Je)) (tN o75 (tL Jn) (tL LH)))) (tN o15 (tN o27 (tN o0 (tN o92 (tL IM) tZ) (tL LS)) (tN o0 (tN L4 (tL Lp) tZ) Uj)) (tN o0 (tN o58 Um (tL Jb)) Up))))))
def S6 (w:World) (os:OsState):SharedT:=⟨tr6 w.params,307,lf0,⟨[]⟩,⟨0,0,0,0⟩,587,os⟩
def tr7:=(tN boot_o_0 (tN boot_o_1 (tN Lm (tN boot_o_7 (tN o0 (tN o85 (tN o1 (tN o79 (tL LD) (tL KY)) (tN o1 (tL Lj) tZ)) (tN o20 (tN Jr Uj (tL Nk)) (tN o0 (tL ND) tZ))) (tN o20 (tN o48 (tN o0 (tL IL) (tL Nq)) (tN o0 (tL NJ) tZ)) (tN o1 (tN L3 Ui (tL KA)) (tN LJ (tL K3) tZ)))) (tN o11 (tN o1 (tN o20 (tN o1 (tL IQ) (tL KR)) (tN LV (tL Lg) tZ)) (tN o65 (tN G0 (tL IC) (tL KG)) (tN o1 (tL K6) tZ))) (tN o31 (tN o1 Up (tN Jd Ui tZ)) (tN o20 (tN o0 (tL NP) tZ) (tN o0 (tL Nx) tZ))))) (tN o0 (tN o7 (tN o20 (tN o41 (tN o20 Uj (tL Nu)) (tN Jk (tL NM) tZ)) (tN o1 (tN o1 (tL IG) Uj) (tN LM Uj tZ))) (tN o1 (tN o20 (tN o95 Ui (tL KN)) (tN o0 (tL Lb) tZ)) (tN o72 Up (tN IW (tL K2) tZ)))) (tN o13 (tN o24 (tN o1 (tN o89 (tL LA) (tL KQ)) (tN Jh (tL Le) tZ)) (tN o20 (tN L6 (tL Lq) (tL Nh)) (tN IZ (tL NA) tZ))) (tN o20 (tN o55 (tN o0 (tL Lv) Ui) Um) (tN o1 (tN LY Uj tZ) (tN o0 (tL KZ) tZ)))))) (tN boot_o_5 (tN boot_o_9 (tN o6 (tN o18 (tN o40 (tN o81 (tL IS) Ui) Um) (tN o62 (tN G1 Ui (tL KH)) (tN LN (tL K7) tZ))) (tN o28 (tN o50 (tN o93 Uj (tL Np)) (tN Jg (tL NI) tZ)) (tN o71 (tN o1 (tL Iz) Uj) (tN LI Uj tZ)))) (tN o0 (tN o23 (tN o45 (tN o88 Ui Uj) (tN LU Uj tZ)) (tN o67 (tN o0 (tL IA) Ui) Um)) (tN o33 (tN o54 (tN o98 (tL Lw) (tL KL)) (tN o1 (tL La) tZ)) (tN o76 (tN LZ (tL Lk) tZ) (tN IV (tL Nw) tZ))))) (tN o2 (tN o9 (tN o21 (tN o43 (tN o86 Ui (tL Nt)) (tN o0 (tL NL) tZ)) (tN o64 (tN o0 (tL IE) Ui) (tN I0 Ui tZ))) (tN o30 (tN o52 (tN o1 (tL IK) Uj) (tN LQ Uj tZ)) (tN o74 (tN Jo (tL NQ) (tL Kz)) Uo))) (tN o0 (tN o26 (tN o47 (tN o91 (tL Lz) Ui) Uo) (tN o69 (tN L5 Uj (tL Ng)) (tN o0 (tL Nz) tZ))) (tN o38 (tN o57 (tN Js (tL IH) (tL Nl)) (tN Jc (tL NF) tZ)) (tN o78 (tN Jl Ui tZ) (tN LF Uj tZ))))))) (tN boot_o_2 (tN boot_o_4 (tN boot_o_8 (tN o1 (tN o17 (tN o39 (tN o80 (tL IT) (tL KW)) (tN LX (tL Li) tZ)) (tN o11 (tN G2 (tL Lu) (tL KI)) (tN o1 (tL K8) tZ))) (tN o11 (tN o49 (tN o1 Ui Ui) (tN LR Ui tZ)) (tN o70 (tN o0 (tL Ln) Ui) Um))) (tN o12 (tN o22 (tN o11 (tN o87 (tL IP) Ui) Um) (tN o66 (tN GZ (tL IB) (tL KD)) (tN LL (tL K5) tZ))) (tN o32 (tN o53 (tN o97 Uj (tL Nm)) (tN o0 (tL NG) tZ)) (tN o11 (tN o1 (tL Ll) tZ) (tN LG Ui tZ))))) (tN NR (tN o8 (tN o11 (tN o42 (tN o11 (tL LC) Ui) (tN Jj Ui tZ)) (tN o63 (tN Jq (tL IF) (tL Nj)) (tN Ja (tL NC) tZ))) (tN o29 (tN o11 (tN o0 (tL Lx) Ui) Uo) (tN o73 (tN L0 Uj (tL Nb)) (tN o0 (tL K1) tZ)))) (tN o14 (tN o25 (tN o46 (tN o90 Ui (tL KP)) (tN o0 (tL Ld) tZ)) (tN o11 Up (tN IY Ui tZ))) (tN o11 (tN o56 (tN o1 (tL II) Uj) (tN LO Uj tZ)) (tN o77 (tN Jm (tL NO) tZ) Uo))))) (tN boot_o_6 (tN boot_o_10 (tN o0 (tN o19 (tN o0 (tN o82 Ui Uj) (tN LW Uj tZ)) (tN o0 (tN o0 (tL Ls) Ui) Um)) (tN o0 (tN o51 (tN o94 (tL Ly) (tL KO)) (tN Jf (tL Lc) tZ)) (tN o0 (tN L1 (tL Iy) (tL Nc)) (tN IX (tL Ny) tZ)))) (tN o1 (tN o0 (tN o0 (tN o0 Uj (tL Nr)) (tN Ji (tL NK) tZ)) (tN o68 (tN o11 (tL Lr) Uj) (tN LK Uj tZ))) (tN o34 (tN o0 (tN o99 Ui (tL KJ)) (tN LP (tL K9) tZ)) (tN o0 Um (tN IU (tL K0) tZ))))) (tN o3 (tN o10 (tN o0 (tN o44 (tN o0 (tL LB) (tL KS)) (tN o1 (tL Lh) tZ)) (tN o0 (tN Jp (tL ID) (tL Ni)) (tN o0 (tL NB) tZ))) (tN o0 (tN o0 (tN o96 (tL IJ) (tL Nn)) (tN Je (tL NH) tZ)) (tN o75 (tN Jn Ui (tL Ky)) (tN LH Uj tZ)))) (tN o15 (tN o27 (tN o0 (tN o92 (tL IM) Uj) (tN LS Uj tZ)) (tN o0 (tN L4 (tL Lp) (tL KC)) (tN o1 (tL K4) tZ))) (tN o0 (tN o58 Up (tN Jb Ui tZ)) (tN o0 (tN o0 (tL NN) tZ) (tN o0 (tL Nv) tZ))))))))
def S7 (w:World) (os:OsState):SharedT:=⟨tr7 w.params,439,lf0,⟨[]⟩,⟨0,0,0,0⟩,793,os⟩
def hF (P:PF):Heap:=⟨⟨(boot_o_0 P::boot_o_1 P::boot_o_2 P::Lm P::boot_o_4 P::boot_o_5 P::boot_o_6 P::boot_o_7 P::boot_o_8 P::boot_o_9 P::boot_o_10 P::o0 P::NR P::o2 P::o3 P::o0 P::o1 P::o6 P::o0 P::o7 P::o8 P::o9 P::o10 P::o11 P::o12 P::o0 P::o1 P::o13 P::o14 P::o0 P::o15 P::o85 P::o17 P::o18 P::o19 P::o20 P::o11 P::o21 P::o0 P::o1 P::o22 P::o23 P::o0 P::o24 P::o25 P::o26 P::o27 P::o20 P::o11 P::o28 P::o0 P::o1 P::o29 P::o30 P::o0 P::o31 P::o32 P::o33 P::o34 P::o20 P::o11 P::o38 P::o0 P::o1 P::o39 P::o40 P::o0 P::o41 P::o42 P::o43 P::o44 P::o20 P::o11 P::o45 P::o0 P::o1 P::o46 P::o47 P::o0 P::o48 P::o49 P::o50 P::o51 P::o20 P::o11 P::o52 P::o0 P::o1 P::o53 P::o54 P::o0 P::o55 P::o56 P::o57 P::o58 P::o20 P::o11 P::o62 P::o0 P::o1 P::o63 P::o64 P::o0 P::o65 P::o66 P::o67 P::o68 P::o20 P::o11 P::o69 P::o0 P::o1 P::o70 P::o71 P::o0 P::o72 P::o73 P::o74 P::o75 P::o20 P::o11 P::o76 P::o0 P::o1 P::o77 P::o78 P::o0 P::o79 P::o80 P::o81 P::o82 P::o20 P::o11 P::o86 P::o0 P::o1 P::o87 P::o88 P::o0 P::o89 P::o90 P::o91 P::o92 P::o0 P::o1 P::o93 P::o94 P::o95 P::o0 P::o1 P::o96 P::o0 P::o97 P::o98 P::o99 P::o0 P::o1 P::Js P::o0 P::Jr P::G2 P::G1 P::o0 P::o1 P::Jq P::o0 P::Jp P::G0 P::GZ P::o0 P::o11 P::L6 P::o0 P::L5 P::L4 P::L3 P::o0 P::o1 P::L1 P::o0 P::L0 P::Jo P::Jn P::o0 P::o1 P::LZ P::o0 P::LY P::Jm P::Jl P::o0 P::o1 P::LX P::o0 P::LW P::Jk P::Jj P::o0 P::o1 P::LV P::o0 P::LU P::Ji P::Jh P::o0 P::o1 P::LS P::o0 P::LR P::Jg P::Jf P::o0 P::o1 P::LQ P::Je P::Jd P::o0 P::o1 P::LP P::o0 P::LO P::Jc P::Jb P::o0 P::o1 P::LN P::o0 P::LM P::Ja P::I0 P::o0 P::o1 P::LL P::o0 P::LK P::IZ P::IY P::o0 P::o1 P::LJ P::o0 P::LI P::IX P::IW P::o0 P::o1 P::LH P::o0 P::LG P::IV P::IU P::o0 P::o1 P::LF P::o0 P::LD P::IT P::IS P::o0 P::o1 P::LC P::o0 P::LB P::IQ P::IP P::o0 P::o1 P::LA P::o0 P::Lz P::IM P::IL P::o0 P::o1 P::Ly P::o0 P::Lx P::IK P::IJ P::o0 P::o1 P::Lw P::o0 P::Lv P::II P::IH P::o0 P::o1 P::Lu P::o0 P::Ls P::IG P::IF P::IE P::ID P::IC P::IB P::IA P::Lr P::Lq P::o0 P::o1 P::Lp P::o0 P::Ln P::Iz P::Iy P::o0 P::o1 P::NQ P::o0 P::NP P::Ll P::Lk P::o0 P::o1 P::NO P::o0 P::NN P::Lj P::Li P::o0 P::o1 P::NM P::o0 P::NL P::Lh P::Lg P::o0 P::o1 P::NK P::Le P::Ld P::o0 P::o1 P::NJ P::o0 P::NI P::Lc P::Lb P::o0 P::o1 P::NH P::o0 P::NG P::La P::K9 P::o0 P::o1 P::NF P::o0 P::ND P::K8 P::K7 P::o0 P::o1 P::NC P::o0 P::NB P::K6 P::K5 P::o0 P::o1 P::NA P::o0 P::Nz P::K4 P::K3 P::o0 P::o1 P::Ny P::K2 P::K1 P::o0 P::o1 P::Nx P::o0 P::Nw P::K0 P::KZ P::o0 P::o1 P::Nv P::KY P::KW P::o0 P::o1 P::Nu P::o0 P::Nt P::KS P::KR P::o0 P::o1 P::Nr P::KQ P::KP P::o0 P::o1 P::Nq P::o0 P::Np P::KO P::KN P::o0 P::o1 P::Nn P::o0 P::Nm P::KL P::KJ P::o0 P::o1 P::Nl P::o0 P::Nk P::KI P::KH P::o0 P::o1 P::Nj P::o0 P::Ni P::KG P::KD P::o0 P::o1 P::Nh P::o0 P::Ng P::KC P::KA P::o0 P::o1 P::Nc P::o0 P::Nb P::Kz P::Ky P::[])⟩,lf0⟩
def SA (w:World) (os:OsState):PD:=⟨hA w.params,⟨[]⟩,⟨0,0,0,0⟩,187,os⟩
def SF (w:World) (os:OsState):PD:=⟨hF w.params,⟨[]⟩,⟨0,0,0,0⟩,793,os⟩
def S0 (w:World) (os:OsState):PD:=⟨boot_heap w.params,⟨[]⟩,boot_drawn,boot_toks,os⟩
noncomputable def M0:My Stmt:=[Uc 0,Uc 1,Uc 2,Uc 3,Uc 4]
noncomputable def MZ:My Stmt:=[Uc 5,Uc 6,Uc 7]
noncomputable def MY:My Stmt:=[Uc 8,Uc 9,Uc 10]
noncomputable def MX:My Stmt:=[Uc 11,Uc 12,Uc 13,Uc 14,Uc 15,Uc 16,Uc 17,Uc 18,Uc 19,Uc 20,Uc 21,Uc 22]
noncomputable def MW:My Stmt:=[Uc 23,Uc 24]
noncomputable def MV:My Stmt:=[Uc 25,Uc 26,Uc 27,Uc 28,Uc 29,Uc 30,Uc 31,Uc 32,Uc 33,Uc 34,Uc 35,Uc 36,Uc 37,Uc 38,Uc 39,Uc 40,Uc 41,Uc 42,Uc 43,Uc 44,Uc 45]
noncomputable def hV:Program:={ hp with main:={ hp.main with body:=[Uc 0,Uc 2,Uc 3,Uc 4,Uc 5,Uc 6,Uc 7,Uc 8,Uc 9,Uc 10,Uc 11,Uc 13,Uc 14,Uc 16,Uc 17,Uc 18,Uc 20,Uc 21,Uc 22,Uc 23,Uc 24,Uc 25,Uc 27,Uc 28,Uc 29,Uc 30,Uc 31,Uc 32,Uc 33,Uc 34,Uc 35,Uc 36,Uc 37,Uc 38,Uc 39,Uc 40,Uc 41,Uc 42,Uc 43,Uc 44,Uc 45] } }
noncomputable def hAs:My Pz:=0::1::2::3::4::5::6::7::8::9::10::13::14::20::21::29::30::31::32::42::43::44::54::55::56::66::67::68::78::79::80::90::91::92::102::103::104::114::115::116::126::127::128::138::139::140::146::147::153::154::160::161::167::168::181::182::188::189::195::196::202::203::209::210::214::215::221::222::228::229::235::236::242::243::249::250::256::257::263::264::270::271::277::278::284::285::291::292::293::294::295::296::297::305::306::312::313::319::320::326::327::331::332::338::339::345::346::352::353::359::360::366::367::371::372::378::379::383::384::390::391::395::396::402::403::409::410::416::417::423::424::430::431::437::438::[]
def hK:PySem.Params->PySem.W.Frag:=λ P=>((nat_lit 0,boot_o_0 P)::(nat_lit 1,boot_o_1 P)::(nat_lit 2,boot_o_2 P)::(nat_lit 3,Lm P)::(nat_lit 4,boot_o_4 P)::(nat_lit 5,boot_o_5 P)::(nat_lit 6,boot_o_6 P)::(nat_lit 7,boot_o_7 P)::(nat_lit 8,boot_o_8 P)::(nat_lit 9,boot_o_9 P)::(nat_lit 10,boot_o_10 P)::(nat_lit 13,o2 P)::(nat_lit 14,o3 P)::(nat_lit 20,o8 P)::(nat_lit 21,o9 P)::(nat_lit 29,o0 P)::(nat_lit 30,o15 P)::(nat_lit 31,o85 P)::(nat_lit 32,o17 P)::(nat_lit 42,o0 P)::(nat_lit 43,o24 P)::(nat_lit 44,o25 P)::(nat_lit 54,o0 P)::(nat_lit 55,o31 P)::(nat_lit 56,o32 P)::(nat_lit 66,o0 P)::(nat_lit 67,o41 P)::(nat_lit 68,o42 P)::(nat_lit 78,o0 P)::(nat_lit 79,o48 P)::(nat_lit 80,o49 P)::(nat_lit 90,o0 P)::(nat_lit 91,o55 P)::(nat_lit 92,o56 P)::(nat_lit 102,o0 P)::(nat_lit 103,o65 P)::(nat_lit 104,o66 P)::(nat_lit 114,o0 P)::(nat_lit 115,o72 P)::(nat_lit 116,o73 P)::(nat_lit 126,o0 P)::(nat_lit 127,o79 P)::(nat_lit 128,o80 P)::(nat_lit 138,o0 P)::(nat_lit 139,o89 P)::(nat_lit 140,o90 P)::(nat_lit 146,o94 P)::(nat_lit 147,o95 P)::(nat_lit 153,o98 P)::(nat_lit 154,o99 P)::(nat_lit 160,G2 P)::(nat_lit 161,G1 P)::(nat_lit 167,G0 P)::(nat_lit 168,GZ P)::(nat_lit 181,Jo P)::(nat_lit 182,Jn P)::(nat_lit 188,Jm P)::(nat_lit 189,Jl P)::(nat_lit 195,Jk P)::(nat_lit 196,Jj P)::(nat_lit 202,Ji P)::(nat_lit 203,Jh P)::(nat_lit 209,Jg P)::(nat_lit 210,Jf P)::(nat_lit 214,Je P)::(nat_lit 215,Jd P)::(nat_lit 221,Jc P)::(nat_lit 222,Jb P)::(nat_lit 228,Ja P)::(nat_lit 229,I0 P)::(nat_lit 235,IZ P)::(nat_lit 236,IY P)::(nat_lit 242,IX P)::(nat_lit 243,IW P)::(nat_lit 249,IV P)::(nat_lit 250,IU P)::(nat_lit 256,IT P)::(nat_lit 257,IS P)::(nat_lit 263,IQ P)::(nat_lit 264,IP P)::(nat_lit 270,IM P)::(nat_lit 271,IL P)::(nat_lit 277,IK P)::(nat_lit 278,IJ P)::(nat_lit 284,II P)::(nat_lit 285,IH P)::(nat_lit 291,IG P)::(nat_lit 292,IF P)::(nat_lit 293,IE P)::(nat_lit 294,ID P)::(nat_lit 295,IC P)::(nat_lit 296,IB P)::(nat_lit 297,IA P)::(nat_lit 305,Iz P)::(nat_lit 306,Iy P)::(nat_lit 312,Ll P)::(nat_lit 313,Lk P)::(nat_lit 319,Lj P)::(nat_lit 320,Li P)::(nat_lit 326,Lh P)::(nat_lit 327,Lg P)::(nat_lit 331,Le P)::(nat_lit 332,Ld P)::(nat_lit 338,Lc P)::(nat_lit 339,Lb P)::(nat_lit 345,La P)::(nat_lit 346,K9 P)::(nat_lit 352,K8 P)::(nat_lit 353,K7 P)::(nat_lit 359,K6 P)::(nat_lit 360,K5 P)::(nat_lit 366,K4 P)::(nat_lit 367,K3 P)::(nat_lit 371,K2 P)::(nat_lit 372,K1 P)::(nat_lit 378,K0 P)::(nat_lit 379,KZ P)::(nat_lit 383,KY P)::(nat_lit 384,KW P)::(nat_lit 390,KS P)::(nat_lit 391,KR P)::(nat_lit 395,KQ P)::(nat_lit 396,KP P)::(nat_lit 402,KO P)::(nat_lit 403,KN P)::(nat_lit 409,KL P)::(nat_lit 410,KJ P)::(nat_lit 416,KI P)::(nat_lit 417,KH P)::(nat_lit 423,KG P)::(nat_lit 424,KD P)::(nat_lit 430,KC P)::(nat_lit 431,KA P)::(nat_lit 437,Kz P)::(nat_lit 438,Ky P)::[])
abbrev hX:PD->Bool:=λ s=>xlAt hV [] s&&recOk (RowW.records (OpenRow.toRowW (OpenLaw.row hl))) s
set_option maxHeartbeats 0
theorem Mw:∀ w,(λ os=>topGo treeTable hp w 11 hAn 12 (S0 w os) (topStub hp))=λ os=>some (SA w os,⟨denote treeTable hC,hC,⟨0,0,0,0⟩,hB⟩):=by
 rewrite [PySem.W.Fast.te15667345088766844465,Zz,PySem.W.Fast.te11892475500146522536]
 intro w; kernel_rfl
theorem Mz:∀ w,(λ os=>segRun treeTable hp w 11 hAn 1 1 (SA w os) (blockOf (behindTheImports hp) hE hC ⟨0,0,0,0⟩ hB))=λ os=>some (Flow.next,(S1 w os).abs,hC,⟨0,0,0,0⟩):=by
 rewrite [PySem.W.Fast.te14374325043358763698,Zz]
 intro w; kernel_rfl
theorem Pc:∀ w,(λ os=>segRunT treeTable hp w 11 hAn 1 651 (S1 w os) (piecesOf M0 hE hC ⟨0,0,0,0⟩ hB))=λ os=>some (Flow.next,S2 w os,hC,⟨9,0,10,8⟩):=by
 rewrite [Yb,Zz]
 intro w; kernel_rfl
theorem Pb:∀ w,(λ os=>segRunT treeTable hp w 11 hAn 1 640 (S2 w os) (piecesOf MZ hE hC ⟨9,0,10,8⟩ hB))=λ os=>some (Flow.next,S3 w os,hC,⟨15,0,16,8⟩):=by
 rewrite [Yb,Zz]
 intro w; kernel_rfl
theorem Pa:∀ w,(λ os=>segRunT treeTable hp w 11 hAn 1 640 (S3 w os) (piecesOf MY hE hC ⟨15,0,16,8⟩ hB))=λ os=>some (Flow.next,S4 w os,hC,⟨21,0,22,8⟩):=by
 rewrite [Yb,Zz]
 intro w; kernel_rfl
theorem O9:∀ w,(λ os=>segRunT treeTable hp w 11 hAn 1 398 (S4 w os) (piecesOf MX hE hC ⟨21,0,22,8⟩ hB))=λ os=>some (Flow.next,S5 w os,hC,⟨54,0,54,4⟩):=by
 rewrite [Yb,Zz]
 intro w; kernel_rfl
theorem O8:∀ w,(λ os=>segRunT treeTable hp w 11 hAn 1 778 (S5 w os) (piecesOf MW hE hC ⟨54,0,54,4⟩ hB))=λ os=>some (Flow.next,S6 w os,hC,⟨178,0,180,67⟩):=by
 rewrite [Yb,Zz]
 intro w; kernel_rfl
theorem O7:∀ w,(λ os=>segRunT treeTable hp w 11 hAn 1 646 (S6 w os) (piecesOf MV hE hC ⟨178,0,180,67⟩ hB))=λ os=>some (Flow.next,S7 w os,hC,⟨390,0,398,37⟩):=by
 rewrite [Yb,Zz]
 intro w; kernel_rfl
theorem Mx:∀ w,(λ os=>topRun treeTable hp w 11 hAn 2 (S7 w os).abs ⟨doneF .next,hC,⟨390,0,398,37⟩,hB⟩)=λ os=>some (SF w os):=by
 rewrite [PySem.W.Fast.te14082659384304107361,Zz]
 intro w; kernel_rfl
def h_b:behindTheImports hp=M0++(MZ++(MY++(MX++(MW++(MV++[]))))):=by kernel_rfl
theorem Mv (w:World) (os:OsState):topRun treeTable hp w 11 hAn (12+(1+(651+(640+(640+(398+(778+(646+(2))))))))) (S0 w os) (topStub hp)=some (SF w os):=go_top (congrFun (Mw w) os) (piece_block (congrFun (Mz w) os) (by
 rw [h_b]
 exact piece_app (segRun_of (congrFun (Pc w) os)) (piece_app (segRun_of (congrFun (Pb w) os)) (piece_app (segRun_of (congrFun (Pa w) os)) (piece_app (segRun_of (congrFun (O9 w) os)) (piece_app (segRun_of (congrFun (O8 w) os)) (piece_app (segRun_of (congrFun (O7 w) os)) (congrFun (Mx w) os))))))))
theorem Hx:∀ w:World,((boot_heap w.params).isNs mainGlobals&&(⟨[]⟩:Array GenState).size == 0,(boot_heap w.params).objs.size,(boot_heap w.params).nsMap mainGlobals "__annotations__")=(true,11,hAn):=by
 rewrite [PySem.W.Fast.te8920871248978507458]
 intro w; kernel_rfl
theorem Hz:∀ w:World,(λ os=>((staticsOk (importedModules hp.main.body) (boot_heap w.params) (hF w.params)&&namesBound hp (hF w.params)&&gensDone (SF w os)&&laidKept (boot_heap w.params) (hF w.params)),openSeen hV [] (importedModules hp.main.body) hX true (SF w os),obsZ hAs (SF w os)))=λ _=>(true,openGood hV [],valZ hK 439 793 w):=by
 rewrite [PySem.W.Fast.te5923862056798008813,PySem.W.Fast.te4187177175401517315]
 intro w; kernel_rfl
theorem HA:LeftO hp hV [] hX (obsZ hAs) (valZ hK 439 793) 7620:=LeftO.of_pieces (boot_open (p:=hp) (N:=7620) (by kernel_rfl) (by decide) (λ _=>by kernel_rfl)) Hx Mv (by decide) Hz
def Hy:PySem.Challenge.rw_stylehouse_k11_refused.wellSaid=true:=by kernel_rfl
theorem HB (said:(OpenLaw.row PySem.Challenge.rw_stylehouse_k11_refused).wellSaid=true) (hw:(OpenRow.toRowW (OpenLaw.row PySem.Challenge.rw_stylehouse_k11_refused)).promised) {d:DefRec} {kwd:My (Str×Expr)} (hdef:defOf hV (OpenLaw.row PySem.Challenge.rw_stylehouse_k11_refused).name=some (d,kwd)) (hp':(OpenLaw.row PySem.Challenge.rw_stylehouse_k11_refused).prog.theDef (OpenLaw.row PySem.Challenge.rw_stylehouse_k11_refused).name=some (d.params,d.body,d.scope)) (hk:kwWritten? d.params.kwonlyargs d.params.kw_defaults=some kwd) (call:WalkX hV [] (XL hV []) (obsZ hAs) (valZ hK 439 793) (OpenRow.toRowW (OpenLaw.row PySem.Challenge.rw_stylehouse_k11_refused)) d kwd λ f vs=>PySem.call f vs):(OpenLaw.row PySem.Challenge.rw_stylehouse_k11_refused).Holds:=
 holds_openX (q:=hV) (loose:=[]) (Xt:=hX) (XP:=XL hV []) (Yf:=obsZ hAs) (Ya:=valZ hK 439 793) (N:=7620) HA (λ s e=>xl_of s (Bool.and_eq_true_iff.mp e).1) XL.keeps hdef hp' hk (λ s e=>recFacts_of (Bool.and_eq_true_iff.mp e).2) rfl said (by decide +kernel) ⟨rfl,rfl,rfl,rfl,rfl,by decide +kernel⟩ hw call
end HD11
end
section
namespace L2
open PySem PySem.Spec PyProof.Rows
section
variable {X:Cx}
def Sz (i:Int):Prop:=i.natAbs < 2 ^ 4000
theorem Sz.bits (h:Sz i):Builtin.Int.intBits i<=2 ^ 20:=Z6 (PySem.intBits_le_iff.mpr h) (by decide)
theorem Sz.log (h:Sz i):i.natAbs.log2 < 9000:=by
 by_cases z:i.natAbs=0
 · rw [z]; decide
 · exact (Nat.log2_lt z).mpr (Nat.lt_trans h (Nat.pow_lt_pow_right (by decide) (by decide)))
theorem C7:OpR X (binaryOp .FloorDiv) (rI (λ _ j=>j≠0/\Sz j) λ i j=>.int (i.fdiv j)):=opI λ _ _ _ _ _ _ _ hc q=>floordiv_int hc.1 q (.inl (PyProof.noPylong_of_log2 hc.2.log))
noncomputable def MH:V->Py
 | .ty n=>.type n
 | .ref a=>.ref a
 | _=>.none
end
open PySem.W in
mutual
inductive RdD (K:W.Frag) (H:Hp):V->Dat->Prop where
 | non:RdD K H .non .none
 | int (i:Int):RdD K H (.int i) (.int i)
 | str (x:Str):RdD K H (.str x) (.str x)
 | tup {a:Addr} {xs:List V} {ds:List Dat} (h:SqT K H a xs) (r:zJ K H xs ds):RdD K H (.ref a) (.tuple ds)
 | lst {a:Addr} {xs:List V} {ds:List Dat} (h:SqL K H a xs) (r:zJ K H xs ds):RdD K H (.ref a) (.list ds)
inductive zJ (K:W.Frag) (H:Hp):List V->List Dat->Prop where
 | nil:zJ K H [] []
 | cons {x:V} {d:Dat} {xs:List V} {ds:List Dat} (h:RdD K H x d) (r:zJ K H xs ds):zJ K H (x::xs) (d::ds)
end
section
open PySem.W
variable {X:Cx} {Pn:My (Pz×Obj)} {σ:St} {H:Hp} {s:PD}
mutual
theorem RdD.reads (I:Inv X Pn σ H s):∀ {v:V} {d:Dat} {u:Py},RdD X.K H v d->RelV v u->∃ as,Reads s.heap u (kqdP d) as
 | _,_,u,.non,rv=>by cases (show u=Value.none from rv); exact ⟨_,Reads.none⟩
 | _,_,u,.int i,rv=>by obtain ⟨t,rfl⟩:=(show ∃ t,u=Value.int i t from rv); exact ⟨_,Reads.int i t⟩
 | _,_,u,.str x,rv=>by obtain ⟨t,rfl⟩:=(show ∃ t,u=Value.str x t from rv); exact ⟨_,Reads.str x t⟩
 | _,_,u,@RdD.tup _ _ a xs ds h r,rv=>by
  cases (show u=Value.ref a from rv);obtain ⟨its,vs,p,_⟩:=I.tuple h;obtain ⟨as,q⟩:=zJ.reads I r vs;obtain ⟨o,h1,h2,n,h3⟩:=p;rw [kqdP];exact ⟨as,reads_tuple_at h1 h2 h3 (by simpa using q)⟩
 | _,_,u,@RdD.lst _ _ a xs ds h r,rv=>by
  cases (show u=Value.ref a from rv);obtain ⟨its,vs,p,_⟩:=I.list h;obtain ⟨as,q⟩:=zJ.reads I r vs;obtain ⟨o,h1,h2,n,h3⟩:=p.isList;rw [kqdP];exact ⟨a::as,reads_list_at h1 h2 h3 (by simpa using q)⟩
theorem zJ.reads (I:Inv X Pn σ H s):∀ {vs:My V} {ds:My Dat} {us:My Py},zJ X.K H vs ds->bX vs us->∃ as,ReadsAll s.heap us (kqdPs ds) as
 | _,_,_,.nil,.nil=>by rw [kqdPs]; exact ⟨_,ReadsAll.nil⟩
 | _,_,_,.cons h r,.cons rv rs=>by
  obtain ⟨as,q⟩:=RdD.reads I h rv;obtain ⟨bs,p⟩:=zJ.reads I r rs;rw [kqdPs];exact ⟨_,ReadsAll.cons q p⟩
end
theorem iI (h:kqdOk 9 d=true):SeqAt.shaped (kqdP d)=true:=by
 have la:=kqd_lay 9 d h;unfold SeqAt.shaped;rw [la.1,Bool.true_and];exact Zo (Z6 la.2 (by decide))
open Classical in
theorem yO (h:kqdOk 9 d=true) (h':kqdOk 9 e=true):PyData.eqv (kqdP d) (kqdP e)=decide (d=e):=by
 have q:=kqd_eqv 9 d e 9 h h'
 by_cases hq:d=e
 · rw [Zo hq]; exact q.mpr hq
 · rw [Zl hq]; exact Bool.eq_false_iff.mpr λ x=>hq (q.mp x)
open Classical in
def eqD (d e:Dat):Bool:=decide (d=e)
open Classical in
def AU (h:d=e):eqD d e=true:=Zo h
open Classical in
def yQ (h:d≠e):eqD d e=false:=Zl h
def OD (K:PB):R2:=λ x y H Q=>∃ d e,RdD K H x d/\RdD K H y e/\kqdOk 9 d=true/\kqdOk 9 e=true/\Q (.bl (eqD d e)) H
def Oz (K:PB):R2:=λ x y H Q=>∃ d e,RdD K H x d/\RdD K H y e/\kqdOk 9 d=true/\kqdOk 9 e=true/\Q (.bl (!eqD d e)) H
theorem GQ (hu:X.A.units+64 < cLine):OpR X (compareOp .Eq) (OD X.K):=by
 intro Pn s σ H x y v u Q I rx ry h;obtain ⟨d,e,hd,he,kd,ke,q⟩:=h;obtain ⟨as,ra⟩:=hd.reads I rx;obtain ⟨bs,rb⟩:=he.reads I ry;refine eq_dataH ra rb (iI kd) (iI ke) hu ⟨.bl _,H,I,rfl,?_⟩;rw [yO kd ke];exact q
theorem GO (hu:X.A.units+64 < cLine):OpR X (compareOp .NotEq) (Oz X.K):=by
 intro Pn s σ H x y v u Q I rx ry h;obtain ⟨d,e,hd,he,kd,ke,q⟩:=h;obtain ⟨as,ra⟩:=hd.reads I rx;obtain ⟨bs,rb⟩:=he.reads I ry;refine ne_dataH ra rb (iI kd) (iI ke) hu ⟨.bl _,H,I,rfl,?_⟩;rw [yO kd ke];exact q
end
theorem cc.tup {K:PB} {H H':Hp} {a:Pz} {xs:My V} (e:cc H H') (h:SqT K H a xs):SqT K H' a xs:=by
 rcases h with (h | ⟨o,h⟩) | h
 · exact .inl (.inl (e _ _ h))
 · exact .inl (.inr ⟨o,e _ _ h⟩)
 · exact .inr h
def aC (h:H p=none) (o:HO):cc H (upd H p o):=λ b u q=>by rw [au (dG q h)]; exact q
end L2
namespace L2
def Mn {A B:Prop} (e:b=true) (h:A):if b=true then A else B:=by grind
def vo {A B:Prop} (e:b=false) (h:B):if b=true then A else B:=by grind
end L2
end
section
namespace L2
open PySem PySem.Spec PyProof.Rows
abbrev MS (ifs:My Expr) (env:Env):Sem Bool:=forIn ifs true λ c r=>if r=true then do let ok <- isTrue c env (eval c env); pure (ForInStep.yield ok) else pure (ForInStep.yield r)
section
variable {prog:Program} {w:World} {A:Around} {R:Result->PD->Prop} {s:PD}
theorem oS {EE:Py->PD->Prop} (I:Nat->PD->Prop)
  (turn:∀ n s,I n s->wpAny (model prog w) A (pyNext it) (λ r s₁=>match r with
    | none=>R (.ok .next) s₁
    | some v=>wpAny (model prog w) A (letOwnedTupleGo target it v) (λ _ s₁'=>wpAny (model prog w) A (assign target env v) (λ _ s₂=>wpAny (model prog w) A (MS ifs env) (λ ok s₂'=>if ok=true then wpAny (model prog w) A (eval elt env) (λ x s₃=>
     wpAny (model prog w) A (call (.builtin "list.append") [acc,x]) (λ _ s₄=>∃ m,m < n/\I m s₄) EE s₃) EE s₂' else ∃ m,m < n/\I m s₂') EE s₂) EE s₁') EE s₁) EE s)
  (n:Nat) (h:I n s) (hE:∀ e s,EE e s->notedBy (model prog w) A env (λ e s'=>R (.error e) s') e s):codeAny (model prog w) A (.compLoop (.ListComp elt [⟨target,iter,ifs,0⟩] scope pos) 0 it acc env) R s:=by
 refine codeAny_loop rfl I (λ n s hI=>?_) n h;refine wpAny_noted ?_
 rw [compTurn_list];refine Zt (wpAny_standAt (Zt (Yu (turn n s hI) (λ r s₁ h₁=>?_) hE)))
 cases r with
 | none=>exact Z5 h₁
 | some v=>
  refine Zt (Yu h₁ (λ _ s₁' h₁'=>?_) hE);refine Zt (Yu h₁' (λ _ s₂ h₂=>?_) hE);refine Zt (Yu h₂ (λ ok s₃ h₃=>?_) hE)
  cases ok with
  | false=>
    rw [if_neg Zf] at h₃
    rw [if_neg Zf];exact Zt (Z5 (Z5 ⟨rfl,h₃⟩))
  | true=>
    rw [if_pos rfl] at h₃
    rw [if_pos rfl];exact Zt (Zt (Yu h₃ (λ x s₄ h₄=>Zt (Yu h₄ (λ _ s₅ h₅=>Z5 (Z5 ⟨rfl,h₅⟩)) hE)) hE))
end
noncomputable def cK (X:Cx) (scope:Scope) (cl:My (Str×Pz)) (N:My Str) (s:PD) (H:Hp) (fp:My Pz) (C:Pz):Cx where
 prog:=X.prog
 w:=X.w
 K:=X.K
 mg:=X.mg
 base:=X.base
 A:=X.A
 N:=N
 s₀:=s
 H₀:=H
 env:=compEnvC scope cl C X.env
 outer:=X.stack
 stack:=X.stack
 ex:=fp
 calm:=X.calm
 fn:=λ _=>false
 pn:=[]
 xe:=λ _ _=>False
structure dY (X:Cx) (scope:Scope) (cl:List (Str×Addr)) (x:Str) (cs:List (Str×Nat)):Prop where
 JC:closureFor scope X.env=pure cl
 kind:scope.kind=.function
 xP:∀ y ∈ scope.names,y.2≠.cell
 names:∀ y ∈ scope.names,y.2=.local->scope.names.lookup y.1=some .local
 own:scope.names.lookup x=some .local
 sub:∀ y c,cl.lookup y=some c->X.env.cells.lookup y=some c
 has:∀ y,((relabel scope X.env).names.lookup y=some .cell\/(relabel scope X.env).names.lookup y=some .free)->∃ c,cl.lookup y=some c
 ML:∀ p ∈ cs,X.N[p.2]?=some p.1/\(X.env.kindOf p.1=some .cell\/X.env.kindOf p.1=some .free)/\((relabel scope X.env).names.lookup p.1=some .cell\/(relabel scope X.env).names.lookup p.1=some .free)
 nd:(x::cs.map (·.1)).Nodup
def aT (σ:St) (cs:My (Str×Nat)):St:=cs.map λ p=>(σ[p.2]?).join
section
variable {X:Cx} {Pn:My (Pz×Obj)} {σ:St} {H:Hp} {s:PD} {scope:Scope} {cl:My (Str×Pz)} {x:Str} {cs:My (Str×Nat)} {fp:My Pz} {C:Pz} {h':Heap} {t':Nat}
theorem vG (O:dY X scope cl x cs) (I:Inv X Pn σ H s) (f2:∀ b ∈ fp,uK X Pn H b) (there:∀ b ∈ fp,b < s.heap.objs.size) (hC:s.heap.objs.size<=C)
  (old:∀ b o,s.heap.get? b=some o->h'.get? b=some o) (hn:h'.Ns C λ _=>none):Inv (cK X scope cl (x::cs.map (·.1)) s H fp C) [] (none::aT σ cs) H { s with heap:=h',toks:=t' }:=by
 refine ⟨⟨I.ok.mod,O.kind,I.ok.glob,I.ok.blt,hC,λ y z c h1 h2=>I.ok.inj y z c (O.sub y c h1) (O.sub z c h2),λ y hy=>O.has y hy,λ _ _ h=>absurd (h) Zf,I.ok.hd,I.ok.frames,.inl rfl,
   λ b hb=>⟨Z2 (Zx (there b hb) hC),λ y c e=>(f2 b hb).2.2.2.2.1 y c (O.sub y c e)⟩,I.bs,Z6 I.ok.bsz I.sz,λ b o e hb=>?_,λ b hb z=>?_,I.stack,I.jW⟩,
  rfl,I.bare,Un.kept old,⟨_,hn,λ i y v e1 e2 e3=>?_⟩,λ y c e=>?_,I.hok.fresh hC,λ y c e=>I.ic y c (O.sub y c e),λ p hp=>absurd (show p ∈ ([]:My (Pz×Obj)) from hp) (by simp),I.hok.kept old,?_⟩
 ·rcases (f2 b hb).2.2.2.1 with z | z
  · exact I.ok.Dn b o e z
  · exact absurd (Zx (Zs e) (Z6 I.ok.bsz z)) (Ys _)
 · exact (Zh.mp (I.gL b z)).elim (f2 b hb).2.1 (f2 b hb).2.2.1
 ·cases i with
  | zero=>simp at e2
  | succ j=>
   have e1':(cs.map (·.1))[j]?=some y:=by simpa [cK] using e1
   have e2':(aT σ cs)[j]?=some (some v):=by simpa using e2
   unfold aT at e2';rw [List.getElem?_map] at e1' e2'
   cases q:cs[j]? with
   | none=>rw [q] at e1'; cases e1'
   | some p=>
    rw [q] at e1' e2';have ey:p.1=y:=by simpa using e1'
    have ev:(σ[p.2]?).join=some v:=by simpa using e2'
    have ev':σ[p.2]?=some (some v):=by
     cases z:σ[p.2]? with
     | none=>rw [z] at ev; cases ev
     | some o=>rw [z] at ev; exact Yo some ev
    obtain ⟨c1,c2,c3⟩:=O.ML p (List.mem_of_getElem? q);subst ey;obtain ⟨m,hm,hl⟩:=I.loc
    obtain ⟨u,ru,lk⟩:=hl p.2 p.1 v c1 ev' (by
     rcases c2 with c2 | c2
     · exact .inr (.inl c2)
     · exact .inr (.inr c2))
    obtain ⟨c',ec'⟩:=O.has p.1 c3;refine ⟨u,ru,.inr ⟨c3,c',ec',?_⟩⟩;rcases lk with ⟨k,_⟩ | ⟨_,c,ec,o,ho,hd⟩
    ·rcases c2 with c2 | c2
     · rw [c2] at k; cases k
     · rw [c2] at k; cases k
    ·have:=O.sub p.1 c' ec'
     rw [ec] at this;cases this;exact ⟨o,old _ o ho,hd⟩
 ·obtain ⟨v,o,ho,hd⟩:=I.cell y c (O.sub y c e)
  exact ⟨v,o,old c o ho,hd⟩
 · simp [cK,aT]
end
def PTs (X:Cx) (ifs:My Expr) (t:TT):Prop:=∀ (Pn:My (Pz×Obj)) (s:PD) (σ:St) (H:Hp) (Q:Bool->Hp->Prop),Inv X Pn σ H s->t σ H Q->wpAny (model X.prog X.w) X.A (MS ifs X.env) (TP X Pn σ Q) X.xe s
def CH {X:Cx}:PTs X [] λ _ H Q=>Q true H:=λ _ _ _ H _ I h=>Z5 ⟨H,I,h⟩
def CG {X:Cx} {c:Expr} {t:TT} (h:PT X c t):PTs X [c] t:=λ Pn s σ H Q I q=>wpAny_tests_one (h Pn s σ H Q I q)
def Bl (J:It) (te:TE) (cs:My (Str×Nat)) (σ:St) (Q:VK) (H1:Hp):Prop:=∃ W:Nat->Nat->My V->Hp->Prop,(∃ m,W 0 m [] H1)/\∀ i m ys H',W i m ys H'->(J.stop i H'/\ys.length<=sizeLine/\∀ p,H' p=none->Q (.ref p) (upd H' p (.lst ys)))\/(J.go i H'/\ys.length < sizeLine/\∀ v H2,J.yld i H' v H2->te (some v::aT σ cs) H2 λ y H3=>∃ m',m' < m/\W (i+1) m' (ys++[y]) H3)
def F3 (wi:TI) (te:TE) (cs:My (Str×Nat)):TE:=λ σ H Q=>wi σ H λ J H1=>Bl J te cs σ Q H1
section
variable {X:Cx}
theorem zf {ifs:My Expr} {tt:TT} {elt iter:Expr} {x:Str} {px pos:Pos} {scope:Scope} {cs:My (Str×Nat)} {te:TE} {Pn:My (Pz×Obj)} {σ:St} {H:Hp} {s s1:PD} {Q:VK} {it:Pz} {fp:My Pz} {tn:Nat->Heap->Prop} {J:It}
  {RR:Py->Pz->Result->PD->Prop} {Y:Cx} {ev:Env} {C D:Pz} {W:Nat->Nat->My V->Hp->Prop} {m0:Nat} (hc:X.calm=true)
  (I:Inv X Pn σ H s) (T:Turn X.prog X.w X.K (.Name x px) J fp it tn) (f2:∀ b ∈ fp,uK X Pn H b) (there:∀ b ∈ fp,b < s.heap.objs.size) (w0:W 0 m0 [] H)
  (turn:∀ i m ys H',W i m ys H'->(J.stop i H'/\ys.length<=sizeLine/\∀ p,H' p=none->Q (.ref p) (upd H' p (.lst ys)))\/(J.go i H'/\ys.length < sizeLine/\∀ v H2,J.yld i H' v H2->tt (some v::aT σ cs) H2 λ b H3=>if b=true then te (some v::aT σ cs) H3 λ y H4=>∃ m',m' < m/\W (i+1) m' (ys++[y]) H4 else ∃ m',m' < m/\W (i+1) m' ys H3))
  (hRR:∀ D C s' H' ys,s.heap.objs.size<=D->s.heap.objs.size<=C->D≠C->(∃ m,s'.heap.Ns C m)->Inv X Pn σ (upd H' D (.lst ys)) s'->H' C=none->Q (.ref D) (upd H' D (.lst ys))->RR (.ref D) C (.ok .next) s')
  (hD:s.heap.objs.size=D) (hDC:D≠C) (hCle:D<=C) (st1:tn 0 s1.heap) (hacc:s1.heap.get? D=some { cls:=.type "list",data:=.seq ([]:My Py).toArray 0 }) (I1:Inv Y [] (none::aT σ cs) H s1) (pgx:PG Y (.Name x px) (oB 0)) (ptY:PTs Y ifs tt) (peY:PE Y elt te)
  (Yx:Y.prog=X.prog/\Y.w=X.w/\Y.K=X.K/\Y.A=X.A/\Y.env=ev/\Y.calm=X.calm/\Y.pn=[]/\Y.ex=fp/\Y.fs=frs X.stack/\Y.s₀=s/\Y.H₀=H) (yl0:ev.locals=C) (hZ:∀ e s',Y.xe e s'->notedBy (model X.prog X.w) X.A ev (λ x s''=>RR (.ref D) C (.error x) s'') e s') (yc:∀ z c,Y.env.cells.lookup z=some c->D < c\/X.env.cells.lookup z=some c):codeAny (model X.prog X.w) X.A (.compStart (.ListComp elt [⟨.Name x px,iter,ifs,0⟩] scope pos) 0 (.ref it) (.ref D) ev) (RR (.ref D) C) s1:=by
 have FD:=I.AQ (b:=D) (by rw [<- hD]; exact Zn _) (I.hok.fresh (by rw [<- hD]; exact Zn _));have nfpD:∀ b ∈ fp,b≠D:=λ b hb=>by rw [<- hD]; exact Z2 (there b hb)
 have nfpC:∀ b ∈ fp,b≠C:=λ b hb=>Z2 (Zx (there b hb) (by rw [hD]; exact hCle))
 obtain ⟨y1,y2,y3,y4,y5,y6,y8,y9,y10,y11,y12⟩:=Yx;have nstk:∀ b,b≠X.env.locals->b ∉ X.fs->b ∉ Y.fs:=λ b h1 h2 z=>by rw [y10] at z; exact (Zh.mp (I.gL b z)).elim h1 h2
 have yl:Y.env.locals=C:=by rw [y5]; exact yl0
 have stat:∀ {ps:My (Pz×Obj)} {H':Hp},(∀ b ∈ fp,H' b=none)->(∀ p ∈ ps,p.1=D)->∀ b ∈ fp,uK Y ps H' b:=λ {ps H'} hn hp b hb=>
  ⟨hn b hb,by rw [yl]; exact nfpC b hb,nstk b (f2 b hb).2.1 (f2 b hb).2.2.1,.inl (by rw [y9]; exact hb),λ z c e=>(yc z c e).elim (λ e=>Nat.ne_of_gt (Nat.lt_trans (hD ▸ there b hb) e)) ((f2 b hb).2.2.2.2.1 z c),λ p hq=>by
    rw [y8,List.nil_append] at hq;rw [hp p hq]
    exact Ne.symm (nfpD b hb)⟩
 have pinD:∀ {σ':St} {H':Hp} {s':PD} {ob:Obj},Inv Y [] σ' H' s'->H' D=none->s'.heap.get? D=some ob->(∀ v,ob.data≠.cell v)->Inv Y [(D,ob)] σ' H' s':=λ {σ' H' s' ob} I' hn e hd=>
  I'.lJ λ p hp=>by
    have e1:p=(D,ob):=by simpa using hp
    subst e1;exact ⟨e,hn,by rw [yl]; exact hDC,nstk D FD.2.1 FD.2.2.1,hd⟩
 have loop:∀ s₃:PD,s₃=s1->codeAny (model X.prog X.w) X.A (.compLoop (.ListComp elt [⟨.Name x px,iter,ifs,0⟩] scope pos) 0 (.ref it) (.ref D) ev) (RR (.ref D) C) s₃:=by
  rintro s₃ rfl
  refine oS (λ n s'=>∃ i o H' ys its k,Inv Y [] (o::aT σ cs) H' s'/\tn i s'.heap/\(∀ b ∈ fp,H' b=none)/\H' D=none/\s'.heap.get? D=some { cls:=.type "list",data:=.seq (its:My Py).toArray k }/\bX ys its/\W i n ys H') ?_ m0
    ⟨0,none,H,[],[],0,I1,st1,λ b hb=>(f2 b hb).1,FD.1,hacc,.nil,w0⟩ hZ
  rintro n s3 ⟨i,o,H3,ys,its,k,I3,st3,fr3,frD,e3,vs3,w3⟩
  have I3p:=pinD I3 frD e3 (by intro v z; cases z)
  have onlyD:∀ p ∈ [(D,({ cls:=.type "list",data:=.seq its.toArray k }:Obj))],p.1=D:=λ p hp=>by
    have e1:=Zr.mp hp;rw [e1]
  rcases turn i n ys H3 w3 with ⟨stop,hz,q⟩ | ⟨go,hz,step⟩
  · have dn:=T.done Y y1 y2 y3 (by rw [y6]; exact hc) i _ s3 (o::aT σ cs) H3 Y.xe I3p (stat fr3 onlyD) st3 stop
    rw [y4] at dn;refine thn dn λ r s4 ⟨hr,I4⟩=>?_
    subst hr;obtain ⟨e4,_⟩:=I4.pin (D,_) (Ze _ (Zr.mpr rfl));have b4:=I4.base;rw [y9,y10,y11,y12] at b4;have hk4:=I4.hok;rw [y1,y2] at hk4;have hCn:H3 C=none:=by have:=I4.free; rw [yl] at this; exact this
    refine hRR D C s4 H3 ys (by rw [<- hD]; exact Zn _) (by rw [hD]; exact hCle) hDC (by obtain ⟨m,hm,_⟩:=I4.loc; rw [yl] at hm; exact ⟨m,hm⟩) ?_ hCn (q D frD);have neD:∀ b o,s.heap.get? b=some o->b≠D:=λ b o e=>by rw [<- hD]; exact Z2 (Zs e)
    have neDH:∀ b u,H b=some u->b≠D:=λ b u e=>by rw [<- hD]; exact Z2 (I.hok.lt e)
    refine I.Ie (by have:=I4.os; rw [y11] at this; exact this) ⟨b4.keep,b4.slot,λ b o e n hx=>?_,b4.there,λ b xs e=>?_,λ b o u e=>?_,λ b ps e=>?_⟩ (λ b u e=>?_) I4.bare λ b hb=>?_
    · rw [au (neD b o e)]; exact b4.free b o e n hx
    · rw [au (neDH b _ e)]; exact b4.qQ b xs e
    · rw [au (neDH b _ e)]; exact b4.ql b o u e
    · rw [au (neDH b _ e)]; exact b4.qR b ps e
    ·have t1:∀ c u,H3 c=some u->upd H3 D (.lst ys) c=some u:=λ c u z=>by
      rw [au (λ zz=>by rw [zz,frD] at z; cases z)];exact z
     by_cases hb:b=D
     ·subst hb
      rw [ay] at e;cases e;exact ⟨hz,its,k,vs3,e4⟩
     ·rw [au hb] at e
      exact (hk4 b u e).vX (λ _ _ _ z=>z) (λ c z=>t1 c _ z) λ c xs z=>t1 c _ z
    · exact ⟨(f2 b hb).2.2.2.1,(f2 b hb).2.1,(f2 b hb).2.2.2.2.1,(f2 b hb).2.2.2.2.2⟩
  · have im:=T.item Y y1 y2 y3 (by rw [y6]; exact hc) i _ s3 (o::aT σ cs) H3 Y.xe I3p (stat fr3 onlyD) st3 go
    rw [y4] at im;refine thn im λ r s4 ⟨u,hr,h4⟩=>?_
    subst hr;refine thn h4 λ _ s5 ⟨v,H5,I5,r5,y5',st5,fr5⟩=>?_
    have I5':=I5.pinned (stat fr5 onlyD) (T.obj _ _ st5);have as:=pgx _ s5 (o::aT σ cs) H5 v u _ I5' r5 (show oB 0 v (o::aT σ cs) H5 (λ σ' H'=>σ'=some v::aT σ cs/\H'=H5) from ⟨rfl,rfl⟩);rw [y1,y2,y4,y5] at as;refine thn as λ _ s6 ⟨σ6,H6,I6,e6,e6'⟩=>?_
    subst e6 e6';have ts:=ptY _ s6 _ H6 _ I6 (step v H6 y5');rw [y1,y2,y4,y5] at ts;refine thn ts λ bb s7 ⟨H7,I7,q7⟩=>?_
    have fpk:∀ b ∈ fp,∀ o,s5.heap.get? b=some o->s7.heap.get? b=some o/\H7 b=none:=λ b hb o e=>by
     obtain ⟨z1,z2,_⟩:=I7.pin (b,o) (Ze _ (Ze _ (iL hb e)));exact ⟨z1,z2⟩
    cases bb with
    | false=>
     obtain ⟨m',hm',w7⟩:=(by rw [if_neg Zf] at q7; exact q7)
     rw [if_neg Zf];obtain ⟨e7,n7,_⟩:=I7.pin (D,_) (Ze _ (Zk _ (Zr.mpr rfl)));have I7n:Inv Y [] (some v::aT σ cs) H7 s7:=I7.lJ λ p hp=>absurd hp (by simp)
     refine ⟨m',hm',i+1,some v,H7,ys,its,k,I7n,T.keep _ _ _ st5 λ b hb o e=>(fpk b hb o e).1,λ b hb=>?_,n7,e7,vs3,w7⟩;obtain ⟨o',e',_⟩:=T.obj _ _ st5 b hb;exact (fpk b hb o' e').2
    | true=>
    rw [if_pos rfl];have q7':=q7;rw [if_pos rfl] at q7';have el:=peY _ s7 _ H7 _ I7 q7';rw [y1,y2,y4,y5] at el;refine thn el λ u8 s8 ⟨y8',H8,I8,r8,m',hm',w8⟩=>?_
    obtain ⟨e8,n8,_⟩:=I8.pin (D,_) (Ze _ (Zk _ (Zr.mpr rfl)));have hl3:=vs3.length;refine call_meets F.slot_list_append ⟨_,e8,rfl⟩ F.entry_list_append (F.args_list_append_2 _ _) (PySem.list_append D its.toArray k u8 (by rw [Zq]; omega)) ⟨e8,?_⟩;obtain ⟨k',up⟩:∃ k',(s8.heap.update D (Obj.mapSeq (·.push u8))).get? D=some { cls:=.type "list",data:=.seq (its.toArray.push u8) k' }:=⟨_,PySem.IsL.update e8 (·.push u8)⟩
    have fpk8:∀ b ∈ fp,∀ o,s5.heap.get? b=some o->s8.heap.get? b=some o/\H8 b=none:=λ b hb o e=>by
     obtain ⟨z1,z2,_⟩:=I8.pin (b,o) (Ze _ (Ze _ (iL hb e)));exact ⟨z1,z2⟩
    have I8n:Inv Y [] (some v::aT σ cs) H8 s8:=I8.lJ λ p hp=>absurd hp (by simp)
    refine ⟨m',hm',i+1,some v,H8,ys++[y8'],its++[u8],k',?_,?_,?_,n8,?_,vs3.append (.cons r8 .nil),w8⟩
    ·refine I8n.turned (λ b o hb e=>(Heap.get?_update_other s8.heap (Obj.mapSeq (·.push u8)) (Ne.symm hb)).trans e) n8 (by rw [yl]; exact hDC) (.inr (by rw [y11,<- hD]; exact Zn _)) (λ z c e=>(yc z c e).elim Nat.ne_of_gt (FD.2.2.2.2.1 z c)) λ p hp=>?_
     rw [y8] at hp;exact absurd hp (by simp)
    ·refine T.keep _ _ _ st5 λ b hb o e=>?_
     exact (Heap.get?_update_other s8.heap (Obj.mapSeq (·.push u8)) (Ne.symm (nfpD b hb))).trans (fpk8 b hb o e).1
    ·intro b hb
     obtain ⟨o',e',_⟩:=T.obj _ _ st5 b hb;exact (fpk8 b hb o' e').2
    ·rw [List.push_toArray] at up
     exact up
 exact codeAny_compStart_list (loop _ rfl) (T.self _ 0 _ _ _ st1 (loop _ rfl))
theorem sO {Z:Pz->Py->PD->Prop} {ifs:My Expr} {tt:TT} {elt iter:Expr} {x:Str} {px pos:Pos} {scope:Scope} {cl:My (Str×Pz)} {cs:My (Str×Nat)} {te:TE} {Pn:My (Pz×Obj)} {σ:St} {H:Hp} {s:PD} {Q:VK} {it:Pz} {fp:My Pz} {tn:Nat->Heap->Prop} {J:It}
  {RR:Py->Env->Result->PD->Prop} {E:Py->PD->Prop} (hc:X.calm=true) (O:dY X scope cl x cs) (hcd:∀ C,s.heap.objs.size<=C->PTs ((cK X scope cl (x::cs.map (·.1)) s H fp C).uP (Z C)) ifs tt) (he:∀ C,s.heap.objs.size<=C->PE ((cK X scope cl (x::cs.map (·.1)) s H fp C).uP (Z C)) elt te)
  (hZ:∀ D C e s',Z C e s'->notedBy (model X.prog X.w) X.A (compEnvC scope cl C X.env) (λ x s''=>RR (.ref D) (compEnvC scope cl C X.env) (.error x) s'') e s')
  (I:Inv X Pn σ H s) (T:Turn X.prog X.w X.K (.Name x px) J fp it tn) (st:tn 0 s.heap) (f2:∀ b ∈ fp,uK X Pn H b)
  (h : ∃ W:Nat->Nat->My V->Hp->Prop,(∃ m,W 0 m [] H)/\∀ i m ys H',W i m ys H'->(J.stop i H'/\ys.length<=sizeLine/\∀ p,H' p=none->Q (.ref p) (upd H' p (.lst ys)))\/(J.go i H'/\ys.length < sizeLine/\∀ v H2,J.yld i H' v H2->tt (some v::aT σ cs) H2 λ b H3=>if b=true then te (some v::aT σ cs) H3 λ y H4=>∃ m',m' < m/\W (i+1) m' (ys++[y]) H4 else ∃ m',m' < m/\W (i+1) m' ys H3))
  (hRR:∀ D C s' H' ys,s.heap.objs.size<=D->s.heap.objs.size<=C->D≠C->(∃ m,s'.heap.Ns C m)->Inv X Pn σ (upd H' D (.lst ys)) s'->H' C=none->Q (.ref D) (upd H' D (.lst ys))->RR (.ref D) (compEnvC scope cl C X.env) (.ok .next) s'):wpAny (model X.prog X.w) X.A (newList []) (λ acc s₃=>wpAny (model X.prog X.w) X.A (newFunctionEnv scope X.env.globals cl [] X.env.qual none .none (some X.env)) (λ cenv s₄=>
    codeAny (model X.prog X.w) X.A (.compStart (.ListComp elt [⟨.Name x px,iter,ifs,0⟩] scope pos) 0 (.ref it) acc { cenv with scope:=relabel scope X.env }) (RR acc { cenv with scope:=relabel scope X.env }) s₄) E s₃) E s:=by
 obtain ⟨W,⟨m0,w0⟩,turn⟩:=h;refine wpAny_newObj_type (wpAny_newFunctionEnv O.xP (by intro y hy; simp at hy) (λ h₁ hns₁ hsb₁=>?_) O.kind);generalize hH2:s.heap.push { cls:=.type "list",dict:=none,data:=.seq ([]:My Py).toArray }=H2 at hns₁ hsb₁ ⊢
 have hC:H2.objs.size=s.heap.objs.size+1:=by rw [<- hH2,Heap.size_push]
 have hDC:s.heap.objs.size≠H2.objs.size:=by rw [hC]; exact Z2 (Y8 _)
 have hCle:s.heap.objs.size<=H2.objs.size:=by rw [hC]; exact Nat.le_succ _
 have neC:∀ b,b < s.heap.objs.size->b≠H2.objs.size:=λ b hb=>by rw [hC]; exact Z2 (Nat.lt_succ_of_lt hb)
 have old:∀ b o,s.heap.get? b=some o->h₁.get? b=some o:=λ b o e=>hsb₁.extBut b o (neC b (Zs e)) (Heap.get?_push_of_some _ (hH2 ▸ Heap.get?_push_of_some _ e))
 have hacc:=hsb₁.extBut _ _ hDC (Heap.get?_push_of_some _ (hH2 ▸ Heap.get?_push_size _ rfl))
 have there:∀ b ∈ fp,b < s.heap.objs.size:=λ b hb=>by
  obtain ⟨o,e,_⟩:=T.obj _ _ st b hb;exact Zs e
 have hns:h₁.Ns H2.objs.size λ _=>none:=by
  have e:(λ x=>List.lookup x ([]:My (Str×Py)).reverse)=λ _=>none:=by funext y; rfl
  rw [e] at hns₁
  exact hns₁
 generalize hD:s.heap.objs.size=D at hDC hCle hacc;generalize hCC:H2.objs.size=C at hDC hCle hns ⊢;have st1:=T.keep _ _ _ st λ b _ o e=>old b o e
 have I1:Inv (cK X scope cl (x::cs.map (·.1)) s H fp C) [] (none::aT σ cs) H { s with heap:=h₁,toks:=s.toks+([]:My (Str×Py)).length }:=
  vG O I f2 there (by rw [hD]; exact hCle) old hns
 exact zf (RR:=λ acc C=>RR acc (compEnvC scope cl C X.env)) hc I T f2 there w0 turn hRR hD hDC hCle st1 hacc (I1.uP _) (jb O.nd rfl (.inl (lookup_relabel_local O.own)) (.inr (lookup_relabel_local O.own))) (hcd C (by rw [hD]; exact hCle)) (he C (by rw [hD]; exact hCle)) ⟨rfl,rfl,rfl,rfl,rfl,rfl,rfl,rfl,rfl,rfl,rfl⟩ rfl (hZ D C) λ z c e=>.inr (O.sub z c e)
theorem nD {ifs:My Expr} {tt:TT} {elt iter:Expr} {x:Str} {px pos:Pos} {scope:Scope} {cl:My (Str×Pz)} {cs:My (Str×Nat)} {te:TE} {Pn:My (Pz×Obj)} {σ:St} {H:Hp} {s:PD} {Q:VK} {it:Pz} {fp:My Pz} {tn:Nat->Heap->Prop} {J:It}
  {RR:Py->Pz->Result->PD->Prop} {E:Py->PD->Prop} (hc:X.calm=true) (O:dY X scope cl x cs) (hcd:∀ s H fp C,PTs (cK X scope cl (x::cs.map (·.1)) s H fp C) ifs tt) (he:∀ s H fp C,PE (cK X scope cl (x::cs.map (·.1)) s H fp C) elt te)
  (I:Inv X Pn σ H s) (T:Turn X.prog X.w X.K (.Name x px) J fp it tn) (st:tn 0 s.heap) (f2:∀ b ∈ fp,uK X Pn H b)
  (h : ∃ W:Nat->Nat->My V->Hp->Prop,(∃ m,W 0 m [] H)/\∀ i m ys H',W i m ys H'->(J.stop i H'/\ys.length<=sizeLine/\∀ p,H' p=none->Q (.ref p) (upd H' p (.lst ys)))\/(J.go i H'/\ys.length < sizeLine/\∀ v H2,J.yld i H' v H2->tt (some v::aT σ cs) H2 λ b H3=>if b=true then te (some v::aT σ cs) H3 λ y H4=>∃ m',m' < m/\W (i+1) m' (ys++[y]) H4 else ∃ m',m' < m/\W (i+1) m' ys H3))
  (hRR:∀ D C s' H' ys,s.heap.objs.size<=D->s.heap.objs.size<=C->D≠C->(∃ m,s'.heap.Ns C m)->Inv X Pn σ (upd H' D (.lst ys)) s'->H' C=none->Q (.ref D) (upd H' D (.lst ys))->RR (.ref D) C (.ok .next) s'):wpAny (model X.prog X.w) X.A (newList []) (λ acc s₃=>wpAny (model X.prog X.w) X.A (newFunctionEnv scope X.env.globals cl [] X.env.qual none .none (some X.env)) (λ cenv s₄=>
    codeAny (model X.prog X.w) X.A (.compStart (.ListComp elt [⟨.Name x px,iter,ifs,0⟩] scope pos) 0 (.ref it) acc { cenv with scope:=relabel scope X.env }) (RR acc cenv.locals) s₄) E s₃) E s:=
 sO (RR:=λ acc ev=>RR acc ev.locals) hc O (λ _ _=>hcd _ _ _ _) (λ _ _=>he _ _ _ _) (λ _ _ _ _ h=>h.elim) I T st f2 h hRR
theorem zU {J:It} {te:TE} {cs:My (Str×Nat)} {σ:St} {Q:VK} {H1:Hp} (h:Bl J te cs σ Q H1):∃ W:Nat->Nat->My V->Hp->Prop,(∃ m,W 0 m [] H1)/\∀ i m ys H',W i m ys H'->(J.stop i H'/\ys.length<=sizeLine/\∀ p,H' p=none->Q (.ref p) (upd H' p (.lst ys)))\/(J.go i H'/\ys.length < sizeLine/\∀ v H2,J.yld i H' v H2->(λ _ H Q=>Q true H:TT) (some v::aT σ cs) H2 λ b H3=>if b=true then te (some v::aT σ cs) H3 λ y H4=>∃ m',m' < m/\W (i+1) m' (ys++[y]) H4 else ∃ m',m' < m/\W (i+1) m' ys H3):=
 have ⟨W,w0,t⟩:=h
 ⟨W,w0,λ i m ys H' w=>(t i m ys H' w).imp id λ ⟨a,b,c⟩=>⟨a,b,λ v H2 y=>by show ite _ _ _; rw [if_pos rfl]; exact c v H2 y⟩⟩
theorem CY {elt iter:Expr} {x:Str} {px pos:Pos} {scope:Scope} {cl:My (Str×Pz)} {cs:My (Str×Nat)} {wi:TI} {te:TE} (hc:X.calm=true) (O:dY X scope cl x cs) (hi:PI X (.Name x px) iter wi)
  (he:∀ s H fp C,PE (cK X scope cl (x::cs.map (·.1)) s H fp C) elt te) (hs:∀ x,foldedSetIterable iter X.env x=pure x:=by intro _; rfl):PE X (.ListComp elt [⟨.Name x px,iter,[],0⟩] scope pos) (F3 wi te cs):=by
 intro Pn s σ H Q I h;rw [eval_ListComp];refine wpAny_comprehension_free rfl hs O.JC O.kind O.names (thn (hi Pn s σ H _ I h) λ v s1 h1=>thn h1 λ itv s2 h2=>?_);obtain ⟨it,fp,tn,J,H2,rfl,I2,T,st2,f2,hw⟩:=h2;refine nD hc O (λ _ _ _ _=>CH) he I2 T st2 f2 (zU hw) λ D C s' H' ys hD hC hDC ⟨m,hm⟩ I' hn q=>?_
 refine ⟨m,hm,λ h' hs'=>?_⟩;have hn':upd H' D (.lst ys) C=none:=by rw [au (Ne.symm hDC)]; exact hn
 have FC:=I2.AQ hC hn';exact ⟨.ref D,upd H' D (.lst ys),I'.turned (λ b o hb e=>(hs'.2 b hb).trans e) hn' FC.2.1 FC.2.2.2.1 FC.2.2.2.2.1 FC.2.2.2.2.2,rfl,q⟩
end
theorem ES (h1:scope.kind=.function) (h2:∀ y ∈ scope.names,y.2≠.cell) (h3:∀ y ∈ scope.names,y.2≠.free) (h4:∀ y ∈ scope.names,y.2=.local->scope.names.lookup y.1=some .local) (h5:scope.names.lookup x=some .local):dY X scope [] x [] where
 JC:=closureFor_none h3
 kind:=h1
 xP:=h2
 names:=h4
 own:=h5
 sub:=λ _ _ e=>by cases e
 has := λ y hy=>by
  have rel:(relabel scope X.env).names=scope.names:=by
   exact map_eq_self λ z hz=>by
    obtain ⟨n,k⟩:=z;have:(k == NameKind.free)=false:=by simpa using h3 _ hz
    simp [this]
  rw [rel] at hy;rcases hy with hy | hy
  · exact absurd rfl (h2 _ (Yl hy))
  · exact absurd rfl (h3 _ (Yl hy))
 ML:=λ _ h=>by cases h
 nd:=by simp
section
variable {κ:Type} [DecidableEq κ]
noncomputable def d8 (kvs:My (κ×V)) (k:κ):Px V:=(kvs.find? λ kv=>decide (kv.1=k)).map (·.2)
noncomputable def putK (kvs:My (κ×V)) (k:κ) (v:V):My (κ×V):=
 if (kvs.any λ kv=>decide (kv.1=k))=true then kvs.map (λ kv=>if kv.1=k then (kv.1,v) else kv) else kvs++[(k,v)]
noncomputable def oO (kvs:My (κ×V)) (k:κ):My (κ×V):=kvs.filter λ kv=>decide (kv.1≠k)
def jx {p:κ×V} {r:My (κ×V)} {k:κ} (e:p.1=k):d8 (p::r) k=some p.2:=by simp [d8,List.find?_cons,e]
def jy {p:κ×V} {r:My (κ×V)} {k:κ} (e:¬ p.1=k):d8 (p::r) k=d8 r k:=by simp [d8,List.find?_cons,e]
theorem kY (k:κ):∀ kvs:My (κ×V),(kvs.any λ kv=>decide (kv.1=k))=(d8 kvs k).isSome
 | []=>rfl
 | p::r=>by
  rw [Xi]
  by_cases e:p.1=k
  · simp only [jx e,Zo e,Bool.true_or,Option.isSome_some]
  · rw [jy e,Zl e,Bool.false_or]; exact kY k r
def jf (kvs:My (κ×V)) (k:κ) (v:V):(putK kvs k v).length<=kvs.length+1:=by
 unfold putK;split
 · rw [Zc]; omega
 · rw [Z1,Zu,Xh]; omega
theorem pb.hW (r:pb o u):o.isSome=u.isSome:=by
 cases o with
 | none=>cases u with
  | none=>rfl
  | some _=>exact (r).elim
 | some _=>cases u with
  | none=>exact (show False from r).elim
  | some _=>rfl
theorem pb.getD (r:pb o u) (rd:RelV d d'):RelV (o.getD d) (u.getD d'):=by
 cases o with
 | none=>cases u with
  | none=>exact rd
  | some _=>exact (r).elim
 | some _=>cases u with
  | none=>exact (show False from r).elim
  | some _=>exact r
theorem KV.val {kvs:My (κ×V)} {vs:My (κ×Py)} (r:KV kvs vs) (k:κ):pb (d8 kvs k) (valueAt vs k):=by
 induction r with
 | nil=>exact True.intro
 | @cons p q ps qs h t ih=>
  obtain ⟨h1,h2⟩:=h
  by_cases e:p.1=k
  ·have e':=h1.symm.trans e
   have b:valueAt (q::qs) k=some q.2:=by simp [valueAt,List.find?_cons,e']
   rw [jx e,b]; exact h2
  ·have e':¬ q.1=k:=λ z=>e (h1.trans z)
   have b:valueAt (q::qs) k=valueAt qs k:=by simp [valueAt,List.find?_cons,e']
   rw [jy e,b]; exact ih
theorem KV.any {kvs:My (κ×V)} {vs:My (κ×Py)} (r:KV kvs vs) (k:κ):(kvs.any λ kv=>decide (kv.1=k))=vs.any λ kv=>decide (kv.1=k):=by
 induction r with
 | nil=>rfl
 | cons h t ih=>rw [Xi,Xi,ih,h.1]
theorem KV.J4 {kvs:My (κ×V)} {vs:My (κ×Py)} (r:KV kvs vs) (k:κ) (ry:RelV y u):KV (kvs.map λ kv=>if kv.1=k then (kv.1,y) else kv) (vs.map λ kv=>if kv.1=k then (kv.1,u) else kv):=by
 induction r with
 | nil=>exact .nil
 | @cons p q ps qs h t ih=>
  rw [Zg,Zg];refine .cons ?_ ih;obtain ⟨h1,h2⟩:=h
  by_cases e:p.1=k
  · rw [if_pos e,if_pos (h1.symm.trans e)]; exact ⟨h1,ry⟩
  · rw [if_neg e,if_neg (λ z=>e (h1.trans z))]; exact ⟨h1,h2⟩
theorem KV.put {kvs:My (κ×V)} {vs:My (κ×Py)} (r:KV kvs vs) (k:κ) (ry:RelV y u):KV (putK kvs k y) (stored vs k u):=by
 unfold putK stored;rw [r.any k]
 by_cases e:(vs.any λ kv=>decide (kv.1=k))=true
 · rw [if_pos e,if_pos e]; exact r.J4 k ry
 · rw [if_neg e,if_neg e]; exact Paired.snoc r ⟨rfl,ry⟩
theorem KV.drop {kvs:My (κ×V)} {vs:My (κ×Py)} (r:KV kvs vs) (k:κ):KV (oO kvs k) (without vs k):=by
 unfold oO without
 induction r with
 | nil=>exact .nil
 | @cons p q ps qs h t ih=>
  obtain ⟨h1,h2⟩:=h;rw [List.filter_cons,List.filter_cons]
  by_cases e:p.1=k
  ·have a:¬ decide (p.1≠k)=true:=by simp [e]
   have b:¬ decide (q.1≠k)=true:=by simp [h1.symm.trans e]
   rw [if_neg a,if_neg b]; exact ih
  ·have e':¬ q.1=k:=λ z=>e (h1.trans z)
   have a:decide (p.1≠k)=true:=by simp [e]
   have b:decide (q.1≠k)=true:=by simp [e']
   rw [if_pos a,if_pos b]; exact .cons ⟨h1,h2⟩ ih
def KV.length {kvs:My (κ×V)} {vs:My (κ×Py)} (r:KV kvs vs):kvs.length=vs.length:=Paired.length r
def AZ (kvs:My (κ×V)) (k:κ):(oO kvs k).length<=kvs.length:=List.length_filter_le _ _
end
theorem qc (r:RelV (kV k) u):(bO P w).is k u=true:=by
 cases k with
 | inl i=>obtain ⟨t,e⟩:=(r); subst e; exact rW P w i t
 | inr x=>obtain ⟨t,e⟩:=(r); subst e; exact rV P w x t
theorem qf:∀ {ks:My Key} {us:My Py},bX (ks.map kV) us->ItemsAre (bO P w) ks us
 | [],_,r=>by rw [Xo] at r; cases r; exact .nil
 | k::ks,_,r=>by
  rw [Zg] at r
  cases r with
  | cons h t=>exact .cons (qc h) (qf t)
abbrev KT (H:Hp):My (My Key×V)->My (My Key×Pz×Py)->Prop:=Paired λ p q=>p.1=q.1/\H q.2.1=some (.tup (p.1.map kV))/\RelV p.2 q.2.2
theorem KT.val (r:KT H kvs xs) (k:My Key):pb (d8 kvs k) ((atKey xs k).map (·.2)):=by
 induction r with
 | nil=>exact True.intro
 | @cons p q ps qs h t ih=>
  obtain ⟨h1,_,h2⟩:=h
  by_cases e:p.1=k
  ·have e':=h1.symm.trans e
   have b:atKey (q::qs) k=some q.2:=by simp [atKey,List.find?_cons,e']
   rw [jx e,b]; exact h2
  ·have e':¬ q.1=k:=λ z=>e (h1.trans z)
   have b:atKey (q::qs) k=atKey qs k:=by simp [atKey,List.find?_cons,e']
   rw [jy e,b]; exact ih
theorem KT.J4 (r:KT H kvs xs) (k:My Key) (ry:RelV y u):KT H (kvs.map λ kv=>if kv.1=k then (kv.1,y) else kv) (xs.map (putAt k u)):=by
 induction r with
 | nil=>exact .nil
 | @cons p q ps qs h t ih=>
  rw [Zg,Zg];refine .cons ?_ ih;obtain ⟨h1,h2,h3⟩:=h;unfold putAt
  by_cases e:p.1=k
  · rw [if_pos e,if_pos (h1.symm.trans e)]; exact ⟨h1,h2,ry⟩
  · rw [if_neg e,if_neg (λ z=>e (h1.trans z))]; exact ⟨h1,h2,h3⟩
theorem KT.put (r:KT H kvs xs) (k:My Key) (hb:H b=some (.tup (k.map kV))) (ry:RelV y u):KT H (putK kvs k y) (storedH xs k b u):=by
 have e:(kvs.any λ kv=>decide (kv.1=k))=(atKey xs k).isSome:=by
  rw [kY,(r.val k).hW,Option.isSome_map]
 unfold putK storedH;rw [e]
 by_cases q:(atKey xs k).isSome=true
 · rw [if_pos q,if_pos q]; exact r.J4 k ry
 · rw [if_neg q,if_neg q]; exact Paired.snoc r ⟨rfl,hb,ry⟩
def KT.keeps (r:KT H kvs xs) (ht:∀ b ys,H b=some (.tup ys)->H' b=some (.tup ys)):KT H' kvs xs:=
 Paired.Mh r λ _ _ z=>⟨z.1,ht _ _ z.2.1,z.2.2⟩
section
variable {P:Program} {w:World} {H:Hp} {h:Heap} {a:Pz}
def Gr (ok:HOk P w H h) (e:Rd H a u):dg P w H h a u:=e.ok ok
theorem qA (ok:HOk P w H h) (e:Rd H a (.dK kvs)):kvs.length<=sizeLine/\(a == sysModules)=false/\∃ vs,KV kvs vs/\h.DictOf (bO P w) a vs:=
 show dg P w H h a (.dK kvs) from Gr ok e
def yU (ok:HOk P w H h) (e:H a=some (.dK kvs)):kvs.length<=sizeLine/\(a == sysModules)=false/\∃ vs,KV kvs vs/\h.DictOf (bO P w) a vs:=qA ok (.inl e)
theorem nt (ok:HOk P w H h) (e:H a=some (.tup (ks.map kV))):(tupleKind (bO P w)).is h ks a:=by
 obtain ⟨_,its,r,o,h1,h2,n,h3⟩:=(ok a _ e)
 exact ⟨o,its.toArray,n,h1,h2,h3,by simpa using qf r⟩
theorem sH (ok:HOk P w H h) (e:Rd H a (.dT kvs)):kvs.length<=sizeLine/\(a == sysModules)=false/\∃ xs,KT H kvs xs/\h.DictOfH (tupleKind (bO P w)) a xs:=by
 obtain ⟨z,y,xs,r,o,es,ep,h1,h2,h3,h4,h5⟩:=(Gr ok e)
 refine ⟨z,y,xs,r,o,es,ep,h1,h2,h3,h4,λ x hx=>?_,h5⟩
 have all:∀ {l:My (My Key×V)} {m:My (My Key×Pz×Py)},KT H l m->∀ x ∈ m,(tupleKind (bO P w)).is h x.1 x.2.1:=by
  intro l m q
  induction q with
  | nil=>intro x hx; exact nomatch hx
  | @cons p q ps qs hq t ih=>
   intro x hx;rcases Zh.mp hx with e | hx
   ·subst e
    exact nt ok (by rw [<- hq.1]; exact hq.2.1)
   · exact ih x hx
 exact all r x hx
theorem MC (ok:HOk P w H h) (e:H a=some (.dT kvs)):kvs.length<=sizeLine/\(a == sysModules)=false/\∃ xs,KT H kvs xs/\h.DictOfH (tupleKind (bO P w)) a xs:=sH ok (.inl e)
end
def s9 (H:Hp) (a:Pz) (y:V) (r:Px V):Prop:=
 (∃ kvs k,Rd H a (.dK kvs)/\y=kV k/\r=d8 kvs k)\/∃ kvs k b,Rd H a (.dT kvs)/\y=.ref b/\H b=some (.tup (k.map kV))/\r=d8 kvs k
def Il (H:Hp) (a:Pz) (y v:V) (H':Hp):Prop:=
 (∃ kvs k,H a=some (.dK kvs)/\y=kV k/\kvs.length < sizeLine/\H'=upd H a (.dK (putK kvs k v)))\/∃ kvs k b,H a=some (.dT kvs)/\y=.ref b/\H b=some (.tup (k.map kV))/\kvs.length < sizeLine/\H'=upd H a (.dT (putK kvs k v))
def s9.k {H:Hp} {a:Pz} {kvs:My (Key×V)} {k:Key} (e:H a=some (.dK kvs)):s9 H a (kV k) (d8 kvs k):=.inl ⟨kvs,k,.inl e,rfl,rfl⟩
theorem Il.k {H:Hp} {a:Pz} {kvs:My (Key×V)} {k:Key} {v:V} (e:H a=some (.dK kvs)) (hl:kvs.length < sizeLine):Il H a (kV k) v (upd H a (.dK (putK kvs k v))):=.inl ⟨kvs,k,e,rfl,hl,rfl⟩
section
variable {X:Cx} {Pn:My (Pz×Obj)} {σ:St} {H:Hp} {s:PD} {a:Pz} {y v:V} {u r:Py} {o:Px V} {A:Around} {E:Py->PD->Prop}
theorem Inv.big (I:Inv X Pn σ H s):sysModules < s.heap.objs.size:=by
 have h:=(I.mod.glob.keeps I.bk).lt;exact Nat.lt_trans (by decide) h
theorem zc (hu:A.units+1 < cLine) (I:Inv X Pn σ H s) (g:s9 H a y (some v)) (ry:RelV y u) (h:∀ w' s',Inv X Pn σ H s'->RelV v w'->Q w' s'):wpAny (model X.prog X.w) A (getItem (.ref a) u) Q E s:=by
 rcases g with ⟨kvs,k,e,ey,l⟩ | ⟨kvs,k,b,e,ey,eb,l⟩
 ·subst ey
  obtain ⟨z,hd,vs,rel,dd⟩:=qA I.hok e;obtain ⟨w',hw,rw'⟩:=pb.some_of (by rw [l]; exact rel.val k);exact wpAny_getItem_of (qc ry) dd.mapOf hw (h w' _ (I.tok _) rw')
 ·subst ey
  cases (ry);obtain ⟨z,hd,xs,rel,dd⟩:=sH I.hok e;obtain ⟨w',hw,rw'⟩:=pb.some_of (v:=v) (by rw [l]; exact rel.val k);obtain ⟨p,hp,hp2⟩:=Zm hw;refine wpAny_getItem_heap (Xf hu) (nt I.hok eb) dd hp ?_
  rw [hp2];exact h w' _ (I.tok _) rw'
theorem Pg (hu:A.units+1 < cLine) (I:Inv X Pn σ H s) (g:s9 H a y o) (ry:RelV y u) (h:∀ s',Inv X Pn σ H s'->Q (.bool o.isSome) s'):wpAny (model X.prog X.w) A (compareOp .In u (.ref a)) Q E s:=by
 rcases g with ⟨kvs,k,e,ey,l⟩ | ⟨kvs,k,b,e,ey,eb,l⟩
 ·subst ey
  obtain ⟨z,hd,vs,rel,dd⟩:=qA I.hok e;refine wpAny_in_of (qc ry) hd dd.mapOf ?_
  rw [<- (rel.val k).hW,<- l];exact h _ (I.tok _)
 ·subst ey
  cases (ry);obtain ⟨z,hd,xs,rel,dd⟩:=sH I.hok e;refine wpAny_in_heap (Xf hu) (nt I.hok eb) hd dd ?_
  have q:=(rel.val k).hW;rw [Option.isSome_map] at q;rw [<- q,<- l];exact h _ (I.tok _)
theorem EF (hu:A.units+1 < cLine) (I:Inv X Pn σ H s) (g:s9 H a y o) (ry:RelV y u) (h:∀ s',Inv X Pn σ H s'->Q (.bool (!o.isSome)) s'):wpAny (model X.prog X.w) A (compareOp .NotIn u (.ref a)) Q E s:=by
 rcases g with ⟨kvs,k,e,ey,l⟩ | ⟨kvs,k,b,e,ey,eb,l⟩
 ·subst ey
  obtain ⟨z,hd,vs,rel,dd⟩:=qA I.hok e;refine wpAny_notIn_of (qc ry) hd dd.mapOf ?_
  rw [<- (rel.val k).hW,<- l];exact h _ (I.tok _)
 ·subst ey
  cases (ry);obtain ⟨z,hd,xs,rel,dd⟩:=sH I.hok e;refine wpAny_notIn_heap (Xf hu) (nt I.hok eb) hd dd ?_
  have q:=(rel.val k).hW;rw [Option.isSome_map] at q;rw [<- q,<- l];exact h _ (I.tok _)
theorem oP (I:Inv X Pn σ H s) (mu:Mut (H a)) (hs:Heap.SameBut a s.heap h') (he:∃ q,h'.get? a=some q) (new:dg X.prog X.w (upd H a ob) h' a ob):Inv X Pn σ (upd H a ob) { s with heap:=h',toks:=t' }:=
 I.write mu (.inl rfl) (λ b q hb z=>(hs.2 b hb).trans z) he new
def yV (z:kvs.length<=sizeLine) (hd:(a == sysModules)=false) (rel:KV kvs vs) (dd:h'.DictOf (bO P w) a vs):dg P w H' h' a (.dK kvs):=⟨z,hd,vs,rel,dd⟩
theorem zb (hu:A.units+1 < cLine) (I:Inv X Pn σ H s) (g:Il H a y v H') (ry:RelV y u) (rv:RelV v r) (h:∀ s',Inv X Pn σ H' s'->Q () s'):wpAny (model X.prog X.w) A (setItem (.ref a) u r) Q E s:=by
 rcases g with ⟨kvs,k,e,ey,l,eH⟩ | ⟨kvs,k,b,e,ey,eb,l,eH⟩
 ·subst ey eH
  obtain ⟨z,hd,vs,rel,dd⟩:=yU I.hok e;have hz:vs.length<=sizeLine:=by rw [<- rel.length]; exact z
  have hl:(putK kvs k v).length<=sizeLine:=by have:=jf kvs k v; omega
  refine wpAny_setItem_pairs (qc ry) dd λ h' dd' hs=>h _ ?_
  have he:∃ q,h'.get? a=some q:=let ⟨q,_,_,hq,_⟩:=dd'; ⟨q,hq⟩
  exact oP I (by rw [e]; exact True.intro) hs he (yV hl hd (rel.put k rv) dd')
 ·subst ey eH
  cases (ry);obtain ⟨z,hd,xs,rel,dd⟩:=MC I.hok e;have hz:xs.length<=sizeLine:=by rw [<- Paired.length rel]; exact z
  have hl:(putK kvs k v).length<=sizeLine:=by have:=jf kvs k v; omega
  refine wpAny_setItem_heap (hsz:=hz) (Xf hu) (nt I.hok eb) dd λ h' dd' hs=>h _ ?_
  obtain ⟨q,es,ep,hq,h2,h3,h4,_,h5⟩:=dd';refine oP I (by rw [e]; exact True.intro) hs ⟨q,hq⟩ ⟨hl,hd,_,(rel.put k eb rv).keeps λ c ys ec=>?_,q,es,ep,hq,h2,h3,h4,h5⟩;rw [au (L7 ec e (λ z=>nomatch z))];exact ec
end
section
variable {X:Cx} {Pn:My (Pz×Obj)} {σ:St} {H:Hp} {s:PD} {a:Pz} {kvs:My (Key×V)} {k:Key} {u:Py} {A:Around} {E:Py->PD->Prop}
theorem MD (I:Inv X Pn σ H s) (e:H a=some (.dK kvs)) (ry:RelV (kV k) u) (l:d8 kvs k=some v) (hm:more=[]\/∃ x,more=[x])
  (h:∀ w' s',Inv X Pn σ (upd H a (.dK (oO kvs k))) s'->RelV v w'->Q w' s'):wpAny (model X.prog X.w) A (call (.builtin "dict.pop") (.ref a::u::more)) Q E s:=by
 obtain ⟨z,hd,vs,rel,dd⟩:=yU I.hok e;obtain ⟨w',hw,rw'⟩:=pb.some_of (by rw [<- l]; exact rel.val k)
 have hp:(keyPart u).isSome=true:=by
  cases k with
  | inl i=>obtain ⟨t,q⟩:=(ry); subst q; rfl
  | inr x=>obtain ⟨t,q⟩:=(ry); subst q; rfl
 have ha:argsOk "dict.pop" ⟨.ref a::u::more,[]⟩:=by
  rcases hm with q | ⟨x,q⟩
  · subst q; exact PySem.F.args_dict_pop_2 _ _
  · subst q; exact PySem.F.args_dict_pop_3 _ _ _
 refine call_meetsIn PySem.F.slot_dict_pop dd.typeIs PySem.F.entry_dict_pop ha (meets_dict_pop_there (bO X.prog X.w) a (qc ry) more hm hp)
  ⟨vs,w',dd,by rw [<- rel.length]; exact z,hw,λ h' dd' hs=>h w' _ ?_ rw'⟩
 have he:∃ q,h'.get? a=some q:=let ⟨q,_,_,hq,_⟩:=dd'; ⟨q,hq⟩
 exact oP I (by rw [e]; exact True.intro) hs he (yV (Z6 (AZ kvs k) z) hd (rel.drop k) dd')
theorem ME (I:Inv X Pn σ H s) (e:Rd H a (.dK kvs)) (h:∀ t s',Inv X Pn σ H s'->Q (.int kvs.length t) s'):wpAny (model X.prog X.w) A (call (.builtin "len") [.ref a]) Q E s:=by
 obtain ⟨z,hd,vs,rel,dd⟩:=qA I.hok e;refine call_len_dict hd dd (by rw [<- rel.length]; rw [Xz] at z; omega) ?_
 rw [<- rel.length];exact h _ _ (I.tok _)
end
def JF (i:Expr):Prop:=∀ ov iv,subscripted i false ov iv=operate [ov,iv] (getItem ov iv)
theorem Co {prog:Program} {w:World} {A:Around} {E:Py->PD->Prop} {s:PD} {env:Env} {value slice:Expr} {pos:Pos} {T id:String} {Q:Py->PD->Prop}
  (hl:typeLookup (.type T) "__getitem__"=pure (some (.builtin id))) (hs:JF slice)
  (h:wpAny (model prog w) A (eval value env) (λ o s₁=>wpAny (model prog w) A (eval slice env) (λ i s₂=>s₂.TypeIs o T/\wpAny (model prog w) A (getItem o i) Q E s₂) E s₁) E s):wpAny (model prog w) A (eval (.Subscript value slice pos) env) Q E s:=by
 refine Subscript_ (Yu h (λ o s₁ h₁=>Yu h₁ (λ i s₂ h₂=>?_) λ _ _ x=>x) λ _ _ x=>x);obtain ⟨hT,h₂⟩:=h₂;refine Zt ?_
 rw [getitemInPython_of_ne hT.not_modules];refine Zt (wpAny_specialOf hT hl ?_)
 have fin:wpAny (model prog w) A (subscripted slice false o i) (λ r s₃=>wpAny (model prog w) A (letTemporaryGo value o r >>= λ _=>pure r) Q E s₃) E s₂:=by
  rw [hs o i];exact wpAny_operating (Yu h₂ (λ r s₃ h₃=>Zt (wpAny_letTemporaryGo (Z5 h₃))) λ _ _ x=>x)
 first
  | exact Z5 (Zt fin)
  | exact Zt (Z5 (Zt fin))
  | exact Zt fin
theorem sJ (I:Inv X Pn σ H s) (g:s9 H a y o):s.TypeIs (.ref a) "dict":=by
 rcases g with ⟨kvs,k,e,_,_⟩ | ⟨kvs,k,b,e,_,_,_⟩
 ·obtain ⟨_,_,vs,_,dd⟩:=qA I.hok e
  exact dd.typeIs
 ·obtain ⟨_,_,xs,_,dd⟩:=sH I.hok e
  exact dd.typeIs
def Cm (td ty:TE):TE:=λ σ H Q=>td σ H λ x H1=>ty σ H1 λ y H2=>∃ a v,x=.ref a/\s9 H2 a y (some v)/\Q v H2
def Of (ty td:TE):TE:=λ σ H Q=>ty σ H λ y H1=>td σ H1 λ x H2=>∃ a o,x=.ref a/\s9 H2 a y o/\Q (.bl o.isSome) H2
def Ck (ty td:TE):TE:=λ σ H Q=>ty σ H λ y H1=>td σ H1 λ x H2=>∃ a o,x=.ref a/\s9 H2 a y o/\Q (.bl (!o.isSome)) H2
def J3 (td ty tv:TE):TS:=λ D σ H=>tv σ H λ v H1=>td σ H1 λ x H2=>ty σ H2 λ y H3=>∃ a H4,x=.ref a/\Il H3 a y v H4/\D.nx σ H4
section
variable {X:Cx} {o i e value:Expr} {pos pos' tpos:Pos} {td ty tv:TE}
theorem oi (hu:X.A.units+1 < cLine) (ho:PE X o td) (hi:PE X i ty) (hs:JF i):PE X (.Subscript o i pos) (Cm td ty):=by
 intro Pn s σ H Q I h;refine Co PySem.F.slot_dict_getitem.lookup hs (thn (ho Pn s σ H _ I h) λ u s1 ⟨x,H1,I1,rx,q1⟩=>thn (hi Pn s1 σ H1 _ I1 q1) λ iv s2 ⟨y,H2,I2,ry,a,v,ex,g,q2⟩=>?_);subst ex;obtain rfl:u=Value.ref a:=rx;exact ⟨sJ I2 g,zc hu I2 g ry λ w' s3 I3 rw'=>⟨v,H2,I3,rw',q2⟩⟩
theorem BD (hu:X.A.units+1 < cLine) (hi:PE X i ty) (ho:PE X o td):PC X .In i o (Of ty td):=by
 intro Pn s σ H Q I h;refine thn (hi Pn s σ H _ I h) λ iv s1 ⟨y,H1,I1,ry,q1⟩=>thn (ho Pn s1 σ H1 _ I1 q1) λ u s2 ⟨x,H2,I2,rx,a,ov,ex,g,q2⟩=>?_
 subst ex;obtain rfl:u=Value.ref a:=rx;exact Pg hu I2 g ry λ s3 I3=>⟨.bl ov.isSome,H2,I3,rfl,q2⟩
theorem xy (hu:X.A.units+1 < cLine) (hi:PE X i ty) (ho:PE X o td):PC X .NotIn i o (Ck ty td):=by
 intro Pn s σ H Q I h;refine thn (hi Pn s σ H _ I h) λ iv s1 ⟨y,H1,I1,ry,q1⟩=>thn (ho Pn s1 σ H1 _ I1 q1) λ u s2 ⟨x,H2,I2,rx,a,ov,ex,g,q2⟩=>?_
 subst ex;obtain rfl:u=Value.ref a:=rx;exact EF hu I2 g ry λ s3 I3=>⟨.bl (!ov.isSome),H2,I3,rfl,q2⟩
theorem CI (hu:X.A.units+1 < cLine) (ho:PE X o td) (hi:PE X i ty) (hv:PE X value tv) (hs:swapsWith value (some (.Subscript o i pos')) pos.line X.env=pure false):PS X (.Assign [.Subscript o i pos'] value pos) (J3 td ty tv):=by
 intro Pn s σ H D I h;refine wpAny_Assign_Subscript (thn (hv Pn s σ H _ I h) λ r s1 ⟨v,H1,I1,rv,q1⟩=>thn (ho Pn s1 σ H1 _ I1 q1) λ u s2 ⟨x,H2,I2,rx,q2⟩=>thn (hi Pn s2 σ H2 _ I2 q2) λ iv s3 ⟨y,H3,I3,ry,a,H4,ex,g,q3⟩=>?_) hs;subst ex;obtain rfl:u=Value.ref a:=rx;exact zb hu I3 g ry rv λ s4 I4=>⟨σ,H4,I4,q3⟩
end
theorem ux (h:Heap) (hb:sysModules < h.objs.size):dg P w H (h.push { cls:=.type "dict",data:=.dict #[] }) h.objs.size (.dK []):=
 ⟨Z8 _,Yz.mpr (Ne.symm (Z2 hb)),[],.nil,Heap.DictOf.new h⟩
def F0:TE:=λ _ H Q=>∀ p,H p=none->Q (.ref p) (upd H p (.dK []))
section
variable {X:Cx} {pos:Pos}
theorem Av:PE X (.Dict [] [] pos) F0:=λ Pn s σ H Q I h=>
 wpAny_Dict_empty ⟨.ref s.heap.objs.size,_,I.laid (λ _ _ q=>Heap.get?_push_of_some _ q) (Zn _) (ux s.heap I.big),rfl,h _ (I.hok.fresh (Zn _))⟩
end
def wx:My (TE×TE)->St->Hp->(My (V×V)->Hp->Prop)->Prop
 | [],_,H,Q=>Q [] H
 | (tk,tv)::r,σ,H,Q=>tk σ H λ x H1=>tv σ H1 λ y H2=>wx r σ H2 λ ps H3=>Q ((x,y)::ps) H3
abbrev VV:My (V×V)->My (Py×Py)->Prop:=Paired λ p q=>RelV p.1 q.1/\RelV p.2 q.2
def PPs (X:Cx) (pos:Pos) (keys:My (Px Expr)) (values:My Expr) (trs:My (TE×TE)):Prop:=
  ∀ (Pn:My (Pz×Obj)) (s:PD) (σ:St) (H:Hp) (Q:My (V×V)->Hp->Prop),Inv X Pn σ H s->wx trs σ H Q->wpAny (model X.prog X.w) X.A (evalPairs (pairTrees keys values X.env pos)) (λ vs s'=>∃ ps H',Inv X Pn σ H' s'/\VV ps vs/\Q ps H') X.xe s
def CJ:PPs X pos [] [] []:=λ Pn s σ H Q I h=>pairTrees_nil_walk ⟨[],H,I,.nil,h⟩
theorem Ao {X:Cx} {pos:Pos} {k v:Expr} {ks:My (Px Expr)} {vs:My Expr} {tk tv:TE} {trs:My (TE×TE)} (hk:PE X k tk) (hv:PE X v tv) (hr:PPs X pos ks vs trs):PPs X pos (some k::ks) (v::vs) ((tk,tv)::trs):=λ Pn s σ H Q I h=>
 pairTrees_cons_walk (thn (hk Pn s σ H _ I h) λ u s1 ⟨x,H1,I1,rx,q1⟩=>thn (hv Pn s1 σ H1 _ I1 q1) λ w2 s2 ⟨y,H2,I2,ry,q2⟩=>
  thn (hr Pn s2 σ H2 _ I2 q2) λ ws s3 ⟨ps,H3,I3,rel,q3⟩=>⟨(x,y)::ps,H3,I3,.cons ⟨rx,ry⟩ rel,q3⟩)
def pX (kvs more:My (Key×V)):My (Key×V):=more.foldl (λ acc kv=>putK acc kv.1 kv.2) kvs
theorem KV.merge:∀ {more:My (Key×V)} {rs:My (Key×Py)} {kvs:My (Key×V)} {vs:My (Key×Py)},KV more rs->KV kvs vs->KV (pX kvs more) (merged vs rs):=by
 intro more rs kvs vs r
 induction r generalizing kvs vs with
 | nil=>intro q; exact q
 | @cons p q ps qs h t ih=>
  intro r0
  have e:KV (putK kvs p.1 p.2) (stored vs q.1 q.2):=by
   have:=r0.put p.1 h.2;rw [<- h.1]; exact this
  exact ih e
theorem jG:∀ (more kvs:My (Key×V)),(pX kvs more).length<=kvs.length+more.length
 | [],kvs=>by show kvs.length<=kvs.length+0; omega
 | p::r,kvs=>by
  have h1:=jG r (putK kvs p.1 p.2);have h2:=jf kvs p.1 p.2;show (pX (putK kvs p.1 p.2) r).length<=_;rw [Zu]; omega
theorem nE:∀ {kvs:My (Key×V)} {ws:My (Py×Py)},VV (kvs.map λ kv=>(kV kv.1,kv.2)) ws->∃ rs,Carries (bO P w) ws rs/\KV kvs rs
 | [],_,r=>by rw [Xo] at r; cases r; exact ⟨[],True.intro,.nil⟩
 | p::kvs,_,r=>by
  rw [Zg] at r
  cases r with
  | @cons a b as bs h t=>
   obtain ⟨rs,c,q⟩:=nE (P:=P) (w:=w) t;obtain ⟨b1,b2⟩:=b;exact ⟨(p.1,b2)::rs,⟨qc h.1,rfl,c⟩,.cons ⟨rfl,h.2⟩ q⟩
def JY (trs:My (TE×TE)):TE:=λ σ H Q=>∀ p,H p=none->wx trs σ (upd H p (.dK [])) λ ps H2=>H2 p=some (.dK [])/\∃ kvs:My (Key×V),ps=kvs.map (λ kv=>(kV kv.1,kv.2))/\kvs.length<=15/\Q (.ref p) (upd H2 p (.dK (pX [] kvs)))
theorem CW {X:Cx} {pos:Pos} {keys:My (Px Expr)} {values:My Expr} {trs:My (TE×TE)} (h:PPs X pos keys values trs) (hall:keys.all (·.isSome)=true) (hl:keys.length=values.length) (h0:keys≠[])
  (h15:keys.length<=15):PE X (.Dict keys values pos) (JY trs):=by
 intro Pn s σ H Q I q;have hn:=I.hok.fresh (Zn s.heap.objs.size);have I1:=I.laid (t':=s.toks) (λ _ _ q=>Heap.get?_push_of_some _ q) (Zn _) (ux s.heap I.big);refine wpAny_Dict_walk (knd:=bO X.prog X.w) hall hl h0 h15 (thn (h Pn _ σ _ _ I1 (q _ hn)) λ ws s2 ⟨ps,H2,I2,rel,e,kvs,ep,lk,q2⟩=>?_);subst ep;obtain ⟨rs,c,rk⟩:=nE rel;obtain ⟨z,hd,vs0,r0,dd⟩:=yU I2.hok e;cases r0;refine ⟨rs,c,dd,λ h' dd' hs=>⟨.ref s.heap.objs.size,_,?_,rfl,q2⟩⟩
 have hz:(pX [] kvs).length<=sizeLine:=by
  have h1:=jG kvs [];rw [Xh] at h1;rw [Xz]; omega
 have he:∃ q,h'.get? s.heap.objs.size=some q:=let ⟨q,_,_,hq,_⟩:=dd'; ⟨q,hq⟩
 exact oP I2 (by rw [e]; exact True.intro) hs he (yV hz hd (rk.merge .nil) dd')
structure M1 (X:Cx) (o:Expr) (m:Str) (Po:Pos) (e:Expr) (Pp:Pos):Prop where
 base:attributeBase o m X.env (eval o X.env)=eval o X.env
 few:((backTo Pp (starEach [e] X.env)).all (λ x=>!x.1)&&(backToKw Pp (keywordEach [] X.env)).all (λ x=>x.1.isSome)
  && decide (([e]:List Expr).length+([]:List Keyword).length+(if ([]:List Keyword).isEmpty then 0 else 1) < 30))=true
 line:(Po.endLine == Pp.line)=true
 trees:backTo Pp (starEach [e] X.env)=[(false,eval e X.env)]
structure M2 (X:Cx) (o:Expr) (m:Str) (Po:Pos) (e f:Expr) (Pp:Pos):Prop where
 base:attributeBase o m X.env (eval o X.env)=eval o X.env
 few:((backTo Pp (starEach [e,f] X.env)).all (λ x=>!x.1)&&(backToKw Pp (keywordEach [] X.env)).all (λ x=>x.1.isSome)
  && decide (([e,f]:List Expr).length+([]:List Keyword).length+(if ([]:List Keyword).isEmpty then 0 else 1) < 30))=true
 line:(Po.endLine == Pp.line)=true
 trees:backTo Pp (starEach [e,f] X.env)=[(false,eval e X.env),(false,eval f X.env)]
def IsD (H:Hp) (a:Pz):Prop:=(∃ kvs,Rd H a (.dK kvs))\/∃ kvs,Rd H a (.dT kvs)
theorem BO (I:Inv X Pn σ H s) (d:IsD H a):s.TypeIs (.ref a) "dict"/\(∀ b,Value.ref a=.ref b->∃ ob,s.heap.get? b=some ob/\ob.dict=none)/\(a == sysModules)=false:=by
 rcases d with ⟨kvs,e⟩ | ⟨kvs,e⟩
 ·obtain ⟨_,hd,vs,_,dd⟩:=qA I.hok e
  refine ⟨dd.typeIs,λ b q=>?_,hd⟩;cases q;obtain ⟨ob,_,_,h1,h2,_⟩:=dd;exact ⟨ob,h1,h2.2.1⟩
 ·obtain ⟨_,hd,xs,_,dd⟩:=sH I.hok e
  refine ⟨dd.typeIs,λ b q=>?_,hd⟩;cases q;obtain ⟨ob,_,_,h1,h2,_⟩:=dd;exact ⟨ob,h1,h2.2.1⟩
section
variable {X:Cx} {Pn:My (Pz×Obj)} {σ:St} {H:Hp} {s:PD} {a:Pz} {y d:V} {u r:Py} {o:Px V} {A:Around} {E:Py->PD->Prop}
theorem HZ (hu:A.units+1 < cLine) (I:Inv X Pn σ H s) (g:s9 H a y o) (ry:RelV y u) (rd:RelV d r) (h:∀ w' s',Inv X Pn σ H s'->RelV (o.getD d) w'->Q w' s'):wpAny (model X.prog X.w) A (call (.builtin "dict.get") [.ref a,u,r]) Q E s:=by
 rcases g with ⟨kvs,k,e,ey,l⟩ | ⟨kvs,k,b,e,ey,eb,l⟩
 ·subst ey
  obtain ⟨z,hd,vs,rel,dd⟩:=qA I.hok e;refine call_meetsIn PySem.F.slot_dict_get dd.typeIs PySem.F.entry_dict_get (PySem.F.args_dict_get_3 _ _ _) (meets_dict_get_default (bO X.prog X.w) a (qc ry) hd r) ⟨_,dd.mapOf,h _ _ (I.tok _) ?_⟩;rw [l];exact (rel.val k).getD rd
 ·subst ey
  cases (ry);obtain ⟨z,hd,xs,rel,dd⟩:=sH I.hok e;refine call_meetsIn PySem.F.slot_dict_get dd.typeIs PySem.F.entry_dict_get (PySem.F.args_dict_get_3 _ _ _) (meetsH_dict_get_default (tupleKind (bO X.prog X.w)) a b hd r) ⟨Xf hu,k,xs,nt I.hok eb,dd,h _ _ (I.tok _) ?_⟩;rw [l];exact (rel.val k).getD rd
end
def F1 (td ty tx:TE):TE:=λ σ H Q=>td σ H λ x H1=>∃ a,x=.ref a/\IsD H1 a/\ty σ H1 λ y H2=>tx σ H2 λ z H3=>∃ o,s9 H3 a y o/\Q (o.getD z) H3
def FZ (td ty:TE):TE:=λ σ H Q=>td σ H λ x H1=>∃ a,x=.ref a/\IsD H1 a/\ty σ H1 λ y H2=>∃ kvs k v,H2 a=some (.dK kvs)/\y=kV k/\d8 kvs k=some v/\Q v (upd H2 a (.dK (oO kvs k)))
section
variable {X:Cx} {o e f:Expr} {Po Pp:Pos} {td ty tx:TE}
theorem Aw (hu:X.A.units+1 < cLine) (ho:PE X o td) (he:PE X e ty) (hf:PE X f tx) (m:M2 X o "get" Po e f Pp):PE X (.Call (.Attribute o "get" Po) [e,f] [] Pp) (F1 td ty tx):=by
 intro Pn s σ H Q I h;refine wpAny_Call_method m.base m.few m.line PySem.F.plainAttrs_dict PySem.F.slot_dict_get PySem.F.type_dict_get (thn (ho Pn s σ H _ I h) λ u s1 ⟨x,H1,I1,rx,a,ex,d,q1⟩=>?_);subst ex;obtain rfl:u=Value.ref a:=rx;obtain ⟨t1,t2,_⟩:=BO I1 d;refine ⟨t1,t2,?_⟩;rw [m.trees]
 refine Xe rfl (Xm (Xc (thn (he Pn s1 σ H1 _ I1 q1) λ iv s2 ⟨y,H2,I2,ry,q2⟩=>
  Xc (thn (hf Pn s2 σ H2 _ I2 q2) λ fv s3 ⟨z,H3,I3,rz,ov,g,q3⟩=>Calls.spliced_nil ?_))))
 exact HZ hu I3 g ry rz λ w' s4 I4 rw'=>⟨_,H3,I4,rw',q3⟩
theorem tU (ho:PE X o td) (he:PE X e ty) (m:M1 X o "pop" Po e Pp):PE X (.Call (.Attribute o "pop" Po) [e] [] Pp) (FZ td ty):=by
 intro Pn s σ H Q I h;refine wpAny_Call_method m.base m.few m.line PySem.F.plainAttrs_dict PySem.F.slot_dict_pop PySem.F.type_dict_pop (thn (ho Pn s σ H _ I h) λ u s1 ⟨x,H1,I1,rx,a,ex,d,q1⟩=>?_);subst ex;obtain rfl:u=Value.ref a:=rx;obtain ⟨t1,t2,_⟩:=BO I1 d;refine ⟨t1,t2,?_⟩;rw [m.trees];refine Xe rfl (Xm (Xc (thn (he Pn s1 σ H1 _ I1 q1) λ iv s2 ⟨y,H2,I2,ry,kvs,k,v,ea,ey,l,q2⟩=>Calls.spliced_nil ?_)));subst ey;exact MD I2 ea ry l (.inl rfl) λ w' s3 I3 rw'=>⟨v,_,I3,rw',q2⟩
end
def Its (z:Str):It:=⟨λ i _=>i < z.cps.size,λ i H x H'=>H'=H/\∃ c,z.cps[i]?=some c/\x=.str ⟨#[c]⟩,λ i _=>z.cps.size<=i⟩
theorem uU {P:Program} {w:World} {K:PB} {tg:Expr} (it:Pz) (z:Str) (t:Tok):Turn P w K tg (Its z) [it] it (λ i h=>h.IsStrIter it "str_ascii_iterator" z t i) where
 mem:=by simp
 obj:=λ i h st b hb=>by
  have e:b=it:=by simpa using hb
  subst e;obtain ⟨o,e,c,d⟩:=st;exact ⟨o,e,λ v z=>by rw [d] at z; cases z⟩
 keep:=λ i h h' st k=>let ⟨o,ho,r⟩:=st; ⟨o,k it (by simp) o ho,r⟩
 item:=by
  intro X hP hw hK hc i Pn s σ H E I hf st hg;subst hP hw hK;obtain ⟨f0,f1,f2,f3,f4,f5⟩:=hf it (by simp);have hg':i < z.cps.size:=hg;have hx:z.cps[i]?=some z.cps[i]:=by simp [hg']
  refine wpAny_pyNext_ascii_item st hx λ h' st' sb=>?_
  have I1:Inv X Pn σ H { s with heap:=h',toks:=s.toks+1 }:=I.turned (λ b o hb e=>(sb.2 b hb).trans e) f0 f1 f3 f4 f5;obtain ⟨o,e,c,d⟩:=id st';exact ⟨_,rfl,vv e c d (by decide) ⟨.str ⟨#[z.cps[i]]⟩,H,I1,⟨_,rfl⟩,⟨rfl,_,hx,rfl⟩,st',λ b hb=>(hf b hb).1⟩⟩
 done:=by
  intro X hP hw hK hc i Pn s σ H E I hf st hg;subst hP hw hK;obtain ⟨f0,f1,f2,f3,f4,f5⟩:=hf it (by simp);have hg':z.cps.size<=i:=hg;exact wpAny_pyNext_ascii_end (I.ok.hd hc) st (by simp [hg']) λ h' eb=>⟨rfl,I.turned (λ b o hb e=>eb b o hb e) f0 f1 f3 f4 f5⟩
 self:=λ _ _ _ _ _ st h=>wpAny_pyIter_striter_ascii st h
theorem wj {P:Program} {w:World} {K:PB} {tg:Expr} (it:Pz) (z:Str) (t:Tok):Turn P w K tg (Its z) [it] it (λ i h=>h.IsStrIter it "str_iterator" z t i) where
 mem:=by simp
 obj:=λ i h st b hb=>by
  have e:b=it:=by simpa using hb
  subst e;obtain ⟨o,e,c,d⟩:=st;exact ⟨o,e,λ v z=>by rw [d] at z; cases z⟩
 keep:=λ i h h' st k=>let ⟨o,ho,r⟩:=st; ⟨o,k it (by simp) o ho,r⟩
 item:=by
  intro X hP hw hK hc i Pn s σ H E I hf st hg;subst hP hw hK;obtain ⟨f0,f1,f2,f3,f4,f5⟩:=hf it (by simp);have hg':i < z.cps.size:=hg;have hx:z.cps[i]?=some z.cps[i]:=by simp [hg']
  refine wpAny_pyNext_wide_item st hx λ h' st' sb=>?_
  have I1:Inv X Pn σ H { s with heap:=h',toks:=s.toks+1 }:=I.turned (λ b o hb e=>(sb.2 b hb).trans e) f0 f1 f3 f4 f5;obtain ⟨o,e,c,d⟩:=id st';exact ⟨_,rfl,vv e c d (by decide) ⟨.str ⟨#[z.cps[i]]⟩,H,I1,⟨_,rfl⟩,⟨rfl,_,hx,rfl⟩,st',λ b hb=>(hf b hb).1⟩⟩
 done:=by
  intro X hP hw hK hc i Pn s σ H E I hf st hg;subst hP hw hK;obtain ⟨f0,f1,f2,f3,f4,f5⟩:=hf it (by simp);have hg':z.cps.size<=i:=hg;exact wpAny_pyNext_wide_end (I.ok.hd hc) st (by simp [hg']) λ h' eb=>⟨rfl,I.turned (λ b o hb e=>eb b o hb e) f0 f1 f3 f4 f5⟩
 self:=λ _ _ _ _ _ st h=>wpAny_pyIter_striter_wide st h
section
variable {X:Cx} {tg:Expr}
def O6 (tl:TE):TI:=λ σ H R=>tl σ H λ x H1=>∃ z,x=.str z/\R (Its z) H1
theorem GB {l:Expr} {tl:TE} (hl:PE X l tl):PI X tg l (O6 tl):=by
 intro Pn s σ H R I h;refine thn (hl Pn s σ H _ I h) λ v s1 ⟨x,H1,I1,r1,q1⟩=>?_
 obtain ⟨z,e,q⟩:=q1;subst e;obtain ⟨t,rfl⟩:=r1
 have fp:∀ b ∈ [s1.heap.objs.size],uK X Pn H1 b:=λ b hb=>by
  have e:b=s1.heap.objs.size:=by simpa using hb
  subst e;exact I1.AQ (Zn _) (I1.hok.fresh (Zn _))
 cases ha:z.cps.all (· < 128)
 ·refine wpAny_pyIter_wide ha ?_
  exact ⟨s1.heap.objs.size,[s1.heap.objs.size],_,_,H1,rfl,I1.kept λ b o e=>Heap.get?_push_of_some _ e,wj _ z t,⟨_,Heap.get?_push_size _ rfl,rfl,rfl⟩,fp,q⟩
 ·refine wpAny_pyIter_ascii ha ?_
  exact ⟨s1.heap.objs.size,[s1.heap.objs.size],_,_,H1,rfl,I1.kept (t':=s1.toks) λ b o e=>Heap.get?_push_of_some _ e,uU _ z t,⟨_,Heap.get?_push_size _ rfl,rfl,rfl⟩,fp,q⟩
theorem xE:OpR X (compareOp .LtE) (λ x y H Q=>∃ i j,x=.str i/\y=.str j/\Q (.bl (!decide (j.cps.toList < i.cps.toList))) H):=by
 intro Pn s σ H x y v u Q I rx ry h;obtain ⟨i,j,rfl,rfl,q⟩:=h;obtain ⟨t,rfl⟩:=rx;obtain ⟨t',rfl⟩:=ry;exact PySem.P.le_str (bw I q (by simp))
theorem uG:∀ {bs:My Bool} {us:My Py},bX (bs.map V.bl) us->∀ (i:Nat) (v:Py),us[i]?=some v->∃ b,bs[i]?=some b/\v=Value.bool b
 | [],_,.nil,i,v,e=>by simp at e
 | b::bs,_,.cons r t,0,v,e=>by
  simp at e;subst e;exact ⟨b,by simp,r⟩
 | b::bs,_,.cons r t,i+1,v,e=>by
  obtain ⟨c,h1,h2⟩:=uG t i v (by simpa using e);exact ⟨c,by simpa using h1,h2⟩
theorem A6 (hc:X.calm=true):fw X (.builtin "all") (λ xs H Q=>∃ (p:Pz) (bs:My Bool),xs=[.ref p]/\SqL X.K H p (bs.map V.bl)/\Q (.bl (bs.all id)) H):=by
 intro Pn s σ H xs us Q I r h;obtain ⟨p,bs,rfl,hL,q⟩:=h;obtain ⟨u,rfl,ru⟩:=vals1 r;cases (ru);obtain ⟨its,rv,pl,hz⟩:=I.list hL;have hl:=pl.isList;have hlen:=rv.length;rw [Zc] at hlen;have hlt:p < s.heap.objs.size:=by obtain ⟨_,e,_⟩:=hl; exact Zs e
 refine call_all_walk (wpAny_pyIter_list hl ?_)
 refine ⟨s.heap.objs.size,[s.heap.objs.size,p],[s.heap.objs.size],its.toArray.size,_,_,λ i=>(bs[i]?).getD true,rfl,Walks.list (A:=X.A.in1) (I.ok.hd hc) _ p (Z2 hlt) its.toArray,
  ⟨⟨_,Heap.get?_push_size _ rfl,rfl,rfl⟩,hl.push _⟩,λ i v s' Q' E' hP hQ=>?_,λ h' tk hk=>?_⟩
 ·obtain ⟨b,e,rfl⟩:=uG rv i v (by simpa using hP)
  simp only [e,Option.getD_some] at hQ;exact Ye hQ
 ·have e:((List.range its.toArray.size).all λ i=>(bs[i]?).getD true)=bs.all id:=by
   rw [Zq,<- hlen,Xw,Yq,Yq];constructor
   ·intro hh b hb
    obtain ⟨i,hi,rfl⟩:=List.getElem_of_mem hb;have:=hh i (List.mem_range.mpr hi)
    simpa [List.getElem?_eq_getElem hi] using this
   ·intro hh i hi
    have hi':=List.mem_range.mp hi;simp only [List.getElem?_eq_getElem hi',Option.getD_some];exact hh _ (Xp hi')
  rw [e];refine ⟨.bl _,H,I.kept λ b x ex=>hk b x (λ hm=>?_) (Heap.get?_push_of_some _ ex),rfl,q⟩;rw [Zr.mp hm] at ex;exact Ys _ (Zs ex)
theorem lx:∀ {ts:My Str} {us:My Py},bX (ts.map V.str) us->StrsAre us ts
 | [],_,.nil=>.nil
 | x::ts,_,.cons r t=>by
  obtain ⟨tk,rfl⟩:=r;exact .cons x tk (lx t)
theorem DU:MtR X "str.join" (λ x xs H Q=>∃ (z:Str) (p:Pz) (ts:My Str),x=.str z/\xs=[.ref p]/\SqL X.K H p (ts.map V.str)/\(ts.map (·.length)).sum+ts.length * z.length<=16777216/\Q (.str (Txt.join z ts)) H):=by
 intro Pn s σ H x xs v us Q I rx rv h;obtain ⟨z,p,ts,rfl,rfl,hL,hz,q⟩:=h;obtain ⟨t,rfl⟩:=rx;obtain ⟨u,rfl,ru⟩:=vals1 rv;cases (ru);obtain ⟨its,rv',pl,_⟩:=I.list hL;exact join_list pl.isList (by simpa using lx rv') hz λ t' k=>⟨.str _,H,I.tok k,⟨_,rfl⟩,q⟩
end
theorem ER (h0:closureFor scope X.env=pure cl) (h1:scope.kind=.function) (h2:(scope.names.all λ y=>!(y.2 == .cell))=true)
  (h3:(scope.names.all λ y=>!(y.2 == .local)||(scope.names.lookup y.1 == some .local))=true) (h4:scope.names.lookup x=some .local) (h5:∀ p ∈ cl,X.env.cells.lookup p.1=some p.2)
  (h6:((relabel scope X.env).names.all λ p=>!(p.2 == .cell||p.2 == .free)||(cl.lookup p.1).isSome)=true)
  (h7:∀ p ∈ cs,X.N[p.2]?=some p.1/\X.env.kindOf p.1=some .cell/\(relabel scope X.env).names.lookup p.1=some .cell) (h8:(x::cs.map (·.1)).Nodup):dY X scope cl x cs where
 JC:=h0
 kind:=h1
 xP:=λ y hy z=>by
  have:=Yq.mp h2 y hy;rw [z] at this;exact absurd this (by decide)
 names:=λ y hy z=>by
  have:=Yq.mp h3 y hy;rw [z] at this
  simpa using this
 own:=h4
 sub:=λ y c e=>h5 (y,c) (Yl e)
 has:=λ y hy=>by
  have key:∀ k,(relabel scope X.env).names.lookup y=some k->(k=.cell\/k=.free)->∃ c,cl.lookup y=some c:=λ k e hk=>by
   have:=Yq.mp h6 (y,k) (Yl e);rcases hk with rfl | rfl
   · exact Yj.mp (by simpa using this)
   · exact Yj.mp (by simpa using this)
  rcases hy with hy | hy
  · exact key _ hy (.inl rfl)
  · exact key _ hy (.inr rfl)
 ML:=λ p hp=>⟨(h7 p hp).1,.inl (h7 p hp).2.1,.inl (h7 p hp).2.2⟩
 nd:=h8
def Fu (X:Cx):My (Str×Pz)->Prop
 | []=>True
 | p::r=>X.env.cells.lookup p.1=some p.2/\Fu X r
def AllP (X:Cx) (scope:Scope):My (Str×Nat)->Prop
 | []=>True
 | p::r=>(X.N[p.2]?=some p.1/\X.env.kindOf p.1=some .cell/\(relabel scope X.env).names.lookup p.1=some .cell)/\AllP X scope r
theorem Fu.all:∀ {cl:My (Str×Pz)},Fu X cl->∀ p ∈ cl,X.env.cells.lookup p.1=some p.2
 | [],_,p,h=>by cases h
 | q::r,a,p,h=>by
  rcases Zh.mp h with rfl | h
  · exact a.1
  · exact Fu.all a.2 p h
theorem AllP.all:∀ {cs:My (Str×Nat)},AllP X scope cs->∀ p ∈ cs,X.N[p.2]?=some p.1/\X.env.kindOf p.1=some .cell/\(relabel scope X.env).names.lookup p.1=some .cell
 | [],_,p,h=>by cases h
 | q::r,a,p,h=>by
  rcases Zh.mp h with rfl | h
  · exact a.1
  · exact AllP.all a.2 p h
theorem EO (cs:My (Str×Nat)) (h0:closureFor scope X.env=pure cl) (h1:scope.kind=.function) (h2:(scope.names.all λ y=>!(y.2 == .cell))=true)
 (h3:(scope.names.all λ y=>!(y.2 == .local)||(scope.names.lookup y.1 == some .local))=true) (h4:scope.names.lookup x=some .local) (h5:Fu X cl)
 (h6:((relabel scope X.env).names.all λ p=>!(p.2 == .cell||p.2 == .free)||(cl.lookup p.1).isSome)=true)
 (h7:AllP X scope cs) (h8:(x::cs.map (·.1)).Nodup):dY X scope cl x cs:=ER h0 h1 h2 h3 h4 h5.all h6 h7.all h8
structure Fly (P:Program) (w:World) (fs:List Addr) (H H':Hp) (h0 B h:Heap):Prop where
 un:Un fs [] H H' h0 h
 hok:HOk P w H' B
 cov:∀ b o,h0.get? b=some o->H b=none->b ∉ fs->B.get? b=some o
 EM:∀ b o,h0.get? b=some o->b ∉ fs->∃ o',B.get? b=some o'
theorem Fly.step (F:Fly P w fs H H' h0 B h) (st:B.StaysIn h') (sm:h.UpToSlots h')
  (nf:∀ b ∈ fs,∀ o,h.get? b=some o->∀ vs,o.data≠.fields vs):Fly P w fs H H' h0 B h' where
 un := ⟨λ b o e n hb _=>st b o (F.cov b o e n hb),λ b o e n hb _=>by
   obtain ⟨sl,e1⟩:=F.un.slot b o e n hb (by simp);obtain ⟨sl',e2⟩:=sm b _ e1 (nf b hb _ e1);exact ⟨sl',e2⟩,F.un.free,λ b o e _=>by
   by_cases hb:b ∈ fs
   ·obtain ⟨o1,e1⟩:=F.un.there b o e (by simp)
    obtain ⟨sl',e2⟩:=sm b _ e1 (nf b hb _ e1);exact ⟨_,e2⟩
   ·obtain ⟨o',e1⟩:=F.EM b o e hb
    exact ⟨o',st b o' e1⟩,F.un.qQ,F.un.ql,F.un.qR⟩
 hok:=F.hok
 cov:=F.cov
 EM:=F.EM
theorem Fly.comp {stk outer:My Pz} (bs:Un outer [] H H1 h0 h1) (neL:∀ b o,h0.get? b=some o->b ∉ outer->b ∉ stk) (fy:Fly P w stk H1 H' h1 B h):Fly P w outer H H' h0 B h:=by
 have cov:∀ b o,h0.get? b=some o->H b=none->b ∉ outer->B.get? b=some o:=λ b o q n hb=>fy.cov b o (bs.keep b o q n hb (by simp)) (bs.free b o q n (by simp)) (neL b o q hb)
 refine ⟨⟨λ b o q n hb _=>?_,λ b o q n hb _=>?_,λ b o q n _=>?_,λ b o q _=>?_,λ b xs q=>fy.un.qQ b xs (bs.qQ b xs q),λ b o u q=>fy.un.ql b o u (bs.ql b o u q),λ b ps q=>?_⟩,fy.hok,cov,λ b o q hb=>?_⟩
 · exact fy.un.keep b o (bs.keep b o q n hb (by simp)) (bs.free b o q n (by simp)) (neL b o q hb) (by simp)
 ·obtain ⟨sl,e1⟩:=bs.slot b o q n hb (by simp)
  obtain ⟨sl',e2⟩:=fy.un.any e1 (bs.free b o q n (by simp)) (by simp);exact ⟨sl',e2⟩
 ·obtain ⟨o1,e1⟩:=bs.there b o q (by simp)
  exact fy.un.free b o1 e1 (bs.free b o q n (by simp)) (by simp)
 ·obtain ⟨o1,e1⟩:=bs.there b o q (by simp)
  exact fy.un.there b o1 e1 (by simp)
 ·obtain ⟨m1,e1⟩:=bs.qR b ps q
  obtain ⟨m2,e2⟩:=fy.un.qR b _ e1;exact ⟨m1++m2,by rw [e2,Array.append_assoc]⟩
 ·obtain ⟨o1,e1⟩:=bs.there b o q (by simp)
  exact fy.EM b o1 e1 (neL b o q hb)
theorem xQ {h base:Heap} {l:My Env} (hl:h.FunFrames base l):∀ b ∈ frs l,∀ o,h.get? b=some o->∀ vs,o.data≠.fields vs:=λ b hb o e=>by
 obtain ⟨_,o',e',nf⟩:=hl.mem hb;rw [e] at e';cases e';exact nf
def CX1 (P:Program) (w:World):CXT:=λ outer H s E e s'=>
 ∃ (ea:Pz) (cls a0:Py) (H':Hp) (B:Heap),e=.ref ea/\s'.os=s.os/\AllBare s'.gens/\Heap.FlyingW B outer ea cls a0 s'.heap/\Fly P w (frs outer) H H' s.heap B s'.heap/\E cls none H'
def zK (X:Cx) (E:XK):Prop:=∀ (Pn:My (Pz×Obj)) (σ:St) (H:Hp) (s:PD) (e:Pz) (cls:Py) (vs:My Py) (h':Heap),Inv X Pn σ H s->Heap.MadeExcOf s.heap h' e cls vs->E cls none H->X.xe (.ref e) { s with heap:=h' }
section
variable {P:Program} {w:World} {K:PB} {mg:Str->Px Py} {base:Heap} {N:My Str} {qual:Str} {scope:Scope} {f:Pz} {cd:Py} {A:Around} {outer:My Env} {s:PD} {H:Hp} {E:XK}
theorem wQ:zK (qB (CX1 P w) P w K mg base N qual scope f cd A outer s H E) E:=by
 intro Pn σ H1 s1 e cls vs h' I hx hE;show wpAny (model P w) (A.deeper (envOfC qual scope s.heap.objs.size f cd)) (leaving (envOfC qual scope s.heap.objs.size f cd) (.ref e)) (λ _ s''=>CX1 P w outer H s E (.ref e) s'') (λ e' s''=>CX1 P w outer H s E e' s'') { s1 with heap:=h' };generalize hX:qB (CX1 P w) P w K mg base N qual scope f cd A outer s H E=X at I;have hfr:X.A.frames=some (envOfC qual scope s.heap.objs.size f cd::outer):=by rw [I.ok.frames,<- hX]; rfl
 have hst:X.stack=envOfC qual scope s.heap.objs.size f cd::outer:=by rw [<- hX]; rfl
 have hfs:X.fs=frs outer:=by rw [<- hX]; rfl
 have bs:=I.base;rw [hfs] at bs;have hs0:X.s₀=s:=by rw [<- hX]; rfl
 have hH0:X.H₀=H:=by rw [<- hX]; rfl
 have hex:X.ex=[]:=by rw [<- hX]; rfl
 have hA:X.A=A.deeper (envOfC qual scope s.heap.objs.size f cd):=by rw [<- hX]; rfl
 have hP:X.prog=P:=by rw [<- hX]; rfl
 have hw:X.w=w:=by rw [<- hX]; rfl
 rw [hs0,hH0,hex] at bs;have stk:=I.stack;have gL:=I.gL;have jW:=I.jW;rw [hst] at stk gL jW;have hok:=I.hok;rw [hP,hw] at hok;rw [hA] at hfr;have aboveL:s.heap.objs.size<=X.env.locals:=by have:=I.ok.above; rw [hs0] at this; exact this
 have hin:∀ env ∈ (envOfC qual scope s.heap.objs.size f cd::outer),∀ b,env.frame=some b->b ∈ frs (envOfC qual scope s.heap.objs.size f cd::outer):=λ env he b hb=>Xb.mpr ⟨env,he,hb⟩
 refine wpAny_leaves_madeW hfr rfl (λ b o q=>PySem.W.of_hideAll _ q) (PySem.W.funFrames_hide stk hin) hx λ h'' t x1 x2 x3 x4=>?_
 have inB:∀ b o,s1.heap.get? b=some o->b ∉ frs (envOfC qual scope s.heap.objs.size f cd::outer)->(PySem.W.hideAll s1.heap (frs (envOfC qual scope s.heap.objs.size f cd::outer))).get? b=some o:=λ b o q hb=>PySem.W.hideAll_get _ q hb
 have notF:∀ b u,H1 b=some u->b ∉ frs (envOfC qual scope s.heap.objs.size f cd::outer):=λ b u q z=>by rw [jW b z] at q; cases q
 have neL:∀ b o,s.heap.get? b=some o->b ∉ frs outer->b ∉ frs (envOfC qual scope s.heap.objs.size f cd::outer):=λ b o q hb z=>
  (Zh.mp (gL b z)).elim (Z2 (Zx (Zs q) aboveL)) (λ z'=>hb (by rw [<- hfs]; exact z'))
 have sub:∀ b,b ∈ frs outer->b ∈ frs (envOfC qual scope s.heap.objs.size f cd::outer):=λ b hb=>by
  obtain ⟨env,he,hf⟩:=Xb.mp hb;exact Xb.mpr ⟨env,Za _ he,hf⟩
 have nf:=xQ stk;have cov:∀ b o,s.heap.get? b=some o->H b=none->b ∉ frs outer->(PySem.W.hideAll s1.heap (frs (envOfC qual scope s.heap.objs.size f cd::outer))).get? b=some o:=λ b o q n hb=>inB b o (bs.keep b o q n hb (by simp)) (neL b o q hb)
 have EM:∀ b o,s.heap.get? b=some o->b ∉ frs outer->∃ o',(PySem.W.hideAll s1.heap (frs (envOfC qual scope s.heap.objs.size f cd::outer))).get? b=some o':=λ b o q hb=>by
  obtain ⟨o1,e1⟩:=bs.there b o q (by simp);exact ⟨o1,inB b o1 e1 (neL b o q hb)⟩
 refine ⟨e,cls,_,H1,_,rfl,by have:=I.os; rw [hs0] at this; exact this,I.bare,x1,⟨⟨λ b o q n hb _=>x1.1 b o (cov b o q n hb),λ b o q n hb _=>?_,bs.free,λ b o q _=>?_,bs.qQ,bs.ql,bs.qR⟩,λ b u q=>?_,cov,EM⟩,hE⟩
 ·obtain ⟨sl,e1⟩:=bs.slot b o q n hb (by simp)
  obtain ⟨sl',e2⟩:=x4 b _ (hx.keeps b _ e1) (nf b (sub b hb) _ e1);exact ⟨sl',e2⟩
 ·obtain ⟨o1,e1⟩:=bs.there b o q (by simp)
  by_cases hb:b ∈ frs (envOfC qual scope s.heap.objs.size f cd::outer)
  ·obtain ⟨sl',e2⟩:=x4 b _ (hx.keeps b _ e1) (nf b hb _ e1)
   exact ⟨_,e2⟩
  · exact ⟨o1,x1.1 b o1 (inB b o1 e1 hb)⟩
 ·exact (hok b u q).vX (λ c v hc z=>inB c v z (by
   rcases hc with rfl | hc
   · exact notF _ _ q
   · exact notF _ _ hc)) (λ _ z=>z) λ _ _ z=>z
theorem xA:jR (CX1 P w) (qB (CX1 P w) P w K mg base N qual scope f cd A outer s H E) E:=by
 intro Pn σ H1 s1 e s' I h;obtain ⟨ea,cls,a0,H',B,rfl,os,bare,fl,fy,hE⟩:=h;show wpAny (model P w) (A.deeper (envOfC qual scope s.heap.objs.size f cd)) (leaving (envOfC qual scope s.heap.objs.size f cd) (.ref ea)) (λ _ s''=>CX1 P w outer H s E (.ref ea) s'') (λ e' s''=>CX1 P w outer H s E e' s'') s';generalize hX:qB (CX1 P w) P w K mg base N qual scope f cd A outer s H E=X at I fl fy;have hst:X.stack=envOfC qual scope s.heap.objs.size f cd::outer:=by rw [<- hX]; rfl
 have hfr:X.A.frames=some (envOfC qual scope s.heap.objs.size f cd::outer):=by rw [I.ok.frames,hst]
 have hfs:X.fs=frs outer:=by rw [<- hX]; rfl
 have bs:=I.base;rw [hfs] at bs;have hs0:X.s₀=s:=by rw [<- hX]; rfl
 have hH0:X.H₀=H:=by rw [<- hX]; rfl
 have hex:X.ex=[]:=by rw [<- hX]; rfl
 have hA:X.A=A.deeper (envOfC qual scope s.heap.objs.size f cd):=by rw [<- hX]; rfl
 rw [hs0,hH0,hex] at bs;have gL:=I.gL;rw [hst] at gL fl fy;rw [hA] at hfr;have aboveL:s.heap.objs.size<=X.env.locals:=by have:=I.ok.above; rw [hs0] at this; exact this
 refine wpAny_leaves_onW hfr rfl fl λ h'' x1 x2=>?_
 have neL:∀ b o,s.heap.get? b=some o->b ∉ frs outer->b ∉ frs (envOfC qual scope s.heap.objs.size f cd::outer):=λ b o q hb z=>
  (Zh.mp (gL b z)).elim (Z2 (Zx (Zs q) aboveL)) (λ z'=>hb (by rw [<- hfs]; exact z'))
 have nf:=xQ fl.2.2.1;exact ⟨ea,cls,a0,H',B,rfl,os.trans (by have:=I.os; rw [hs0] at this; exact this),bare,x1,.comp bs neL (fy.step x1.1 x2 nf),hE⟩
end
theorem Fun.okX {P:Program} {w:World} {K:PB} {mg:Str->Px Py} {base:Heap} {x qual:Str} {st:Stmt} {f:Pz} {fd:FuncData} {N ps:My Str} {k:Nat} {sp:Sp} (F:Fun K x qual st f fd) (S:cM N ps (aD st)) (len:∀ vs H Q E,sp vs H Q E->vs.length=ps.length)
  (hbody:∀ (cdv:Py) (A:Around) (outer:My Env) (s:PD) (H:Hp) (vs:My V) (Q:VK) (E:XK),dD k (A.deeper (envOfC qual (aD st) s.heap.objs.size f cdv))->sp vs H Q E->∃ t,PSs (qB (CX1 P w) P w K mg base N qual (aD st) f cdv A outer s H E) (bP st) t/\t { nx:=λ _ H'=>Q .non H',rt:=Q } (start N vs) H):gO P w K mg base (CX1 P w) (k+1) f fd ps sp:=by
 obtain ⟨oc,od,kV,doc,pm,an,cdv,ct,osl,rfl,lk,hcd⟩:=F.ex;refine HG lk hcd S len λ A outer s H vs Q E hr hsp=>?_
 obtain ⟨t,h,q⟩:=hbody cdv A outer s H vs Q E hr hsp;exact ⟨t,h,q⟩
end L2
end
section
namespace L2
open PySem PySem.Spec PySem.W PySem.Calls PyProof.Rows
noncomputable def MM:My Py:=[.type "ValueError",.type "Exception",.type "BaseException",.type "object"]
theorem GK {K:Frag} {h₀:Heap} {mg:Str->Px Py} {x:Str} {C:Pz} {bmB:My Py} {newId:String} (X:K.In h₀) (e:mg x=some (.ref C)) (q:excIn K C bmB newId=true):OwnCls x C bmB newId mg h₀:=by
 refine ⟨e,?_⟩;unfold excIn at q;split at q
 ·rename_i dd cd sl ho
  split at q
  ·rename_i C' bm k0 k1 k2 k3 n k5 hm hs
   simp only [Z7,Y2,Bool.not_eq_true'] at q;obtain ⟨⟨⟨⟨⟨rfl,rfl⟩,hdel⟩,ht⟩,hok⟩,hni⟩:=q;obtain ⟨nm,bs,mro,ns,qn,hd,sn,sub,ab,col,del⟩:=cd;subst hm hdel
   have hsl:sl=#[k0,k1,k2,k3,some (.builtin n),k5]:=by
    obtain ⟨l⟩:=sl;simp only at hs;rw [hs]
   subst hsl;exact ⟨bm,ns,nm,qn,bs,hd,sn,sub,ab,col,dd,k0,k1,k2,k3,k5,_,X _ _ ho,.of_isNs (isNs_of_in X hok),nsMap_none_of_in X hok hni,tail_of_in X ht⟩
  · cases q
 · cases q
def FV (t:TA) (E:XK) (C:Pz):TS:=λ _ σ H=>t σ H λ vs H1=>vs.length<=sizeLine/\E (.ref C) none H1
theorem An {X:Cx} {E:XK} {x:Str} {C:Pz} {np Pp pos:Pos} {e₀:Expr} {rest:My Expr} {t:TA} (hR:zK X E) (hc:X.calm=true) (hex:excIn X.K C MM "ValueError.__new__"=true) (hg:Gl X x) (hm:X.mg x=some (.ref C))
  (ha:PA X (e₀::rest) t) (he:Se X e₀ rest:=by rfl)
  (Pt:Sb X Pp rest:=by rfl) (hd:Dg x:=by decide):PS X (.Raise (some (.Call (.Name x np) (e₀::rest) [] Pp)) none pos) (FV t E C):=by
 intro Pn s σ H D I h;have O:=GK I.ok.mod.kin hm hex;obtain ⟨tl,N,nm,q,bs,hdct,sn,sub,ab,col,dd,k0,k1,k2,k3,k5,mN,hC,hN,hni,T⟩:=O.obj
 refine wpAny_Raise_call_subT (nm:=nm) (q:=q) (N:=N) (bs:=bs) (hdct:=hdct) (sn:=sn) (sub:=sub) (ab:=ab) (col:=col) (dd:=dd) (k0:=k0) (k1:=k1) (k2:=k2) (k3:=k3) (k5:=k5)
  PySem.F.excBase_ValueError (T.hasType PySem.F.excBase_ValueError.hasBase) (I.ok.hd hc) (by rw [he]; show (false||(backTo Pp (starEach rest X.env)).any (·.1))=false; rw [Pt]; rfl) hni (j4 I hg hm ⟨rfl,?_⟩ hd)
 have A1:=ha Pp Pn s σ H _ I h;rw [he] at A1 ⊢;exact Xm (thn A1 λ us s1 ⟨vs,H1,I1,r,z,q⟩=>⟨rfl,by rw [<- r.length]; exact z,I1.bk _ _ hC,hN.keeps I1.bk,T.keeps I1.bk,λ h' e mk=>hR Pn σ H1 s1 e _ _ h' I1 mk q⟩)
noncomputable def pY (X:Cx) (ea:Pz):Cx:={ X with A:=X.A.mark (some (.ref ea)),calm:=false,xe:=λ _ _=>False }
section
variable {X:Cx} {Pn:My (Pz×Obj)} {σ:St} {H:Hp} {s:PD} {ea:Pz}
theorem Cx.Ok.mark (ok:X.Ok):(pY X ea).Ok:=⟨ok.mod,ok.kind,ok.glob,ok.blt,ok.above,ok.inj,ok.has,ok.cab,λ z=>absurd (z) Zf,ok.frames,ok.stk,ok.exf,ok.bs,ok.bsz,ok.Dn,ok.Fj,ok.ug,ok.frf⟩
def Inv.mark (I:Inv X Pn σ H s):Inv (pY X ea) Pn σ H s:=⟨I.ok.mark,I.os,I.bare,I.base,I.loc,I.cell,I.free,I.ic,I.pin,I.hok,I.len⟩
def Inv.unmark (ok:X.Ok) (I:Inv (pY X ea) Pn σ H s):Inv X Pn σ H s:=⟨ok,I.os,I.bare,I.base,I.loc,I.cell,I.free,I.ic,I.pin,I.hok,I.len⟩
theorem SP.unmark (ok:X.Ok) (h:SP (pY X ea) Pn D f s'):SP X Pn D f s':=by
 cases f with
 | next=>obtain ⟨σ',H',I,q⟩:=h; exact ⟨σ',H',I.unmark ok,q⟩
 | brk=>obtain ⟨σ',H',I,q⟩:=h; exact ⟨σ',H',I.unmark ok,q⟩
 | cont=>obtain ⟨σ',H',I,q⟩:=h; exact ⟨σ',H',I.unmark ok,q⟩
 | ret u=>obtain ⟨v,σ',H',I,r,q⟩:=h; exact ⟨v,σ',H',I.unmark ok,r,q⟩
end
abbrev THn:=Ends->St->Hp->Pz->Py->Prop
def PH (X:Cx) (hs:My ExceptHandler) (th:THn):Prop:=
  ∀ (Pn:My (Pz×Obj)) (s0 s:PD) (σ:St) (H H':Hp) (D:Ends) (ea:Pz) (cls a0:Py) (B:Heap),Inv X Pn σ H s0->Fly X.prog X.w (frs X.stack) H H' s0.heap B s.heap->s.os=s0.os->AllBare s.gens->Heap.FlyingW B X.stack ea cls a0 s.heap->th D σ H' ea cls->wpAny (model X.prog X.w) X.A (handleBy (.ref ea) X.env hs) (SP X Pn D) X.xe s
theorem Fly.inv (I:Inv X Pn σ H s0) (F:Fly X.prog X.w (frs X.stack) H H' s0.heap B s.heap) (ho:s.os=s0.os) (hg:AllBare s.gens) (st:B.StaysIn s.heap):Inv X Pn σ H' s:=
 I.Ie ho F.un (F.hok.kept st) hg λ b z=>absurd z (by simp)
section
variable {X:Cx} {x:Str} {C:Pz} {p pos:Pos} {b₀:Stmt} {Pw:My Stmt} {rest:My ExceptHandler} {ts:TS} {th:THn}
def GC:PH X [] (λ _ _ _ _ _=>False):=λ _ _ _ _ _ _ _ _ _ _ _ _ _ _ _ _ h=>h.elim
theorem AJ (I:Inv X Pn σ H s) (hg:Gl X x) (hm:X.mg x=some u) (h:Q u s)
  (hd:Dg x:=by decide):wpAny (model X.prog X.w) A (eval (.Name x pos) X.env) Q E s:=
 Xk I.ok.kind hg (Calls.loadGlobal_global (by rw [I.ok.glob]; exact I.mod.glob.keeps I.bk) hm h) hd
end
noncomputable def wt (X:Cx) (pn:My (Pz×Obj)) (E:Py->PD->Prop):Cx:={ X with pn:=pn,xe:=E }
section
variable {X:Cx} {Pn:My (Pz×Obj)} {σ:St} {H:Hp} {s:PD} {E:Py->PD->Prop}
theorem Cx.Ok.into (ok:X.Ok) {pn:My (Pz×Obj)}:(wt X pn E).Ok:=⟨ok.mod,ok.kind,ok.glob,ok.blt,ok.above,ok.inj,ok.has,ok.cab,ok.hd,ok.frames,ok.stk,ok.exf,ok.bs,ok.bsz,ok.Dn,ok.Fj,ok.ug,ok.frf⟩
theorem Inv.into (I:Inv X Pn σ H s):Inv (wt X (X.pn++Pn) E) [] σ H s:=⟨I.ok.into,I.os,I.bare,I.base,I.loc,I.cell,I.free,I.ic,λ p hp=>I.pin p (by
 have hp':p ∈ (X.pn++Pn)++[]:=hp
 simpa using hp'),I.hok,I.len⟩
theorem Inv.out (ok:X.Ok) (I:Inv (wt X (X.pn++Pn) E) pins' σ H s):Inv X Pn σ H s:=⟨ok,I.os,I.bare,I.base,I.loc,I.cell,I.free,I.ic,λ p hp=>I.pin p (Zk _ hp),I.hok,I.len⟩
end
def dO (CX:CXT) (X:Cx) (σ:St) (E:XK):Prop:=∀ (Pn:My (Pz×Obj)) (H:Hp) (s:PD) (e:Py) (s':PD),Inv X Pn σ H s->CX X.stack H s E e s'->X.xe e s'
def jR.at (h:jR CX X E) (σ:St):dO CX X σ E:=λ Pn H s e s' I q=>h Pn σ H s e s' I q
def N9 (tb:(St->XK)->TS) (th:THn) (te:TS):TS:=λ D σ H=>tb (λ σ' cls _ H'=>∀ ea,th D σ' H' ea cls) { D with nx:=te D } σ H
theorem Gw
  (hb:∀ (pn:My (Pz×Obj)) (E:Py->PD->Prop) (EX:St->XK),(∀ σ,dO (CX1 X.prog X.w) (wt X pn E) σ (EX σ))->PSs (wt X pn E) body (tb EX))
  (hh:PH X (h₀::hs) th) (ho:PSs X orelse te) (hst:X.stack=X.env::X.outer) (hf:X.env.frame=some L):PS X (.Try body (h₀::hs) orelse [] pos) (N9 tb th te):=by
 intro Pn s σ H D I h;refine wpAny_Try_except ?_
 refine Yu (hb (X.pn++Pn) (λ e s₁=>wpAny (model X.prog X.w) X.A (noteFrame e X.env) (λ _ s₂=>wpAny (model X.prog X.w) X.A (setFlight e none) (λ _ s₃=>wpAny (model X.prog X.w) X.A (handleBy e X.env (h₀::hs)) (SP X Pn D) X.xe s₃) X.xe s₂) X.xe s₁)
  (λ σ' cls _ H'=>∀ ea,th D σ' H' ea cls) ?_ [] s σ H { D with nx:=te D } I.into h) (λ f s1 q=>?_) λ e s1 q=>q
 ·intro σ' pins' H1 s1 e s' I' hc
  obtain ⟨ea,cls,a0,H',B,rfl,os,bare,fl,fy,hE⟩:=hc;have I1:=I'.out I.ok;have fl':Heap.FlyingW B (X.env::X.outer) ea cls a0 s'.heap:=by rw [<- hst]; exact fl
  refine wpAny_looks_onW (by rw [I.ok.frames,hst]) hf fl' λ h4 held4 sm4=>?_
  refine wpAny_landsW held4 λ h5 fl5 sm5=>?_
  have F5:=fy.step fl5.1 (sm4.trans sm5) (xQ fl.2.2.1);exact hh Pn s1 { s' with heap:=h5 } σ' H1 H' D ea cls a0 B I1 F5 os bare (by rw [hst]; exact fl5) (hE ea)
 ·cases f with
  | next=>obtain ⟨σ',H',I',q⟩:=q; exact ho Pn s1 σ' H' D (I'.out I.ok) q
  | brk=>obtain ⟨σ',H',I',q⟩:=q; exact ⟨σ',H',I'.out I.ok,q⟩
  | cont=>obtain ⟨σ',H',I',q⟩:=q; exact ⟨σ',H',I'.out I.ok,q⟩
  | ret u=>obtain ⟨v,σ',H',I',r,q⟩:=q; exact ⟨v,σ',H',I'.out I.ok,r,q⟩
section
variable {X:Cx} {CX:CXT} {k:Nat} {f C:Pz} {fd:FuncData} {ps:My Str} {sp:Sp} {dvs:My V} {ds:My Py} {EX:St->XK} {x m:Str} {p pos Po:Pos} {e o:Expr} {es:My Expr} {ta:TE} {t:TA}
theorem wL (F:gO X.prog X.w X.K X.mg X.base CX k f fd ps sp) (hr:dD k X.A) (hb:Binds X.K fd ps ds) (hd:bX dvs ds) (hx:dO CX X σ E)
  (I:Inv X Pn σ H s) (r:bX vs us) (h:sp (vs++dvs) H Q E):wpAny (model X.prog X.w) X.A (call (.ref f) us) (EP X Pn σ Q) X.xe s:=by
 have r2:=r.append hd;have hl:(us++ds).length=ps.length:=by rw [<- r2.length]; exact F.len _ _ _ _ h
 refine wpAny_call (codeAny_mono (F.run X.A X.stack s H ⟨us,[]⟩ (us++ds) (vs++dvs) Q E hr I.JB (hb s us I.kIn hl) r2 h) λ r s' hq=>?_)
 cases r with
 | error e=>exact hx Pn H s e s' I hq
 | ok fl=>
  cases fl with
  | ret u=>exact I.after hq
  | next=>exact False.elim hq
  | brk=>exact False.elim hq
  | cont=>exact False.elim hq
def F4 (sp:Sp) (dvs:My V) (EX:St->XK) (t:TA):TE:=λ σ H Q=>t σ H λ vs H1=>sp (vs++dvs) H1 Q (EX σ)
theorem Ay (F:gO X.prog X.w X.K X.mg X.base CX k f fd ps sp) (hr:dD k X.A) (hg:Gl X x) (hm:X.mg x=some (.ref f)) (hk:keepIn X.K (.ref f)=true) (hb:Binds X.K fd ps ds) (hd:bX dvs ds) (hx:∀ σ,dO CX X σ (EX σ))
  (ha:PA X (e::es) t) (hdb:Dg x:=by decide) (he:Se X e es:=by rfl) (hpl:Sb X pos es:=by rfl):PE X (.Call (.Name x p) (e::es) [] pos) (F4 sp dvs EX t):=by
 intro Pn s σ H Q I h;refine Yv (j4 I hg hm ?_ hdb);refine callWith_K I.ok.mod.kin hk (thn (ha pos Pn s σ H _ I h) λ us s1 ⟨vs,H1,I1,r,q⟩=>⟨I1.kIn,?_⟩) he hpl;exact wL F hr hb hd (hx σ) I1 r q
end
end L2
end
section
namespace L2
open PySem PySem.Spec PySem.W PySem.Calls PyProof.Rows Builtin Builtin.ObjectAttr Builtin.Getset_descriptor
def uL (x D:Pz) (h:Heap):Prop:=∃ o,h.get? x=some o/\o.cls=.ref D
noncomputable def yL (K:Frag) (D:Pz):Bool:=
 (clsIn K D).isSome&&(findIn K (.ref D) "__getattribute__" == some (some (.builtin "BaseException.__getattribute__")))&&(findIn K (.ref D) "__getattr__" == some none) &&
 (findIn K (.ref D) "__class__" == some (some (.builtin "object.__class__")))&&(specialIn K (.builtin "object.__class__") "__get__" == some (some (.builtin "getset_descriptor.__get__"))) &&
 (takesIn K (.builtin "object.__class__") == some true)&&(mroIn K D (.type "object") == some true)&&(mroIn K D (.type "BaseException") == some true)
section
variable {prog:Program} {w:World} {A:Around} {E:Py->PD->Prop} {K:Frag} {x D:Pz} {s:PD}
def uL.yb (I:uL x D h):Looks M h (typeOf (.ref x)) (.ref D):=by
 obtain ⟨o,e,c⟩:=I;rw [<- c];exact Looks.andThen (Looks.ld e) .now
theorem Ew (Y:K.In h) (ha:findIn K (.ref D) name=some (some a)) (hg:specialIn K a "__get__"=some (some g)) (ht:takesIn K a=some true):Looks M h (find (.ref x) (.ref D) name) (.bind g a):=by
 have q1:=looks_findIn (M:=M) Y ha;have q2:Looks M h (getOf (some a)) (some g):=looks_specialIn Y hg;have q3:=looks_takesIn (M:=M) Y ht;have q4:Looks M h (dataDescriptor? (some a) (some g)) (some (g,a)):=q3.andThen .now;exact q1.andThen (q2.andThen (q4.andThen (Looks.tag .now)))
theorem HP (Y:K.In s.heap) (I:uL x D s.heap) (o5:mroIn K D (.type "object")=some true) (hq:R (.ok (.ret (.ref D))) s):codeAny (model prog w) A (.call (.builtin "getset_descriptor.__get__") ⟨[.builtin "object.__class__",.ref x,tp],[]⟩) R s:=by
 have a0:=I.yb (M:=model prog w);have a4:=looks_mroIn (M:=model prog w) Y o5;obtain ⟨h0,gs,dr,tk,os⟩:=s;refine codeAny_call_builtin KF.slot_gs.plain KF.entry_gs ?_
 refine KF.slot_gs.check _ _ _ _ _ _ _ _ KF.type_class (KF.args_gs _ _ _) ?_
 unfold Builtin.«getset_descriptor.__get__» descrGet;rw [dga_obj];refine Zt (Z5 ?_);unfold descrGetter descrCheckInstance descrNameAndClass isInstance;simp only [KF.owner_class]
 repeat lk
 refine ⟨Code.quiet_builtin _ (by decide +kernel),?_⟩;refine codeAny_builtin KF.entry_class ?_
 repeat lk
 exact hq
theorem AS (Y:K.In s.heap) (I:uL x D s.heap) (f:Looks (model prog w) s.heap (find (.ref x) (.ref D) "__class__") (.bind (.builtin "getset_descriptor.__get__") (.builtin "object.__class__"))) (o5:mroIn K D (.type "object")=some true)
  (hq:Q (.done (.ret (.ref D))) s):wpAny (model prog w) A (Builtin.«object.__getattribute__» ⟨[.ref x,.str "__class__" tk],[]⟩) Q E s:=by
 have a0:=I.yb (M:=model prog w);obtain ⟨h0,gs,dr,t0,os⟩:=s;refine Zt (Z5 ?_);refine Zt (Z5 (Zt (a0.at (Zt (f.at ?_)))))
 repeat (any_goals (first | assumption | wp_step))
 exact HP Y I o5 (Z5 hq)
theorem HR (Y:K.In s.heap) (I:uL x D s.heap) (o6:mroIn K D (.type "BaseException")=some true) (hq:Q () s):wpAny (model prog w) A (checkBuiltinCall "BaseException.__getattribute__" ⟨[.ref x,nm],[]⟩) Q E s:=by
 have e1:builtinKind "BaseException.__getattribute__"=some .slot:=by decide +kernel
 have e2:splitId "BaseException.__getattribute__"=some ("BaseException","__getattribute__"):=by decide +kernel
 have a0:=I.yb (M:=model prog w);have a6:=looks_mroIn (M:=model prog w) Y o6;obtain ⟨h0,gs,dr,t0,os⟩:=s;simp only [checkBuiltinCall,e1,e2];refine Zt ?_
 repeat lk
 exact hq
theorem HQ (Y:K.In s.heap) (I:uL x D s.heap) (ok:yL K D=true) (hq:Q (some (.ref D)) { s with toks:=s.toks+1 }):wpAny (model prog w) A (getAttr? (.ref x) "__class__") Q E s:=by
 unfold yL at ok;simp only [Z7,Y2] at ok;obtain ⟨⟨⟨⟨⟨⟨⟨o0,g1⟩,g2⟩,o2⟩,o3⟩,o4⟩,o5⟩,o6⟩:=ok;have a0:=I.yb (M:=model prog w);have a1:=looks_findIn (M:=model prog w) Y g1;have a2:=looks_findIn (M:=model prog w) Y g2;have a3:Looks (model prog w) s.heap (find (.ref x) (.ref D) "__class__") _:=Ew Y o2 o3 o4;obtain ⟨h0,gs,dr,tk,os⟩:=s;have n1:(Value.builtin "BaseException.__getattribute__" == Value.builtin "object.__getattribute__")=false:=by decide +kernel
 have n2:(onTheHeap (Value.ref D)&&Value.builtin "BaseException.__getattribute__" == Value.builtin "object.__getattribute__")=false:=by rw [n1]; rfl
 have n3:=PySem.F.excAttr_ValueError.ga.bind (.ref x);refine Zt (wpAny_mkText (Zt (wpAny_attempt (wpAny_holding (Zt (a0.at (Zt (a1.at ?_))))))));dsimp only;rw [n2];unfold getAttrByItsOwn hookBefore;rw [if_pos (show onTheHeap (Value.ref D)=true from rfl)];refine Zt (a2.at (Zt (wpAny_attempt (wpAny_holding ?_))));unfold callGetattribute boundAndCalled;rw [Bool.false_and,if_neg Zf,n3];refine Zt (Z5 (wpAny_call ?_));refine codeAny_call_builtin PySem.F.excAttr_ValueError.ga.plain PySem.F.entry_bexc_ga ?_
 refine HR Y I o6 ?_
 refine AS (s:=⟨h0,gs,dr,tk+1,os⟩) Y I a3 o5 ?_
 exact handed_on rfl (Z5 hq)
theorem yg (ok:yL K D=true):KitX K (.ref x) (.ref D) (uL x D) where
 ty:=λ _ _ _ I=>I.yb
 it := λ _ _ Y _=>by
  unfold yL at ok;simp only [Z7] at ok;obtain ⟨cd,hc⟩:=Yj.mp ok.1.1.1.1.1.1.1;unfold clsIn at hc;split at hc
  ·rename_i ho
   intro A' Q' E' s' k q;exact Zt (wpAny_loadPart (k _ _ (Y _ _ ho)) (Z5 q))
  · cases hc
 ne := λ h tp dd its n sl Y htp=>by
  unfold yL at ok;simp only [Z7] at ok;obtain ⟨cd,hc⟩:=Yj.mp ok.1.1.1.1.1.1.1;refine Bool.eq_false_iff.mpr λ q=>?_
  cases Value.ref.inj (Y2.mp q);unfold clsIn at hc;split at hc
  ·rename_i ho
   rw [Y _ _ ho] at htp;cases htp
  · cases hc
 ca:=λ Y I k=>HQ Y I ok k
end
end L2
end
section
namespace L2
open PySem PySem.Spec PySem.W PySem.Calls PyProof.Rows
theorem dg.there (x:dg P w H h a o):∃ u,h.get? a=some u:=by
 cases o with
 | lst xs=>obtain ⟨_,_,_,_,e⟩:=x; exact ⟨_,e⟩
 | tup xs=>obtain ⟨_,_,_,o,e,_⟩:=x; exact ⟨_,e⟩
 | dK kvs=>obtain ⟨_,_,_,_,o,_,_,e,_⟩:=x; exact ⟨_,e⟩
 | dT kvs=>obtain ⟨_,_,_,_,o,_,_,e,_⟩:=x; exact ⟨_,e⟩
 | set S n=>obtain ⟨o,_,_,_,e,_⟩:=x; exact ⟨_,e⟩
 | ins C dx fs=>obtain ⟨_,_,_,e,_⟩:=x; exact ⟨_,e⟩
 | own y=>exact x
 | xd fs=>obtain ⟨_,⟨_,_,_,e,_⟩,_⟩:=x; exact ⟨_,e⟩
 | rng lo hi=>obtain ⟨_,_,_,e⟩:=x; exact ⟨_,e⟩
 | frz ob u=>obtain ⟨e,_⟩:=x; exact ⟨_,e⟩
 | tbl ps=>exact ⟨_,(x)⟩
 | met f y=>exact ⟨_,(show h.get? a=some _ from x)⟩
 | ext φ=>exact x.2.1
section
variable {X:Cx} {Pn:My (Pz×Obj)} {σ:St} {H:Hp} {s:PD}
theorem Inv.JN (I:Inv X Pn σ H s) (hn:H a=none) (h0:X.s₀.heap.get? a=none) (hl:a≠X.env.locals) (hc:∀ x c,X.env.cells.lookup x=some c->c≠a) (hp:∀ p ∈ X.pn++Pn,p.1≠a)
  (ok:dg X.prog X.w (upd H a o) s.heap a o):Inv X Pn σ (upd H a o) s:=by
 have n0:∀ b u,X.s₀.heap.get? b=some u->b≠a:=λ b u e z=>by rw [z,h0] at e; cases e
 have nH:∀ b u,H b=some u->b≠a:=λ b u e z=>by rw [z,hn] at e; cases e
 refine ⟨I.ok,I.os,I.bare,⟨I.base.keep,I.base.slot,λ b u e n hx=>?_,I.base.there,λ b xs e=>?_,λ b u xs e=>?_,λ b ps e=>?_⟩,I.loc,I.cell,?_,λ x c e=>?_,λ p h=>?_,λ b u e=>?_,I.len⟩
 · rw [au (n0 b u e)]; exact I.base.free b u e n hx
 · have z:=I.base.qQ b xs e; rw [au (nH b _ z)]; exact z
 · have z:=I.base.ql b u xs e; rw [au (nH b _ z)]; exact z
 ·obtain ⟨more,z⟩:=I.base.qR b ps e
  exact ⟨more,by rw [au (nH b _ z)]; exact z⟩
 · rw [au (Ne.symm hl)]; exact I.free
 · rw [au (hc x c e)]; exact I.ic x c e
 ·obtain ⟨z1,z2,z3⟩:=I.pin p h
  exact ⟨z1,by rw [au (hp p h)]; exact z2,z3⟩
 ·by_cases hb:b=a
  · subst hb; rw [ay] at e; cases e; exact ok
  ·rw [au hb] at e
   exact (I.hok b u e).vX (λ _ _ _ q=>q) (λ c q=>by rw [au (nH c _ q)]; exact q) λ c xs q=>by rw [au (nH c _ q)]; exact q
theorem jz (I:Inv X Pn σ H s) (hN:X.N.Nodup) (hi:X.N[i]?=some n) (hk:X.env.scope.names.lookup n=some .local)
  (h:∀ s',Inv X Pn (σ.set i none) H s'->Q () s'):wpAny M A (do bindName X.env n .none; unbindBehindTheSuite X.env n pos) Q E s:=by
 obtain ⟨m,hn,hl⟩:=id I.loc;have hcls:(X.env.scope.kind == .class||(X.env.scope.kind == .module&&X.env.locals != X.env.globals))=false:=by rw [I.ok.kind]; rfl
 have below:∀ b o,X.s₀.heap.get? b=some o->b≠X.env.locals:=λ b o e=>Z2 (Zx (Zs e) I.ok.above)
 refine wpAny_nameGoes_keeps hk hn hcls λ h' v hn' hs=>h _ ⟨I.ok,I.os,I.bare,⟨λ b o e z hb hx=>?_,λ b o e z hb hx=>?_,I.base.free,λ b o e hx=>?_,I.base.qQ,I.base.ql,I.base.qR⟩,⟨_,hn',λ j y v' e1 e2 e3=>?_⟩,λ y c e=>?_,I.free,I.ic,λ p hp=>?_,λ b o e=>?_,by simpa using I.len⟩
 · exact (hs.2 b (below b o e)).trans (I.base.keep b o e z hb hx)
 ·obtain ⟨sl,e1⟩:=I.base.slot b o e z hb hx
  exact ⟨sl,(hs.2 b (below b o e)).trans e1⟩
 ·obtain ⟨o',e1⟩:=I.base.there b o e hx
  exact ⟨o',(hs.2 b (below b o e)).trans e1⟩
 ·have hj:j≠i:=λ z=>by
   subst z;have hlt:j < σ.length:=by rw [I.len]; exact (List.getElem?_eq_some_iff.mp hi).1
   rw [List.getElem?_set_self hlt] at e2;cases e2
  rw [List.getElem?_set_ne (Ne.symm hj)] at e2;obtain ⟨u,r,q⟩:=hl j y v' e1 e2 e3;refine ⟨u,r,?_⟩;rcases q with ⟨k,e⟩ | ⟨k,c,e,z⟩
  ·refine .inl ⟨k,?_⟩
   have ne:y≠n:=λ z=>hj (ot hN e1 (z ▸ hi))
   show (if y=n then v else m y)=some u;rw [if_neg ne];exact e
  · exact .inr ⟨k,c,e,z.sameBut hs (I.cne y c e)⟩
 ·obtain ⟨v',z⟩:=I.cell y c e
  exact ⟨v',z.sameBut hs (I.cne y c e)⟩
 ·obtain ⟨z1,z2,z3,z4⟩:=I.pin p hp
  exact ⟨(hs.2 _ z3).trans z1,z2,z3,z4⟩
 ·refine (I.hok b o e).vX (λ c u hc q=>(hs.2 c ?_).trans q) (λ _ q=>q) λ _ _ q=>q
  rintro rfl
  rcases hc with z | z
  · rw [<- z,I.free] at e; cases e
  · rw [I.free] at z; cases z
end
section
variable {X:Cx} {x n:Str} {C:Pz} {i:Nat} {p pos:Pos} {b₀:Stmt} {Pw:My Stmt} {rest:My ExceptHandler} {ts:TS} {th:THn}
def B6 (i:Nat) (D:Ends):Ends:={ nx:=λ σ H=>D.nx (σ.set i none) H,rt:=D.rt,bk:=λ σ H=>D.bk (σ.set i none) H,ct:=λ σ H=>D.ct (σ.set i none) H }
def N6 (K:Frag) (C:Pz) (i:Nat) (ts:TS) (th:THn):THn:=λ D σ H ea cls=>∃ b,exmOne K cls (.ref C)=some b/\if b=true then ∃ Dc,cls=.ref Dc/\(H ea=none->ts (B6 i D) (σ.set i (some (.ref ea))) (upd H ea (.ext (uL ea Dc)))) else th D σ H ea cls
theorem J9 (hN:X.N.Nodup) (hi:X.N[i]?=some n) (hk:X.env.scope.names.lookup n=some .local) (hg:Gl X x) (hm:X.mg x=some (.ref C)) (hs:∀ ea,PSs (pY X ea) (b₀::Pw) ts) (hr:PH X rest th) (hex:X.ex=[]:=by rfl) (hd:Dg x:=by decide):PH X (.ExceptHandler (some (.Name x p)) (some n) (b₀::Pw) pos::rest) (N6 X.K C i ts th):=by
 intro Pn s0 s σ H H' D ea cls a0 B I F ho hb fl h;obtain ⟨b,he,h⟩:=h;have I1:=F.inv I ho hb fl.1
 have LT:Looks (model X.prog X.w) s.heap (typeOf (.ref ea)) cls:=by
  obtain ⟨ob,hob,hc⟩:=fl.there;subst hc;exact (Looks.ld hob).andThen .now
 refine wpAny_handleBy_cons (codeAny_handlers_test (AJ I1 hg hm ((exm_one I1.kIn LT he).here ?_) hd)) (by intro q; cases q)
 cases b with
 | false=>exact hr Pn s0 s σ H H' D ea cls a0 B I F ho hb fl h
 | true=>
  obtain ⟨Dc,rfl,h⟩:=h;refine codeAny_handlers_suite_as (lands_againW fl λ h6 fl6 sm6=>?_);have F6:=F.step fl6.1 sm6 (xQ fl.2.2.1);have I6:=F6.inv (s:={ s with heap:=h6 }) I ho hb fl6.1;obtain ⟨oe,vs,T,oT,ts',heq,⟨hcl,_⟩,hdat,_⟩:=fl6.2.2.2
  have fresh0:s0.heap.get? ea=none:=by
   cases q:s0.heap.get? ea with
   | none=>rfl
   | some o=>
    by_cases hf:ea ∈ frs X.stack
    · exact absurd hdat (xQ fl6.2.2.1 ea hf oe heq vs)
    ·obtain ⟨o',e'⟩:=F.EM ea o q hf
     rw [fl.2.1] at e'; cases e'
  have nH:H' ea=none:=by
   cases q:H' ea with
   | none=>rfl
   | some o=>
    obtain ⟨u,e'⟩:=(F.hok ea o q).there;rw [fl.2.1] at e'; cases e'
  have up:∀ b o,s0.heap.get? b=some o->b≠ea:=λ b o e z=>by rw [z,fresh0] at e; cases e
  have e0:X.s₀.heap.get? ea=none:=by
   cases q:X.s₀.heap.get? ea with
   | none=>rfl
   | some o=>
    by_cases hx:ea ∈ X.ex
    · rw [hex] at hx; cases hx
    ·obtain ⟨o',e'⟩:=I.base.there ea o q hx
     rw [fresh0] at e'; cases e'
  have I7:Inv X Pn σ (upd H' ea (.ext (uL ea Dc))) { s with heap:=h6 }:=by
   refine I6.JN nH e0 ?_ (λ y c e=>?_) (λ p hp=>?_) ⟨⟨oe,heq,hcl⟩,⟨oe,heq⟩,λ h1 h2 ⟨o,q1,q2⟩ k=>⟨o,k _ q1,q2⟩⟩
   ·intro z
    obtain ⟨m,⟨o,_,_,ho',_⟩,_⟩:=I.loc;exact up _ o ho' z.symm
   ·obtain ⟨v,o,ho',_⟩:=I.cell y c e
    exact up _ o ho'
   · exact up _ _ (I.pin p hp).1
  refine lA I7 hN hi (.inl hk) (v:=.ref ea) rfl (λ s2 I8 _=>?_) (.inr hk);refine Yu (hs ea Pn s2 _ _ (B6 i D) I8.mark (h nH)) (λ f s3 q=>?_) λ _ _ q=>q.elim
  have q':=q.unmark I.ok
  cases f with
  | next=>obtain ⟨σ',H2,I9,q9⟩:=q'; exact jz I9 hN hi hk λ s4 I10=>⟨_,H2,I10,q9⟩
  | brk=>obtain ⟨σ',H2,I9,q9⟩:=q'; exact jz I9 hN hi hk λ s4 I10=>⟨_,H2,I10,q9⟩
  | cont=>obtain ⟨σ',H2,I9,q9⟩:=q'; exact jz I9 hN hi hk λ s4 I10=>⟨_,H2,I10,q9⟩
  | ret u=>obtain ⟨v,σ',H2,I9,r,q9⟩:=q'; exact jz I9 hN hi hk λ s4 I10=>⟨v,_,H2,I10,r,q9⟩
theorem zl:fw X (.builtin "isinstance") (λ xs H Q=>∃ a D c b,xs=[.ref a,c]/\((∃ n,c=.ty n)\/∃ a,c=.ref a)/\H a=some (.ext (uL a D))/\yL X.K D=true/\kitOne X.K (.ref D) (MH c)=some b/\Q (.bl b) H):=by
 intro Pn s σ H xs us Q I r h;obtain ⟨a,D,c,b,rfl,hc,hH,ok,e,q⟩:=h;obtain ⟨u,w',rfl,ru,rw'⟩:=vals2 r;cases (ru)
 have e2:w'=MH c:=by
  rcases hc with ⟨n,rfl⟩ | ⟨a,rfl⟩
  · exact rw'
  · exact rw'
 subst e2;exact kia_one (yg ok) I.kIn (I.hok _ _ hH).1 e (λ z=>nomatch z) λ tk=>⟨.bl b,H,I.tok tk,rfl,q⟩
end
theorem Ht {X:Cx} {K:Frag} (hK:X.K=K):fw X (.builtin "isinstance") (λ xs H Q=>∃ a D c b,xs=[.ref a,c]/\((∃ n,c=.ty n)\/∃ a,c=.ref a)/\H a=some (.ext (uL a D))/\yL K D=true/\kitOne K (.ref D) (MH c)=some b/\Q (.bl b) H):=by
 subst hK;exact zl
end L2
end
section
namespace L2
theorem g54 {α β γ δ ε:Sort _} {A B C D:α->β->γ->δ->ε->Prop} {P:Prop} (h:∃ a b c d e,A a b c d e/\B a b c d e/\C a b c d e/\D a b c d e) (k:∀ a b c d e,A a b c d e->B a b c d e->C a b c d e->D a b c d e->P):P:=let ⟨_,_,_,_,_,x0,x1,x2,x3⟩:=h; k _ _ _ _ _ x0 x1 x2 x3
theorem g53 {α β γ δ ε:Sort _} {A B C:α->β->γ->δ->ε->Prop} {P:Prop} (h:∃ a b c d e,A a b c d e/\B a b c d e/\C a b c d e) (k:∀ a b c d e,A a b c d e->B a b c d e->C a b c d e->P):P:=let ⟨_,_,_,_,_,x0,x1,x2⟩:=h; k _ _ _ _ _ x0 x1 x2
theorem g64 {α β γ δ ε ζ:Sort _} {A B C D:α->β->γ->δ->ε->ζ->Prop} {P:Prop} (h:∃ a b c d e f,A a b c d e f/\B a b c d e f/\C a b c d e f/\D a b c d e f) (k:∀ a b c d e f,A a b c d e f->B a b c d e f->C a b c d e f->D a b c d e f->P):P:=let ⟨_,_,_,_,_,_,x0,x1,x2,x3⟩:=h; k _ _ _ _ _ _ x0 x1 x2 x3
theorem g45 {α β γ δ:Sort _} {A B C D E:α->β->γ->δ->Prop} {P:Prop} (h:∃ a b c d,A a b c d/\B a b c d/\C a b c d/\D a b c d/\E a b c d) (k:∀ a b c d,A a b c d->B a b c d->C a b c d->D a b c d->E a b c d->P):P:=let ⟨_,_,_,_,x0,x1,x2,x3,x4⟩:=h; k _ _ _ _ x0 x1 x2 x3 x4
theorem g34 {α β γ:Sort _} {A B C D:α->β->γ->Prop} {P:Prop} (h:∃ a b c,A a b c/\B a b c/\C a b c/\D a b c) (k:∀ a b c,A a b c->B a b c->C a b c->D a b c->P):P:=let ⟨_,_,_,x0,x1,x2,x3⟩:=h; k _ _ _ x0 x1 x2 x3
theorem g73 {α β δ ε ζ η:Sort _} {N:β->Prop} {A B C:α->β->δ->ε->ζ->η->Prop} {P:Prop} (h:∃ a b,∃ (_:N b),∃ d e f g,A a b d e f g/\B a b d e f g/\C a b d e f g) (k:∀ a b,N b->∀ d e f g,A a b d e f g->B a b d e f g->C a b d e f g->P):P:=let ⟨_,_,y,_,_,_,_,x0,x1,x2⟩:=h; k _ _ y _ _ _ _ x0 x1 x2
theorem g83 {α β δ ε ζ η θ:Sort _} {N:β->Prop} {A B C:α->β->δ->ε->ζ->η->θ->Prop} {P:Prop} (h:∃ a b,∃ (_:N b),∃ d e f g h,A a b d e f g h/\B a b d e f g h/\C a b d e f g h) (k:∀ a b,N b->∀ d e f g h,A a b d e f g h->B a b d e f g h->C a b d e f g h->P):P:=let ⟨_,_,y,_,_,_,_,_,x0,x1,x2⟩:=h; k _ _ y _ _ _ _ _ x0 x1 x2
theorem g84 {α β δ ε ζ η θ:Sort _} {N:β->Prop} {A B C D:α->β->δ->ε->ζ->η->θ->Prop} {P:Prop} (h:∃ a b,∃ (_:N b),∃ d e f g h,A a b d e f g h/\B a b d e f g h/\C a b d e f g h/\D a b d e f g h) (k:∀ a b,N b->∀ d e f g h,A a b d e f g h->B a b d e f g h->C a b d e f g h->D a b d e f g h->P):P:=let ⟨_,_,y,_,_,_,_,_,x0,x1,x2,x3⟩:=h; k _ _ y _ _ _ _ _ x0 x1 x2 x3
theorem g94 {α β δ ε ζ η θ ι:Sort _} {N:β->Prop} {A B C D:α->β->δ->ε->ζ->η->θ->ι->Prop} {P:Prop} (h:∃ a b,∃ (_:N b),∃ d e f g h i,A a b d e f g h i/\B a b d e f g h i/\C a b d e f g h i/\D a b d e f g h i) (k:∀ a b,N b->∀ d e f g h i,A a b d e f g h i->B a b d e f g h i->C a b d e f g h i->D a b d e f g h i->P):P:=let ⟨_,_,y,_,_,_,_,_,_,x0,x1,x2,x3⟩:=h; k _ _ y _ _ _ _ _ _ x0 x1 x2 x3
end L2
end
section
namespace L2
open PySem PySem.Spec PyProof.Rows
inductive D where
 | non | bl (b:Bool) | int (i:Int) | str (x:Str) | ty (n:String)
 | tup (ds:List D) | lst (ds:List D) | fz (ds:List D) | dct (kvs:List (Key×D)) | obj (C:Addr) (fs:List (Str×D)) | cls (C:Addr) | dfz (kvs:List (Key×D))
mutual
inductive Rp (K:W.Frag) (H:Hp):V->D->Prop where
 | non:Rp K H .non .non
 | bl (b:Bool):Rp K H (.bl b) (.bl b)
 | int (i:Int):Rp K H (.int i) (.int i)
 | str (x:Str):Rp K H (.str x) (.str x)
 | ty (n:String):Rp K H (.ty n) (.ty n)
 | cls (C:Addr):Rp K H (.ref C) (.cls C)
 | tup {a:Addr} {xs:List V} {ds:List D} (h:SqT K H a xs) (r:Rps K H xs ds):Rp K H (.ref a) (.tup ds)
 | lst {a:Addr} {xs:List V} {ds:List D} (h:H a=some (.lst xs)) (r:Rps K H xs ds):Rp K H (.ref a) (.lst ds)
 | fz {a:Addr} {xs:List V} {ds:List D} (h:SqL K H a xs) (r:Rps K H xs ds):Rp K H (.ref a) (.fz ds)
 | dct {a:Addr} {kvs:List (Key×V)} {ds:List (Key×D)} (h:H a=some (.dK kvs)) (r:RpK K H kvs ds):Rp K H (.ref a) (.dct ds)
 | obj {a C dx:Addr} {fs:List (Str×V)} {ds:List (Str×D)} (h:H a=some (.ins C dx fs)) (r:RpF K H fs ds):Rp K H (.ref a) (.obj C ds)
 | dfz {a:Addr} {kvs:List (Key×V)} {ds:List (Key×D)} (h:Rd H a (.dK kvs)) (r:RpK K H kvs ds):Rp K H (.ref a) (.dfz ds)
inductive Rps (K:W.Frag) (H:Hp):List V->List D->Prop where
 | nil:Rps K H [] []
 | cons {x:V} {d:D} {xs:List V} {ds:List D} (h:Rp K H x d) (r:Rps K H xs ds):Rps K H (x::xs) (d::ds)
inductive RpK (K:W.Frag) (H:Hp):List (Key×V)->List (Key×D)->Prop where
 | nil:RpK K H [] []
 | cons {k:Key} {x:V} {d:D} {xs:List (Key×V)} {ds:List (Key×D)} (h:Rp K H x d) (r:RpK K H xs ds):RpK K H ((k,x)::xs) ((k,d)::ds)
inductive RpF (K:W.Frag) (H:Hp):List (Str×V)->List (Str×D)->Prop where
 | nil:RpF K H [] []
 | cons {k:Str} {x:V} {d:D} {xs:List (Str×V)} {ds:List (Str×D)} (h:Rp K H x d) (r:RpF K H xs ds):RpF K H ((k,x)::xs) ((k,d)::ds)
end
section
variable {K:PB} {H H':Hp}
mutual
theorem Rp.same (g:cc H H'):∀ {v:V} {d:D},Rp K H v d->Rp K H' v d
 | _,_,.non=>.non
 | _,_,.bl b=>.bl b
 | _,_,.int i=>.int i
 | _,_,.str x=>.str x
 | _,_,.ty n=>.ty n
 | _,_,.cls n=>.cls n
 | _,_,.tup h r=>.tup (g.tup h) (Rps.same g r)
 | _,_,.lst h r=>.lst (g _ _ h) (Rps.same g r)
 | _,_,.fz h r=>.fz (g.seq h) (Rps.same g r)
 | _,_,.dct h r=>.dct (g _ _ h) (RpK.same g r)
 | _,_,.obj h r=>.obj (g _ _ h) (RpF.same g r)
 | _,_,.dfz h r=>.dfz (h.elim (λ z=>.inl (g _ _ z)) λ ⟨o,z⟩=>.inr ⟨o,g _ _ z⟩) (RpK.same g r)
theorem Rps.same (g:cc H H'):∀ {v:My V} {d:My D},Rps K H v d->Rps K H' v d
 | _,_,.nil=>.nil
 | _,_,.cons h r=>.cons (Rp.same g h) (Rps.same g r)
theorem RpK.same (g:cc H H'):∀ {v:My (Key×V)} {d:My (Key×D)},RpK K H v d->RpK K H' v d
 | _,_,.nil=>.nil
 | _,_,.cons h r=>.cons (Rp.same g h) (RpK.same g r)
theorem RpF.same (g:cc H H'):∀ {v:My (Str×V)} {d:My (Str×D)},RpF K H v d->RpF K H' v d
 | _,_,.nil=>.nil
 | _,_,.cons h r=>.cons (Rp.same g h) (RpF.same g r)
end
theorem Rps.length:∀ {xs:My V} {ds:My D},Rps K H xs ds->xs.length=ds.length
 | _,_,.nil=>rfl
 | _,_,.cons _ r=>Yo (·+1) r.length
theorem Rps.get:∀ {xs:My V} {ds:My D} {i:Nat} {d:D},Rps K H xs ds->ds[i]?=some d->∃ x,xs[i]?=some x/\Rp K H x d
 | _,_,_,_,.nil,e=>by simp at e
 | _,_,0,_,.cons h _,e=>by simp at e; subst e; exact ⟨_,by simp,h⟩
 | _,_,i+1,d,.cons _ r,e=>by
  obtain ⟨x,h1,h2⟩:=Rps.get (i:=i) (d:=d) r (by simpa using e);exact ⟨x,by simpa using h1,h2⟩
theorem Rps.append:∀ {xs ys:My V} {ds es:My D},Rps K H xs ds->Rps K H ys es->Rps K H (xs++ys) (ds++es)
 | _,_,_,_,.nil,h=>h
 | _,_,_,_,.cons h r,h'=>.cons h (Rps.append r h')
theorem Rps.take:∀ {xs:My V} {ds:My D} (n:Nat),Rps K H xs ds->Rps K H (xs.take n) (ds.take n)
 | _,_,0,_=>.nil
 | _,_,_+1,.nil=>.nil
 | _,_,n+1,.cons h r=>.cons h (Rps.take n r)
theorem Rps.drop:∀ {xs:My V} {ds:My D} (n:Nat),Rps K H xs ds->Rps K H (xs.drop n) (ds.drop n)
 | _,_,0,h=>h
 | _,_,_+1,.nil=>.nil
 | _,_,n+1,.cons _ r=>Rps.drop n r
theorem Rps.ints:∀ (ns:My Int),Rps K H (ns.map V.int) (ns.map D.int)
 | []=>.nil
 | n::ns=>.cons (.int n) (Rps.ints ns)
end
structure Ext (Hs H Hs' H':Hp):Prop where
 ss:cc Hs Hs'
 sh:cc Hs' H'
 hh:cc H H'
 fr:∀ b,Hs b=none->H b≠none->Hs' b=none
def Ext.refl (h:cc Hs H):Ext Hs H Hs H:=⟨.refl _,h,.refl _,λ _ h _=>h⟩
def iY {α:Type} {o:Px α} {x:α} (h:o=some x):o≠none:=by rw [h]; simp
def cc.live (g:cc H H') (h:H b≠none):H' b≠none:=by
 cases q:H b with
 | none=>exact absurd q h
 | some o=>rw [g _ _ q]; simp
theorem Ext.trans (a:Ext Hs H Hs1 H1) (b:Ext Hs1 H1 Hs2 H2):Ext Hs H Hs2 H2:=
 ⟨a.ss.trans b.ss,b.sh,a.hh.trans b.hh,λ c h1 h2=>b.fr c (a.fr c h1 h2) (a.hh.live h2)⟩
theorem Ext.new (h:cc Hs H) (hp:H p=none) (o:HO):Ext Hs H (upd Hs p o) (upd H p o):=by
 refine ⟨aC (h.free hp) o,λ b u q=>?_,aC hp o,λ b h1 h2=>?_⟩
 ·by_cases e:b=p
  · subst e; rw [ay] at q ⊢; exact q
  · rw [au e] at q ⊢; exact h _ _ q
 ·by_cases e:b=p
  · subst e; exact absurd hp h2
  · rw [au e]; exact h1
inductive Sl where
 | no | shr (d:D) | own (d:D)
inductive Ow (K:W.Frag) (Hs H:Hp) (a:Addr):D->Prop where
 | lst {xs:List V} {ds:List D} (h:H a=some (.lst xs)) (n:Hs a=none) (r:Rps K Hs xs ds):Ow K Hs H a (.lst ds)
 | dct {kvs:List (Key×V)} {ds:List (Key×D)} (h:H a=some (.dK kvs)) (n:Hs a=none) (r:RpK K Hs kvs ds):Ow K Hs H a (.dct ds)
def Ow.hid {K:PB} {Hs H:Hp} {a:Pz} {d:D} (h:Ow K Hs H a d):Hs a=none:=by cases h <;> assumption
def Ow.live {K:PB} {Hs H:Hp} {a:Pz} {d:D} (h:Ow K Hs H a d):H a≠none:=by
 cases h with
 | lst h _ _=>exact iY h
 | dct h _ _=>exact iY h
theorem Ow.ext {K:PB} {Hs H Hs' H':Hp} {a:Pz} {d:D} (g:Ext Hs H Hs' H') (h:Ow K Hs H a d):Ow K Hs' H' a d:=by
 have n':=g.fr a h.hid h.live
 cases h with
 | lst h n r=>exact .lst (g.hh _ _ h) n' (r.same g.ss)
 | dct h n r=>exact .dct (g.hh _ _ h) n' (r.same g.ss)
theorem Ow.off {K:PB} {Hs H H':Hp} {a:Pz} {d:D} (h:Ow K Hs H a d) (e:H' a=H a):Ow K Hs H' a d:=by
 cases h with
 | lst h n r=>exact .lst (e.trans h) n r
 | dct h n r=>exact .dct (e.trans h) n r
inductive StR (K:W.Frag) (H0 Hs H:Hp):List (Option V)->List Sl->List Addr->Prop where
 | nil:StR K H0 Hs H [] [] []
 | no {o:Option V} {σ:List (Option V)} {τ:List Sl} {fp:List Addr} (r:StR K H0 Hs H σ τ fp):StR K H0 Hs H (o::σ) (.no::τ) fp
 | shr {v:V} {d:D} {σ:List (Option V)} {τ:List Sl} {fp:List Addr} (h:Rp K Hs v d) (r:StR K H0 Hs H σ τ fp):StR K H0 Hs H (some v::σ) (.shr d::τ) fp
 | own {a:Addr} {d:D} {σ:List (Option V)} {τ:List Sl} {fp:List Addr} (h:Ow K Hs H a d) (z:H0 a=none) (m:a ∉ fp) (r:StR K H0 Hs H σ τ fp):StR K H0 Hs H (some (.ref a)::σ) (.own d::τ) (a::fp)
section
variable {K:PB} {H0 Hs H Hs' H':Hp} {σ:My (Px V)} {τ:My Sl} {fp:My Pz}
theorem StR.ext (g:Ext Hs H Hs' H') (h:StR K H0 Hs H σ τ fp):StR K H0 Hs' H' σ τ fp:=by
 induction h with
 | nil=>exact .nil
 | no _ ih=>exact .no ih
 | shr h _ ih=>exact .shr (h.same g.ss) ih
 | own h z m _ ih=>exact .own (h.ext g) z m ih
theorem StR.off (h:StR K H0 Hs H σ τ fp) (m:a ∉ fp):StR K H0 Hs (upd H a o) σ τ fp:=by
 induction h with
 | nil=>exact .nil
 | no _ ih=>exact .no (ih m)
 | shr h _ ih=>exact .shr h (ih m)
 | @own b d σ τ fp h z n _ ih=>
  have ne:b≠a:=λ e=>m (by rw [e]; exact Zd ..)
  exact .own (h.off (au ne)) z n (ih (λ q=>m (Za _ q)))
theorem StR.Er (h:StR K H0 Hs H σ τ fp):∀ a ∈ fp,Hs a=none/\H0 a=none/\H a≠none:=by
 induction h with
 | nil=>intro a h; cases h
 | no _ ih=>exact ih
 | shr _ _ ih=>exact ih
 | own h z m _ ih=>
  intro b hb;rcases Zh.mp hb with e | e
  · subst e; exact ⟨h.hid,z,h.live⟩
  · exact ih b e
theorem StR.get {i:Nat} {d:D} (h:StR K H0 Hs H σ τ fp):τ[i]?=some (.shr d)->∃ v,σ[i]?=some (some v)/\Rp K Hs v d:=by
 induction h generalizing i with
 | nil=>intro e; simp at e
 | no _ ih=>
  intro e
  cases i with
  | zero=>simp at e
  | succ i=>exact ih (by simpa using e)
 | shr h _ ih=>
  intro e
  cases i with
  | zero=>simp at e; subst e; exact ⟨_,rfl,h⟩
  | succ i=>exact ih (by simpa using e)
 | own _ _ _ _ ih=>
  intro e
  cases i with
  | zero=>simp at e
  | succ i=>exact ih (by simpa using e)
theorem StR.Em {i:Nat} {d:D} (h:StR K H0 Hs H σ τ fp):τ[i]?=some (.own d)->∃ a,σ[i]?=some (some (.ref a))/\Ow K Hs H a d/\H0 a=none/\a ∈ fp:=by
 induction h generalizing i with
 | nil=>intro e; simp at e
 | no _ ih=>
  intro e
  cases i with
  | zero=>simp at e
  | succ i=>exact ih (by simpa using e)
 | shr h _ ih=>
  intro e
  cases i with
  | zero=>simp at e
  | succ i=>exact ih (by simpa using e)
 | own h z m _ ih=>
  intro e
  cases i with
  | zero=>simp at e; subst e; exact ⟨_,rfl,h,z,Zd ..⟩
  | succ i=>
   obtain ⟨a,h1,h2,h3,h4⟩:=ih (by simpa using e);exact ⟨a,h1,h2,h3,Za _ h4⟩
theorem StR.zN (hv:Rp K Hs v d) (h:StR K H0 Hs H σ τ fp):∃ fp',(∀ a ∈ fp',a ∈ fp)/\StR K H0 Hs H (σ.set i (some v)) (τ.set i (.shr d)) fp':=by
 induction h generalizing i with
 | nil=>exact ⟨[],λ _ h=>h,.nil⟩
 | no r ih=>
  cases i with
  | zero=>exact ⟨_,λ _ h=>h,.shr hv r⟩
  | succ i=>obtain ⟨fp',h1,h2⟩:=ih; exact ⟨fp',h1,.no h2⟩
 | shr h r ih=>
  cases i with
  | zero=>exact ⟨_,λ _ h=>h,.shr hv r⟩
  | succ i=>obtain ⟨fp',h1,h2⟩:=ih (i:=i); exact ⟨fp',h1,.shr h h2⟩
 | own h z m r ih=>
  cases i with
  | zero=>exact ⟨_,λ _ h=>Za _ h,.shr hv r⟩
  | succ i=>
   obtain ⟨fp',h1,h2⟩:=ih (i:=i);exact ⟨_::fp',λ b hb=>(Zh.mp hb).elim (λ e=>by subst e; exact Zd ..) λ e=>Za _ (h1 b e),.own h z (λ q=>m (h1 _ q)) h2⟩
theorem StR.Oi (hv:Ow K Hs H a d) (z0:H0 a=none) (h:StR K H0 Hs H σ τ fp) (m0:a ∉ fp) (hi:i < τ.length):∃ fp',(∀ b ∈ fp',b=a\/b ∈ fp)/\StR K H0 Hs H (σ.set i (some (.ref a))) (τ.set i (.own d)) fp':=by
 induction h generalizing i with
 | nil=>exact absurd hi (by simp)
 | @no o σ τ fp r ih=>
  cases i with
  | zero=>exact ⟨a::fp,λ b h=>Zh.mp h,.own hv z0 m0 r⟩
  | succ i=>obtain ⟨fp',h1,h2⟩:=ih m0 (by simpa using hi); exact ⟨fp',h1,.no h2⟩
 | @shr v d σ τ fp h r ih=>
  cases i with
  | zero=>exact ⟨a::fp,λ b h=>Zh.mp h,.own hv z0 m0 r⟩
  | succ i=>obtain ⟨fp',h1,h2⟩:=ih m0 (i:=i) (by simpa using hi); exact ⟨fp',h1,.shr h h2⟩
 | @own b d' σ τ fp h z m r ih=>
  have m1:a ∉ fp:=λ q=>m0 (Za _ q)
  cases i with
  | zero=>exact ⟨a::fp,λ c hc=>(Zh.mp hc).imp id λ e=>Za _ e,.own hv z0 m1 r⟩
  | succ i=>
   obtain ⟨fp',h1,h2⟩:=ih m1 (i:=i) (by simpa using hi);refine ⟨b::fp',λ c hc=>?_,.own h z (λ q=>?_) h2⟩
   ·rcases Zh.mp hc with e | e
    · exact .inr (by subst e; exact Zd ..)
    · exact (h1 c e).imp id λ e=>Za _ e
   ·rcases h1 _ q with e | e
    · exact m0 (by rw [<- e]; exact Zd ..)
    · exact m e
theorem StR.mut {i:Nat} {a:Pz} {d d':D} {o:HO} (h:StR K H0 Hs H σ τ fp):τ[i]?=some (.own d)->σ[i]?=some (some (.ref a))->Ow K Hs (upd H a o) a d'->StR K H0 Hs (upd H a o) σ (τ.set i (.own d')) fp:=by
 induction h generalizing i with
 | nil=>intro e; simp at e
 | no _ ih=>
  intro e e2 hv
  cases i with
  | zero=>simp at e
  | succ i=>exact .no (ih (by simpa using e) (by simpa using e2) hv)
 | shr h _ ih=>
  intro e e2 hv
  cases i with
  | zero=>simp at e
  | succ i=>exact .shr h (ih (by simpa using e) (by simpa using e2) hv)
 | @own b d1 σ τ fp h z m r ih=>
  intro e e2 hv
  cases i with
  | zero=>
   have q:b=a:=by simpa using e2
   subst q;exact .own hv z m (r.off m)
  | succ i=>
   have e':τ[i]?=some (.own d):=by simpa using e
   have e2':σ[i]?=some (some (.ref a)):=by simpa using e2
   obtain ⟨c,h1,h2,h3,h4⟩:=r.Em e';have q:c=a:=by rw [e2'] at h1; simpa using h1.symm
   subst q;have ne:b≠c:=λ e=>m (by rw [e]; exact h4)
   exact .own (h.off (au ne)) z m (ih e' e2' hv)
end
theorem Ow.rp {K:PB} {Hs H:Hp} {a:Pz} {d:D} (h:Ow K Hs H a d):∃ o,H a=some o/\Rp K (upd Hs a o) (.ref a) d:=by
 cases h with
 | lst h n r=>exact ⟨_,h,.lst ay (r.same (aC n _))⟩
 | dct h n r=>exact ⟨_,h,.dct ay (r.same (aC n _))⟩
section
variable {K:PB} {H0 Hs H Hs' H':Hp} {σ:My (Px V)} {τ:My Sl} {fp:My Pz}
theorem StR.Pe (h:StR K H0 Hs H σ τ fp) (n:Hs a=none) (m:a ∉ fp):StR K H0 (upd Hs a o) H σ τ fp:=by
 induction h with
 | nil=>exact .nil
 | no _ ih=>exact .no (ih m)
 | shr h _ ih=>exact .shr (h.same (aC n o)) (ih m)
 | @own b d σ τ fp h z k _ ih=>
  have ne:b≠a:=λ e=>m (by rw [e]; exact Zd ..)
  refine .own ?_ z k (ih (λ q=>m (Za _ q)))
  cases h with
  | lst h n' r=>exact .lst h (by rw [au ne]; exact n') (r.same (aC n o))
  | dct h n' r=>exact .dct h (by rw [au ne]; exact n') (r.same (aC n o))
theorem StR.frz {i:Nat} {d:D} (h:StR K H0 Hs H σ τ fp):τ[i]?=some (.own d)->∃ a o fp',H a=some o/\Hs a=none/\H0 a=none/\StR K H0 (upd Hs a o) H σ (τ.set i (.shr d)) fp'/\a ∉ fp'/\(∀ b ∈ fp',b ∈ fp)/\σ[i]?=some (some (.ref a))/\Ow K Hs H a d:=by
 induction h generalizing i with
 | nil=>intro e; simp at e
 | no _ ih=>
  intro e
  cases i with
  | zero=>simp at e
  | succ i=>
   obtain ⟨a,o,fp',h1,h2,h3,h4,h5,h6,h7,h8⟩:=ih (by simpa using e);exact ⟨a,o,fp',h1,h2,h3,.no h4,h5,h6,h7,h8⟩
 | shr h _ ih=>
  intro e
  cases i with
  | zero=>simp at e
  | succ i=>
   obtain ⟨a,o,fp',h1,h2,h3,h4,h5,h6,h7,h8⟩:=ih (i:=i) (by simpa using e);exact ⟨a,o,fp',h1,h2,h3,.shr (h.same (aC h2 o)) h4,h5,h6,h7,h8⟩
 | @own b d1 σ τ fp h z m r ih=>
  intro e
  cases i with
  | zero=>
   simp at e;subst e;obtain ⟨o,h1,h2⟩:=h.rp;exact ⟨b,o,fp,h1,h.hid,z,.shr h2 (r.Pe h.hid m),m,λ _ q=>Za _ q,rfl,h⟩
  | succ i=>
   obtain ⟨a,o,fp',h1,h2,h3,h4,h5,h6,h7,h8⟩:=ih (i:=i) (by simpa using e);obtain ⟨c,k1,k2,k3,k4⟩:=r.Em (i:=i) (by simpa using e);have q:c=a:=by rw [h7] at k1; simpa using k1.symm
   subst q;have ne:b≠c:=λ e=>m (by rw [e]; exact k4)
   refine ⟨c,o,b::fp',h1,h2,h3,.own ?_ z (λ q=>m (h6 _ q)) h4,?_,?_,h7,h8⟩
   ·cases h with
    | lst h n' r=>exact .lst h (by rw [au ne]; exact n') (r.same (aC h2 o))
    | dct h n' r=>exact .dct h (by rw [au ne]; exact n') (r.same (aC h2 o))
   ·intro q
    rcases Zh.mp q with e | e
    · exact ne e.symm
    · exact h5 e
   ·intro c' hc
    rcases Zh.mp hc with e | e
    · subst e; exact Zd ..
    · exact Za _ (h6 _ e)
end
abbrev DE:=My Sl->Px D
abbrev DT:=My Sl->Px Bool
abbrev DA:=My Sl->Px (My D)
inductive Out where
 | next (τ:List Sl) | ret (s:Sl) | brk (τ:List Sl) | cnt (τ:List Sl)
abbrev DS:=My Sl->Px Out
def SlV (K:PB) (H0 Hs H:Hp) (v:V):Sl->Prop
 | .no=>False
 | .shr d=>Rp K Hs v d
 | .own d=>∃ a,v=.ref a/\Ow K Hs H a d/\H0 a=none
structure Rep (K:W.Frag) (Hs0 H0 Hs H:Hp) (σ:St) (τ:List Sl):Prop where
 ext:Ext Hs0 H0 Hs H
 st:∃ fp,StR K H0 Hs H σ τ fp
def rdE (K:PB) (f:DE):TE:=λ σ H Q=>∃ H0 Hs τ fp d,StR K H0 Hs H σ τ fp/\cc Hs H/\f τ=some d/\∀ v Hs' H',Ext Hs H Hs' H'->Rp K Hs' v d->Q v H'
def rdT (K:PB) (f:DT):TT:=λ σ H Q=>∃ H0 Hs τ fp d,StR K H0 Hs H σ τ fp/\cc Hs H/\f τ=some d/\∀ Hs' H',Ext Hs H Hs' H'->Q d H'
def rdA (K:PB) (f:DA):TA:=λ σ H Q=>∃ H0 Hs τ fp d,StR K H0 Hs H σ τ fp/\cc Hs H/\f τ=some d/\∀ v Hs' H',Ext Hs H Hs' H'->Rps K Hs' v d->Q v H'
def rdO (K:PB) (f:DE):TE:=λ σ H Q=>∃ H0 Hs τ fp d,StR K H0 Hs H σ τ fp/\cc Hs H/\f τ=some d/\∀ a Hs' H',Ext Hs H Hs' H'->Ow K Hs' H' a d->H a=none->Q (.ref a) H'
def PEd (X:Cx) (e:Expr) (f:DE):Prop:=PE X e (rdE X.K f)
def PEo (X:Cx) (e:Expr) (f:DE):Prop:=PE X e (rdO X.K f)
def PTd (X:Cx) (e:Expr) (f:DT):Prop:=PT X e (rdT X.K f)
def PAd (X:Cx) (es:My Expr) (f:DA):Prop:=PA X es (rdA X.K f)
def Fin (K:PB) (Hs0 H0:Hp) (E:Ends):Out->Prop
 | .next τ=>∀ σ Hs H,Rep K Hs0 H0 Hs H σ τ->E.nx σ H
 | .brk τ=>∀ σ Hs H,Rep K Hs0 H0 Hs H σ τ->E.bk σ H
 | .cnt τ=>∀ σ Hs H,Rep K Hs0 H0 Hs H σ τ->E.ct σ H
 | .ret s=>∀ v Hs H,Ext Hs0 H0 Hs H->SlV K H0 Hs H v s->E.rt v H
def rdS (K:PB) (f:DS):TS:=λ E σ H=>∃ Hs0 H0 Hs τ o,Rep K Hs0 H0 Hs H σ τ/\f τ=some o/\Fin K Hs0 H0 E o
def PSd (X:Cx) (s:Stmt) (f:DS):Prop:=PS X s (rdS X.K f)
def zM (X:Cx) (s:My Stmt) (f:DS):Prop:=PSs X s (rdS X.K f)
def PE.imp (h:PE X e t) (hi:∀ σ H Q,t' σ H Q->t σ H Q):PE X e t':=λ Pn s σ H Q I q=>h Pn s σ H Q I (hi _ _ _ q)
def PT.imp (h:PT X e t) (hi:∀ σ H Q,t' σ H Q->t σ H Q):PT X e t':=λ Pn s σ H Q I q=>h Pn s σ H Q I (hi _ _ _ q)
def PA.imp (h:PA X e t) (hi:∀ σ H Q,t' σ H Q->t σ H Q):PA X e t':=λ pos Pn s σ H Q I q=>h pos Pn s σ H Q I (hi _ _ _ q)
def PS.imp (h:PS X e t) (hi:∀ E σ H,t' E σ H->t E σ H):PS X e t':=λ Pn s σ H E I q=>h Pn s σ H E I (hi _ _ _ q)
def PSs.imp (h:PSs X e t) (hi:∀ E σ H,t' E σ H->t E σ H):PSs X e t':=λ Pn s σ H E I q=>h Pn s σ H E I (hi _ _ _ q)
noncomputable def aI (i:Nat):DE:=λ τ=>match τ[i]? with | some (.shr d)=>some d | _=>none
def dC (d:D):DE:=λ _=>some d
def dOp (o:D->D->Px D) (f g:DE):DE:=λ τ=>(f τ).bind λ x=>(g τ).bind λ y=>o x y
def dUn (o:D->Px D) (f:DE):DE:=λ τ=>(f τ).bind o
def cN:DA:=λ _=>some []
def aF (f:DE) (g:DA):DA:=λ τ=>(f τ).bind λ x=>(g τ).bind λ xs=>some (x::xs)
def kX (o:My D->Px D) (f:DA):DE:=λ τ=>(f τ).bind o
def zP (f:DA):DE:=λ τ=>(f τ).bind λ ds=>if ds.length<=100000 then some (.tup ds) else none
def Fp (f:DA):DE:=λ τ=>(f τ).bind λ ds=>if ds.length<=100000 then some (.lst ds) else none
noncomputable def sL (f g:DE):DE:=λ τ=>(f τ).bind λ x=>match x with | .bl true=>g τ | .bl false=>some (.bl false) | _=>none
def Ia (f g:DE):DE:=λ τ=>(f τ).bind λ x=>match x with | .bl true=>some (.bl true) | .bl false=>g τ | _=>none
def MG (f:DE):DE:=λ τ=>(f τ).bind λ x=>match x with | .bl b=>some (.bl (!b)) | _=>none
def dT (f:DE):DT:=λ τ=>(f τ).bind λ x=>match x with | .bl b=>some b | _=>none
def B0 (f g:DT):DT:=λ τ=>(f τ).bind λ b=>if b=true then g τ else some false
def dOr (f g:DT):DT:=λ τ=>(f τ).bind λ b=>if b=true then some true else g τ
noncomputable def A2 (f:DT):DT:=λ τ=>(f τ).map (!·)
def le5 (h:n<=100000):n < sizeLine:=Nat.lt_of_le_of_lt h (by rw [Xz]; decide)
def vk (h:n<=100000):n<=sizeLine:=Xa (le5 h)
def nn {α:Type} {d:α} {p:Prop} (h:(none:Px α)=some d):p:=nomatch h
def Ub {α β:Type} {o:Px α} {f:α->Px β} {b:β} (h:o.bind f=some b):∃ a,o=some a/\f a=some b:=Option.bind_eq_some_iff.mp h
section
variable {X:Cx} {a b c e:Expr} {es:My Expr} {pos:Pos} {f g h:DE}
theorem iK (h:PE X e (tC v)) (r:∀ H,Rp X.K H v d):PEd X e (dC d):=
 h.imp λ σ H Q w0=>g54 w0 λ H0 Hs τ fp d' st sm e k=>by
  have e':=Zj e;subst e';exact k v Hs H (.refl sm) (r Hs)
def C0 (hg:Gl X x) (hm:X.mg x=some u) (r:RelV v u) (rd:∀ H,Rp X.K H v d) (hd:Dg x:=by decide):PEd X (.Name x pos) (dC d):=iK (jY hg hm r hd) rd
def rdR (K:PB) (o:D->D->Px D):R2:=λ x y H Q=>∃ Hs dx dy d,cc Hs H/\Rp K Hs x dx/\Rp K Hs y dy/\o dx dy=some d/\∀ v Hs' H',Ext Hs H Hs' H'->Rp K Hs' v d->Q v H'
def rdU (K:PB) (o:D->Px D):V->Hp->VK->Prop:=λ x H Q=>∃ Hs dx d,cc Hs H/\Rp K Hs x dx/\o dx=some d/\∀ v Hs' H',Ext Hs H Hs' H'->Rp K Hs' v d->Q v H'
def rdL (K:PB) (o:My D->Px D):My V->Hp->VK->Prop:=λ xs H Q=>∃ Hs ds d,cc Hs H/\Rps K Hs xs ds/\o ds=some d/\∀ v Hs' H',Ext Hs H Hs' H'->Rp K Hs' v d->Q v H'
theorem m3 (K:PB) (hh:rdE K (dOp o f g) σ H Q):tOp (rdR K o) (rdE K f) (rdE K g) σ H Q:=by
 obtain ⟨H0,Hs,τ,fp,d,st,sm,e,k⟩:=hh;obtain ⟨x,e1,e⟩:=Ub e;obtain ⟨y,e2,e⟩:=Ub e;refine ⟨H0,Hs,τ,fp,x,st,sm,e1,λ v Hs1 H1 g1 r1=>?_⟩;refine ⟨H0,Hs1,τ,fp,y,st.ext g1,g1.sh,e2,λ u Hs2 H2 g2 r2=>?_⟩;exact ⟨Hs2,x,y,d,g2.sh,r1.same g2.ss,r2,e,λ w Hs3 H3 g3 r3=>k w Hs3 H3 ((g1.trans g2).trans g3) r3⟩
theorem PEo.shr (h:PEo X e f):PEd X e f:=
 PE.imp h λ σ H Q w0=>g54 w0 λ H0 Hs τ fp d st sm e k=>⟨H0,Hs,τ,fp,d,st,sm,e,λ a Hs' H' g o z=>by
  obtain ⟨ob,h1,h2⟩:=o.rp;refine k _ (upd Hs' a ob) H' ⟨g.ss.trans (aC o.hid ob),λ b u q=>?_,g.hh,λ b h3 h4=>?_⟩ h2
  ·by_cases eb:b=a
   · subst eb; rw [ay] at q; rw [h1]; exact q
   · rw [au eb] at q; exact g.sh _ _ q
  ·by_cases eb:b=a
   · subst eb; exact absurd z h4
   · rw [au eb]; exact g.fr b h3 h4⟩
def PWd (X:Cx) (e:Expr) (f:DT):Prop:=PW X e (rdT X.K f)
def PW.imp (h:PW X e t) (hi:∀ σ H Q,t' σ H Q->t σ H Q):PW X e t':=λ wh Pn s σ H Q I q=>h wh Pn s σ H Q I (hi _ _ _ q)
def PWd.ptd {f:DT} (h:PWd X e f):PTd X e f:=PW.pt h
end
instance {i j:Int}:Decidable (Ca i j):=by unfold Ca; infer_instance
instance {i:Int}:Decidable (Sz i):=by unfold Sz; infer_instance
instance {i j:Int}:Decidable (JG i j):=by unfold JG; infer_instance
noncomputable def kU:D->D->Px D
 | .int i,.int j=>some (.int (i+j))
 | .str x,.str y=>if x.length+y.length<=100000 then some (.str (x++y)) else none
 | .lst x,.lst y=>if x.length+y.length<=100000 then some (.lst (x++y)) else none
 | _,_=>none
noncomputable def Fi:D->D->Px D
 | .int i,.int j=>some (.int (i - j))
 | _,_=>none
noncomputable def BG:D->D->Px D
 | .int i,.int j=>if Ca i j\/(Sz i/\Sz j) then some (.int (i * j)) else none
 | _,_=>none
noncomputable def oDiv:D->D->Px D
 | .int i,.int j=>if j≠0/\Sz j then some (.int (i.fdiv j)) else none
 | _,_=>none
noncomputable def oMod:D->D->Px D
 | .int i,.int j=>if j≠0 then some (.int (i.fmod j)) else none
 | _,_=>none
noncomputable def Iw:D->D->Px D
 | .int i,.int j=>if JG i j then some (.int (i ^ j.toNat)) else none
 | _,_=>none
noncomputable def GX:D->Px D
 | .int i=>some (.int (-i))
 | _=>none
noncomputable def oLt:D->D->Px D
 | .int i,.int j=>some (.bl (decide (i < j)))
 | .str i,.str j=>some (.bl (decide (i.cps.toList < j.cps.toList)))
 | _,_=>none
noncomputable def oLe:D->D->Px D
 | .int i,.int j=>some (.bl (decide (i<=j)))
 | _,_=>none
noncomputable def oGt:D->D->Px D
 | .int i,.int j=>some (.bl (decide (j < i)))
 | _,_=>none
noncomputable def oGe:D->D->Px D
 | .int i,.int j=>some (.bl (decide (j<=i)))
 | _,_=>none
noncomputable def Kx:D->D->Px D
 | .non,.non=>some (.bl true)
 | _,.non=>some (.bl false)
 | _,_=>none
noncomputable def mO:D->D->Px D
 | .non,.non=>some (.bl false)
 | _,.non=>some (.bl true)
 | _,_=>none
noncomputable def eqS:D->D->Px Bool
 | .non,.non=>some true | .non,.int _=>some false | .int _,.non=>some false | .non,.bl _=>some false | .bl _,.non=>some false | .non,.str _=>some false | .str _,.non=>some false
 | .int i,.int j=>some (decide (i=j)) | .bl i,.bl j=>some (decide (i=j)) | .str i,.str j=>some (decide (i=j))
 | .int _,.str _=>some false | .str _,.int _=>some false | .bl _,.str _=>some false | .str _,.bl _=>some false
 | _,_=>none
mutual
noncomputable def fT:D->PySem.W.Dat
 | .non=>.none | .bl b=>.bool b | .int i=>.int i | .str x=>.str x | .ty _=>.bytes #[]
 | .tup ds=>.tuple (eR ds) | .lst ds=>.list (eR ds) | .fz _=>.bytes #[] | .dct _=>.bytes #[] | .obj _ _=>.bytes #[] | .cls _=>.bytes #[] | .dfz _=>.bytes #[]
noncomputable def eR:My D->My PySem.W.Dat
 | []=>[]
 | d::ds=>fT d::eR ds
end
mutual
noncomputable def okD:Nat->D->Bool
 | _,.non=>true
 | _,.int _=>true
 | _,.str x=>PyData.strOk x
 | n+1,.tup ds=>vd n ds
 | n+1,.lst ds=>vd n ds
 | _,_=>false
noncomputable def vd:Nat->My D->Bool
 | _,[]=>true
 | n,d::ds=>okD n d&&vd n ds
end
open PySem.W in
mutual
theorem lN:∀ (n:Nat) (d:D),okD n d=true->kqdOk n (fT d)=true
 | _,.non,_=>by simp [fT,kqdOk]
 | _,.int _,_=>by simp [fT,kqdOk]
 | n,.str x,h=>by simp [okD] at h; simp [fT,kqdOk,h]
 | n+1,.tup ds,h=>by
  simp [okD] at h;rw [fT,kqdOk];exact oo n ds h
 | n+1,.lst ds,h=>by
  simp [okD] at h;rw [fT,kqdOk];exact oo n ds h
 | _,.bl _,h=>by simp [okD] at h
 | _,.ty _,h=>by simp [okD] at h
 | _,.cls _,h=>by simp [okD] at h
 | _,.dct _,h=>by simp [okD] at h
 | _,.fz _,h=>by simp [okD] at h
 | _,.obj _ _,h=>by simp [okD] at h
 | _,.dfz _,h=>by simp [okD] at h
 | 0,.tup _,h=>by simp [okD] at h
 | 0,.lst _,h=>by simp [okD] at h
theorem oo:∀ (n:Nat) (ds:My D),vd n ds=true->(eR ds).all (kqdOk n)=true
 | _,[],_=>by simp [eR]
 | n,d::ds,h=>by
  simp [vd] at h;simp only [eR,Xv,Z7];exact ⟨lN n d h.1,oo n ds h.2⟩
end
mutual
theorem uy:∀ (n:Nat) (d e:D),okD n d=true->okD n e=true->fT d=fT e->d=e
 | _,.non,e,_,h,q=>by cases e <;> simp [fT] at q <;> simp [okD] at h <;> rfl
 | _,.int _,e,_,h,q=>by cases e <;> simp [fT] at q <;> simp [okD] at h <;> rw [q]
 | _,.str x,e,_,h,q=>by cases e <;> simp [fT] at q <;> simp [okD] at h <;> rw [q]
 | n+1,.tup ds,e,h1,h,q=>by
  cases e <;> simp [fT] at q <;> simp [okD] at h
  simp [okD] at h1;rw [ma n _ _ h1 h q]
 | n+1,.lst ds,e,h1,h,q=>by
  cases e <;> simp [fT] at q <;> simp [okD] at h
  simp [okD] at h1;rw [ma n _ _ h1 h q]
 | _,.bl _,_,h,_,_=>by simp [okD] at h
 | _,.ty _,_,h,_,_=>by simp [okD] at h
 | _,.cls _,_,h,_,_=>by simp [okD] at h
 | _,.dct _,_,h,_,_=>by simp [okD] at h
 | _,.fz _,_,h,_,_=>by simp [okD] at h
 | _,.obj _ _,_,h,_,_=>by simp [okD] at h
 | _,.dfz _,_,h,_,_=>by simp [okD] at h
 | 0,.tup _,_,h,_,_=>by simp [okD] at h
 | 0,.lst _,_,h,_,_=>by simp [okD] at h
theorem ma:∀ (n:Nat) (d e:My D),vd n d=true->vd n e=true->eR d=eR e->d=e
 | _,[],e,_,h,q=>by cases e <;> simp [eR] at q; rfl
 | n,d::ds,e,h1,h,q=>by
  cases e with
  | nil=>simp [eR] at q
  | cons e es=>
   simp [eR] at q;simp [vd] at h h1;rw [uy n d e h1.1 h.1 q.1,ma n ds es h1.2 h.2 q.2]
end
section
variable {K:PB} {H:Hp}
mutual
theorem Rp.rdD:∀ {v:V} {d:D} (n:Nat),Rp K H v d->okD n d=true->RdD K H v (fT d)
 | _,_,_,.non,_=>by rw [fT]; exact .non
 | _,_,_,.int i,_=>by rw [fT]; exact .int i
 | _,_,_,.str i,_=>by rw [fT]; exact .str i
 | _,_,n,.tup h r,o=>by
  cases n with
  | zero=>simp [okD] at o
  | succ n=>simp [okD] at o; rw [fT]; exact .tup h (Rps.rdD n r o)
 | _,_,n,.lst h r,o=>by
  cases n with
  | zero=>simp [okD] at o
  | succ n=>simp [okD] at o; rw [fT]; exact .lst (SqL.of h) (Rps.rdD n r o)
 | _,_,_,.bl _,o=>by simp [okD] at o
 | _,_,_,.ty _,o=>by simp [okD] at o
 | _,_,_,.cls _,o=>by simp [okD] at o
 | _,_,_,.dct _ _,o=>by simp [okD] at o
 | _,_,_,.fz _ _,o=>by simp [okD] at o
 | _,_,_,.obj _ _,o=>by simp [okD] at o
 | _,_,_,.dfz _ _,o=>by simp [okD] at o
theorem Rps.rdD:∀ {v:My V} {d:My D} (n:Nat),Rps K H v d->vd n d=true->zJ K H v (eR d)
 | _,_,_,.nil,_=>by rw [eR]; exact .nil
 | _,_,n,.cons h r,o=>by
  simp [vd] at o;rw [eR];exact .cons (Rp.rdD n h o.1) (Rps.rdD n r o.2)
end
end
open Classical in
def eqB (d e:D):Bool:=decide (d=e)
def uu (d:D):eqB d d=true:=by unfold eqB; simp
def BW (h:d≠e):eqB d e=false:=by unfold eqB; simp [h]
noncomputable def eqO (d e:D):Px Bool:=match eqS d e with
 | some b=>some b
 | none=>if okD 9 d=true/\okD 9 e=true then some (eqB d e) else none
def oEq (d e:D):Px D:=(eqO d e).map D.bl
def oNe (d e:D):Px D:=(eqO d e).map λ b=>.bl (!b)
section
variable {X:Cx}
theorem OpR.imp (h:OpR X fn r) (hi:∀ x y H Q,r' x y H Q->r x y H Q):OpR X fn r':=λ Pn s σ H x y v u Q I rx ry q=>h Pn s σ H x y v u Q I rx ry (hi _ _ _ _ q)
theorem Ku : OpR X (binaryOp .Add) (rdR X.K kU):=
  ((GR.or vc).or xG).imp λ x y H Q w0=>g45 w0 λ Hs dx dy d sm rx ry e k=>by
    cases rx with
    | int i => cases ry with
      | int j => have e':D.int (i+j)=d:=by simpa [kU] using e
                 subst e';exact .inl (.inl ⟨i,j,rfl,rfl,k _ Hs H (.refl sm) (.int _)⟩)
      | _=>exact nn e
    | str x=>cases ry with
      | str y=>
        by_cases hl:x.length+y.length<=100000
        · have e':D.str (x++y)=d:=by simpa [kU,hl] using e
          subst e';exact .inl (.inr ⟨x,y,rfl,rfl,vk hl,k _ Hs H (.refl sm) (.str _)⟩)
        · simp [kU,hl] at e
      | _=>exact nn e
    | @lst a xs ds h r=>cases ry with
      | @lst b ys es h' r'=>
        by_cases hl:ds.length+es.length<=100000
        · have e':D.lst (ds++es)=d:=by simpa [kU,hl] using e
          subst e';refine .inr ⟨a,b,xs,ys,rfl,rfl,sm _ _ h,sm _ _ h',by rw [r.length,r'.length]; exact vk hl,λ p hp=>?_⟩;have g:=Ext.new sm hp (.lst (xs++ys));exact k _ _ _ g (.lst ay ((r.same g.ss).append (r'.same g.ss)))
        · simp [kU,hl] at e
      | _=>exact nn e
    | _=>exact nn e
theorem pO {fn:Py->Py->Sem Py} {C:Int->Int->Prop} [∀ i j,Decidable (C i j)] {gv:Int->Int->V} {gd:Int->Int->D} {o:D->D->Px D} (h:OpR X fn (rI C gv)) (hg:∀ i j H,Rp X.K H (gv i j) (gd i j))
  (ho:∀ x y d,o x y=some d->∃ i j,x=.int i/\y=.int j/\C i j/\d=gd i j):OpR X fn (rdR X.K o):=
 h.imp λ x y H Q w0=>g45 w0 λ Hs dx dy d sm rx ry e k=>by
  obtain ⟨i,j,rfl,rfl,c,rfl⟩:=ho _ _ _ e;cases rx;cases ry;exact ⟨i,j,rfl,rfl,c,k _ Hs H (.refl sm) (hg i j Hs)⟩
def Ir (h:OpR X fn (rI0 g)):OpR X fn (rI (λ _ _=>True) g):=h.imp λ x y H Q ⟨i,j,h1,h2,_,q⟩=>⟨i,j,h1,h2,q⟩
theorem Kk:OpR X (binaryOp .Sub) (rdR X.K Fi):=pO (Ir GL) (λ _ _ _=>.int _) λ x y d e=>by
 unfold Fi at e;split at e
 · exact ⟨_,_,rfl,rfl,trivial,(Zj e).symm⟩
 · cases e
theorem C5:OpR X (binaryOp .Mult) (rI (λ i j=>Ca i j\/(Sz i/\Sz j)) λ i j=>.int (i * j)):=opI λ _ _ _ _ _ _ _ hc q=>mul_int q (hc.elim (·.ok) λ h=>PySem.IntMulOk.of_bits h.1.bits h.2.bits)
theorem Kn:OpR X (binaryOp .Mult) (rdR X.K BG):=pO C5 (λ _ _ _=>.int _) λ x y d e=>by
 unfold BG at e;split at e
 ·split at e
  ·rename_i c
   exact ⟨_,_,rfl,rfl,c,(Zj e).symm⟩
  · cases e
 · cases e
theorem Kt:OpR X (binaryOp .FloorDiv) (rdR X.K oDiv):=pO C7 (λ _ _ _=>.int _) λ x y d e=>by
 unfold oDiv at e;split at e
 ·split at e
  ·rename_i c
   exact ⟨_,_,rfl,rfl,c,(Zj e).symm⟩
  · cases e
 · cases e
theorem Ko:OpR X (binaryOp .Mod) (rdR X.K oMod):=pO C6 (λ _ _ _=>.int _) λ x y d e=>by
 unfold oMod at e;split at e
 ·split at e
  ·rename_i c
   exact ⟨_,_,rfl,rfl,c,(Zj e).symm⟩
  · cases e
 · cases e
theorem Kl:OpR X (binaryOp .Pow) (rdR X.K Iw):=pO GN (λ _ _ _=>.int _) λ x y d e=>by
 unfold Iw at e;split at e
 ·split at e
  ·rename_i c
   exact ⟨_,_,rfl,rfl,c,(Zj e).symm⟩
  · cases e
 · cases e
theorem vZ:OpR X (compareOp .LtE) (rdR X.K oLe):=pO (Ir Kg) (λ _ _ _=>.bl _) λ x y d e=>by
 unfold oLe at e;split at e
 · exact ⟨_,_,rfl,rfl,trivial,(Zj e).symm⟩
 · cases e
theorem M7:OpR X (compareOp .Gt) (rdR X.K oGt):=pO (Ir Kh) (λ _ _ _=>.bl _) λ x y d e=>by
 unfold oGt at e;split at e
 · exact ⟨_,_,rfl,rfl,trivial,(Zj e).symm⟩
 · cases e
theorem OG:OpR X (compareOp .GtE) (rdR X.K oGe):=pO (Ir Ki) (λ _ _ _=>.bl _) λ x y d e=>by
 unfold oGe at e;split at e
 · exact ⟨_,_,rfl,rfl,trivial,(Zj e).symm⟩
 · cases e
theorem OF:OpR X (compareOp .Lt) (rdR X.K oLt):=(Kf.or xD).imp λ x y H Q w0=>g45 w0 λ Hs dx dy d sm rx ry e k=>by
 cases rx with
 | int i=>cases ry with
  | int j=>
   have e':D.bl (decide (i < j))=d:=by simpa [oLt] using e
   subst e';exact .inl ⟨i,j,rfl,rfl,k _ Hs H (.refl sm) (.bl _)⟩
  | _=>exact nn e
 | str i=>cases ry with
  | str j=>
   have e':=Zj e;subst e';exact .inr ⟨i,j,rfl,rfl,k _ Hs H (.refl sm) (.bl _)⟩
  | _=>exact nn e
 | _=>exact nn e
theorem Km:UnR X (unaryOp .USub) (rdU X.K GX):=λ Pn s σ H x v Q I rx w0=>g34 w0 λ Hs dx d sm r e k=>FH Pn s σ H x v Q I rx (by
 cases r with
 | int i=>
  have e':D.int (-i)=d:=by simpa [GX] using e
  subst e';exact ⟨i,rfl,k _ Hs H (.refl sm) (.int _)⟩
 | _=>simp [GX] at e)
theorem Kp:OpR X (compareOp .Is) (rdR X.K Kx):=GP.imp λ x y H Q w0=>g45 w0 λ Hs dx dy d sm rx ry e k=>by
 have hy:dy=.non:=by
  unfold Kx at e;split at e <;> first | rfl | cases e
 subst hy;cases ry;refine ⟨rfl,?_⟩;cases rx <;> (have e':=Zj e; subst e'; exact k _ Hs H (.refl sm) (.bl _))
theorem BE:OpR X (compareOp .IsNot) (rdR X.K mO):=C4.imp λ x y H Q w0=>g45 w0 λ Hs dx dy d sm rx ry e k=>by
 have hy:dy=.non:=by
  unfold mO at e;split at e <;> first | rfl | cases e
 subst hy;cases ry;refine ⟨rfl,?_⟩;cases rx <;> (have e':=Zj e; subst e'; exact k _ Hs H (.refl sm) (.bl _))
theorem BV {K:PB} {H:Hp} {x y:V} {dx dy:D} {b:Bool} (rx:Rp K H x dx) (ry:Rp K H y dy) (e:eqS dx dy=some b):J1 x y=true/\decide (x=y)=b:=by
  unfold eqS at e
  split at e <;> first
    | (cases e; done)
    | (have e':=Zj e
       subst e';cases rx;cases ry
       first | exact ⟨rfl,rfl⟩ | exact ⟨rfl,by simp⟩)
theorem ur (h:okD n d=true) (h':okD n e=true):eqD (fT d) (fT e)=eqB d e:=by
 by_cases q:d=e
 · subst q; rw [uu,AU rfl]
 · rw [BW q,yQ λ z=>q (uy n _ _ h h' z)]
theorem Ks (hu:X.A.units+64 < cLine):OpR X (compareOp .Eq) (rdR X.K oEq):=(Kj.or (GQ hu)).imp λ x y H Q w0=>g45 w0 λ Hs dx dy d sm rx ry e k=>by
 obtain ⟨b,e',rfl⟩:=Zm (e);have e:=e';unfold eqO at e;split at e
 ·rename_i b' q
  have e':=Zj e;subst e';obtain ⟨h1,h2⟩:=BV rx ry q;refine .inl ⟨h1,?_⟩;rw [h2];exact k _ Hs H (.refl sm) (.bl _)
 ·split at e
  ·rename_i h
   have e':=Zj e;subst e';refine .inr ⟨fT dx,fT dy,(rx.same sm).rdD 9 h.1,(ry.same sm).rdD 9 h.2,lN 9 _ h.1,lN 9 _ h.2,?_⟩;rw [ur h.1 h.2];exact k _ Hs H (.refl sm) (.bl _)
  · cases e
theorem Fh (hu:X.A.units+64 < cLine):OpR X (compareOp .NotEq) (rdR X.K oNe):=(Ke.or (GO hu)).imp λ x y H Q w0=>g45 w0 λ Hs dx dy d sm rx ry e k=>by
 obtain ⟨b,e',rfl⟩:=Zm (e);have e:=e';unfold eqO at e;split at e
 ·rename_i b' q
  have e':=Zj e;subst e';obtain ⟨h1,h2⟩:=BV rx ry q;refine .inl ⟨h1,?_⟩;rw [h2];exact k _ Hs H (.refl sm) (.bl _)
 ·split at e
  ·rename_i h
   have e':=Zj e;subst e';refine .inr ⟨fT dx,fT dy,(rx.same sm).rdD 9 h.1,(ry.same sm).rdD 9 h.2,lN 9 _ h.1,lN 9 _ h.2,?_⟩;rw [ur h.1 h.2];exact k _ Hs H (.refl sm) (.bl _)
  · cases e
end
noncomputable def oIx:D->D->Px D
 | .tup ds,.int i=>atI ds i
 | .lst ds,.int i=>atI ds i
 | .fz ds,.int i=>atI ds i
 | .str z,.int i=>if z.length<=100000 then (atI z.cps.toList i).map λ c=>.str ⟨#[c]⟩ else none
 | _,_=>none
def DO:=My Sl->Px (Px Int)
def N2:DO:=λ _=>some none
noncomputable def dP (f:DE):DO:=λ τ=>(f τ).bind λ x=>match x with | .int i=>some (some i) | _=>none
def cutD (xs:My D) (lo hi:Px Int):My D:=(xs.drop (HT.sIx xs.length 0 lo)).take (HT.sIx xs.length xs.length hi - HT.sIx xs.length 0 lo)
def oSl:D->Px Int->Px Int->Px D
 | .lst ds,lo,hi=>some (.lst (cutD ds lo hi))
 | .fz ds,lo,hi=>some (.lst (cutD ds lo hi))
 | _,_,_=>none
def dSl (f:DE) (lo hi:DO):DE:=λ τ=>(f τ).bind λ x=>(lo τ).bind λ l=>(hi τ).bind λ u=>oSl x l u
noncomputable def tX:My D->Px D
 | [.str z]=>if z.length<=100000 then some (.int z.length) else none
 | [.tup ds]=>some (.int ds.length)
 | [.lst ds]=>some (.int ds.length)
 | [.fz ds]=>some (.int ds.length)
 | _=>none
noncomputable def Di:My D->Px D
 | [.tup ds]=>some (.lst ds)
 | [.lst ds]=>some (.lst ds)
 | [.fz ds]=>some (.lst ds)
 | _=>none
noncomputable def tyN:D->Px String
 | .non=>some "NoneType" | .bl _=>some "bool" | .int _=>some "int" | .str _=>some "str" | .tup _=>some "tuple" | .lst _=>some "list" | .dct _=>some "dict" | _=>none
noncomputable def Mo (t n:String):Bool:=t == n||(t == "bool"&&n == "int")
noncomputable def kinds:My String:=["int","bool","str","list","tuple","dict"]
noncomputable def Kw:My D->Px D
 | [d,.ty n]=>(tyN d).bind λ t=>if n ∈ kinds then some (.bl (Mo t n)) else none
 | _=>none
theorem sX {K:PB} {H:Hp} {xs:My V} {ds:My D} {i:Int} {d:D} (r:Rps K H xs ds) (e:atI ds i=some d):∃ v,atI xs i=some v/\Rp K H v d:=by
 unfold atI at *;obtain ⟨j,e1,e2⟩:=Ub e;obtain ⟨v,h1,h2⟩:=r.get e2;exact ⟨v,by rw [r.length,e1]; exact h1,h2⟩
theorem ze {K:PB} {H:Hp} {xs:My V} {ds:My D} (lo hi:Px Int) (r:Rps K H xs ds):Rps K H (Fq xs lo hi) (cutD ds lo hi):=by
 unfold Fq cutD;rw [r.length];exact (r.drop _).take _
theorem yh {K:PB} {t n:String} (ht:t ∈ ["NoneType","bool","int","str","tuple","list","dict"]) (hn:n ∈ kinds):PySem.W.kitOne K (.type t) (.type n)=some (Mo t n):=by
 simp only [kinds,Zh,Yw,or_false] at ht hn;rcases ht with rfl | rfl | rfl | rfl | rfl | rfl | rfl <;> rcases hn with rfl | rfl | rfl | rfl | rfl | rfl <;> kernel_rfl
section
variable {X:Cx} {a b c e:Expr} {es:My Expr} {pos:Pos} {f g h:DE}
theorem IxR.imp {r r':R2} (h:IxR X r) (hi:∀ x y H Q,r' x y H Q->r x y H Q):IxR X r':=λ value slice Pn s σ H x y v u Q I rx ry q=>h value slice Pn s σ H x y v u Q I rx ry (hi _ _ _ _ q)
theorem ixd:IxR X (rdR X.K oIx):=((Ea.or Ho).or Hq).imp λ x y H Q w0=>g45 w0 λ Hs dx dy d sm rx ry e k=>by
 obtain ⟨i,rfl⟩:∃ i,dy=.int i:=by
  unfold oIx at e;split at e <;> first | exact ⟨_,rfl⟩ | cases e
 cases ry
 cases rx with
 | tup h r=>
  obtain ⟨v,h1,h2⟩:=sX r (e);exact .inl (.inr ⟨_,_,i,v,rfl,rfl,sm.tup h,h1,k v Hs H (.refl sm) h2⟩)
 | lst h r=>
  obtain ⟨v,h1,h2⟩:=sX r (show atI _ i=some d from e);exact .inl (.inl ⟨_,_,i,v,rfl,rfl,SqL.of (sm _ _ h),h1,k v Hs H (.refl sm) h2⟩)
 | fz h r=>
  obtain ⟨v,h1,h2⟩:=sX r (show atI _ i=some d from e);exact .inl (.inl ⟨_,_,i,v,rfl,rfl,sm.seq h,h1,k v Hs H (.refl sm) h2⟩)
 | str z=>
  by_cases hl:z.length<=100000
  ·have e0:(atI z.cps.toList i).map (λ c=>D.str ⟨#[c]⟩)=some d:=by simpa only [oIx,hl,if_true] using e
   obtain ⟨c,e1,rfl⟩:=Zm e0;exact .inr ⟨z,i,c,rfl,rfl,vk hl,e1,k _ Hs H (.refl sm) (.str _)⟩
  · simp [oIx,hl] at e
 | _=>exact nn e
def rdP (K:PB) (f:DO):TO:=λ σ H Q=>∃ H0 Hs τ fp d,StR K H0 Hs H σ τ fp/\cc Hs H/\f τ=some d/\∀ Hs' H',Ext Hs H Hs' H'->Q d H'
def POd (X:Cx) (e:Px Expr) (f:DO):Prop:=PO X e (rdP X.K f)
def PO.imp {e:Px Expr} {t t':TO} (h:PO X e t) (hi:∀ σ H Q,t' σ H Q->t σ H Q):PO X e t':=λ Pn s σ H Q I q=>h Pn s σ H Q I (hi _ _ _ q)
theorem fw.imp {fn:Py} {r r':My V->Hp->VK->Prop} (h:fw X fn r) (hi:∀ x H Q,r' x H Q->r x H Q):fw X fn r':=λ Pn s σ H x u Q I rx q=>h Pn s σ H x u Q I rx (hi _ _ _ q)
theorem call_of {o:My D->Px D} {g:DA} {σ:St} {H:Hp} {Q:VK} (K:PB) (hh:rdE K (kX o g) σ H Q):tCB (rdL K o) (rdA K g) σ H Q:=by
 obtain ⟨H0,Hs,τ,fp,d,st,sm,e,k⟩:=hh;obtain ⟨xs,e1,e⟩:=Ub e;exact ⟨H0,Hs,τ,fp,xs,st,sm,e1,λ v Hs1 H1 g1 r1=>⟨Hs1,xs,d,g1.sh,r1,e,λ w Hs2 H2 g2 r2=>k w Hs2 H2 (g1.trans g2) r2⟩⟩
theorem fW:fw X (.builtin "len") (rdL X.K tX):=A5.imp λ xs H Q w0=>g34 w0 λ Hs ds d sm r e k=>by
 match ds,r,e with
 | [x],.cons hx .nil,e=>
  cases hx with
  | str z=>
   by_cases hl:z.length<=100000
   ·have e':D.int z.length=d:=by simpa [tX,hl] using e
    subst e';exact ⟨_,_,rfl,⟨vk hl,rfl⟩,k _ Hs H (.refl sm) (.int _)⟩
   · simp [tX,hl] at e
  | @tup a ys ds h r=>
   have e':=Zj e;subst e';exact ⟨_,_,rfl,.inr ⟨_,sm.tup h,rfl⟩,by rw [r.length]; exact k _ Hs H (.refl sm) (.int _)⟩
  | @lst a ys ds h r=>
   have e':D.int ds.length=d:=Zj e;subst e';exact ⟨_,_,rfl,.inl ⟨_,SqL.of (sm _ _ h),rfl⟩,by rw [r.length]; exact k _ Hs H (.refl sm) (.int _)⟩
  | @fz a ys ds h r=>
   have e':D.int ds.length=d:=Zj e;subst e';exact ⟨_,_,rfl,.inl ⟨_,sm.seq h,rfl⟩,by rw [r.length]; exact k _ Hs H (.refl sm) (.int _)⟩
  | _=>exact nn e
 | [],_,e=>simp [tX] at e
 | _::_::_,_,e=>simp [tX] at e
theorem zj:fw X (.builtin "isinstance") (rdL X.K Kw):=by
 intro Pn s σ H xs us Q I rv ⟨Hs,ds,d,sm,r,e,k⟩
 have sh:∃ x n,ds=[x,.ty n]:=by
   unfold Kw at e;split at e
   · exact ⟨_,_,rfl⟩
   · cases e
 obtain ⟨x,n,rfl⟩:=sh
 cases r with
 | cons hx rr=>cases rr with
  | cons hy rr=>cases rr with
   | nil=>
   cases hy;obtain ⟨t,e1,e2⟩:=Ub (e)
   by_cases hn:n ∈ kinds
   ·rw [if_pos hn] at e2
    have e':=Zj e2;subst e';obtain ⟨u,w',rfl,ru,rw'⟩:=vals2 rv;have e2:=rw';subst e2;have fin:∀ tk,EP X Pn σ Q (.bool (Mo t n)) { s with toks:=tk }:=λ tk=>⟨.bl _,H,I.tok tk,rfl,k _ Hs H (.refl sm) (.bl _)⟩
    have low:∀ {v:V} {T:String},vW X.K H v (.type T)->RelV v u->T ∈ ["NoneType","bool","int","str","tuple","list","dict"]->some T=some t->wpAny (model X.prog X.w) X.A (call (.builtin "isinstance") [u,.type n]) (EP X Pn σ Q) X.xe s:=λ ty ru hm et=>by
     have et':=Zj et;subst et';exact yo I ru ty (yh hm hn) fin
    cases hx with
    | non=>exact low (.non) ru (by simp) e1
    | bl b=>exact low (.bl b) ru (by simp) e1
    | int i=>exact low (.int i) ru (by simp) e1
    | str z=>exact low (.str z) ru (by simp) e1
    | lst h _=>exact low (.lst (sm _ _ h)) ru (by simp) e1
    | dct h _=>exact low (.dK (sm _ _ h)) ru (by simp) e1
    | @tup p ys ds h _=>
     have et':=Zj e1;subst et';cases (ru);obtain ⟨its,_,⟨o,h1,h2,_⟩,_⟩:=I.tuple (sm.tup h);exact Yi PySem.W.kitx_tuple I.kIn ⟨o,h1,h2⟩ (yh (by simp) hn) (λ z=>nomatch z) fin
    | ty m=>simp [tyN] at e1
    | cls m=>simp [tyN] at e1
    | dfz _ _=>simp [tyN] at e1
    | fz _ _=>simp [tyN] at e1
    | obj _ _=>simp [tyN] at e1
   · rw [if_neg hn] at e2; cases e2
end
def yv (a:Pz) (H:Hp):Hp:=λ b=>if b=a then none else H b
noncomputable def F7 (i:Nat) (f:DT):DT:=λ τ=>match τ[i]? with
 | some (.own d0)=>f (τ.set i (.shr d0))
 | _=>f τ
theorem Ext.JM (n:Hs a=none) (ha:H a=some o) (g:Ext (upd Hs a o) H Hs' H'):Ext Hs H (yv a Hs') H':=by
 refine ⟨λ b u q=>?_,λ b u q=>?_,g.hh,λ b h1 h2=>?_⟩
 ·have ne:b≠a:=λ z=>by subst z; rw [n] at q; cases q
  unfold yv;rw [if_neg ne];exact g.ss b u (by rw [au ne]; exact q)
 ·unfold yv at q
  split at q
  · cases q
  · exact g.sh b u q
 ·unfold yv
  by_cases z:b=a
  · rw [if_pos z]
  ·rw [if_neg z]
   exact g.fr b (by rw [au z]; exact h1) h2
theorem cc.frz (sm:cc Hs H) (ha:H a=some o):cc (upd Hs a o) H:=λ b u q=>by
 by_cases z:b=a
 · subst z; rw [ay] at q; rw [ha]; exact q
 · rw [au z] at q; exact sm b u q
noncomputable def lD (f g:DS):DS:=λ τ=>match f τ with
 | some (.next τ')=>g τ'
 | r=>r
def kR:DS:=λ τ=>some (.next τ)
def sIf (c:DT) (f g:DS):DS:=λ τ=>(c τ).bind λ b=>if b=true then f τ else g τ
noncomputable def vY (i:Nat) (f:DE):DS:=λ τ=>(f τ).map λ d=>.next (τ.set i (.shr d))
noncomputable def z8 (i:Nat) (f:DE):DS:=λ τ=>if i < τ.length then (f τ).map λ d=>.next (τ.set i (.own d)) else none
def zO (f:DE):DS:=λ τ=>(f τ).map λ d=>.ret (.shr d)
def Ct (f:DE):DS:=λ τ=>(f τ).map λ d=>.ret (.own d)
noncomputable def z9 (i:Nat):DS:=λ τ=>match τ[i]? with
 | some (.own d)=>some (.ret (.own d))
 | some (.shr d)=>some (.ret (.shr d))
 | _=>none
def Ad (f:DE):DS:=λ τ=>(f τ).map λ _=>.next τ
def Gk:DS:=λ _=>none
noncomputable def Cw (i:Nat) (f:DE):DS:=λ τ=>(f τ).bind λ d=>match τ[i]? with
 | some (.own (.lst ds))=>if ds.length < 100000 then some (.next (τ.set i (.own (.lst (ds++[d]))))) else none
 | _=>none
section
variable {X:Cx} {a b c e:Expr} {es:My Expr} {pos:Pos} {st:Stmt} {rest:My Stmt} {f g:DS}
def Rep.same {K:PB} {Hs0 H0 Hs H:Hp} {σ:St} {τ:My Sl} (r:Rep K Hs0 H0 Hs H σ τ):cc Hs H:=r.ext.sh
theorem Rep.ext' {K:PB} {Hs0 H0 Hs H Hs' H':Hp} {σ:St} {τ:My Sl} (r:Rep K Hs0 H0 Hs H σ τ) (g:Ext Hs H Hs' H'):Rep K Hs0 H0 Hs' H' σ τ:=⟨r.ext.trans g,let ⟨fp,h⟩:=r.st; ⟨fp,h.ext g⟩⟩
def Rep.old {K:PB} {Hs0 H0 Hs H:Hp} {σ:St} {τ:My Sl} (r:Rep K Hs0 H0 Hs H σ τ) {p:Pz} (h:H p=none):H0 p=none:=r.ext.hh.free h
def xB {K:PB} {H0 Hs H:Hp} {σ:St} {τ:My Sl} {fp:My Pz} (h:StR K H0 Hs H σ τ fp) {p:Pz} (hp:H p=none):p ∉ fp:=λ q=>(h.Er p q).2.2 hp
end
abbrev DI:=My Sl->Px (My D)
def ItR (K:PB) (J:It) (Hs:Hp) (ds:My D):Prop:=∀ Hs1 H,cc Hs Hs1->cc Hs1 H->(∀ i d,ds[i]?=some d->J.go i H/\∀ x H',J.yld i H x H'->∃ Hs2,Ext Hs1 H Hs2 H'/\Rp K Hs2 x d)/\∀ i,ds.length<=i->J.stop i H
def rdI (K:PB) (f:DI):TI:=λ σ H R=>∃ H0 Hs τ fp ds,StR K H0 Hs H σ τ fp/\cc Hs H/\f τ=some ds/\∀ J Hs' H',Ext Hs H Hs' H'->ItR K J Hs' ds->R J H'
def PId (X:Cx) (tg iter:Expr) (f:DI):Prop:=PI X tg iter (rdI X.K f)
def JA (f:DE):DI:=λ τ=>(f τ).bind λ d=>match d with | .lst ds=>some ds | .fz ds=>some ds | _=>none
def nY (lo:Int) (n:Nat):My D:=(List.range n).map λ (i:Nat)=>D.int (lo+(i:Int))
noncomputable def uf (f:DA):DI:=λ τ=>(f τ).bind λ ds=>match ds with | [.int j]=>if -(2 ^ 62)<=j/\j < 2 ^ 62 then some (nY 0 j.toNat) else none | _=>none
theorem oy {K:PB} {a:Pz} {xs:My V} {Hs:Hp} {ds:My D} (h:SqL K Hs a xs) (r:Rps K Hs xs ds):ItR K (Itl K a) Hs ds:=λ Hs1 H g1 g2=>by
 have hq:=g2.seq (g1.seq h);refine ⟨λ i d e=>?_,λ i hi=>⟨xs,hq,by rw [r.length]; exact hi⟩⟩;obtain ⟨x,h1,h2⟩:=r.get e;refine ⟨⟨xs,x,hq,h1⟩,λ x' H' ⟨e1,e2⟩=>?_⟩;subst e1;have e3:=e2 xs hq;rw [h1] at e3;cases e3;exact ⟨Hs1,.refl g2,h2.same g1⟩
theorem qe {K:PB} {Hs:Hp} (lo:Int) (n:Nat):ItR K (Itr lo n) Hs (nY lo n):=λ Hs1 H g1 g2=>by
 refine ⟨λ i d e=>?_,λ i hi=>show n<=i by simpa [nY] using hi⟩;unfold nY at e;rw [List.getElem?_map] at e
 by_cases hi:i < n
 ·rw [List.getElem?_range hi] at e
  have e':D.int (lo+i)=d:=by simpa using e
  subst e';refine ⟨hi,λ x H' ⟨e1,e2⟩=>?_⟩;subst e1 e2;exact ⟨Hs1,.refl g2,.int _⟩
 ·rw [List.getElem?_eq_none (by simpa using hi)] at e
  cases e
def PI.imp (h:PI X tg iter t) (hi:∀ σ H R,t' σ H R->t σ H R):PI X tg iter t':=λ Pn s σ H R I q=>h Pn s σ H R I (hi _ _ _ q)
noncomputable def yt (f:DA):DI:=λ τ=>(f τ).bind λ ds=>match ds with | [.int i,.int j]=>if -(2 ^ 62)<=i/\i < 2 ^ 62/\-(2 ^ 62)<=j/\j < 2 ^ 62 then some (nY i (j - i).toNat) else none | _=>none
abbrev DG:=D->My Sl->Px (My Sl)
def rdG (K:PB) (g:DG):TG:=λ v σ H Q=>∃ Hs0 H0 Hs τ τ' d,Rep K Hs0 H0 Hs H σ τ/\Rp K Hs v d/\g d τ=some τ'/\∀ σ',Rep K Hs0 H0 Hs H σ' τ'->Q σ' H
def PGd (X:Cx) (tg:Expr) (g:DG):Prop:=PG X tg (rdG X.K g)
def PG.imp (h:PG X tg t) (hi:∀ v σ H Q,t' v σ H Q->t v σ H Q):PG X tg t':=λ Pn s σ H v u Q I r q=>h Pn s σ H v u Q I r (hi _ _ _ _ q)
def PGs.imp (h:PGs X tg t) (hi:∀ v σ H Q,t' v σ H Q->t v σ H Q):PGs X tg t':=λ Pn s σ H v u Q I r q=>h Pn s σ H v u Q I r (hi _ _ _ _ q)
def gN (i:Nat):DG:=λ d τ=>some (τ.set i (.shr d))
noncomputable def v7 (b:D->DS):My D->DS
 | [],τ=>some (.next τ)
 | d::ds,τ=>match b d τ with
  | some (.next τ')=>v7 b ds τ'
  | some (.cnt τ')=>v7 b ds τ'
  | some (.brk τ')=>some (.next τ')
  | r=>r
def Iq (it:DI) (g:DG) (b:DS):DS:=λ τ=>(it τ).bind λ ds=>v7 (λ d τ=>(g d τ).bind b) ds τ
noncomputable def cE (c:DT) (b:DS):Nat->DS
 | 0,_=>none
 | n+1,τ=>match c τ with
  | none=>none
  | some false=>some (.next τ)
  | some true=>match b τ with
   | some (.next τ')=>cE c b n τ'
   | some (.cnt τ')=>cE c b n τ'
   | some (.brk τ')=>some (.next τ')
   | r=>r
open Classical in
def pF (c:DT) (b:DS):DS:=λ τ=>if h:∃ n o,cE c b n τ=some o then some (Classical.choose (Y3 h)) else none
theorem gj:∀ {n m:Nat} {τ:My Sl} {o:Out},cE c b n τ=some o->n<=m->cE c b m τ=some o
 | 0,_,_,_,h,_=>by simp [cE] at h
 | n+1,0,_,_,_,l=>by omega
 | n + 1,m+1,τ,o,h,l=>by
  have l':n<=m:=by omega
  unfold cE at h ⊢
  cases q:c τ with
  | none=>rw [q] at h; cases h
  | some x=>
   rw [q] at h
   cases x with
   | false=>exact h
   | true=>
    simp only at h ⊢
    cases q2:b τ with
    | none=>rw [q2] at h; exact h
    | some o'=>
     rw [q2] at h
     cases o' with
     | next τ'=>exact gj h l'
     | cnt τ'=>exact gj h l'
     | brk τ'=>exact h
     | ret s=>exact h
theorem jA (h:cE c b n τ=some o):pF c b τ=some o:=by
 have hx:∃ n o,cE c b n τ=some o:=⟨n,o,h⟩
 unfold pF;rw [dif_pos hx];have h2:=Y3 (Y3 hx);have h3:=gj h2 (Nat.le_max_left _ n);have h4:=gj h (Nat.le_max_right (Classical.choose hx) n);rw [h3] at h4;exact h4
def wG (h:pF c b τ=some o):∃ n,cE c b n τ=some o:=by
 unfold pF at h;split at h
 ·rename_i hx
  have e:=Zj h;subst e;exact ⟨_,Y3 (Y3 hx)⟩
 · cases h
def Ext.sub (a:Ext Hs0 H0 Hs1 H1) (b:Ext Hs1 H0 Hs H):Ext Hs0 H0 Hs H:=⟨a.ss.trans b.ss,b.sh,b.hh,λ c h1 h2=>b.fr c (a.fr c h1 h2) h2⟩
def Rep.rebase {K:PB} {Hs0 H0 Hs H:Hp} {σ:St} {τ:My Sl} (r:Rep K Hs0 H0 Hs H σ τ):Rep K Hs H0 Hs H σ τ:=⟨⟨.refl _,r.same,r.ext.hh,λ _ h _=>h⟩,r.st⟩
def Rep.kn {K:PB} {Hs0 H0 Hs1 H1 Hs H:Hp} {σ:St} {τ:My Sl} (a:Ext Hs0 H0 Hs1 H1) (r:Rep K Hs1 H0 Hs H σ τ):Rep K Hs0 H0 Hs H σ τ:=⟨a.sub r.ext,r.st⟩
theorem Fin.rebase {K:PB} {Hs0 H0 Hs1 H1:Hp} {E:Ends} {o:Out} (a:Ext Hs0 H0 Hs1 H1) (h:Fin K Hs0 H0 E o):Fin K Hs1 H0 E o:=by
 cases o with
 | next τ=>exact λ σ Hs H r=>h σ Hs H (r.kn a)
 | brk τ=>exact λ σ Hs H r=>h σ Hs H (r.kn a)
 | cnt τ=>exact λ σ Hs H r=>h σ Hs H (r.kn a)
 | ret s=>exact λ v Hs H g r=>h v Hs H (a.sub g) r
def dk (n:Nat) (ds:My D):My Sl:=ds.map .shr++List.replicate (n - ds.length) .no
noncomputable def iJ (n m:Nat) (b:DS) (ds:My D):Px Sl:=if ds.length=m then (match b (dk n ds) with | some (.ret s)=>some s | some (.next _)=>some (.shr .non) | _=>none) else none
def spF (F:My D->Px Sl) (K:PB):Sp:=λ vs H Q _=>∃ Hs ds s,cc Hs H/\Rps K Hs vs ds/\F ds=some s/\∀ v Hs' H',Ext Hs H Hs' H'->SlV K H Hs' H' v s->Q v H'
theorem gS {K:PB} {H0 Hs H:Hp}:∀ {vs:My V} {ds:My D} (k:Nat),Rps K Hs vs ds->StR K H0 Hs H (vs.map some++List.replicate k none) (ds.map .shr++List.replicate k .no) []
 | _,_,0,.nil=>.nil
 | _,_,k+1,.nil=>by
  rw [Y0,Y0];exact .no (gS k .nil)
 | _,_,k,.cons h r=>.shr h (gS k r)
section
variable {P:Program} {w:World} {K:PB} {mg:Str->Px Py} {base:Heap}
theorem Fun.okD {x qual:Str} {st:Stmt} {f:Pz} {fd:FuncData} {N ps:My Str} {k:Nat} {b:DS} (F:Fun K x qual st f fd) (S:cM N ps (aD st))
  (hbody:∀ (cdv:Py) (A:Around) (outer:My Env) (s:PD) (H:Hp) (E:XK),dD k (A.deeper (envOfC qual (aD st) s.heap.objs.size f cdv))->zM (qB CX0 P w K mg base N qual (aD st) f cdv A outer s H E).nox (bP st) b):gO P w K mg base CX0 (k+1) f fd ps (spF (iJ N.length ps.length b) K):=by
 refine F.ok S (λ vs H Q E h=>?_) (λ cdv A outer s H vs Q E hr h=>?_)
 ·obtain ⟨Hs,ds,s,sm,r,e,_⟩:=h
  unfold iJ at e;split at e
  · rename_i hl
    rw [r.length]; exact hl
  · cases e
 obtain ⟨Hs,ds,sl,sm,r,e,q⟩:=h;refine ⟨_,hbody cdv A outer s H E hr,?_⟩;unfold iJ at e;split at e
 ·have h0:Rep K Hs H Hs H (start N vs) (dk N.length ds):=⟨.refl sm,[],by unfold start dk; rw [r.length]; exact gS _ r⟩
  cases q2:b (dk N.length ds) with
  | none=>rw [q2] at e; cases e
  | some o=>
    rw [q2] at e;refine ⟨Hs,H,Hs,_,o,h0,q2,?_⟩
    cases o with
    | next τ=>
     have e':=Zj e;subst e';exact λ σ Hs' H' r'=>q .non Hs' H' r'.ext .non
    | ret s=>
     have e':=Zj e;subst e';exact λ v Hs' H' g rv=>q v Hs' H' g rv
    | brk τ=>cases e
    | cnt τ=>cases e
 · cases e
end
def slD:Sl->Px D
 | .shr d=>some d
 | .own d=>some d
 | .no=>none
def slO:Sl->Px D
 | .own d=>some d
 | _=>none
def dFn (F:My D->Px Sl) (f:DA):DE:=λ τ=>(f τ).bind λ ds=>(F ds).bind slD
def EK (F:My D->Px Sl) (f:DA):DE:=λ τ=>(f τ).bind λ ds=>(F ds).bind slO
theorem SlV.shr {K:PB} {H0 Hs H Hs0:Hp} {v:V} {s:Sl} {d:D} (g:Ext Hs0 H0 Hs H) (h:SlV K H0 Hs H v s) (e:slD s=some d):∃ Hs',Ext Hs0 H0 Hs' H/\Rp K Hs' v d:=by
 cases s with
 | no=>cases h
 | shr d'=>
  have e':=Zj e;subst e';exact ⟨Hs,g,h⟩
 | own d'=>
  have e':d'=d:=Zj e;subst e';obtain ⟨a,rfl,o,z⟩:=h;obtain ⟨ob,h1,h2⟩:=o.rp;refine ⟨upd Hs a ob,⟨g.ss.trans (aC o.hid ob),g.sh.frz h1,g.hh,λ b h3 h4=>?_⟩,h2⟩;have ne:b≠a:=λ y=>by subst y; exact h4 z
  rw [au ne];exact g.fr b h3 h4
section
variable {X:Cx} {e:Expr} {es:My Expr} {x:Str} {p pos:Pos} {k:Nat} {f:Pz} {fd:FuncData} {ps:My Str} {F:My D->Px Sl} {g:DA}
theorem Eu {σ:St} {H:Hp} {Q:VK} (K:PB) (h:rdE K (dFn F g) σ H Q):zW (spF F K) [] E0 (rdA K g) σ H Q:=by
 obtain ⟨H0,Hs,τ,fp,d,st,sm,e,q⟩:=h;obtain ⟨ds,e1,e2⟩:=Ub e;obtain ⟨s,e2,e3⟩:=Ub e2;refine ⟨H0,Hs,τ,fp,ds,st,sm,e1,λ vs Hs1 H1 g1 r1=>?_⟩;refine ⟨Hs1,ds,s,g1.sh,by rw [Zv]; exact r1,e2,λ v Hs2 H2 g2 rv=>?_⟩;obtain ⟨Hs3,g3,r3⟩:=rv.shr g2 e3;exact q v Hs3 H2 (g1.trans g3) r3
theorem Et (K:PB) (h:rdO K (EK F g) σ H Q):zW (spF F K) [] E0 (rdA K g) σ H Q:=by
 obtain ⟨H0,Hs,τ,fp,d,st,sm,e,q⟩:=h;obtain ⟨ds,e1,e2⟩:=Ub e;obtain ⟨s,e2,e3⟩:=Ub e2;refine ⟨H0,Hs,τ,fp,ds,st,sm,e1,λ vs Hs1 H1 g1 r1=>?_⟩;refine ⟨Hs1,ds,s,g1.sh,by rw [Zv]; exact r1,e2,λ v Hs2 H2 g2 rv=>?_⟩
 cases s with
 | own d'=>
  have e':=Zj e3;subst e';obtain ⟨a,rfl,o,z⟩:=rv;exact q a Hs2 H2 (g1.trans g2) o (g1.hh.free z)
 | shr _=>cases e3
 | no=>cases e3
theorem C3 (Fo:gO X.prog X.w X.K X.mg X.base CX0 k f fd ps (spF F X.K)) (hr:dD k X.A) (hg:Gl X x) (hm:X.mg x=some (.ref f)) (hk:W.keepIn X.K (.ref f)=true) (hb:Binds X.K fd ps [])
 (ha:PAd X (e::es) g) (hdb:Dg x:=by decide) (he:Se X e es:=by rfl) (hpl:Sb X pos es:=by rfl):PEd X (.Call (.Name x p) (e::es) [] pos) (dFn F g):=(lL Fo hr hg hm hk hb .nil oj ha hdb he hpl).imp λ σ H Q h=>Eu X.K h
theorem CO (Fo:gO X.prog X.w X.K X.mg X.base CX0 k f fd ps (spF F X.K)) (hr:dD k X.A) (hg:Gl X x) (hm:X.mg x=some (.ref f)) (hk:W.keepIn X.K (.ref f)=true) (hb:Binds X.K fd ps [])
 (ha:PAd X (e::es) g) (hdb:Dg x:=by decide) (he:Se X e es:=by rfl) (hpl:Sb X pos es:=by rfl):PEo X (.Call (.Name x p) (e::es) [] pos) (EK F g):=(lL Fo hr hg hm hk hb .nil oj ha hdb he hpl).imp λ σ H Q h=>Et X.K h
end
noncomputable def xY (g:D->Px D):My D->Px (My D)
 | []=>some []
 | d::ds=>(g d).bind λ x=>(xY g ds).bind λ xs=>some (x::xs)
def Gc:Px Sl->Sl
 | some (.shr d)=>.shr d
 | _=>.no
def fQ (τ:My Sl) (cs:My (Str×Nat)):My Sl:=cs.map λ p=>Gc τ[p.2]?
noncomputable def A3 (it:DI) (g:DE) (cs:My (Str×Nat)):DE:=λ τ=>(it τ).bind λ ds=>if ds.length<=100000 then (xY (λ d=>g (.shr d::fQ τ cs)) ds).map .lst else none
theorem jV {K:PB} {H0 Hs H:Hp} {σ:St} {τ:My Sl} {fp:My Pz} (st:StR K H0 Hs H σ τ fp):∀ cs:My (Str×Nat),StR K H0 Hs H (aT σ cs) (fQ τ cs) []
 | []=>.nil
 | p :: cs=>by
  have ih:=jV st cs;show StR K H0 Hs H ((σ[p.2]?).join::aT σ cs) (Gc τ[p.2]?::fQ τ cs) []
  cases q:τ[p.2]? with
  | none=>exact .no ih
  | some sl=>
   cases sl with
   | no=>exact .no ih
   | own d=>exact .no ih
   | shr d=>
    obtain ⟨v,h1,h2⟩:=st.get q;rw [h1];exact .shr h2 ih
section
variable {X:Cx} {e:Expr} {es:My Expr} {pos:Pos}
theorem EN {K:PB} {it:DI} {g:DE} {cs:My (Str×Nat)} {σ:St} {H:Hp} {Q:VK} (h:rdO K (A3 it g cs) σ H Q):F3 (rdI K it) (rdE K g) cs σ H Q:=by
 obtain ⟨H0,Hs,τ,fp,d,st,sm,e,k⟩:=h;obtain ⟨ds,e1,e2⟩:=Ub e;split at e2
 ·rename_i hl
  obtain ⟨full,e3,rfl⟩:=Zm e2;refine ⟨H0,Hs,τ,fp,ds,st,sm,e1,λ J Hs1 H1 g1 hJ=>?_⟩;refine ⟨λ i m ys H'=>m=ds.length - i/\i<=ds.length/\∃ Hs2 es rest,Ext Hs1 H1 Hs2 H'/\Rps K Hs2 ys es/\es.length=i/\xY (λ d=>g (.shr d::fQ τ cs)) (ds.drop i)=some rest/\es++rest=full,⟨ds.length,by simp,Z8 _,Hs1,[],full,.refl g1.sh,.nil,rfl,by simpa using e3,rfl⟩,?_⟩
  rintro i m ys H2 ⟨rfl,hi,Hs2,es,rest,g2,ry,ley,e4,e5⟩
  obtain ⟨hgo,hstop⟩:=hJ Hs2 H2 g2.ss g2.sh;have ly:ys.length=i:=by rw [ry.length,ley]
  by_cases hlt:i < ds.length
  ·have ed:=Yg hlt
   rw [ed] at e4;obtain ⟨x,q1,q2⟩:=Ub e4;obtain ⟨xs,q3,q4⟩:=Ub q2;have eq:=Zj q4;subst eq;obtain ⟨go,yl⟩:=hgo i ds[i] (List.getElem?_eq_getElem hlt);refine .inr ⟨go,by rw [ly]; exact le5 (by omega),λ v H3 y=>?_⟩;obtain ⟨Hs3,g3,rv⟩:=yl v H3 y;have g13:=(g1.trans g2).trans g3;refine ⟨H0,Hs3,.shr ds[i]::fQ τ cs,[],x,.shr rv (jV (st.ext g13) cs),g3.sh,q1,λ v4 Hs4 H4 g4 r4=>?_⟩;exact ⟨ds.length - (i+1),by omega,rfl,hlt,Hs4,es++[x],xs,(g2.trans g3).trans g4,((ry.same g3.ss).same g4.ss).append (.cons r4 .nil),by simp [ley],q3,by rw [<- e5]; simp⟩
  ·have e0:i=ds.length:=by omega
   subst e0;rw [Y1] at e4;have er:=Zj e4;subst er;rw [Zv] at e5;subst e5;refine .inl ⟨hstop _ (Zn _),by rw [ly]; exact vk hl,λ p hp=>?_⟩;have g12:=g1.trans g2;exact k p Hs2 _ ⟨g12.ss,g12.sh.trans (aC hp _),g12.hh.trans (aC hp _),g12.fr⟩ (.lst ay (g12.sh.free hp) ry) (g12.hh.free hp)
 · cases e2
end
theorem uk {b:D->DS} {o:Out} (P:Nat->My Sl->Prop):∀ {ds:My D} {τ:My Sl} (i:Nat),P i τ->(∀ j d τ,ds[j]?=some d->P (i+j) τ->∃ τ',b d τ=some (.next τ')/\P (i+j+1) τ')->∃ τ',v7 b ds τ=some (.next τ')/\P (i+ds.length) τ'
 | [],τ,i,h,_=>⟨τ,rfl,h⟩
 | d::ds,τ,i,h,hs=>by
  obtain ⟨τ1,e1,p1⟩:=hs 0 d τ rfl h
  obtain ⟨τ2,e2,p2⟩:=uk (o:=o) P (ds:=ds) (τ:=τ1) (i+1) p1 λ j d' τ' hj p=>by
   have:=hs (j+1) d' τ' (by simpa using hj) (by rw [show i+(j+1)=i+1+j by omega]; exact p);rw [show i+(j+1)+1=i+1+j+1 by omega] at this;exact this
  refine ⟨τ2,?_,?_⟩
  · simp only [v7,e1]; exact e2
  · rw [Zu,show i+(ds.length+1)=i+1+ds.length by omega]; exact p2
noncomputable def AE (C:Pz) (f:Str):D->Px D
 | .obj C' fs=>if C'=C then fs.lookup f else none
 | _=>none
theorem RpF.look {K:PB} {H:Hp} {f:Str} {d:D}:∀ {fs:My (Str×V)} {ds:My (Str×D)},RpF K H fs ds->ds.lookup f=some d->∃ v,fs.lookup f=some v/\Rp K H v d
 | _,_,.nil,e=>by simp at e
 | _,_,@RpF.cons _ _ k x d' xs ds h r,e=>by
  rw [List.lookup_cons] at e ⊢
  by_cases q:f == k
  ·simp only [q] at e ⊢
   cases e;exact ⟨x,rfl,h⟩
  ·simp only [Bool.not_eq_true] at q
   simp only [q] at e ⊢;exact RpF.look r e
theorem RpF.AI {K:PB} {H:Hp} {f:Str}:∀ {fs:My (Str×V)} {ds:My (Str×D)},RpF K H fs ds->ds.lookup f=none->fs.lookup f=none
 | _,_,.nil,e=>rfl
 | _,_,@RpF.cons _ _ k x d' xs ds h r,e=>by
  rw [List.lookup_cons] at e ⊢
  by_cases q:f == k
  · simp only [q] at e; cases e
  ·simp only [Bool.not_eq_true] at q
   simp only [q] at e ⊢;exact RpF.AI r e
section
variable {X:Cx} {e o:Expr} {es:My Expr} {x m f:Str} {p pos Po:Pos} {k:Nat} {C fa:Pz} {fd:FuncData} {ps:My Str} {F:My D->Px Sl} {g:DE} {ga:DA}
noncomputable def ig (C:Pz) (m:Str) (F:My D->Px Sl) (o:DE) (g:DA):DE:=λ τ=>(o τ).bind λ x=>(g τ).bind λ ds=>match x with
 | .obj C' fs=>if C'=C/\fs.lookup m=none then (F (x::ds)).bind slD else none
 | _=>none
theorem DX (K:PB) (h:rdE K (ig C m F g ga) σ H Q):Cj C m (spF F K) [] E0 (rdE K g) (rdA K ga) σ H Q:=by
 obtain ⟨H0,Hs,τ,fp,d,st,sm,e,q⟩:=h;obtain ⟨x,e1,e2⟩:=Ub e;obtain ⟨ds,e3,e4⟩:=Ub e2;refine ⟨H0,Hs,τ,fp,x,st,sm,e1,λ v Hs1 H1 g1 r1=>?_⟩
 cases r1 with
 | @obj a C' dx fs dd h r=>
  simp only at e4;split at e4
  ·rename_i hc
   obtain ⟨hc1,hc2⟩:=hc;subst hc1;obtain ⟨s,e5,e6⟩:=Ub e4;refine ⟨a,dx,fs,rfl,g1.sh _ _ h,r.AI hc2,?_⟩;refine ⟨H0,Hs1,τ,fp,ds,st.ext g1,g1.sh,e3,λ vs Hs2 H2 g2 r2=>?_⟩;refine ⟨Hs2,_,s,g2.sh,.cons ((Rp.obj h r).same g2.ss) (by rw [Zv]; exact r2),e5,λ v Hs3 H3 g3 rv=>?_⟩;obtain ⟨Hs4,g4,r4⟩:=rv.shr g3 e6;exact q v Hs4 H3 ((g1.trans g2).trans g4) r4
  · cases e4
 | _=>exact nn e4
theorem CZ (he:PEd X o g) (c:Cls X.K C) (hm:B7 X.K C m fa) (Fo:gO X.prog X.w X.K X.mg X.base CX0 k fa fd ps (spF F X.K)) (hr:dD k X.A) (hb:Binds X.K fd ps []) (ha:PAd X (e::es) ga)
 (hst:Se X e es:=by rfl) (hpl:Sb X pos es:=by rfl)
 (ht:eval (.Call (.Attribute o m Po) (e::es) [] pos) X.env=(do
   let ov <- eval o X.env
   standAt Po.atName
   let (f,first) <- holding [ov] (getMethod ov m pl)
   callWith pos f first (backTo pos (starEach (e::es) X.env)) (backToKw pos (keywordEach [] X.env))):=by rfl):PEd X (.Call (.Attribute o m Po) (e::es) [] pos) (ig C m F g ga):=(rM he c hm Fo hr hb .nil oj ha hst hpl ht).imp λ σ H Q h=>DX X.K h
end
noncomputable def eL:My D->Px (My Int)
 | []=>some []
 | .int i::ds=>(eL ds).map (i::·)
 | _=>none
theorem l0:∀ {ds:My D} {ns:My Int},eL ds=some ns->ds=ns.map .int
 | [],ns,h=>by simp [eL] at h; subst h; rfl
 | .int i::ds,ns,h=>by
  obtain ⟨m,h1,rfl⟩:=Zm (show Option.map _ (eL ds)=some ns from h);rw [l0 h1];rfl
 | .non::_,_,h=>by simp [eL] at h
 | .bl _::_,_,h=>by simp [eL] at h
 | .str _::_,_,h=>by simp [eL] at h
 | .ty _::_,_,h=>by simp [eL] at h
 | .tup _::_,_,h=>by simp [eL] at h
 | .lst _::_,_,h=>by simp [eL] at h
 | .fz _::_,_,h=>by simp [eL] at h
 | .dct _::_,_,h=>by simp [eL] at h
 | .obj _ _::_,_,h=>by simp [eL] at h
 | .cls _::_,_,h=>by simp [eL] at h
 | .dfz _::_,_,h=>by simp [eL] at h
theorem ud (ns:My Int):eL (ns.map .int)=some ns:=by
 induction ns with
 | nil=>rfl
 | cons n ns ih=>rw [Zg]; show Option.map _ (eL (ns.map .int))=_; rw [ih]; rfl
theorem Rps.h9 {K:PB} {H:Hp}:∀ {xs:My V} {ns:My Int},Rps K H xs (ns.map .int)->xs=ns.map V.int
 | _,[],.nil=>rfl
 | _,n::ns,.cons h r=>by
  cases h;rw [Rps.h9 r];rfl
theorem h9:∀ {ns:My Int} {us:My Py},bX (ns.map V.int) us->∀ (i:Nat) (v:Py),us[i]?=some v->∃ t,v=.int ((ns[i]?).getD 0) t
 | [],_,.nil,i,v,e=>by simp at e
 | b::bs,_,.cons r t,0,v,e=>by
  simp at e;subst e;obtain ⟨tk,rfl⟩:=r;exact ⟨tk,by simp⟩
 | b::bs,_,.cons r t,i+1,v,e=>by
  obtain ⟨c,h1⟩:=h9 t i v (by simpa using e);exact ⟨c,by simpa using h1⟩
def Cn (J:It) (tt:TT) (te:TE) (cs:My (Str×Nat)) (σ:St) (Q:VK) (H1:Hp):Prop:=∃ W:Nat->Nat->My V->Hp->Prop,(∃ m,W 0 m [] H1)/\∀ i m ys H',W i m ys H'->(J.stop i H'/\ys.length<=sizeLine/\∀ p,H' p=none->Q (.ref p) (upd H' p (.lst ys)))\/(J.go i H'/\ys.length < sizeLine/\∀ v H2,J.yld i H' v H2->tt (some v::aT σ cs) H2 λ b H3=>if b=true then te (some v::aT σ cs) H3 λ y H4=>∃ m',m' < m/\W (i+1) m' (ys++[y]) H4 else ∃ m',m' < m/\W (i+1) m' ys H3)
def Bk (wi:TI) (tt:TT) (te:TE) (cs:My (Str×Nat)):TE:=λ σ H Q=>wi σ H λ J H1=>Cn J tt te cs σ Q H1
section
variable {X:Cx}
theorem sP {elt iter:Expr} {x:Str} {px pos:Pos} {scope:Scope} {cl:My (Str×Pz)} {cs:My (Str×Nat)} {te:TE} {tt:TT} {cnd:Expr} {Pn:My (Pz×Obj)} {σ:St} {H:Hp} {s:PD} {Q:VK} {it:Pz} {fp:My Pz} {tn:Nat->Heap->Prop} {J:It}
 {RR:Py->Pz->Result->PD->Prop} {E:Py->PD->Prop} (hc:X.calm=true) (O:dY X scope cl x cs) (hcd:∀ s H fp C,PT (cK X scope cl (x::cs.map (·.1)) s H fp C) cnd tt) (he:∀ s H fp C,PE (cK X scope cl (x::cs.map (·.1)) s H fp C) elt te)
 (I:Inv X Pn σ H s) (T:Turn X.prog X.w X.K (.Name x px) J fp it tn) (st:tn 0 s.heap) (f2:∀ b ∈ fp,uK X Pn H b)
 (h : ∃ W:Nat->Nat->My V->Hp->Prop,(∃ m,W 0 m [] H)/\∀ i m ys H',W i m ys H'->(J.stop i H'/\ys.length<=sizeLine/\∀ p,H' p=none->Q (.ref p) (upd H' p (.lst ys)))\/(J.go i H'/\ys.length < sizeLine/\∀ v H2,J.yld i H' v H2->tt (some v::aT σ cs) H2 λ b H3=>if b=true then te (some v::aT σ cs) H3 λ y H4=>∃ m',m' < m/\W (i+1) m' (ys++[y]) H4 else ∃ m',m' < m/\W (i+1) m' ys H3))
 (hRR:∀ D C s' H' ys,s.heap.objs.size<=D->s.heap.objs.size<=C->D≠C->(∃ m,s'.heap.Ns C m)->Inv X Pn σ (upd H' D (.lst ys)) s'->H' C=none->Q (.ref D) (upd H' D (.lst ys))->RR (.ref D) C (.ok .next) s'):wpAny (model X.prog X.w) X.A (newList []) (λ acc s₃=>wpAny (model X.prog X.w) X.A (newFunctionEnv scope X.env.globals cl [] X.env.qual none .none (some X.env)) (λ cenv s₄=>
   codeAny (model X.prog X.w) X.A (.compStart (.ListComp elt [⟨.Name x px,iter,[cnd],0⟩] scope pos) 0 (.ref it) acc { cenv with scope:=relabel scope X.env }) (RR acc cenv.locals) s₄) E s₃) E s:=nD hc O (λ s H fp C=>CG (hcd s H fp C)) he I T st f2 h hRR
theorem oa {elt iter:Expr} {x y:Str} {px py pos spos:Pos} {i:Nat} {scope:Scope} {cl:My (Str×Pz)} {cs:My (Str×Nat)} {wi:TI} {te:TE} {tt:TT} {cnd:Expr} (hN:X.N.Nodup) (hy:X.N[i]?=some y) (hx:Loc X.env.scope y)
  (hc:X.calm=true) (O:dY X scope cl x cs) (hi:PI X (.Name x px) iter wi)
  (hcd:∀ s H fp C,PT (cK X scope cl (x::cs.map (·.1)) s H fp C) cnd tt) (he:∀ s H fp C,PE (cK X scope cl (x::cs.map (·.1)) s H fp C) elt te) (hs:∀ x,foldedSetIterable iter X.env x=pure x:=by intro _; rfl)
  (hsw:swapsWith (.ListComp elt [⟨.Name x px,iter,[cnd],0⟩] scope pos) (some (.Name y py)) spos.line X.env=pure true:=by rfl)
  (hf:X.fn y=true\/X.env.scope.names.lookup y=some .local:=by walk_at "v"):PS X (.Assign [.Name y py] (.ListComp elt [⟨.Name x px,iter,[cnd],0⟩] scope pos) spos) (Ip (Bk wi tt te cs) (oB i)):=by
 intro Pn s σ H Dd I h;rw [exec_Assign_Name_used _ _ _ _ hsw];refine Zt (wpAny_standAt (Zt ?_))
 refine Zt (Yu (wpAny_comprehension_free rfl hs O.JC O.kind O.names (thn (hi Pn s σ H _ I h) λ v s1 h1=>thn h1 λ itv s2 h2=>?_))
  (λ _ s' hq=>Z5 (Z5 hq)) λ _ _ e=>e)
 obtain ⟨it,fp,tn,J,H2,rfl,I2,T,st2,f2,hw⟩:=h2;refine sP (Q:=λ v H1=>oB i v σ H1 Dd.nx) hc O hcd he I2 T st2 f2 hw λ D C s' H' ys hD hC hDC ⟨m,hm⟩ I' hn q=>?_
 have hn':upd H' D (.lst ys) C=none:=by rw [au (Ne.symm hDC)]; exact hn
 have FC:=I2.AQ hC hn';refine wpAny_assign_Name (lA I' hN hy hx (v:=.ref D) rfl (λ s'' I'' ⟨a,hsb,ha⟩=>?_) hf)
 have na:C≠a:=by
  rcases ha with ha | ha
  · rw [ha]; exact FC.2.1
  · exact Ne.symm (FC.2.2.2.2.1 y a ha)
 refine ⟨m,hm.sameBut hsb na,λ h' hs'=>?_⟩;exact ⟨σ.set i (some (.ref D)),upd H' D (.lst ys),I''.turned (λ b o hb e=>(hs'.2 b hb).trans e) hn' FC.2.1 FC.2.2.2.1 FC.2.2.2.2.1 FC.2.2.2.2.2,q⟩
end
noncomputable def sg (c:D->Px Bool) (g:D->Px D):My D->Px (My D)
 | []=>some []
 | d::ds=>(c d).bind λ b=>if b=true then (g d).bind λ x=>(sg c g ds).bind λ xs=>some (x::xs) else sg c g ds
noncomputable def md (it:DI) (c:DT) (g:DE) (cs:My (Str×Nat)):DE:=λ τ=>(it τ).bind λ ds=>if ds.length<=100000 then (sg (λ d=>c (.shr d::fQ τ cs)) (λ d=>g (.shr d::fQ τ cs)) ds).map .lst else none
section
variable {X:Cx} {e:Expr} {es:My Expr} {pos:Pos}
theorem uA {K:PB} {it:DI} {c:DT} {g:DE} {cs:My (Str×Nat)} {σ:St} {H:Hp} {Q:VK} (h:rdO K (md it c g cs) σ H Q):Bk (rdI K it) (rdT K c) (rdE K g) cs σ H Q:=by
 obtain ⟨H0,Hs,τ,fp,d,st,sm,e,k⟩:=h;obtain ⟨ds,e1,e2⟩:=Ub e;split at e2
 ·rename_i hl
  obtain ⟨full,e3,rfl⟩:=Zm e2;refine ⟨H0,Hs,τ,fp,ds,st,sm,e1,λ J Hs1 H1 g1 hJ=>?_⟩;refine ⟨λ i m ys H'=>m=ds.length - i/\i<=ds.length/\∃ Hs2 es rest,Ext Hs1 H1 Hs2 H'/\Rps K Hs2 ys es/\es.length<=i/\sg (λ d=>c (.shr d::fQ τ cs)) (λ d=>g (.shr d::fQ τ cs)) (ds.drop i)=some rest/\es++rest=full,⟨ds.length,by simp,Z8 _,Hs1,[],full,.refl g1.sh,.nil,Zn _,by simpa using e3,rfl⟩,?_⟩
  rintro i m ys H2 ⟨rfl,hi,Hs2,es,rest,g2,ry,ley,e4,e5⟩
  obtain ⟨hgo,hstop⟩:=hJ Hs2 H2 g2.ss g2.sh;have ly:ys.length<=i:=by rw [ry.length]; exact ley
  by_cases hlt:i < ds.length
  ·have ed:=Yg hlt
   rw [ed] at e4;obtain ⟨b,q0,q0'⟩:=Ub e4;obtain ⟨go,yl⟩:=hgo i ds[i] (List.getElem?_eq_getElem hlt);refine .inr ⟨go,le5 (by omega),λ v H3 y=>?_⟩;obtain ⟨Hs3,g3,rv⟩:=yl v H3 y;have g13:=(g1.trans g2).trans g3;refine ⟨H0,Hs3,.shr ds[i]::fQ τ cs,[],b,.shr rv (jV (st.ext g13) cs),g3.sh,q0,λ Hs4 H4 g4=>?_⟩;have g14:=g13.trans g4
   cases b with
   | true=>
    refine Ef ?_
    obtain ⟨x,q1,q2⟩:=Ub (q0');obtain ⟨xs,q3,q4⟩:=Ub q2;have eq:=Zj q4;subst eq;refine ⟨H0,Hs4,.shr ds[i]::fQ τ cs,[],x,.shr (rv.same g4.ss) (jV (st.ext g14) cs),g4.sh,q1,λ v5 Hs5 H5 g5 r5=>?_⟩;exact ⟨ds.length - (i+1),by omega,rfl,hlt,Hs5,es++[x],xs,((g2.trans g3).trans g4).trans g5,(((ry.same g3.ss).same g4.ss).same g5.ss).append (.cons r5 .nil),by simp; omega,q3,by rw [<- e5]; simp⟩
   | false=>
    refine Eg ?_
    have q1:=q0';exact ⟨ds.length - (i+1),by omega,rfl,hlt,Hs4,es,rest,(g2.trans g3).trans g4,(ry.same g3.ss).same g4.ss,by omega,q1,e5⟩
  ·have e0:i=ds.length:=by omega
   subst e0;rw [Y1] at e4;have er:=Zj e4;subst er;rw [Zv] at e5;subst e5;refine .inl ⟨hstop _ (Zn _),vk (by omega),λ p hp=>?_⟩;have g12:=g1.trans g2;exact k p Hs2 _ ⟨g12.ss,g12.sh.trans (aC hp _),g12.hh.trans (aC hp _),g12.fr⟩ (.lst ay (g12.sh.free hp) ry) (g12.hh.free hp)
 · cases e2
end
noncomputable def fu:D->Px Key
 | .int i=>some (.inl i)
 | .str x=>some (.inr x)
 | _=>none
def jv (kvs:My (Key×D)) (k:Key):Px D:=(kvs.find? λ kv=>decide (kv.1=k)).map (·.2)
def kE {K:PB} {H:Hp} {v:V} {d:D} {k:Key} (r:Rp K H v d) (e:fu d=some k):v=kV k:=by
 cases r <;> simp [fu] at e <;> subst e <;> rfl
theorem RpK.val {K:PB} {H:Hp} {k:Key}:∀ {kvs:My (Key×V)} {ds:My (Key×D)},RpK K H kvs ds->(∀ d,jv ds k=some d->∃ v,d8 kvs k=some v/\Rp K H v d)/\(jv ds k=none->d8 kvs k=none)
 | _,_,.nil=>⟨λ d e=>by simp [jv] at e,λ _=>rfl⟩
 | _,_,@RpK.cons _ _ j x d xs ds h r=>by
  obtain ⟨i1,i2⟩:=RpK.val (k:=k) r
  by_cases q:j=k
  ·subst q
   refine ⟨λ d' e=>?_,λ e=>?_⟩
   ·have:d=d':=by simpa [jv] using e
    subst this;exact ⟨x,by simp [d8],h⟩
   · simp [jv] at e
  ·have e1:jv ((j,d)::ds) k=jv ds k:=by simp [jv,q]
   have e2:d8 ((j,x)::xs) k=d8 xs k:=by simp [d8,q]
   rw [e1,e2];exact ⟨i1,i2⟩
theorem RpK.length {K:PB} {H:Hp}:∀ {kvs:My (Key×V)} {ds:My (Key×D)},RpK K H kvs ds->kvs.length=ds.length
 | _,_,.nil=>rfl
 | _,_,.cons _ r=>Yo (·+1) r.length
noncomputable def d3:D->D->Px D
 | .dct kvs,y=>(fu y).bind λ k=>jv kvs k
 | .dfz kvs,y=>(fu y).bind λ k=>jv kvs k
 | _,_=>none
noncomputable def Dk:D->D->Px D
 | y,.dct kvs=>(fu y).map λ k=>.bl (jv kvs k).isSome
 | y,.dfz kvs=>(fu y).map λ k=>.bl (jv kvs k).isSome
 | _,_=>none
def jd:D->D->Px D
 | y,.dct kvs=>(fu y).map λ k=>.bl (!(jv kvs k).isSome)
 | y,.dfz kvs=>(fu y).map λ k=>.bl (!(jv kvs k).isSome)
 | _,_=>none
section
variable {X:Cx} {o i e value:Expr} {pos pos' Po Pp:Pos} {f g h:DE}
theorem sI {neg:Bool} {σ:St} {H:Hp} {Q:VK} (K:PB) (h:rdE K (dOp (if neg then jd else Dk) f g) σ H Q):rdE K f σ H λ y H1=>rdE K g σ H1 λ x H2=>∃ a o,x=.ref a/\s9 H2 a y o/\Q (.bl (if neg then !o.isSome else o.isSome)) H2:=by
 have h':=m3 K h;obtain ⟨H0,Hs,τ,fp,x,st,sm,e1,kk⟩:=h';refine ⟨H0,Hs,τ,fp,x,st,sm,e1,λ v Hs1 H1 g1 r1=>?_⟩;obtain ⟨H0',Hs',τ',fp',y,st',sm',e2,kk2⟩:=kk v Hs1 H1 g1 r1;refine ⟨H0',Hs',τ',fp',y,st',sm',e2,λ u Hs2 H2 g2 r2=>?_⟩;obtain ⟨Hs3,dx,dy,d,sm3,rx,ry,eo,k⟩:=kk2 u Hs2 H2 g2 r2
 obtain ⟨ds,key,ey,ek,ev⟩:∃ ds key,(dy=.dct ds\/dy=.dfz ds)/\fu dx=some key/\D.bl (if neg then !(jv ds key).isSome else (jv ds key).isSome)=d:=by
  cases neg with
  | true=>
   have eo:jd dx dy=some d:=eo;unfold jd at eo;split at eo
   ·obtain ⟨key,a1,a2⟩:=Zm eo
    exact ⟨_,key,.inl rfl,a1,a2⟩
   ·obtain ⟨key,a1,a2⟩:=Zm eo
    exact ⟨_,key,.inr rfl,a1,a2⟩
   · cases eo
  | false=>
   have eo:Dk dx dy=some d:=eo;unfold Dk at eo;split at eo
   ·obtain ⟨key,a1,a2⟩:=Zm eo
    exact ⟨_,key,.inl rfl,a1,a2⟩
   ·obtain ⟨key,a1,a2⟩:=Zm eo
    exact ⟨_,key,.inr rfl,a1,a2⟩
   · cases eo
 obtain ⟨a,kvs,rfl,hH,rk⟩:∃ a kvs,u=.ref a/\Rd H2 a (.dK kvs)/\RpK K Hs3 kvs ds:=by
  rcases ey with rfl | rfl
  ·cases ry with
   | dct hH rk=>exact ⟨_,_,rfl,.inl (sm3 _ _ hH),rk⟩
  ·cases ry with
   | dfz hH rk=>exact ⟨_,_,rfl,hH.elim (λ z=>.inl (sm3 _ _ z)) λ ⟨o,z⟩=>.inr ⟨o,sm3 _ _ z⟩,rk⟩
 have:=kE rx ek;subst this;subst ev
 have is:(d8 kvs key).isSome=(jv ds key).isSome:=by
  cases q:jv ds key with
  | none=>rw [(rk.val).2 q]; rfl
  | some d'=>obtain ⟨w,hw,_⟩:=(rk.val (k:=key)).1 d' q; rw [hw]; rfl
 refine ⟨a,d8 kvs key,rfl,.inl ⟨kvs,key,hH,rfl,rfl⟩,?_⟩;rw [is];exact k _ Hs3 H2 (.refl sm3) (.bl _)
theorem Cf (K:PB) (h:rdT K (dT f) σ H Q):rdE K f σ H λ x H1=>∃ c,x=.bl c/\Q c H1:=by
 obtain ⟨H0,Hs,τ,fp,d,st,sm,e,k⟩:=h;obtain ⟨x,e1,e⟩:=Ub e;have hx:x=.bl d:=by cases x <;> simp at e <;> subst e <;> rfl
 subst hx;refine ⟨H0,Hs,τ,fp,_,st,sm,e1,λ v Hs' H' g r=>?_⟩;cases r;exact ⟨d,rfl,k Hs' H' g⟩
def EJ (f g h:DE):DE:=λ τ=>(f τ).bind λ x=>(g τ).bind λ y=>(h τ).bind λ z=>match x with
 | .dct kvs=>(fu y).map λ k=>(jv kvs k).getD z
 | _=>none
end
noncomputable def scD:D->Px V
 | .int i=>some (.int i)
 | .str x=>some (.str x)
 | .non=>some .non
 | _=>none
def Fe:My D->Px (My V)
 | []=>some []
 | d::ds=>(scD d).bind λ v=>(Fe ds).map (v::·)
def inS (x:D) (ys:My D):Px Bool:=(scD x).bind λ v=>(Fe ys).map λ vs=>inV v vs
noncomputable def Ed:D->Px (My D)
 | .lst ys=>some ys
 | .tup ys=>some ys
 | _=>none
def Dj (x y:D):Px D:=(Ed y).bind λ ys=>(inS x ys).map .bl
def oq (x y:D):Px D:=(Ed y).bind λ ys=>(inS x ys).map λ b=>.bl !b
def Gd {K:PB} {H:Hp} {v w:V} {d:D} (r:Rp K H v d) (e:scD d=some w):v=w/\mS v=true:=by
 cases r <;> simp [scD] at e <;> subst e <;> exact ⟨rfl,rfl⟩
theorem Bn {K:PB} {H:Hp}:∀ {vs ws:My V} {ds:My D},Rps K H vs ds->Fe ds=some ws->vs=ws/\vs.all mS=true
 | _,_,_,.nil,e=>by simp [Fe] at e; subst e; exact ⟨rfl,rfl⟩
 | _,_,_,.cons h r,e=>by
  obtain ⟨v,e1,e2⟩:=Ub (show (scD _).bind _=_ from e);obtain ⟨ws,e3,e4⟩:=Zm e2;obtain ⟨q1,q2⟩:=Gd h e1;obtain ⟨q3,q4⟩:=Bn r e3;subst q1 q3;exact ⟨e4,by rw [Xv,q2,q4]; rfl⟩
section
variable {X:Cx}
theorem BP {K:PB} {neg:Bool} {x y:V} {H:Hp} {Q:VK} (h:rdR K (if neg then oq else Dj) x y H Q):rIn K neg x y H Q:=by
 obtain ⟨Hs,dx,dy,d,sm,rx,ry,e,k⟩:=h
 obtain ⟨ys,b,e1,e2,e3⟩:∃ ys b,Ed dy=some ys/\inS dx ys=some b/\d=.bl (if neg then !b else b):=by
  cases neg with
  | true=>
   obtain ⟨ys,a1,a2⟩:=Ub (e);obtain ⟨b,a3,a4⟩:=Zm a2;exact ⟨ys,b,a1,a3,a4.symm⟩
  | false=>
   obtain ⟨ys,a1,a2⟩:=Ub (show (Ed dy).bind _=some d from e);obtain ⟨b,a3,a4⟩:=Zm a2;exact ⟨ys,b,a1,a3,a4.symm⟩
 obtain ⟨v,e4,e5⟩:=Ub e2;obtain ⟨vs,e6,e7⟩:=Zm e5;obtain ⟨q1,q2⟩:=Gd rx e4;subst q1 e3;have ry':=ry.same sm
 obtain ⟨p,xs,ep,hq,rs⟩:∃ p xs,y=.ref p/\(SqL K H p xs\/SqT K H p xs)/\Rps K H xs ys:=by
  cases ry' with
  | tup h r=>simp [Ed] at e1; subst e1; exact ⟨_,_,rfl,.inr h,r⟩
  | lst h r=>simp [Ed] at e1; subst e1; exact ⟨_,_,rfl,.inl (.of h),r⟩
  | _=>simp [Ed] at e1
 obtain ⟨q3,q4⟩:=Bn rs e6;subst q3;refine ⟨p,xs,ep,hq,q2,q4,?_⟩;rw [e7];exact k _ Hs H (.refl sm) (.bl _)
def Kq:OpR X (compareOp .In) (rdR X.K Dj):=xF.imp λ x y H Q h=>BP h
def AB:OpR X (compareOp .NotIn) (rdR X.K oq):=pN.imp λ x y H Q h=>BP h
end
section
variable {X:Cx} {a b c:Expr} {pos:Pos} {f g h:DE}
theorem A4 (K:PB) (hh:rdE K (sL (dOp o f g) (dOp o' g h)) σ H Q):wz (rdR K o) (rdR K o') (rdE K f) (rdE K g) (rdE K h) σ H Q:=by
 obtain ⟨H0,Hs,τ,fp,d,st,sm,e,k⟩:=hh;obtain ⟨r,e0,e⟩:=Ub e;obtain ⟨x,e1,e0⟩:=Ub e0;obtain ⟨y,e2,e0⟩:=Ub e0;refine ⟨H0,Hs,τ,fp,x,st,sm,e1,λ v Hs1 H1 g1 r1=>?_⟩;refine ⟨H0,Hs1,τ,fp,y,st.ext g1,g1.sh,e2,λ u Hs2 H2 g2 r2=>?_⟩;refine ⟨Hs2,x,y,r,g2.sh,r1.same g2.ss,r2,e0,λ w Hs3 H3 g3 r3=>?_⟩
 cases r3 with
 | bl kb=>
  refine ⟨kb,rfl,?_⟩
  cases kb with
  | false=>
   rw [if_neg Zf];have e':D.bl false=d:=by simpa using e
   subst e';exact k _ Hs3 H3 ((g1.trans g2).trans g3) (.bl false)
  | true=>
   rw [if_pos rfl];obtain ⟨y',q1,q2⟩:=Ub (e);have ey:y'=y:=by rw [e2] at q1; exact (Zj q1).symm
   subst ey;obtain ⟨z,q3,q4⟩:=Ub q2;refine ⟨H0,Hs3,τ,fp,z,st.ext ((g1.trans g2).trans g3),g3.sh,q3,λ u' Hs4 H4 g4 r4=>?_⟩;exact ⟨Hs4,y',z,d,g4.sh,(r2.same g3.ss).same g4.ss,r4,q4,λ w' Hs5 H5 g5 r5=>k w' Hs5 H5 ((((g1.trans g2).trans g3).trans g4).trans g5) r5⟩
 | _=>exact nn e
end
inductive Tg where
 | l | d | o (C:Addr)
inductive Mt where
 | s (d:D)
 | n (t:Tg) (cs:List (Key×Mt))
noncomputable def strOf:Key->Str
 | .inr x=>x
 | .inl _=>""
mutual
noncomputable def frz:Mt->D
 | .s d=>d
 | .n .l cs=>.lst (qS cs)
 | .n .d cs=>.dct (HE cs)
 | .n (.o C) cs=>.obj C (HF cs)
noncomputable def qS:My (Key×Mt)->My D
 | []=>[]
 | (_,m)::r=>frz m::qS r
noncomputable def HE:My (Key×Mt)->My (Key×D)
 | []=>[]
 | (k,m)::r=>(k,frz m)::HE r
noncomputable def HF:My (Key×Mt)->My (Str×D)
 | []=>[]
 | (k,m)::r=>(strOf k,frz m)::HF r
end
theorem oH:∀ cs:My (Key×Mt),qS cs=cs.map λ c=>frz c.2
 | []=>rfl
 | (_,m)::r=>by rw [qS,oH r]; rfl
theorem ui:∀ cs:My (Key×Mt),HE cs=cs.map λ c=>(c.1,frz c.2)
 | []=>rfl
 | (_,m)::r=>by rw [HE,ui r]; rfl
theorem uj:∀ cs:My (Key×Mt),HF cs=cs.map λ c=>(strOf c.1,frz c.2)
 | []=>rfl
 | (_,m)::r=>by rw [HF,uj r]; rfl
inductive Stp where
 | k (k:Key) | i (n:Nat)
noncomputable def xa (t:Tg) (cs:My (Key×Mt)) (st:Stp):Px Nat:=match t,st with
 | .l,.i n=>if n < cs.length then some n else none
 | .d,.k k=>cs.findIdx? λ c=>decide (c.1=k)
 | .o _,.k k=>cs.findIdx? λ c=>decide (c.1=k)
 | _,_=>none
def Mt.get:Mt->My Stp->Px Mt
 | m,[]=>some m
 | .s _,_::_=>none
 | .n t cs,st::p=>match xa t cs st with
  | none=>none
  | some i=>match cs[i]? with
   | none=>none
   | some c=>Mt.get c.2 p
noncomputable def Mt.put:Mt->My Stp->Mt->Mt
 | _,[],m2=>m2
 | .s d,_::_,_=>.s d
 | .n t cs,st::p,m2=>match xa t cs st with
  | none=>.n t cs
  | some i=>match cs[i]? with
   | none=>.n t cs
   | some c=>.n t (cs.set i (c.1,Mt.put c.2 p m2))
inductive Lay:Tg->Addr->List (Key×V)->HO->Prop where
 | l {dx:Addr} (kvs:List (Key×V)):Lay .l dx kvs (.lst (kvs.map (·.2)))
 | d {dx:Addr} (kvs:List (Key×V)):Lay .d dx kvs (.dK kvs)
 | o {C dx:Addr} (fs:List (Str×V)):Lay (.o C) dx (fs.map λ f=>(.inr f.1,f.2)) (.ins C dx fs)
structure Kd where
 k:Key
 v:V
 m:Mt
 fp:List Addr
abbrev Kd.kv (t:Kd):Key×V:=(t.k,t.v)
abbrev Kd.km (t:Kd):Key×Mt:=(t.k,t.m)
def KU:Tg->My Kd->Prop
 | .l,_=>True
 | _,ts=>(ts.map Kd.k).Nodup
inductive Od (K:W.Frag) (Hs H:Hp):List Addr->V->Mt->Prop where
 | s {v:V} {d:D} (r:Rp K Hs v d):Od K Hs H [] v (.s d)
 | n {a dx:Addr} {t:Tg} {ts:List Kd} {u:HO} (h:H a=some u) (hl:Lay t dx (ts.map Kd.kv) u) (nh:Hs a=none) (ku:KU t ts) (nd:(a::ts.flatMap Kd.fp).Nodup) (r:∀ c ∈ ts,Od K Hs H c.fp c.v c.m):Od K Hs H (a::ts.flatMap Kd.fp) (.ref a) (.n t (ts.map Kd.km))
section
variable {K:PB} {Hs H Hs' H':Hp} {fp:My Pz} {v:V} {m:Mt}
theorem Od.inv (h:Od K Hs H fp v (.n t cs)):∃ a dx ts u,v=.ref a/\fp=a::ts.flatMap Kd.fp/\cs=ts.map Kd.km/\H a=some u/\Lay t dx (ts.map Kd.kv) u/\Hs a=none/\KU t ts/\(a::ts.flatMap Kd.fp).Nodup/\∀ c ∈ ts,Od K Hs H c.fp c.v c.m:=by
 cases h with
 | n h hl nh ku nd r=>exact ⟨_,_,_,_,rfl,rfl,rfl,h,hl,nh,ku,nd,r⟩
theorem Od.live (h:Od K Hs H fp v m):∀ b ∈ fp,Hs b=none/\H b≠none:=by
 induction h with
 | s r=>intro b h; cases h
 | n h hl nh ku nd r ih=>
  intro b hb;rcases Zh.mp hb with e | e
  · subst e; exact ⟨nh,iY h⟩
  ·obtain ⟨c,hc,hb⟩:=Yk.mp e
   exact ih c hc b hb
def Od.nd (h:Od K Hs H fp v m):fp.Nodup:=by
 cases h with
 | s r=>exact .nil
 | n h hl nh ku nd r=>exact nd
theorem Od.mv (h:Od K Hs H fp v m) (g:cc Hs Hs'):(∀ b ∈ fp,Hs' b=none/\H' b=H b)->Od K Hs' H' fp v m:=by
 induction h with
 | s r=>exact λ _=>.s (r.same g)
 | n h hl nh ku nd r ih=>
  intro q;have qa:=q _ (Zd ..);exact .n (by rw [qa.2]; exact h) hl qa.1 ku nd λ c hc=>ih c hc λ b hb=>q b (Za _ (Yk.mpr ⟨c,hc,hb⟩))
theorem wM:∀ {ts:My Kd},(∀ c ∈ ts,Rp K H c.v (frz c.m))->Rps K H ((ts.map Kd.kv).map (·.2)) (qS (ts.map Kd.km))
 | [],_=>.nil
 | c::ts,h=>.cons (h c (Zd ..)) (wM λ c hc=>h c (Za _ hc))
theorem Bq:∀ {ts:My Kd},(∀ c ∈ ts,Rp K H c.v (frz c.m))->RpK K H (ts.map Kd.kv) (HE (ts.map Kd.km))
 | [],_=>.nil
 | c::ts,h=>.cons (h c (Zd ..)) (Bq λ c hc=>h c (Za _ hc))
theorem Br:∀ {ts:My Kd} {fs:My (Str×V)},(ts.map Kd.kv=fs.map λ f=>(Sum.inr f.1,f.2))->(∀ c ∈ ts,Rp K H c.v (frz c.m))->RpF K H fs (HF (ts.map Kd.km))
 | [],[],_,_=>.nil
 | [],_::_,e,_=>by cases e
 | _::_,[],e,_=>by cases e
 | c::ts,f::fs,e,h=>by
  obtain ⟨e1,e2⟩:=List.cons.inj e;obtain ⟨e3,e4⟩:=Prod.mk.inj e1;obtain ⟨x,y⟩:=f;have hc:=h c (Zd ..);show RpF K H ((x,y)::fs) ((strOf c.k,frz c.m)::_);have e3':c.k=Sum.inr x:=e3;have e4':c.v=y:=e4;rw [e3',<- e4'];exact .cons hc (Br e2 λ c hc=>h c (Za _ hc))
theorem Od.rp (h:Od K Hs H fp v m) (sm:cc Hs H):Rp K H v (frz m):=by
 induction h with
 | s r=>exact r.same sm
 | @n a dx t ts u h hl nh ku nd r ih=>
  have ih':∀ c ∈ ts,Rp K H c.v (frz c.m):=λ c hc=>ih c hc
  generalize ek:ts.map Kd.kv=kvs at hl
  cases hl with
  | l=>exact .lst h (by rw [<- ek]; exact wM ih')
  | d=>exact .dct h (by rw [<- ek]; exact Bq ih')
  | o fs=>exact .obj h (Br ek ih')
end
noncomputable def vAt (H:Hp):V->My Stp->Px V
 | v,[]=>some v
 | .ref a,.k k::p=>match H a with
  | some (.ins _ _ fs)=>(d8 (fs.map λ f=>((Sum.inr f.1:Key),f.2)) k).bind λ v=>vAt H v p
  | some (.dK kvs)=>(d8 kvs k).bind λ v=>vAt H v p
  | _=>none
 | .ref a,.i n::p=>match H a with
  | some (.lst xs)=>(xs[n]?).bind λ v=>vAt H v p
  | _=>none
 | _,_=>none
theorem ny {α:Type}:∀ {cs:My (Key×α)} {i:Nat},(cs.findIdx? λ c=>decide (c.1=k))=some i->∃ l1 x l2,cs=l1++(k,x)::l2/\l1.length=i/\∀ c ∈ l1,c.1≠k
 | [],_,e=>by simp at e
 | (k',x)::cs,i,e=>by
  rw [List.findIdx?_cons] at e
  by_cases h:k'=k
  ·simp only [h,decide_true] at e
   have e':0=i:=by simpa using e
   subst h e';exact ⟨[],x,cs,rfl,rfl,λ c hc=>by cases hc⟩
  ·simp only [h,decide_false] at e
   obtain ⟨j,e1,rfl⟩:=Zm (by simpa using e);obtain ⟨l1,y,l2,e2,e3,e4⟩:=ny e1
   exact ⟨(k',x)::l1,y,l2,by rw [e2]; rfl,by rw [Zu,e3],λ c hc=>by
    rcases Zh.mp hc with rfl | hc
    · exact h
    · exact e4 c hc⟩
theorem jU:∀ {l1 l2:My (Key×V)},(∀ c ∈ l1,c.1≠k)->d8 (l1++(k,x)::l2) k=some x
 | [],_,_=>jx rfl
 | c::l1,l2,h=>by
  rw [List.cons_append,jy (h c (Zd ..))];exact jU λ c hc=>h c (Za _ hc)
theorem xW:∀ {l1 l2:My (Key×Mt)} {c:Key×Mt},ts.map Kd.km=l1++c::l2->∃ t1 t t2,ts=t1++t::t2/\t1.map Kd.km=l1/\t.km=c/\t2.map Kd.km=l2:=by
 intro l1 l2 c e;obtain ⟨t1,r,rfl,e1,e2⟩:=List.map_eq_append_iff.mp e;obtain ⟨t,t2,rfl,e3,e4⟩:=List.map_eq_cons_iff.mp e2;exact ⟨t1,t,t2,rfl,e1,e3,e4⟩
theorem uB {t:Tg} {dx a:Pz} {ts:My Kd} {u:HO} {st:Stp} {i:Nat} {c:Key×Mt} {H:Hp} (h:H a=some u) (hl:Lay t dx (ts.map Kd.kv) u) (e1:xa t (ts.map Kd.km) st=some i) (e2:(ts.map Kd.km)[i]?=some c):∃ t1 k t2,ts=t1++k::t2/\t1.length=i/\k.km=c/\∀ p,vAt H (.ref a) (st::p)=vAt H k.v p:=by
 have key:∀ {kk:Key},((ts.map Kd.km).findIdx? λ c=>decide (c.1=kk))=some i->∃ t1 k t2,ts=t1++k::t2/\t1.length=i/\k.km=c/\d8 (ts.map Kd.kv) kk=some k.v:=λ {kk} e=>by
  obtain ⟨l1,x,l2,h1,h2,h3⟩:=ny e;obtain ⟨t1,k,t2,rfl,q1,q2,q3⟩:=xW h1;refine ⟨t1,k,t2,rfl,by rw [<- h2,<- q1,Zc],?_,?_⟩
  ·rw [h1,<- h2,List.getElem?_append_right (Zn _),Nat.sub_self] at e2
   rw [q2];exact Zj e2
  ·rw [Zp,Zg]
   have hk:k.k=kk:=(Prod.mk.inj q2).1;rw [show k.kv=(kk,k.v) by rw [<- hk]]
   exact jU λ c hc=>by
    obtain ⟨y,hy,rfl⟩:=Yt.mp hc;exact h3 y.km (by rw [<- q1]; exact Z9 hy)
 generalize ek:ts.map Kd.kv=kvs at hl
 cases hl with
 | l kvs'=>
  cases st with
  | k k=>cases e1
  | i n=>
   have lt:n < (ts.map Kd.km).length/\n=i:=by
    have e1':(if n < (ts.map Kd.km).length then some n else none)=some i:=e1;split at e1'
    · rename_i h; exact ⟨h,Zj e1'⟩
    · cases e1'
   obtain ⟨lt,rfl⟩:=lt;rw [Zc] at lt;have ets:ts=ts.take n++ts[n]::ts.drop (n+1):=by rw [List.getElem_cons_drop,List.take_append_drop]
   refine ⟨ts.take n,ts[n],ts.drop (n+1),ets,by rw [Xn]; omega,?_,λ p=>?_⟩
   ·rw [List.getElem?_map,List.getElem?_eq_getElem lt] at e2
    exact Zj e2
   ·show (match H a with | some (.lst xs)=>(xs[n]?).bind λ v=>vAt H v p | _=>none)=_
    rw [h];show (((kvs.map (·.2))[n]?).bind λ v=>vAt H v p)=_;rw [<- ek,List.getElem?_map,List.getElem?_map,List.getElem?_eq_getElem lt];rfl
 | d kvs'=>
  cases st with
  | i n=>cases e1
  | k kk=>
   obtain ⟨t1,k,t2,q1,q2,q3,q4⟩:=key e1;refine ⟨t1,k,t2,q1,q2,q3,λ p=>?_⟩;show (match H a with | some (.ins _ _ fs)=>(d8 (fs.map λ (f:Str×V)=>((Sum.inr f.1:Key),f.2)) kk).bind λ v=>vAt H v p | some (.dK kvs)=>(d8 kvs kk).bind λ v=>vAt H v p | _=>none)=_;rw [h];show ((d8 kvs kk).bind λ v=>vAt H v p)=_;rw [<- ek,q4];rfl
 | o fs=>
  cases st with
  | i n=>cases e1
  | k kk=>
   obtain ⟨t1,k,t2,q1,q2,q3,q4⟩:=key e1;refine ⟨t1,k,t2,q1,q2,q3,λ p=>?_⟩;show (match H a with | some (.ins _ _ fs)=>(d8 (fs.map λ (f:Str×V)=>((Sum.inr f.1:Key),f.2)) kk).bind λ v=>vAt H v p | some (.dK kvs)=>(d8 kvs kk).bind λ v=>vAt H v p | _=>none)=_;rw [h];show ((d8 (fs.map λ f=>((Sum.inr f.1:Key),f.2)) kk).bind λ v=>vAt H v p)=_;rw [<- ek,q4];rfl
theorem xO {α:Type} {a:α} {x y z:My α} (h:(a::(x++(y++z))).Nodup):a ∉ x/\a ∉ y/\a ∉ z/\(∀ b ∈ y,b ∉ x/\b ∉ z)/\x.Nodup/\z.Nodup/\(∀ b ∈ x,b ∉ z):=by
 rw [Zw,Yc,Yc] at h;simp only [Zi,not_or] at h;obtain ⟨⟨h1,h2,h3⟩,hx,⟨hy,hz,hyz⟩,hxyz⟩:=h;refine ⟨h1,h2,h3,λ b hb=>⟨λ hx'=>hxyz b hx' b (.inl hb) rfl,λ hz'=>hyz b hb b hz' rfl⟩,hx,hz,λ b hb hz'=>hxyz b hb b (.inr hz') rfl⟩
theorem ng {α:Type} {a:α} {x y z:My α} (h1:a ∉ x) (h2:a ∉ y) (h3:a ∉ z) (hy:y.Nodup) (hd:∀ b ∈ y,b ∉ x/\b ∉ z) (hx:x.Nodup) (hz:z.Nodup) (hxz:∀ b ∈ x,b ∉ z):(a::(x++(y++z))).Nodup:=by
 rw [Zw,Yc,Yc];simp only [Zi,not_or];exact ⟨⟨h1,h2,h3⟩,hx,⟨hy,hz,λ b hb c hc e=>(hd b hb).2 (e ▸ hc)⟩,λ b hb c hc e=>hc.elim (λ q=>(hd c q).1 (e ▸ hb)) λ q=>hxz b hb (e ▸ q)⟩
theorem KU.swap (h:KU t (t1++k::t2)) (e:k'.k=k.k):KU t (t1++k'::t2):=by
 cases t with
 | l=>exact h
 | d=>
  show ((t1++k'::t2).map Kd.k).Nodup;rw [Zp,Zg,e,<- Zg,<- Zp];exact h
 | o C=>
  show ((t1++k'::t2).map Kd.k).Nodup;rw [Zp,Zg,e,<- Zg,<- Zp];exact h
section
variable {K:PB} {Hs H:Hp}
theorem Od.ro:∀ (p:My Stp) {fp:My Pz} {v:V} {m m1:Mt},Od K Hs H fp v m->m.get p=some m1->∃ fp1 v1,vAt H v p=some v1/\Od K Hs H fp1 v1 m1/\(∀ b ∈ fp1,b ∈ fp)/\∀ Hs' H' fp2 m2,cc Hs Hs'->(∀ b ∈ fp,b ∉ fp1->Hs' b=none/\H' b=H b)->Od K Hs' H' fp2 v1 m2->(∀ b ∈ fp2,b ∈ fp1\/b ∉ fp)->∃ fp',Od K Hs' H' fp' v (m.put p m2)/\∀ b,b ∈ fp'↔(b ∈ fp/\b ∉ fp1)\/b ∈ fp2
 | [],fp,v,m,m1,h,e=>by
  have e':m=m1:=by
   cases m <;> exact Zj e
  subst e';have ep:∀ m2,m.put [] m2=m2:=λ m2=>by cases m <;> rfl
  exact ⟨fp,v,by cases v <;> rfl,h,λ _ q=>q,λ Hs' H' fp2 m2 g k h2 j=>⟨fp2,by rw [ep]; exact h2,λ b=>⟨.inr,λ q=>q.elim (λ z=>absurd z.1 z.2) id⟩⟩⟩
 | st::p,fp,v,.s d,m1,h,e=>by cases e
 | st :: p,fp,v,.n t cs,m1,h,e=>by
  obtain ⟨a,dx,ts,u,rfl,rfl,rfl,ha,hl,nh,ku,nd,r⟩:=h.inv;have e':(match xa t (ts.map Kd.km) st with | none=>none | some i=>match (ts.map Kd.km)[i]? with | none=>none | some c=>Mt.get c.2 p)=some m1:=e
  cases e1:xa t (ts.map Kd.km) st with
  | none=>rw [e1] at e'; cases e'
  | some i=>
   rw [e1] at e'
   cases e2:(ts.map Kd.km)[i]? with
   | none=>simp only [e2] at e'; cases e'
   | some c=>
    simp only [e2] at e';obtain ⟨t1,k,t2,rfl,q2,q3,q4⟩:=uB ha hl e1 e2;subst q3;obtain ⟨fp1,v1,w1,w2,w3,w4⟩:=Od.ro p (r k (Ze _ (Zd ..))) e';rw [Ym,Yd] at nd;obtain ⟨n1,n2,n3,n4,n5,n6,n7⟩:=xO nd
    have mem:∀ b,b ∈ a::(t1++k::t2).flatMap Kd.fp↔b=a\/b ∈ t1.flatMap Kd.fp\/b ∈ k.fp\/b ∈ t2.flatMap Kd.fp:=λ b=>by
     rw [Ym,Yd,Zh,Zi,Zi]
    refine ⟨fp1,v1,by rw [q4]; exact w1,w2,λ b hb=>(mem b).mpr (.inr (.inr (.inl (w3 b hb)))),λ Hs' H' fp2 m2 g kk h2 j=>?_⟩;have j2:∀ b ∈ fp2,b ∈ fp1\/b ∉ k.fp:=λ b hb=>(j b hb).imp id λ z q=>z ((mem b).mpr (.inr (.inr (.inl q))))
    obtain ⟨fp',o',i'⟩:=w4 Hs' H' fp2 m2 g (λ b hb hn=>kk b ((mem b).mpr (.inr (.inr (.inl hb)))) hn) h2 j2;have a1:a ∉ fp1:=λ z=>n2 (w3 _ z)
    have off:∀ b,b ∈ fp'->b≠a/\b ∉ t1.flatMap Kd.fp/\b ∉ t2.flatMap Kd.fp:=λ b hb=>by
     rcases (i' b).mp hb with ⟨z1,_⟩ | z
     · exact ⟨λ e=>n2 (e ▸ z1),(n4 b z1).1,(n4 b z1).2⟩
     ·rcases j b z with z1 | z1
      ·have z2:=w3 b z1
       exact ⟨λ e=>n2 (e ▸ z2),(n4 b z2).1,(n4 b z2).2⟩
      · exact ⟨λ e=>z1 ((mem b).mpr (.inl e)),λ q=>z1 ((mem b).mpr (.inr (.inl q))),λ q=>z1 ((mem b).mpr (.inr (.inr (.inr q))))⟩
    let k':Kd:=⟨k.k,k.v,k.m.put p m2,fp'⟩
    have eput:(Mt.n t ((t1++k::t2).map Kd.km)).put (st::p) m2=.n t ((t1++k'::t2).map Kd.km):=by
     show (match xa t ((t1++k::t2).map Kd.km) st with | none=>Mt.n t ((t1++k::t2).map Kd.km) | some i=>match ((t1++k::t2).map Kd.km)[i]? with | none=>Mt.n t ((t1++k::t2).map Kd.km) | some c=>.n t (((t1++k::t2).map Kd.km).set i (c.1,Mt.put c.2 p m2)))=_;simp only [e1,e2];rw [Zp,Zg,<- q2,<- Zc (f:=Kd.km),List.set_append_right _ _ (Zn _),Nat.sub_self,Zp,Zg];rfl
    have hkv:(t1++k'::t2).map Kd.kv=(t1++k::t2).map Kd.kv:=by rw [Zp,Zg,Zp,Zg]
    have qa:=kk a ((mem a).mpr (.inl rfl)) a1;refine ⟨a::(t1++k'::t2).flatMap Kd.fp,?_,λ b=>?_⟩
    ·rw [eput]
     refine .n (dx:=dx) (by rw [qa.2]; exact ha) (by rw [hkv]; exact hl) qa.1 (ku.swap rfl) ?_ λ c hc=>?_
     ·rw [Ym,Yd]
      exact ng n1 (λ z=>(off _ z).1 rfl) n3 o'.nd (λ b hb=>(off b hb).2) n5 n6 n7
     ·rcases Zi.mp hc with hc | hc
      · exact (r c (Zk _ hc)).mv g λ b hb=>kk b ((mem b).mpr (.inr (.inl (Yk.mpr ⟨c,hc,hb⟩)))) λ z=>(n4 b (w3 b z)).1 (Yk.mpr ⟨c,hc,hb⟩)
      ·rcases Zh.mp hc with rfl | hc
       · exact o'
       · exact (r c (Ze _ (Za _ hc))).mv g λ b hb=>kk b ((mem b).mpr (.inr (.inr (.inr (Yk.mpr ⟨c,hc,hb⟩))))) λ z=>(n4 b (w3 b z)).2 (Yk.mpr ⟨c,hc,hb⟩)
    ·rw [Ym,Yd,Zh,Zi,Zi,mem b,i' b]
     constructor
     ·rintro (rfl | z | (⟨z1,z2⟩ | z) | z)
      · exact .inl ⟨.inl rfl,a1⟩
      · exact .inl ⟨.inr (.inl z),λ q=>(n4 b (w3 b q)).1 z⟩
      · exact .inl ⟨.inr (.inr (.inl z1)),z2⟩
      · exact .inr z
      · exact .inl ⟨.inr (.inr (.inr z)),λ q=>(n4 b (w3 b q)).2 z⟩
     ·rintro (⟨rfl | z | z | z,z2⟩ | z)
      · exact .inl rfl
      · exact .inr (.inl z)
      · exact .inr (.inr (.inl (.inl ⟨z,z2⟩)))
      · exact .inr (.inr (.inr z))
      · exact .inr (.inr (.inl (.inr z)))
end
inductive Sm where
 | no | shr (d:D) | mu (b:Bool) (m:Mt)
def J0:Sm->Sl
 | .no=>.no
 | .shr d=>.shr d
 | .mu _ m=>.shr (frz m)
def er1:Sm->Sl
 | .shr d=>.shr d
 | _=>.no
abbrev bf (τ:My Sm):My Sl:=τ.map J0
abbrev er (τ:My Sm):My Sl:=τ.map er1
inductive StM (K:W.Frag) (H0 Hs H:Hp):List (Option Addr)->List (Option V)->List Sm->List Addr->Prop where
 | nil:StM K H0 Hs H [] [] [] []
 | no {p:Option Addr} {o:Option V} {ρ:List (Option Addr)} {σ:List (Option V)} {τ:List Sm} {fp:List Addr} (r:StM K H0 Hs H ρ σ τ fp):StM K H0 Hs H (p::ρ) (o::σ) (.no::τ) fp
 | shr {p:Option Addr} {v:V} {d:D} {ρ:List (Option Addr)} {σ:List (Option V)} {τ:List Sm} {fp:List Addr} (h:Rp K Hs v d) (r:StM K H0 Hs H ρ σ τ fp):StM K H0 Hs H (p::ρ) (some v::σ) (.shr d::τ) fp
 | mu {p:Option Addr} {v:V} {b:Bool} {m:Mt} {ρ:List (Option Addr)} {σ:List (Option V)} {τ:List Sm} {fq fp:List Addr} (h:Od K Hs H fq v m) (hp:b=true->∃ a,p=some a/\v=.ref a) (z:∀ c ∈ fq,H0 c=none) (j:∀ c ∈ fq,c ∉ fp) (r:StM K H0 Hs H ρ σ τ fp):StM K H0 Hs H (p::ρ) (some v::σ) (.mu b m::τ) (fq++fp)
section
variable {K:PB} {H0 Hs H Hs' H':Hp} {ρ:My (Px Pz)} {σ:My (Px V)} {τ:My Sm} {fp:My Pz}
theorem StM.mv (h:StM K H0 Hs H ρ σ τ fp) (g:cc Hs Hs'):(∀ b ∈ fp,Hs' b=none/\H' b=H b)->StM K H0 Hs' H' ρ σ τ fp:=by
 induction h with
 | nil=>exact λ _=>.nil
 | no _ ih=>exact λ q=>.no (ih q)
 | shr h _ ih=>exact λ q=>.shr (h.same g) (ih q)
 | mu h hp z j _ ih=>exact λ q=>.mu (h.mv g λ b hb=>q b (Zk _ hb)) hp z j (ih λ b hb=>q b (Ze _ hb))
theorem StM.live (h:StM K H0 Hs H ρ σ τ fp):∀ b ∈ fp,Hs b=none/\H b≠none/\H0 b=none:=by
 induction h with
 | nil=>intro b h; cases h
 | no _ ih=>exact ih
 | shr _ _ ih=>exact ih
 | mu h hp z j _ ih=>
  intro b hb;rcases Zi.mp hb with q | q
  · exact ⟨(h.live b q).1,(h.live b q).2,z b q⟩
  · exact ih b q
theorem StM.ext (g:Ext Hs H Hs' H') (h:StM K H0 Hs H ρ σ τ fp):StM K H0 Hs' H' ρ σ τ fp:=h.mv g.ss λ b hb=>by
 obtain ⟨h1,h2,_⟩:=h.live b hb;refine ⟨g.fr b h1 h2,?_⟩
 cases q:H b with
 | none=>exact absurd q h2
 | some u=>exact g.hh _ _ q
theorem StM.len (h:StM K H0 Hs H ρ σ τ fp):σ.length=τ.length:=by
 induction h with
 | nil=>rfl
 | no _ ih=>exact Yo (·+1) ih
 | shr _ _ ih=>exact Yo (·+1) ih
 | mu _ _ _ _ _ ih=>exact Yo (·+1) ih
theorem StM.bf (h:StM K H0 Hs H ρ σ τ fp) (sm:cc Hs H):StR K H H H σ (bf τ) []:=by
 induction h with
 | nil=>exact .nil
 | no _ ih=>exact .no ih
 | shr h _ ih=>exact .shr (h.same sm) ih
 | mu h _ _ _ _ ih=>exact .shr (h.rp sm) ih
theorem StM.er (h:StM K H0 Hs H ρ σ τ fp):StR K H0 Hs H σ (er τ) []:=by
 induction h with
 | nil=>exact .nil
 | no _ ih=>exact .no ih
 | shr h _ ih=>exact .shr h ih
 | mu h _ _ _ _ ih=>exact .no ih
theorem StM.ro (h:StM K H0 Hs H ρ σ τ fp):τ[i]?=some (.mu b m)->m.get q=some m1->∃ v fp1 v1,σ[i]?=some (some v)/\vAt H v q=some v1/\Od K Hs H fp1 v1 m1/\(∀ c ∈ fp1,c ∈ fp)/\∀ Hs' H' fp2 m2,cc Hs Hs'->(∀ c ∈ fp,c ∉ fp1->Hs' c=none/\H' c=H c)->Od K Hs' H' fp2 v1 m2->(∀ c ∈ fp2,c ∈ fp1\/(c ∉ fp/\H0 c=none))->∃ fp',StM K H0 Hs' H' ρ σ (τ.set i (.mu b (m.put q m2))) fp'/\∀ c,c ∈ fp'↔(c ∈ fp/\c ∉ fp1)\/c ∈ fp2:=by
 induction h generalizing i with
 | nil=>intro e; simp at e
 | no r ih=>
  intro e eg
  cases i with
  | zero=>simp at e
  | succ i=>
   obtain ⟨v,fp1,v1,h1,h2,h3,h4,h5⟩:=ih (i:=i) (by simpa using e) eg
   exact ⟨v,fp1,v1,by simpa using h1,h2,h3,h4,λ Hs' H' fp2 m2 g k o j=>by
    obtain ⟨fp',s,mem⟩:=h5 Hs' H' fp2 m2 g k o j
    exact ⟨fp',.no s,mem⟩⟩
 | shr hr r ih=>
  intro e eg
  cases i with
  | zero=>simp at e
  | succ i=>
   obtain ⟨v,fp1,v1,h1,h2,h3,h4,h5⟩:=ih (i:=i) (by simpa using e) eg
   exact ⟨v,fp1,v1,by simpa using h1,h2,h3,h4,λ Hs' H' fp2 m2 g k o j=>by
    obtain ⟨fp',s,mem⟩:=h5 Hs' H' fp2 m2 g k o j
    exact ⟨fp',.shr (hr.same g) s,mem⟩⟩
 | @mu p v b' m' ρ σ τ fq fp ho hp z j r ih=>
  intro e eg
  cases i with
  | zero=>
   have e':Sm.mu b' m'=.mu b m:=by simpa using e
   injection e' with e1 e2
   subst e1 e2;obtain ⟨fp1,v1,w1,w2,w3,w4⟩:=ho.ro q eg;refine ⟨v,fp1,v1,rfl,w1,w2,λ c hc=>Zk _ (w3 c hc),λ Hs' H' fp2 m2 g k o jj=>?_⟩;obtain ⟨fp',o',i'⟩:=w4 Hs' H' fp2 m2 g (λ c hc hn=>k c (Zk _ hc) hn) o λ c hc=>(jj c hc).imp id λ y q=>y.1 (Zk _ q)
   refine ⟨fp'++fp,.mu o' hp (λ c hc=>?_) (λ c hc=>?_) (r.mv g λ c hc=>k c (Ze _ hc) λ y=>j c (w3 c y) hc),λ c=>?_⟩
   ·rcases (i' c).mp hc with y | y
    · exact z c y.1
    ·rcases jj c y with y | y
     · exact z c (w3 c y)
     · exact y.2
   ·rcases (i' c).mp hc with y | y
    · exact j c y.1
    ·rcases jj c y with y | y
     · exact j c (w3 c y)
     · exact λ q=>y.1 (Ze _ q)
   ·rw [Zi,Zi,i' c]
    constructor
    ·rintro ((y | y) | y)
     · exact .inl ⟨.inl y.1,y.2⟩
     · exact .inr y
     · exact .inl ⟨.inr y,λ q=>j c (w3 c q) y⟩
    ·rintro (⟨y | y,y2⟩ | y)
     · exact .inl (.inl ⟨y,y2⟩)
     · exact .inr y
     · exact .inl (.inr y)
  | succ i=>
   obtain ⟨v',fp1,v1,h1,h2,h3,h4,h5⟩:=ih (i:=i) (by simpa using e) eg;refine ⟨v',fp1,v1,by simpa using h1,h2,h3,λ c hc=>Ze _ (h4 c hc),λ Hs' H' fp2 m2 g k o jj=>?_⟩;obtain ⟨fp',s,mem⟩:=h5 Hs' H' fp2 m2 g (λ c hc hn=>k c (Ze _ hc) hn) o λ c hc=>(jj c hc).imp id λ y=>⟨λ q=>y.1 (Ze _ q),y.2⟩
   have nf:∀ c ∈ fq,c ∉ fp1:=λ c hc q=>j c hc (h4 c q)
   refine ⟨fq++fp',.mu (ho.mv g λ c hc=>k c (Zk _ hc) (nf c hc)) hp z (λ c hc q=>?_) s,λ c=>?_⟩
   ·rcases (mem c).mp q with y | y
    · exact j c hc y.1
    ·rcases jj c y with y | y
     · exact nf c hc y
     · exact y.1 (Zk _ hc)
   ·rw [Zi,Zi,mem c]
    constructor
    ·rintro (y | y | y)
     · exact .inl ⟨.inl y,nf c y⟩
     · exact .inl ⟨.inr y.1,y.2⟩
     · exact .inr y
    ·rintro (⟨y | y,y2⟩ | y)
     · exact .inl y
     · exact .inr (.inl ⟨y,y2⟩)
     · exact .inr (.inr y)
theorem StM.out (h:StM K H0 Hs H ρ σ τ fp):τ[i]?=some (.mu b m)->∃ v fq fp',σ[i]?=some (some v)/\Od K Hs H fq v m/\StM K H0 Hs H ρ σ (τ.set i .no) fp'/\(∀ c ∈ fq,c ∉ fp'/\c ∈ fp)/\(∀ c,c ∈ fp↔c ∈ fq\/c ∈ fp'):=by
 induction h generalizing i with
 | nil=>intro e; simp at e
 | no r ih=>
  intro e
  cases i with
  | zero=>simp at e
  | succ i=>
   obtain ⟨v,fq,fp',h1,h2,h3,h4,h5⟩:=ih (i:=i) (by simpa using e);exact ⟨v,fq,fp',by simpa using h1,h2,.no h3,h4,h5⟩
 | shr hr r ih=>
  intro e
  cases i with
  | zero=>simp at e
  | succ i=>
   obtain ⟨v,fq,fp',h1,h2,h3,h4,h5⟩:=ih (i:=i) (by simpa using e);exact ⟨v,fq,fp',by simpa using h1,h2,.shr hr h3,h4,h5⟩
 | @mu p v b' m' ρ σ τ fq fp ho hp z j r ih=>
  intro e
  cases i with
  | zero=>
   have e':Sm.mu b' m'=.mu b m:=by simpa using e
   injection e' with e1 e2
   subst e1 e2;exact ⟨v,fq,fp,rfl,ho,.no r,λ c hc=>⟨j c hc,Zk _ hc⟩,λ c=>Zi⟩
  | succ i=>
   obtain ⟨v',fq',fp',h1,h2,h3,h4,h5⟩:=ih (i:=i) (by simpa using e);refine ⟨v',fq',fq++fp',by simpa using h1,h2,.mu ho hp z (λ c hc q=>j c hc ((h5 c).mpr (.inr q))) h3,λ c hc=>⟨λ q=>?_,Ze _ (h4 c hc).2⟩,λ c=>?_⟩
   ·rcases Zi.mp q with q | q
    · exact j c q (h4 c hc).2
    · exact (h4 c hc).1 q
   ·rw [Zi,Zi,h5 c]
    constructor
    ·rintro (y | y | y)
     · exact .inr (.inl y)
     · exact .inl y
     · exact .inr (.inr y)
    ·rintro (y | y | y)
     · exact .inr (.inl y)
     · exact .inl y
     · exact .inr (.inr y)
theorem StM.zN (h:StM K H0 Hs H ρ σ τ fp) (hv:Rp K Hs v d):∃ fp',StM K H0 Hs H ρ (σ.set i (some v)) (τ.set i (.shr d)) fp'/\∀ c ∈ fp',c ∈ fp:=by
 induction h generalizing i with
 | nil=>exact ⟨[],.nil,λ _ h=>h⟩
 | no r ih=>
  cases i with
  | zero=>exact ⟨_,.shr hv r,λ _ h=>h⟩
  | succ i=>obtain ⟨fp',h1,h2⟩:=ih (i:=i); exact ⟨fp',.no h1,h2⟩
 | shr h r ih=>
  cases i with
  | zero=>exact ⟨_,.shr hv r,λ _ h=>h⟩
  | succ i=>obtain ⟨fp',h1,h2⟩:=ih (i:=i); exact ⟨fp',.shr h h1,h2⟩
 | mu h hp z j r ih=>
  cases i with
  | zero=>exact ⟨_,.shr hv r,λ _ h=>Ze _ h⟩
  | succ i=>
   obtain ⟨fp',h1,h2⟩:=ih (i:=i);exact ⟨_,.mu h hp z (λ c hc q=>j c hc (h2 c q)) h1,λ c hc=>(Zi.mp hc).elim (Zk _) λ q=>Ze _ (h2 c q)⟩
theorem StM.setM (h:StM K H0 Hs H ρ σ τ fp) (hv:Od K Hs H fq v m) (z:∀ c ∈ fq,H0 c=none/\c ∉ fp) (hi:i < τ.length):∃ fp',StM K H0 Hs H ρ (σ.set i (some v)) (τ.set i (.mu false m)) fp'/\∀ c ∈ fp',c ∈ fq\/c ∈ fp:=by
 induction h generalizing i with
 | nil=>exact absurd hi (by simp)
 | no r ih=>
  cases i with
  | zero=>exact ⟨_,.mu hv (λ e=>by cases e) (λ c hc=>(z c hc).1) (λ c hc=>(z c hc).2) r,λ c h=>Zi.mp h⟩
  | succ i=>obtain ⟨fp',h1,h2⟩:=ih (i:=i) z (by simpa using hi); exact ⟨fp',.no h1,h2⟩
 | shr h r ih=>
  cases i with
  | zero=>exact ⟨_,.mu hv (λ e=>by cases e) (λ c hc=>(z c hc).1) (λ c hc=>(z c hc).2) r,λ c h=>Zi.mp h⟩
  | succ i=>obtain ⟨fp',h1,h2⟩:=ih (i:=i) z (by simpa using hi); exact ⟨fp',.shr h h1,h2⟩
 | @mu p v' b' m' ρ σ τ fq' fp h hp z' j r ih=>
  have zr:∀ c ∈ fq,H0 c=none/\c ∉ fp:=λ c hc=>⟨(z c hc).1,λ q=>(z c hc).2 (Ze _ q)⟩
  cases i with
  | zero=>exact ⟨_,.mu hv (λ e=>by cases e) (λ c hc=>(z c hc).1) (λ c hc=>(zr c hc).2) r,λ c h=>(Zi.mp h).imp id λ q=>Ze _ q⟩
  | succ i=>
   obtain ⟨fp',h1,h2⟩:=ih (i:=i) zr (by simpa using hi);refine ⟨_,.mu h hp z' (λ c hc q=>?_) h1,λ c hc=>?_⟩
   ·rcases h2 c q with y | y
    · exact (z c y).2 (Zk _ hc)
    · exact j c hc y
   ·rcases Zi.mp hc with y | y
    · exact .inr (Zk _ y)
    · exact (h2 c y).imp id λ q=>Ze _ q
end
structure b5 (K:W.Frag) (Hs0 H0:Hp) (ρ:List (Option Addr)) (Hs H:Hp) (σ:St) (τ:List Sm):Prop where
 ext:Ext Hs0 H0 Hs H
 st:∃ fp,StM K H0 Hs H ρ σ τ fp
section
variable {K:PB} {Hs0 H0 Hs H Hs' H':Hp} {ρ:My (Px Pz)} {σ:St} {τ:My Sm}
theorem b5.ext' (r:b5 K Hs0 H0 ρ Hs H σ τ) (g:Ext Hs H Hs' H'):b5 K Hs0 H0 ρ Hs' H' σ τ:=by
 obtain ⟨fp,h⟩:=r.st;refine ⟨⟨r.ext.ss.trans g.ss,g.sh,r.ext.hh.trans g.hh,λ b h1 h2=>g.fr b (r.ext.fr b h1 h2) (r.ext.hh.live h2)⟩,fp,h.ext g⟩
def b5.grow (r:b5 K Hs0 H0 ρ Hs H σ τ) (g:cc H H'):b5 K Hs0 H0 ρ Hs H' σ τ:=r.ext' ⟨.refl _,r.ext.sh.trans g,g,λ _ h _=>h⟩
def b5.sm (r:b5 K Hs0 H0 ρ Hs H σ τ):cc Hs H:=r.ext.sh
end
def Nf (N H0:Hp):Prop:=∀ d o u,N d=some (.frz o u)->H0 d≠none
def Nf.upd (h:Nf N H0):Nf N (upd H0 p u):=λ d o w e=>by
 by_cases z:d=p
 · rw [z,ay]; simp
 · rw [au z]; exact h d o w e
inductive v8 where
 | next (τ:List Sm) | ret (s:Sm) (τ:List Sm) | brk (τ:List Sm) | cnt (τ:List Sm)
abbrev DSm:=My Sm->Option v8
abbrev DEm:=My Sm->Px (Sm×My Sm)
abbrev DTm:=My Sm->Px (Bool×My Sm)
abbrev DPx:=My Sm->Px (Nat×My Stp)
def B9 (K:PB) (Hs0 H0:Hp) (ρ:My (Px Pz)) (E:Ends):v8->Prop
 | .next τ=>∀ σ Hs H,b5 K Hs0 H0 ρ Hs H σ τ->E.nx σ H
 | .brk τ=>∀ σ Hs H,b5 K Hs0 H0 ρ Hs H σ τ->E.bk σ H
 | .cnt τ=>∀ σ Hs H,b5 K Hs0 H0 ρ Hs H σ τ->E.ct σ H
 | .ret s τ=>∀ v σ Hs H,b5 K Hs0 H0 (none::ρ) Hs H (some v::σ) (s::τ)->E.rt v H
def M3 (N:Hp) (K:PB) (f:DSm):TS:=λ E σ H=>∃ (Hs0 H0:Hp),∃ (_:Nf N H0),∃ ρ Hs τ o,b5 K Hs0 H0 ρ Hs H σ τ/\f τ=some o/\B9 K Hs0 H0 ρ E o
def J6 (N:Hp) (K:PB) (f:DEm):TE:=λ σ H Q=>∃ (Hs0 H0:Hp),∃ (_:Nf N H0),∃ ρ Hs τ s τ',b5 K Hs0 H0 ρ Hs H σ τ/\f τ=some (s,τ')/\∀ v Hs' H',b5 K Hs0 H0 (none::ρ) Hs' H' (some v::σ) (s::τ')->Q v H'
def Oq (N:Hp) (K:PB) (f:DTm):TT:=λ σ H Q=>∃ (Hs0 H0:Hp),∃ (_:Nf N H0),∃ ρ Hs τ b τ',b5 K Hs0 H0 ρ Hs H σ τ/\f τ=some (b,τ')/\∀ Hs' H',b5 K Hs0 H0 ρ Hs' H' σ τ'->Q b H'
def PSm (X:Cx) (s:Stmt) (f:DSm):Prop:=PS X s (M3 X.H₀ X.K f)
def uJ (X:Cx) (s:My Stmt) (f:DSm):Prop:=PSs X s (M3 X.H₀ X.K f)
def PEm (X:Cx) (e:Expr) (f:DEm):Prop:=PE X e (J6 X.H₀ X.K f)
def PTm (X:Cx) (e:Expr) (f:DTm):Prop:=PT X e (Oq X.H₀ X.K f)
noncomputable def bB (τ:My Sm) (i:Nat) (q:My Stp):Px Mt:=match τ[i]? with
 | some (.mu _ m)=>m.get q
 | _=>none
def ft (τ:My Sm) (i:Nat) (q:My Stp) (m2:Mt):My Sm:=match τ[i]? with
 | some (.mu b m)=>τ.set i (.mu b (m.put q m2))
 | _=>τ
def rdX (N:Hp) (K:PB) (f:DPx):TE:=λ σ H Q=>∃ (Hs0 H0:Hp),∃ (_:Nf N H0),∃ ρ Hs τ i q m,b5 K Hs0 H0 ρ Hs H σ τ/\f τ=some (i,q)/\bB τ i q=some m/\∀ v v1 H',cc H H'->σ[i]?=some (some v)->vAt H' v q=some v1->Q v1 H'
def PXm (X:Cx) (e:Expr) (f:DPx):Prop:=PE X e (rdX X.H₀ X.K f)
section
variable {X:Cx} {Pn:My (Pz×Obj)} {σ:St} {H:Hp} {s:PD} {h':Heap}
theorem Inv.Ce {t':Nat} {wr:My Pz} {T:Pz} {xs:My V} (I:Inv X Pn σ H s) (hw:∀ b ∈ wr,uK X Pn H b) (k:∀ b o,b ∉ wr->s.heap.get? b=some o->h'.get? b=some o)
  (hT:s.heap.objs.size<=T) (new:dg X.prog X.w (upd H T (.tup xs)) h' T (.tup xs)):Inv X Pn σ (upd H T (.tup xs)) { s with heap:=h',toks:=t' }:=by
 have hn:=I.hok.fresh hT;have neT:∀ b u,H b=some u->b≠T:=λ b u e z=>by rw [z,hn] at e; cases e
 have neS:∀ b o,s.heap.get? b=some o->b≠T:=λ b o e z=>by
  have:=Zs e;rw [z] at this;exact absurd (Zx this hT) (Ys _)
 have nw:∀ b u,H b=some u->b ∉ wr:=λ b u e z=>by rw [(hw b z).1] at e; cases e
 refine I.step (λ b hb=>?_) (λ b o _ _ hc e _=>k b o hc e) (λ b o _ _ hc e _=>⟨o.slots,k b o hc e⟩) (λ b o _ e n=>by rw [au (neS b o e)]; exact n)
  (λ b o hc e=>⟨o,k b o hc e⟩) (λ b ys e=>by rw [au (neT b _ e)]; exact e) (λ b o u e=>by rw [au (neT b _ e)]; exact e) (λ b ps e=>⟨#[],by rw [au (neT b _ e),e]; simp⟩) (λ m hm=>?_) (λ b u e=>?_) I.bare
 ·obtain ⟨f0,f1,f2,f3,f4,f5⟩:=hw b hb
  exact ⟨f3,f1,f4,f5⟩
 ·obtain ⟨o,es,ep,ho,r⟩:=hm
  exact ⟨o,es,ep,k _ o (λ z=>(hw _ z).2.1 rfl) ho,r⟩
 ·by_cases hb:b=T
  ·subst hb
   rw [ay] at e;cases e;exact new
  ·rw [au hb] at e
   refine (I.hok b u e).vX (λ c v hc q=>k c v ?_ q) (λ c q=>by rw [au (neT c _ q)]; exact q) λ c ys q=>by rw [au (neT c _ q)]; exact q
   rcases hc with z | z
   · rw [z]; exact nw b u e
   · exact nw c _ z
end
structure Bx (p:Prop):Prop where
 out:p
noncomputable def M9:My D->Px D
 | [.int i]=>some (.int i)
 | [.bl b]=>some (.int (if b then 1 else 0))
 | _=>none
section
variable {X:Cx}
theorem MJ:fw X (.type "int") (rdL X.K M9):=zm.imp λ xs H Q w0=>g34 w0 λ Hs ds d sm r e k=>by
 have sh:(∃ i,ds=[.int i])\/∃ b,ds=[.bl b]:=by
  unfold M9 at e;split at e
  · exact .inl ⟨_,rfl⟩
  · exact .inr ⟨_,rfl⟩
  · cases e
 rcases sh with ⟨i,rfl⟩ | ⟨b,rfl⟩
 ·have e':=Zj e
  subst e'
  cases r with
  | cons hx rr=>cases rr; cases hx; exact .inl ⟨i,rfl,k _ Hs H (.refl sm) (.int _)⟩
 ·have e':=Zj e
  subst e'
  cases r with
  | cons hx rr=>cases rr; cases hx; exact .inr ⟨b,rfl,k _ Hs H (.refl sm) (.int _)⟩
end
def Ite (K:PB) (l:Pz):It where
 go:=λ i H=>∃ xs x,SqL K H l xs/\xs[i]?=some x
 yld:=λ i H v H'=>∃ T x,v=.ref T/\H T=none/\H'=upd H T (.tup [.int (i:Int),x])/\∀ xs,SqL K H l xs->xs[i]?=some x
 stop:=λ i H=>∃ xs,SqL K H l xs/\xs.length<=i
def ESt (e it l:Pz) (i:Nat) (h:Heap):Prop:=(∃ old,IsEnum h e it ((i:Nat):Int) old)/\h.IsListIter it l i
theorem wm {P:Program} {w:World} {K:PB} {elts:My Expr} {k:Nat} {pos:Pos} {e it l:Pz} (ne:e≠it):Turn P w K (.Tuple elts k pos) (Ite K l) [e,it] e (ESt e it l) where
 mem:=by simp
 obj:=λ i h st b hb=>by
  obtain ⟨⟨old,s1⟩,⟨o4,e4,c4,d4⟩⟩:=st;simp only [Zh,Yw,or_false] at hb;rcases hb with rfl | rfl
  · exact ⟨_,s1,λ v z=>by cases z⟩
  · exact ⟨o4,e4,λ v z=>by rw [d4] at z; cases z⟩
 keep:=λ i h h' st k=>by
  obtain ⟨⟨old,s1⟩,s4⟩:=st;exact ⟨⟨old,k _ (by simp) _ s1⟩,s4.at λ o e=>k _ (by simp) o e⟩
 item:=by
  intro X hP hw hK hc i Pn s σ H E I hf st hg;subst hP hw hK;obtain ⟨xs,x,hq,hx⟩:=hg;obtain ⟨its,rv,p,hz⟩:=I.list hq;obtain ⟨u,hu,ru⟩:=rv.get hx;obtain ⟨⟨old,s1⟩,s4⟩:=st;refine wpAny_pyNext_enum_item s1 s4 p.isList (by simpa using hu) ne λ h' a1 a2 a3 a4 hk=>?_
  have hk':∀ b o,b ∉ [e,it]->s.heap.get? b=some o->h'.get? b=some o:=λ b o hb e'=>hk b o (λ q=>hb (by simp [q])) (λ q=>hb (by simp [q])) e'
  have I1:Inv X Pn σ (upd H s.heap.objs.size (.tup [.int (i:Int),x])) { s with heap:=h',toks:=s.toks+1 }:=I.Ce hf hk' (Zn _) ⟨by show 2<=sizeLine; decide,[.int i s.toks,u],.cons ⟨_,rfl⟩ (.cons ru .nil),_,a3,rfl,_,rfl⟩;have hn:=I.hok.fresh (Zn _);refine ⟨.ref s.heap.objs.size,rfl,wpAny_letOwnedTupleGo_enum a1 λ h2 hz2 sb=>?_⟩
  have neT:∀ b ∈ [e,it],b≠s.heap.objs.size:=λ b hb q=>by
   have lt:∃ o,s.heap.get? b=some o:=by
    obtain ⟨o4,e4,_⟩:=s4;simp only [Zh,Yw,or_false] at hb;rcases hb with rfl | rfl
    · exact ⟨_,s1⟩
    · exact ⟨_,e4⟩
   obtain ⟨o,e'⟩:=lt;rw [q] at e';exact absurd (Zs e') (Ys _)
  obtain ⟨f0,f1,f2,f3,f4,f5⟩:=hf e (by simp);have I2:=I1.turned (t':=s.toks+1) (λ b o hb e'=>(sb.2 b hb).trans e') (by rw [au (neT e (by simp))]; exact f0) f1 f3 f4 f5;refine ⟨.ref s.heap.objs.size,_,I2,rfl,⟨s.heap.objs.size,x,rfl,hn,rfl,λ zs hz=>by rw [I.t9 hz hq]; exact hx⟩,?_,λ b hb=>by rw [au (neT b hb)]; exact (hf b hb).1⟩;exact ⟨⟨_,hz2⟩,a2.extBut sb.extBut (Ne.symm ne)⟩
 done:=by
  intro X hP hw hK hc i Pn s σ H E I hf st hg;subst hP hw hK;obtain ⟨xs,hq,hx⟩:=hg;obtain ⟨its,rv,p,hz⟩:=I.list hq;obtain ⟨⟨old,s1⟩,s4⟩:=st;have l1:=rv.length;refine wpAny_pyNext_enum_end (I.ok.hd hc) s1 s4 p.isList (by simp; omega) λ h' eb=>⟨rfl,?_⟩
  obtain ⟨f0,f1,f2,f3,f4,f5⟩:=hf it (by simp);exact I.turned (λ b o hb e=>eb b o hb e) f0 f1 f3 f4 f5
 self:=λ _ _ _ _ _ st h=>by
  obtain ⟨⟨old,s1⟩,s4⟩:=st;exact wpAny_pyIter_enum s1 h
def zG:bootBuiltins "enumerate"=some (.type "enumerate"):=by rfl
def Mu (K:PB) (ta:TA):TI:=λ σ H R=>ta σ H λ vs H1=>∃ l xs,vs=[.ref l]/\SqL K H1 l xs/\R (Ite K l) H1
theorem CT {X:Cx} {a:Expr} {ta:TA} {elts:My Expr} {k:Nat} {pt p pos:Pos} (hg:Gl X "enumerate") (hm:X.mg "enumerate"=none) (ha:PA X [a] ta) (hs:starEach [a] X.env=[(false,eval a X.env)]:=by rfl):PI X (.Tuple elts k pt) (.Call (.Name "enumerate" p) [a] [] pos) (Mu X.K ta):=by
 intro Pn s σ H R I h;refine Call_ (kC I hg hm zG (Yn (thn (ha pos Pn s σ H _ I h) λ us s1 ⟨vs,H1,I1,r1,q1⟩=>?_) (by rw [hs]; rfl) (by rfl)));obtain ⟨l,xs,e,q1,q⟩:=q1;subst e
 cases r1 with
 | cons r rr=>
  cases rr;cases r;obtain ⟨its1,rv1,p1,hz1⟩:=I1.list q1;refine call_enumerate_list p1.isList λ h' hE hI hsz hk=>?_
  refine wpAny_pyIter_enum hE ?_
  refine ⟨_,[s1.heap.objs.size+1,s1.heap.objs.size],_,_,H1,rfl,I1.kept hk,wm (Nat.succ_ne_self _),⟨⟨_,hE⟩,hI⟩,λ b hb=>?_,q⟩
  have hb':s1.heap.objs.size<=b:=by
   simp only [Zh,Yw,or_false] at hb;rcases hb with rfl | rfl
   · exact Nat.le_add_right _ 1
   · exact Zn _
  exact I1.AQ hb' (I1.hok.fresh hb')
def mW (ds:My D):My D:=ds.mapIdx λ i d=>D.tup [.int (i:Int),d]
theorem ua {K:PB} {a:Pz} {xs:My V} {Hs:Hp} {as:My D} (h1:SqL K Hs a xs) (r1:Rps K Hs xs as):ItR K (Ite K a) Hs (mW as):=λ Hs1 H g1 g2=>by
 have hq1:=g2.seq (g1.seq h1);have l1:=r1.length;refine ⟨λ i d e=>?_,λ i hi=>⟨xs,hq1,?_⟩⟩
 ·unfold mW at e
  rw [List.getElem?_mapIdx] at e;obtain ⟨p,ea,ed⟩:=Zm e;obtain ⟨x,hx,rx⟩:=r1.get ea;subst ed;refine ⟨⟨xs,x,hq1,hx⟩,λ v H' ⟨T,vx,e1,hn,e2,f1⟩=>?_⟩;subst e1 e2;have ex:=f1 xs hq1;rw [hx] at ex;cases ex;have g:=Ext.new g2 hn (.tup [.int (i:Int),x]);exact ⟨_,g,.tup (SqT.of ay) (.cons (.int _) (.cons ((rx.same g1).same g.ss) .nil))⟩
 ·have hl:(mW as).length=as.length:=by simp [mW]
  omega
noncomputable def yu (f:DA):DI:=λ τ=>(f τ).bind λ ds=>match ds with | [.lst as]=>some (mW as) | [.fz as]=>some (mW as) | _=>none
section
variable {X:Cx} {a b e o:Expr} {es:My Expr} {pos Po Pp:Pos} {f g:DE}
theorem Ga:SlR X (λ x lo hi H Q=>∃ z,x=.str z/\z.length<=sizeLine/\Q (.str (Txt.slice z lo hi)) H):=by
 intro Pn s σ H x v vl vu lo hi sl Q I rx hs pl pu h;obtain ⟨z,rfl,hz,q⟩:=h;obtain ⟨t,rfl⟩:=rx;have fin:∀ t' k,EP X Pn σ Q (.str (Txt.slice z lo hi) t') { s with toks:=k }:=λ t' k=>⟨.str _,H,I.tok k,⟨_,rfl⟩,q⟩
 refine ⟨"str",_,PySem.F.slot_str_getitem.lookup,typeIs_str s z t,?_⟩
 cases pl with
 | none=>cases pu with
  | none=>exact Y9 (l:=none) (u:=none) (st:=none) hs rfl (post_val_or_str ⟨Z6 (Xq z _ _) hz,fin⟩)
  | int j t2=>exact Y9 (l:=none) (u:=some (j,t2)) (st:=none) hs rfl (post_val_or_str ⟨Z6 (Xq z _ _) hz,fin⟩)
 | int i t1=>cases pu with
  | none=>exact Y9 (l:=some (i,t1)) (u:=none) (st:=none) hs rfl (post_val_or_str ⟨Z6 (Xq z _ _) hz,fin⟩)
  | int j t2=>exact Y9 (l:=some (i,t1)) (u:=some (j,t2)) (st:=none) hs rfl (post_val_or_str ⟨Z6 (Xq z _ _) hz,fin⟩)
noncomputable def M8:D->Px Int->Px Int->Px D
 | .str z,l,u=>if z.length<=100000 then some (.str (Txt.slice z l u)) else none
 | _,_,_=>none
def MF (f:DE) (l u:DO):DE:=λ τ=>(f τ).bind λ x=>(l τ).bind λ l'=>(u τ).bind λ u'=>M8 x l' u'
noncomputable def uX:My D->Px (My Str)
 | []=>some []
 | .str x::ds=>(uX ds).map (x::·)
 | _::_=>none
theorem pA:∀ {ds:My D} {ts:My Str},uX ds=some ts->ds=ts.map .str
 | [],ts,h=>by cases h; rfl
 | .str x::ds,ts,h=>by
  obtain ⟨us,e,rfl⟩:=Zm h;rw [pA e]; rfl
theorem Rps.lx {K:PB} {H:Hp}:∀ {ts:My Str} {xs:My V},Rps K H xs (ts.map D.str)->xs=ts.map V.str
 | [],_,.nil=>rfl
 | x::ts,_,.cons h r=>by
  cases h;rw [Rps.lx r]; rfl
noncomputable def EH (f g:DE):DE:=λ τ=>(f τ).bind λ x=>(g τ).bind λ y=>match x,y with
 | .str z,.lst ds=>(uX ds).bind λ ts=>if (ts.map (·.length)).sum+ts.length * z.length<=100000 then some (.str (Txt.join z ts)) else none
 | _,_=>none
end
end L2
end
section
namespace PySem
section
variable {prog:Program} {w:World} {A:Around} {E:Py->PD->Prop} {s:PD}
def xZ:typeLookup (.type "list_reverseiterator") "__len__"=pure none:=by rfl
def AH:typeLookup (.type "list_reverseiterator") "__length_hint__"=pure (some (.builtin "list_reverseiterator.__length_hint__")):=by rfl
theorem vi (hit:s.heap.IsRevIter it l i) (h:Q false s):wpAny (model prog w) A (Builtin.List.listLengthHint (.ref it)) Q E s:=by
 refine Zt (wpAny_specialOf hit.typeIs xZ ?_);refine Zt (wpAny_specialOf hit.typeIs AH ?_);generalize hid:("list_reverseiterator.__length_hint__":String)=id0
 wp_delta
 rw [show splitId id0=some ("list_reverseiterator","__length_hint__") from by subst hid; decide +kernel];subst hid;refine Zt (wpAny_isInstance (b:=true) hit.typeIs (by rw [isSubtype_type]; kernel_rfl) ?_);exact Z5 h
theorem vj (hh:A.handled=none) (hit:s.heap.IsRevIter it l ((items.size:Int) - 1)) (hl:s.heap.IsList l items)
  (hlen:items.size<=sizeLine) (hne:l≠it) (S:Pz) (res:Py) (c₀:Nat) (hS:s.heap.get? S=some { cls:=.type "list",data:=.seq #[] c₀ }) (hSl:S≠l) (hSi:S≠it)
  (hR:∀ h' tk acc' c',(∀ b o,b≠S->b≠it->s.heap.get? b=some o->h'.get? b=some o)->h'.get? S=some { cls:=.type "list",dict:=none,data:=.seq acc' c',slots:=#[] }->ItemsOf (λ i v=>items[items.size - 1 - i]?=some v) acc' items.size->R (.ok (.ret res)) { s with heap:=h',toks:=tk }):wpAny (model prog w) A.in1 (Builtin.List.listExtendWith (.ref S) (.ref it) res)
    (λ fin s'=>match fin with | .done f=>R (.ok f) s' | .again c'=>c'.quiet=true/\codeAny (model prog w) A c' R s') (λ e s'=>R (.error e) s') s:=by
 have W:=(Walks.listRev (prog:=prog) (w:=w) (A:=A.in1) hh it l hne items).toS
 have hSf:S ∉ [it,l]:=λ hm=>by
  rcases Zh.mp hm with e | hm
  · exact hSi e
  · exact hSl (Zr.mp hm)
 refine Zt (wpAny_typeOf hit.typeIs ?_);have h1:Builtin.List.listSameRef (.ref S) (.ref it)=false:=by simp [Builtin.List.listSameRef,hSi]
 have h2:(Value.type "list_reverseiterator" == Value.type "list")=false:=by decide
 have h3:(Value.type "list_reverseiterator" == Value.type "tuple")=false:=by decide
 simp only [h1,h2,h3,Bool.or_false,Bool.false_eq_true,if_false];refine Zt (wpAny_pyIter_revIter hit ?_);refine Zt (wpAny_holding (vi hit ?_));refine wpAny_ite_split (λ hab=>absurd hab (by decide)) (λ _=>?_);refine Z5 ⟨plainId_quiet F.plain_extend_loop _,?_⟩
 have hit0:s.heap.IsRevIter it l ((items.size:Int) - 1 - ((0:Nat):Int)):=by
  simpa using hit
 refine codeAny_extend_loopS W hlen S hSf res items.size 0 _ #[] c₀ rfl (Z8 _) ⟨Z8 _,hit0,hl⟩ hS (ItemsOf.nil _) λ s' acc' c' hm hS' hacc=>?_
 rw [Moved.eq_with hm];refine hR s'.heap s'.toks acc' c' (λ b o hb hb2 e=>hm.heap b o (λ hmem=>?_) e) hS' hacc;rcases Zh.mp hmem with e' | hmem
 · exact hb e'
 · exact hb2 (Zr.mp hmem)
theorem AG (hh:A.handled=none) (hit:s.heap.IsRevIter it l ((items.size:Int) - 1)) (hl:s.heap.IsList l items)
  (hlen:items.size<=sizeLine) (hne:l≠it) (S:Pz) (hS:s.heap.get? S=some { cls:=.type "list",data:=.seq #[] }) (hSl:S≠l) (hSi:S≠it)
  (hR:∀ h' tk acc' c',(∀ b o,b≠S->b≠it->s.heap.get? b=some o->h'.get? b=some o)->h'.get? S=some { cls:=.type "list",dict:=none,data:=.seq acc' c',slots:=#[] }->ItemsOf (λ i v=>items[items.size - 1 - i]?=some v) acc' items.size->R (.ok (.ret .none)) { s with heap:=h',toks:=tk }):wpAny (model prog w) A.in1 (Builtin.«list.__init__» ⟨[.ref S,.ref it],[]⟩)
    (λ fin s'=>match fin with | .done f=>R (.ok f) s' | .again c'=>c'.quiet=true/\codeAny (model prog w) A c' R s') (λ e s'=>R (.error e) s') s:=by
 refine Zt ?_
 refine Zt (wpAny_seqItems hS rfl (Z5 ?_));refine Zt (wpAny_updateSeq hS rfl ?_);have hS₂:=Heap.get?_update_self (Obj.mapSeq (λ _=>(#[]:Array Py))) hS rfl
 have oth:∀ b o,b≠S->s.heap.get? b=some o->(s.heap.update S (Obj.mapSeq (λ _=>(#[]:Array Py)))).get? b=some o:=
  λ b o hb e=>(Heap.get?_update_other _ _ (Ne.symm hb)).trans e
 refine Zt (wpAny_letGo ?_);refine vj hh (hit.at λ o e=>oth it o (Ne.symm hSi) e) (hl.at λ o e=>oth l o (Ne.symm hSl) e) hlen hne S .none _ hS₂ hSl hSi λ h' tk acc' c' hk hS' hacc=>?_
 exact hR h' tk acc' c' (λ b o hb hb2 e=>hk b o hb hb2 (oth b o hb e)) hS' hacc
theorem oU (hh:A.handled=none) (hit:s.heap.IsRevIter it l ((items.size:Int) - 1)) (hl:s.heap.IsList l items)
  (hlen:items.size<=sizeLine) (hne:l≠it)
  (hQ:∀ h' tk acc' c',(∀ b o,b≠it->s.heap.get? b=some o->h'.get? b=some o)->h'.get? s.heap.objs.size=some { cls:=.type "list",dict:=none,data:=.seq acc' c',slots:=#[] }->ItemsOf (λ i v=>items[items.size - 1 - i]?=some v) acc' items.size->Q (.ref s.heap.objs.size) { s with heap:=h',toks:=tk }):wpAny (model prog w) A (call (.type "list") [.ref it]) Q E s:=by
 refine callType_codes (Q₁:=λ obj s₁=>obj=.ref s.heap.objs.size/\s₁={ s with heap:=s.heap.push { cls:=.type "list",data:=.seq #[] } }) F.called_list (F.typeCall_list_1 _) F.entry_list_init
  (code_list_new _ ⟨rfl,rfl⟩) λ obj s₁ h₁=>?_
 obtain ⟨rfl,rfl⟩:=h₁;have hS:(s.heap.push { cls:=.type "list",data:=.seq #[] }).get? s.heap.objs.size=some { cls:=.type "list",data:=.seq #[] }:=Heap.get?_push_size _ rfl
 have hSl:s.heap.objs.size≠l:=λ e=>by
  obtain ⟨o,ho,_⟩:=hl;exact Ys _ (Nat.lt_of_lt_of_eq (Zs ho) e)
 have hSi:s.heap.objs.size≠it:=λ e=>by
  obtain ⟨o,ho,_⟩:=hit;exact Ys _ (Nat.lt_of_lt_of_eq (Zs ho) e)
 refine ⟨⟨_,hS,rfl⟩,F.args_list_init_2 _ _,AG (A:=A.in1) hh (hit.at λ o e=>Heap.get?_push_of_some _ e) (hl.at λ o e=>Heap.get?_push_of_some _ e) hlen hne _ hS hSl hSi λ h' tk acc' c' hk hS' hacc=>?_⟩;exact ⟨rfl,hQ h' tk acc' c' (λ b o hb e=>hk b o (Z2 (Zs e)) hb (Heap.get?_push_of_some _ e)) hS' hacc⟩
end
end PySem
namespace L2
open PySem PySem.Spec PyProof.Rows
section
variable {X:Cx} {a:Expr} {p p2 pos pos2:Pos}
def Oa (K:PB) (ta:TE):TE:=λ σ H Q=>ta σ H λ x H1=>∃ q ys,x=.ref q/\SqL K H1 q ys/\∀ l,H1 l=none->Q (.ref l) (upd H1 l (.lst ys.reverse))
theorem ym {its:My Py} {acc:Array Py} (h:ItemsOf (λ i v=>its.toArray[its.toArray.size - 1 - i]?=some v) acc its.toArray.size):acc=its.reverse.toArray:=by
 obtain ⟨hs,hv⟩:=h;refine Array.ext (by simpa using hs) λ i h1 h2=>?_
 have h3:=hv i acc[i] (Array.getElem?_eq_getElem h1);have h4:i < its.length:=by simpa using h2
 have h5:its[its.length - 1 - i]?=some acc[i]:=by simpa using h3
 rw [<- List.getElem?_reverse h4] at h5;have h6:its.reverse[i]?=some (its.reverse[i]'(by simpa using h4)):=List.getElem?_eq_getElem _;rw [h6] at h5
 simpa using (Zj h5).symm
theorem GD {ta:TE} {x y:Str} (hc:X.calm=true) (hg:Gl X x) (hm:X.mg x=none) (hv:bootBuiltins x=some (.type "list")) (hg2:Gl X y) (hm2:X.mg y=none) (hv2:bootBuiltins y=some (.type "reversed")) (ha:PE X a ta)
  (hn:x≠"__name__":=by decide) (hdb:Dg x:=by decide) (hn2:y≠"__name__":=by decide) (hdb2:Dg y:=by decide)
  (he:starEach [.Call (.Name y p2) [a] [] pos2] X.env=(false,eval (.Call (.Name y p2) [a] [] pos2) X.env)::starEach [] X.env:=by rfl) (hpl:Sb X pos []:=by rfl)
  (he2:Se X a []:=by rfl) (hpl2:Sb X pos2 []:=by rfl):PE X (.Call (.Name x p) [.Call (.Name y p2) [a] [] pos2] [] pos) (Oa X.K ta):=by
 intro Pn s σ H Q I h;refine Yv (kC I hg hm hv ?_ hn hdb);refine Yn ?_ he hpl;rw [he];refine Xc ?_
 refine Yv (kC I hg2 hm2 hv2 ?_ hn2 hdb2);refine Yn (thn (a8 ha du he2 pos2 Pn s σ H (λ vs H1=>match vs with | [x]=>(∃ q ys,x=V.ref q/\SqL X.K H1 q ys/\∀ l,H1 l=none->Q (.ref l) (upd H1 l (.lst ys.reverse))) | _=>False) I h) λ us s1 ⟨vs,H1,I1,r1,q1⟩=>?_) he2 hpl2
 match vs,r1,q1 with
 | [],_,q1=>exact q1.elim
 | _::_::_,_,q1=>exact q1.elim
 | [v],.cons r .nil,q1=>
  obtain ⟨q,ys,ev,hq,k⟩:=q1;subst ev;cases r;obtain ⟨its,r',pl,hz⟩:=I1.list hq;have hlen:=r'.length
  have hql:q < s1.heap.objs.size:=by
   obtain ⟨o,ho,_⟩:=pl.isList;exact Zs ho
  refine call_reversed_list pl.isList ?_
  refine Calls.spliced_nil ?_
  refine oU (I1.ok.hd hc) ⟨_,Heap.get?_push_size _ rfl,rfl,rfl⟩ (pl.isList.at λ o e=>Heap.get?_push_of_some _ e) (by simp only [Zq]; omega) (Z2 hql) λ h' tk acc' c' kp e hacc=>?_
  have ea:=ym hacc;subst ea;have hS:s1.heap.objs.size<=(s1.heap.push (revObj q ((its.toArray.size:Int) - 1))).objs.size:=Xa (Nat.lt_of_lt_of_eq (Y8 _) (Heap.size_push _ _).symm)
  exact ⟨.ref _,_,I1.laid (λ b o eb=>kp b o (Z2 (Zs eb)) (Heap.get?_push_of_some _ eb)) hS
   (show dg X.prog X.w _ h' _ (.lst ys.reverse) from ⟨by rw [List.length_reverse]; exact hz,its.reverse,c',r'.reverse,e⟩),rfl,k _ (I1.hok.fresh hS)⟩
def H9 (f:DE):DE:=λ τ=>(f τ).bind λ x=>match x with
 | .lst ds=>some (.lst ds.reverse)
 | .fz ds=>some (.lst ds.reverse)
 | _=>none
theorem Rps.reverse {K:PB} {H:Hp} {xs:My V} {ds:My D} (h:Rps K H xs ds):Rps K H xs.reverse ds.reverse:=by
 match xs,ds,h with
 | _,_,.nil=>exact .nil
 | _,_,.cons r t=>
  rw [Xj,Xj];exact (Rps.reverse t).append (.cons r .nil)
end
noncomputable def EL (f g:DE):DE:=λ τ=>(f τ).bind λ x=>(g τ).bind λ y=>match x,y with
 | .lst a,.lst b=>if a.length+b.length<=100000 then some (.lst (a++b)) else none
 | _,_=>none
section
variable {X:Cx} {Pn:My (Pz×Obj)} {σ:St} {H:Hp}
noncomputable def xN:My D->Px D
 | [.dct kvs]=>some (.int kvs.length)
 | _=>none
theorem zg:fw X (.builtin "len") (rdL X.K xN):=by
 intro Pn s σ H xs us Q I rr h;obtain ⟨Hs,ds,d,sm,r,e,k⟩:=h
 match ds,r,e with
 | [x],.cons hx .nil,e=>
  obtain ⟨u,rfl,ru⟩:=vals1 rr
  cases hx with
  | @dct a kvs ds hH rk=>
   have e':=Zj e;subst e';cases (ru);exact ME I (.inl (sm _ _ hH)) λ t s' I'=>⟨.int kvs.length,H,I',⟨t,rfl⟩,by rw [rk.length]; exact k _ Hs H (.refl sm) (.int _)⟩
  | _=>exact nn e
 | [],_,e=>simp [xN] at e
 | _::_::_,_,e=>simp [xN] at e
end
section
variable {X:Cx} {tg a e:Expr} {p p2 pos pos2:Pos}
noncomputable def Ff (i:Nat) (f:DE):DS:=λ τ=>(f τ).bind λ d=>match d,τ[i]? with
 | .lst es,some (.own (.lst ds))=>if ds.length+es.length<=100000 then some (.next (τ.set i (.own (.lst (ds++es))))) else none
 | _,_=>none
theorem HN (h:Ff i f τ=some o):∃ es ds,f τ=some (.lst es)/\τ[i]?=some (.own (.lst ds))/\ds.length+es.length<=100000/\o=.next (τ.set i (.own (.lst (ds++es)))):=by
 obtain ⟨d,e1,e⟩:=Ub h
 cases d with
 | lst es=>
  cases q:τ[i]? with
  | none=>rw [q] at e; cases e
  | some s=>
   rw [q] at e
   cases s with
   | own d=>cases d with
    | lst ds=>
     simp only at e;split at e
     ·rename_i hl
      cases e;exact ⟨es,ds,e1,rfl,hl,rfl⟩
     · cases e
    | _=>simp at e
   | _=>simp at e
 | _=>simp at e
end
def chD (z:Str):My D:=z.cps.toList.map λ c=>D.str ⟨#[c]⟩
def Ei (f:DE):DI:=λ τ=>(f τ).bind λ d=>match d with | .str z=>some (chD z) | _=>none
theorem Ee {K:PB} {z:Str} {Hs:Hp}:ItR K (Its z) Hs (chD z):=λ Hs1 H g1 g2=>by
 refine ⟨λ i d e=>?_,λ i hi=>?_⟩
 ·unfold chD at e
  rw [List.getElem?_map] at e
  cases q:z.cps.toList[i]? with
  | none=>rw [q] at e; cases e
  | some c=>
   rw [q] at e;have ed:=Zj e;subst ed
   have hi:i < z.cps.size:=by
    have:=(List.getElem?_eq_some_iff.mp q).1
    simpa using this
   have q':z.cps[i]?=some c:=by rw [<- Array.getElem?_toList]; exact q
   refine ⟨hi,?_⟩
   rintro x H' ⟨rfl,c',hc,rfl⟩
   rw [q'] at hc;cases hc;exact ⟨Hs1,.refl g2,.str _⟩
 ·show z.cps.size<=i
  unfold chD at hi;rw [Zc] at hi
  simpa using hi
section
variable {X:Cx} {tg l:Expr} {f g:DE}
noncomputable def Kv:D->D->Px D
 | .str i,.str j=>some (.bl (!decide (j.cps.toList < i.cps.toList)))
 | _,_=>none
theorem GU:OpR X (compareOp .LtE) (rdR X.K Kv):=xE.imp λ x y H Q w0=>g45 w0 λ Hs dx dy d sm rx ry e k=>by
 unfold Kv at e;split at e
 ·cases rx
  cases ry;have e':=Zj e;subst e';exact ⟨_,_,rfl,rfl,k _ Hs H (.refl sm) (.bl _)⟩
 · cases e
noncomputable def E4:My D->Px (My Bool)
 | []=>some []
 | .bl b::ds=>(E4 ds).map (b::·)
 | _::_=>none
theorem jO:∀ {ds:My D} {bs:My Bool},E4 ds=some bs->ds=bs.map .bl
 | [],_,e=>by cases e; rfl
 | .bl b::ds,_,e=>by
  obtain ⟨bs,e1,rfl⟩:=Zm (show (E4 ds).map _=_ from e);rw [jO e1]; rfl
theorem Rps.B5 {K:PB} {H:Hp}:∀ {bs:My Bool} {xs:My V},Rps K H xs (bs.map D.bl)->xs=bs.map V.bl
 | [],_,.nil=>rfl
 | b::bs,_,.cons h r=>by
  cases h;rw [Rps.B5 r]; rfl
noncomputable def OH:My D->Px D
 | [.lst ds]=>(E4 ds).map λ bs=>.bl (bs.all id)
 | _=>none
theorem MK (hc:X.calm=true):fw X (.builtin "all") (rdL X.K OH):=(A6 hc).imp λ xs H Q w0=>g34 w0 λ Hs ds d sm r e k=>by
 match ds,r,e with
 | [x],.cons hx .nil,e=>
  cases hx with
  | @lst a ys ds h r=>
   obtain ⟨bs,e1,e2⟩:=Zm (e);have ed:=jO e1;subst ed;have ey:=r.B5;subst ey;subst e2;exact ⟨a,bs,rfl,SqL.of (sm _ _ h),k _ Hs H (.refl sm) (.bl _)⟩
  | _=>exact nn e
 | [],_,e=>exact nn e
 | x::y::_,_,e=>cases x <;> exact nn e
def occ (x y:Str):Bool:=!(Builtin.Str.occurrences x y 0 x.length 1).isEmpty
end
theorem rY {κ:Type}:∀ {kvs:My (κ×V)} {vs:My (κ×Py)},KV kvs vs->vs.map (·.1)=kvs.map (·.1)
 | _,_,.nil=>rfl
 | _,_,.cons h r=>by rw [Zg,Zg,rY r,h.1]
def wR:V->My V->Hp->VK->Prop:=λ x vs H Q=>∃ l xs i y,x=.ref l/\vs=[.int i,y]/\H l=some (.lst xs)/\0<=i/\i<=xs.length/\xs.length < sizeLine/\i < 2 ^ 62/\Q .non (upd H l (.lst (xs.take i.toNat++y::xs.drop i.toNat)))
section
variable {X:Cx}
theorem xS:MtM X "list.insert" wR:=by
 intro Pn s σ H x vs v us Q I rx rv h;obtain ⟨l,xs,i,y,rfl,rfl,hH,h0,h1,hz,h62,q⟩:=h;cases rx
 cases rv with
 | cons ri rv=>cases rv with
  | cons ry rv=>
 cases rv;obtain ⟨t,rfl⟩:=ri;rename_i u;obtain ⟨z,its,n,r,hl,e⟩:=I.BK hH;refine call_meets F.slot_list_insert ⟨_,e,rfl⟩ F.entry_list_insert (F.args_list_insert_3 _ _ _) (PySem.AutoSeq1.list_insert_list_int_val_1 l its.toArray n i t u (by rw [fitsIndex_both (by omega) (by omega)]; simp) (by rw [Zq]; omega)) ⟨e,?_⟩;refine ⟨.non,_,I.Hd hH e ?_ ((r.take _).append (.cons ry (r.drop _))) ?_,rfl,q⟩
 · have hk:(if i < 0 then (i+(its.toArray.size:Int)).toNat else min i.toNat its.toArray.size)=i.toNat:=by
    rw [if_neg (by omega),Zq];omega
   rw [hk];exact PySem.W.kl_ins_eq its i.toNat u
 · rw [Z1,Zu,Xn,List.length_drop]; omega
theorem GH {KK:PB} (hK:X.K=KK) {o i e:Expr} {Po Pp:Pos} {to ti te:TE} (ho:PE X o to) (hi:PE X i ti) (he:PE X e te)
  (Pu:Ue X o "insert":=by rfl)
  (Pq:((backTo Pp (starEach [i,e] X.env)).all (λ x=>!x.1)&&(backToKw Pp (keywordEach [] X.env)).all (λ x=>x.1.isSome)
    && decide ([i,e].length+([]:My Keyword).length+(if ([]:My Keyword).isEmpty then 0 else 1) < 30))=true:=by rfl)
  (Pr:Ug Po Pp:=by rfl) (hst:starEach [i,e] X.env=(false,eval i X.env)::starEach [e] X.env:=by rfl) (hst2:Se X e []:=by rfl) (Pt:(backTo Pp (starEach [e] X.env)).any (·.1)=false:=by rfl):PE X (.Call (.Attribute o "insert" Po) [i,e] [] Pp) (tBM KK "list" wR to (uW ti (uW te Io))):=by
 subst hK;exact xv Yy PySem.F.slot_list_insert PySem.F.type_list_insert xS ho (a8 hi (a8 he du hst2) hst) Pu Pq Pr hst Pt
theorem xC:OpR X (compareOp .IsNot) (λ x y H Q=>∃ b c,x=.bl b/\y=.bl c/\Q (.bl (!(b == c))) H):=by
 intro Pn s σ H x y v u Q I rx ry h;obtain ⟨b,c,rfl,rfl,q⟩:=h;cases rx;cases ry;exact Z5 ⟨.bl (!(b == c)),H,I,(by cases b <;> cases c <;> rfl),q⟩
end
def ItK (d:Pz) (o:Obj) (kvs:My (Key×V)):It where
 go:=λ i H=>H d=some (.frz o (.dK kvs))/\i < kvs.length
 yld:=λ i H v H'=>H'=H/\∃ k w,kvs[i]?=some (k,w)/\v=kV k
 stop:=λ i H=>H d=some (.frz o (.dK kvs))/\kvs.length<=i
section
variable {X:Cx} {Pn:My (Pz×Obj)} {σ:St} {H:Hp} {s:PD}
theorem Inv.freeze (I:Inv X Pn σ H s) (hd:H d=some (.dK kvs)) (ho:s.heap.get? d=some o):Inv X Pn σ (upd H d (.frz o (.dK kvs))) s:=by
 have ne:∀ b u,H b=some u->(∀ k,u≠.dK k)->b≠d:=λ b u e n z=>by rw [z,hd] at e; cases e; exact n _ rfl
 have n0:∀ b,H b=none->b≠d:=λ b e z=>by rw [z,hd] at e; cases e
 refine I.un ⟨λ b o e _ _ _=>e,λ b o e _ _ _=>⟨o.slots,e⟩,λ b o _ z _=>by rw [au (n0 b z)]; exact z,λ b o e _=>⟨o,e⟩,λ b xs e=>by rw [au (ne b _ e λ _ y=>nomatch y)]; exact e,λ b o xs e=>by rw [au (ne b _ e λ _ y=>nomatch y)]; exact e,λ b ps e=>⟨#[],by rw [au (ne b _ e λ _ y=>nomatch y),e]; simp⟩⟩ λ b u e=>?_
 by_cases z:b=d
 ·subst z
  rw [ay] at e;cases e;exact ⟨ho,I.hok b _ hd⟩
 ·rw [au z] at e
  exact (I.hok b u e).vX (λ _ _ _ q=>q) (λ c q=>by rw [au (ne c _ q λ _ y=>nomatch y)]; exact q) λ c xs q=>by rw [au (ne c _ q λ _ y=>nomatch y)]; exact q
theorem Inv.N5 (I:Inv X Pn σ H s) (hd:H d=some (.frz o (.dK kvs))) (h0:∀ o' u',X.H₀ d≠some (.frz o' u')):Inv X Pn σ (upd H d (.dK kvs)) s:=by
 have ne:∀ b u,H b=some u->(∀ o k,u≠.frz o k)->b≠d:=λ b u e n z=>by rw [z,hd] at e; cases e; exact n _ _ rfl
 have n0:∀ b,H b=none->upd H d (.dK kvs) b=none:=λ b e=>by rw [au (λ z=>by rw [z,hd] at e; cases e)]; exact e
 refine ⟨I.ok,I.os,I.bare,⟨I.base.keep,I.base.slot,λ b ob e z hx=>n0 b (I.base.free b ob e z hx),I.base.there,λ b xs e=>?_,λ b ob xs e=>?_,λ b ps e=>?_⟩,I.loc,I.cell,n0 _ I.free,λ x c e=>n0 _ (I.ic x c e),λ p hp=>⟨(I.pin p hp).1,n0 _ (I.pin p hp).2.1,(I.pin p hp).2.2⟩,λ b u e=>?_,I.len⟩
 ·have q:=I.base.qQ b xs e
  rw [au (ne b _ q λ _ _ y=>nomatch y)]; exact q
 ·have q:=I.base.ql b ob xs e
  rw [au (λ z=>h0 _ _ (by rw [<- z]; exact e))]; exact q
 ·obtain ⟨more,q⟩:=I.base.qR b ps e
  exact ⟨more,by rw [au (ne b _ q λ _ _ y=>nomatch y)]; exact q⟩
 ·by_cases z:b=d
  ·subst z
   rw [ay] at e;cases e;exact (I.hok b _ hd).2
  ·rw [au z] at e
   exact (I.hok b u e).vX (λ _ _ _ q=>q) (λ c q=>by rw [au (ne c _ q λ _ _ y=>nomatch y)]; exact q) λ c xs q=>by rw [au (ne c _ q λ _ _ y=>nomatch y)]; exact q
end
theorem wo {P:Program} {w:World} {K:PB} {tg:Expr} (d it:Pz) (o:Obj) (kvs:My (Key×V)) (es:Array DictEntry) (ep:Nat) (hdat:o.data=.dict es ep):Turn P w K tg (ItK d o kvs) [it] it (λ i h=>h.IsKeyIter it d i kvs.length ep) where
 mem:=by simp
 obj:=λ i h st b hb=>by
  have e:b=it:=by simpa using hb
  subst e;obtain ⟨o,e,c,d⟩:=st;exact ⟨o,e,λ v z=>by rw [d] at z; cases z⟩
 keep:=λ i h h' st k=>by
  obtain ⟨o,e,r⟩:=st;exact ⟨o,k it (by simp) o e,r⟩
 item:=by
  intro X hP hw hK hc i Pn s σ H E I hf st hg;subst hP hw hK;obtain ⟨hd,hi⟩:=hg;obtain ⟨g,ok⟩:=I.hok d _ hd;obtain ⟨sz,lo,vs,kv,o',es',ep',h1,h2,h3,h4⟩:=ok;rw [g] at h1;cases h1;rw [hdat] at h3;cases h3;have lv:=kv.length.symm;have dat:s.heap.DictAt (bO X.prog X.w) d vs ep:=⟨o,es,g,h2,hdat,h4⟩
  obtain ⟨f0,f1,f2,f3,f4,f5⟩:=hf it (by simp);have hx:vs[i]?=some (vs[i]'(by omega)):=List.getElem?_eq_getElem (by omega)
  have hk:(kvs[i]'hi).1=(vs[i]'(by omega)).1:=by
   have e1:(vs.map (·.1))[i]?=(kvs.map (·.1))[i]?:=by rw [rY kv]
   rw [List.getElem?_map,List.getElem?_map,hx,List.getElem?_eq_getElem hi] at e1;exact (Zj e1).symm
  refine wpAny_pyNext_dict_item (k:=(vs[i]'(by omega)).1) (by rw [lv]; exact st) dat hx λ key h' ik st' sb=>?_
  have I1:=I.turned (t':=s.toks) (λ b o hb e=>(sb.2 b hb).trans e) f0 f1 f3 f4 f5;obtain ⟨o2,e2,c2,d2⟩:=id st';rw [lv] at st';refine ⟨key,rfl,vv e2 c2 d2 (by decide) ⟨kV (kvs[i]'hi).1,H,I1,?_,⟨rfl,_,_,List.getElem?_eq_getElem hi,rfl⟩,st',λ b hb=>(hf b hb).1⟩⟩;rw [hk];rcases bI (ik) with ⟨j,t,e4,e5⟩ | ⟨y,t,e4,e5⟩
  · rw [e4,e5]; exact ⟨t,rfl⟩
  · rw [e4,e5]; exact ⟨t,rfl⟩
 done:=by
  intro X hP hw hK hc i Pn s σ H E I hf st hg;subst hP hw hK;obtain ⟨hd,hi⟩:=hg;obtain ⟨g,ok⟩:=I.hok d _ hd;obtain ⟨sz,lo,vs,kv,o',es',ep',h1,h2,h3,h4⟩:=ok;rw [g] at h1;cases h1;rw [hdat] at h3;cases h3;have lv:vs.length=kvs.length:=kv.length.symm;have dat:s.heap.DictAt (bO X.prog X.w) d vs ep:=⟨o,es,g,h2,hdat,h4⟩
  obtain ⟨f0,f1,f2,f3,f4,f5⟩:=hf it (by simp);exact wpAny_pyNext_dict_end (I.ok.hd hc) (by rw [lv]; exact st) dat (List.getElem?_eq_none (by omega)) λ h' eb=>⟨rfl,I.turned (t':=s.toks) (λ b o hb e=>eb b o hb e) f0 f1 f3 f4 f5⟩
 self:=λ _ _ _ _ _ st h=>wpAny_pyIter_keyiter st h
def Hw (td:TE):TI:=λ σ H R=>td σ H λ v H1=>∃ d kvs,v=.ref d/\H1 d=some (.dK kvs)/\∀ o,R (ItK d o kvs) (upd H1 d (.frz o (.dK kvs)))
theorem xk {X:Cx} {tg l:Expr} {tl:TE} (hl:PE X l tl):PI X tg l (Hw tl):=by
 intro Pn s σ H R I h;refine thn (hl Pn s σ H _ I h) λ v s1 ⟨x,H1,I1,r1,q1⟩=>?_
 obtain ⟨d,kvs,e,hd,q⟩:=q1;subst e;cases r1;obtain ⟨sz,lo,vs,kv,o,es,ep,h1,h2,h3,h4⟩:=yU I1.hok hd;have lv:=kv.length.symm;refine wpAny_pyIter_dict lo ⟨o,es,h1,h2,h3,h4⟩ ?_
 have I2:=(I1.freeze hd h1).kept (t':=s1.toks) (h':=s1.heap.push { cls:=.type "dict_keyiterator",data:=.fields #[.ref d,.int 0 0,.int vs.length 0,.int ep 0] }) λ b o e=>Heap.get?_push_of_some _ e
 refine ⟨s1.heap.objs.size,[s1.heap.objs.size],_,_,_,rfl,I2,wo d _ o kvs es ep h3,⟨_,Heap.get?_push_size _ rfl,rfl,by rw [lv]; rfl⟩,λ b hb=>?_,q o⟩;have e:b=s1.heap.objs.size:=by simpa using hb
 subst e;exact (I1.freeze hd h1).AQ (Zn _) ((I1.freeze hd h1).hok.fresh (Zn _))
def FR (H0:Hp) (t:TS):TS:=λ D σ H=>t { D with nx:=λ σ1 H1=>∃ d o kvs,H1 d=some (.frz o (.dK kvs))/\(∀ o' u',H0 d≠some (.frz o' u'))/\D.nx σ1 (upd H1 d (.dK kvs)) } σ H
theorem w6 {X:Cx} {st:Stmt} {t:TS} (h:PS X st t):PS X st (FR X.H₀ t):=by
 intro Pn s σ H D I hh;refine Yu (h Pn s σ H _ I hh) (λ f s1 q=>?_) λ _ _ z=>z
 cases f with
 | next=>
  obtain ⟨σ',H',I',d,o,kvs,hd,h0,q⟩:=q;exact ⟨σ',_,I'.N5 hd h0,q⟩
 | ret v=>exact q
 | brk=>exact q
 | cont=>exact q
noncomputable def sca:D->Bool
 | .non=>true | .bl _=>true | .int _=>true | .str _=>true | .ty _=>true | _=>false
theorem m4 {K:PB} {H H':Hp} {v:V} {d:D} (h:Rp K H v d) (e:sca d=true):Rp K H' v d:=by
 cases h <;> first | exact .non | exact .bl _ | exact .int _ | exact .str _ | exact .ty _ | (simp [sca] at e)
theorem lC {K:PB} {H H':Hp} {vs:My V} {ds:My D} (h:Rps K H vs ds):ds.all sca=true->Rps K H' vs ds:=by
 induction ds generalizing vs with
 | nil=>intro _; cases h; exact .nil
 | cons d ds ih=>
  intro e
  cases h with
  | cons h r=>
   rw [Xv,Z7] at e;exact .cons (m4 h e.1) (ih r e.2)
def toM:Sm->Px Mt
 | .shr d=>some (.s d)
 | .mu false m=>some m
 | _=>none
def Oo (N:Hp) (K:PB) (f:DEm):TE:=λ σ H Q=>∃ (Hs0 H0:Hp),∃ (_:Nf N H0),∃ ρ Hs τ s τ',b5 K Hs0 H0 ρ Hs H σ τ/\f τ=some (s,τ')/\∀ v Hs' H',cc H H'->b5 K Hs0 H0 (none::ρ) Hs' H' (some v::σ) (s::τ')->Q v H'
def PVm (X:Cx) (e:Expr) (f:DEm):Prop:=PE X e (Oo X.H₀ X.K f)
def eS (g:DE):DEm:=λ τ=>(g (bf τ)).bind λ d=>if sca d=true then some (.shr d,τ) else none
noncomputable def eN (g:DE):DEm:=λ τ=>(g (er τ)).map λ d=>(.shr d,τ)
def lM (ds:My D):Mt:=.n .l (ds.map λ d=>(.inl 0,.s d))
noncomputable def eO (g:DE):DEm:=λ τ=>(g (bf τ)).bind λ d=>match d with
 | .lst ds=>if ds.all sca=true then some (.mu false (lM ds),τ) else none
 | _=>none
noncomputable def eV (i:Nat):DEm:=λ τ=>match τ[i]? with
 | some (.mu false m)=>some (.mu false m,τ.set i .no)
 | some (.shr d)=>some (.shr d,τ)
 | _=>none
section
variable {K:PB} {Hs0 H0 Hs H Hs' H':Hp} {ρ:My (Px Pz)} {σ:St} {τ:My Sm}
def b5.push (r:b5 K Hs0 H0 ρ Hs H σ τ) (h:Rp K Hs v d):b5 K Hs0 H0 (none::ρ) Hs H (some v::σ) (.shr d::τ):=⟨r.ext,let ⟨fp,s⟩:=r.st; ⟨fp,.shr h s⟩⟩
theorem b5.pop (r:b5 K Hs0 H0 (p::ρ) Hs H (v::σ) (s::τ)):b5 K Hs0 H0 ρ Hs H σ τ:=⟨r.ext,by
 obtain ⟨fp,s⟩:=r.st
 cases s with
 | no r=>exact ⟨_,r⟩
 | shr h r=>exact ⟨_,r⟩
 | mu h hp z j r=>exact ⟨_,r⟩⟩
def b5.old (r:b5 K Hs0 H0 ρ Hs H σ τ) (h:H p=none):H0 p=none:=r.ext.hh.free h
def StM.new (h:StM K H0 Hs H ρ σ τ fp) (hp:H p=none):p ∉ fp:=λ q=>(h.live p q).2.1 hp
theorem Pd {i:Nat} {d:D} {fp:My Pz} (h:StM K H0 Hs H ρ σ τ fp) (e:τ[i]?=some (.shr d)):∃ v,σ[i]?=some (some v)/\Rp K Hs v d:=h.er.get (by rw [List.getElem?_map,e]; rfl)
theorem Mm (h:Rps K Hs vs ds):∃ ts:My Kd,(ts.map Kd.kv).map (·.2)=vs/\ts.map Kd.km=ds.map (λ d=>((.inl 0:Key),Mt.s d))/\ts.flatMap Kd.fp=[]/\∀ H,∀ c ∈ ts,Od K Hs H c.fp c.v c.m:=by
 induction ds generalizing vs with
 | nil=>cases h; exact ⟨[],rfl,rfl,rfl,λ _ c hc=>by cases hc⟩
 | cons d ds ih=>
  cases h with
  | @cons x _ _ _ h r=>
   obtain ⟨ts,h1,h2,h3,h4⟩:=ih r;refine ⟨⟨.inl 0,x,.s d,[]⟩::ts,by rw [Zg,Zg,h1],by rw [Zg,Zg,h2],by rw [Yd,h3]; rfl,λ H c hc=>?_⟩;rcases Zh.mp hc with rfl | hc
   · exact .s h
   · exact h4 H c hc
theorem Od.lst (h:H a=some (.lst vs)) (n:Hs a=none) (r:Rps K Hs vs ds):Od K Hs H [a] (.ref a) (lM ds):=by
 obtain ⟨ts,h1,h2,h3,h4⟩:=Mm r;have:=Od.n (K:=K) (Hs:=Hs) (H:=H) (a:=a) (dx:=0) (t:=.l) (ts:=ts) (u:=.lst vs) h (by rw [<- h1]; exact .l _) n trivial (by rw [h3]; simp) (h4 H);rw [h2,h3] at this;exact this
theorem b5.CF (r:b5 K Hs0 H0 ρ Hs H σ τ) (g:cc H H') (h:Od K Hs H' fq v m) (z:∀ c ∈ fq,H c=none):b5 K Hs0 H0 (none::ρ) Hs H' (some v::σ) (.mu false m::τ):=by
 obtain ⟨fp,s⟩:=r.st;exact ⟨(r.grow g).ext,fq++fp,.mu h (λ e=>by cases e) (λ c hc=>r.old (z c hc)) (λ c hc=>s.new (z c hc)) (s.ext ⟨.refl _,r.ext.sh.trans g,g,λ _ h _=>h⟩)⟩
theorem b5.into (r:b5 K Hs0 H0 (none::ρ) Hs H (some v::σ) (s::τ)) (hf:i < τ.length) (hs:(toM s).isSome=true):b5 K Hs0 H0 ρ Hs H (σ.set i (some v)) (τ.set i s):=⟨r.ext,by
 obtain ⟨fp,st⟩:=r.st
 cases st with
 | no r=>cases hs
 | shr h s=>obtain ⟨fp',h1,_⟩:=s.zN (i:=i) h; exact ⟨fp',h1⟩
 | @mu p v b m ρ σ τ fq fp h hp z j s=>
  cases b with
  | true=>cases hs
  | false=>obtain ⟨fp',h1,_⟩:=s.setM (i:=i) h (λ c hc=>⟨z c hc,j c hc⟩) hf; exact ⟨fp',h1⟩⟩
theorem nU {ts' ts:My Kd} (h:ts'.Sublist ts):(ts'.flatMap Kd.fp).Sublist (ts.flatMap Kd.fp):=by
 induction h with
 | slnil=>exact .slnil
 | cons a _ ih=>rw [Yd]; exact ih.trans (List.sublist_append_right _ _)
 | cons_cons a _ ih=>rw [Yd,Yd]; exact (List.Sublist.refl _).append ih
theorem StM.node {i:Nat} {q:My Stp} {t:Tg} {cs:My (Key×Mt)} {rt v1:V} {fp:My Pz} (rx:Ext Hs0 H0 Hs H) (st:StM K H0 Hs H ρ σ τ fp) (hg:bB τ i q=some (.n t cs)) (hi:σ[i]?=some (some rt)) (hv:vAt H rt q=some v1):∃ a dx ts u,v1=.ref a/\cs=ts.map Kd.km/\H a=some u/\Lay t dx (ts.map Kd.kv) u/\KU t ts/\Hs a=none/\H0 a=none/\(∀ fq l1 (k:Kd) l2 u',(l1++l2).Sublist ts->k.fp=fq->Od K Hs H fq k.v k.m->(∀ c ∈ fq,H0 c=none/\c ∉ fp)->Lay t dx ((l1++k::l2).map Kd.kv) u'->KU t (l1++k::l2)->b5 K Hs0 H0 ρ Hs (upd H a u') σ (ft τ i q (.n t ((l1++k::l2).map Kd.km))))/\(∀ ts' u',ts'.Sublist ts->Lay t dx (ts'.map Kd.kv) u'->KU t ts'->b5 K Hs0 H0 ρ Hs (upd H a u') σ (ft τ i q (.n t (ts'.map Kd.km)))):=by
 unfold bB at hg;split at hg
 ·rename_i b m em
  obtain ⟨v,fp1,v1',w1,w2,w3,w4,w5⟩:=st.ro em hg;rw [hi] at w1;cases w1;rw [hv] at w2;cases w2;obtain ⟨a,dx,ts,u,rfl,rfl,rfl,ha,hl,nh,ku,nd,rr⟩:=w3.inv;have afp:a ∈ fp:=w4 a (Zd ..);have h0:=(st.live a afp).2.2;have ep:∀ m2,ft τ i q m2=τ.set i (.mu b (m.put q m2)):=λ m2=>by unfold ft; rw [em]
  have ex:∀ u',Ext Hs0 H0 Hs (upd H a u'):=λ u'=>by
   refine ⟨rx.ss,λ c o e=>?_,λ c o e=>?_,rx.fr⟩
   · rw [au (λ z=>by rw [z,nh] at e; cases e)]; exact rx.sh c o e
   · rw [au (λ z=>by rw [z,h0] at e; cases e)]; exact rx.hh c o e
  have nd1:=Zw.mp nd;refine ⟨a,dx,ts,u,rfl,rfl,ha,hl,ku,nh,h0,λ fq l1 k l2 u' hsub hk hod hz hl' ku'=>?_,λ ts' u' hsub hl' ku'=>?_⟩
  ·subst hk
   have zz:=hz;have sf:=nU hsub;rw [Ym] at sf;have nd2:=nd1.2.sublist sf;rw [Yc] at nd2;have inl:∀ c,c ∈ l1.flatMap Kd.fp\/c ∈ l2.flatMap Kd.fp->c ∈ fp:=λ c hc=>w4 c (Za _ (sf.subset (Zi.mpr hc)))
   have nda:(a::(l1.flatMap Kd.fp++(k.fp++l2.flatMap Kd.fp))).Nodup:=ng (λ z=>nd1.1 (sf.subset (Zk _ z))) (λ z=>(zz a z).2 afp) (λ z=>nd1.1 (sf.subset (Ze _ z))) hod.nd (λ c hc=>⟨λ z=>(zz c hc).2 (inl c (.inl z)),λ z=>(zz c hc).2 (inl c (.inr z))⟩) nd2.1 nd2.2.1 λ c hc z=>nd2.2.2 c hc c z rfl
   have nda':(a::(l1++k::l2).flatMap Kd.fp).Nodup:=by rw [Ym,Yd]; exact nda
   have od:Od K Hs (upd H a u') (a::(l1++k::l2).flatMap Kd.fp) (.ref a) (.n t ((l1++k::l2).map Kd.km)):=by
    refine .n ay hl' nh ku' nda' λ c hc=>?_
    have off:∀ fp',Od K Hs H fp' c.v c.m->a ∉ fp'->Od K Hs (upd H a u') fp' c.v c.m:=λ fp' o n=>o.mv (.refl _) λ x hx=>⟨(o.live x hx).1,au λ z=>n (z ▸ hx)⟩
    have na:a ∉ c.fp:=λ z=>(Zw.mp nda').1 (Yk.mpr ⟨c,hc,z⟩)
    rcases Zi.mp hc with hc | hc
    · exact off _ (rr c (hsub.subset (Zk _ hc))) na
    ·rcases Zh.mp hc with rfl | hc
     · exact off _ hod na
     · exact off _ (rr c (hsub.subset (Ze _ hc))) na
   obtain ⟨fp',s',_⟩:=w5 Hs (upd H a u') _ _ (.refl _) (λ c hc hn=>⟨(st.live c hc).1,au λ z=>hn (by rw [z]; exact Zd ..)⟩) od λ c hc=>by
    rcases Zh.mp hc with rfl | hc
    · exact .inl (Zd ..)
    ·rw [Ym,Yd,Zi,Zi] at hc
     rcases hc with hc | hc | hc
     · exact .inl (Za _ (sf.subset (Zk _ hc)))
     · exact .inr ⟨(zz c hc).2,(zz c hc).1⟩
     · exact .inl (Za _ (sf.subset (Ze _ hc)))
   exact ⟨ex u',fp',by rw [ep]; exact s'⟩
  ·have sf:=nU hsub
   have nda':(a::ts'.flatMap Kd.fp).Nodup:=Zw.mpr ⟨λ z=>nd1.1 (sf.subset z),nd1.2.sublist sf⟩
   have od:Od K Hs (upd H a u') (a::ts'.flatMap Kd.fp) (.ref a) (.n t (ts'.map Kd.km)):=by
    refine .n ay hl' nh ku' nda' λ c hc=>?_
    have o:=rr c (hsub.subset hc);exact o.mv (.refl _) λ x hx=>⟨(o.live x hx).1,au λ z=>(Zw.mp nda').1 (Yk.mpr ⟨c,hc,z ▸ hx⟩)⟩
   obtain ⟨fp',s',_⟩:=w5 Hs (upd H a u') _ _ (.refl _) (λ c hc hn=>⟨(st.live c hc).1,au λ z=>hn (by rw [z]; exact Zd ..)⟩) od λ c hc=>by
    rcases Zh.mp hc with rfl | hc
    · exact .inl (Zd ..)
    · exact .inl (Za _ (sf.subset hc))
   exact ⟨ex u',fp',by rw [ep]; exact s'⟩
 · cases hg
theorem b5.Dp (r:b5 K Hs0 H0 (none::ρ) Hs H (some v::σ) (s::τ)) (hs:toM s=some mv) (hg:bB τ i q=some (.n t cs)) (hi:σ[i]?=some (some rt)) (hv:vAt H rt q=some v1):∃ a dx ts u fv,v1=.ref a/\cs=ts.map Kd.km/\H a=some u/\Lay t dx (ts.map Kd.kv) u/\KU t ts/\∀ l1 kk l2 u',(l1++l2).Sublist ts->Lay t dx ((l1++⟨kk,v,mv,fv⟩::l2).map Kd.kv) u'->KU t (l1++⟨kk,v,mv,fv⟩::l2)->b5 K Hs0 H0 ρ Hs (upd H a u') σ (ft τ i q (.n t ((l1++⟨kk,v,mv,fv⟩::l2).map Kd.km))):=by
 obtain ⟨fp0,st⟩:=r.st
 cases st with
 | no st=>cases hs
 | shr h st=>
  cases hs;obtain ⟨a,dx,ts,u,h1,h2,h3,h4,h5,h6,h7,h8,_⟩:=StM.node r.ext st hg hi hv;exact ⟨a,dx,ts,u,[],h1,h2,h3,h4,h5,λ l1 kk l2 u' e1 e2 e3=>h8 [] l1 ⟨kk,v,_,[]⟩ l2 u' e1 rfl (.s h) (λ c hc=>by cases hc) e2 e3⟩
 | @mu p v b m ρ σ τ fq fp h hp z j st=>
  cases b with
  | true=>cases hs
  | false=>
   cases hs;obtain ⟨a,dx,ts,u,h1,h2,h3,h4,h5,h6,h7,h8,_⟩:=StM.node r.ext st hg hi hv;exact ⟨a,dx,ts,u,fq,h1,h2,h3,h4,h5,λ l1 kk l2 u' e1 e2 e3=>h8 fq l1 ⟨kk,v,_,fq⟩ l2 u' e1 rfl h (λ c hc=>⟨z c hc,j c hc⟩) e2 e3⟩
end
def dH (h:bB τ i q=some m1):∃ b m,τ[i]?=some (.mu b m)/\m.get q=some m1:=by
 unfold bB at h;split at h
 · exact ⟨_,_,‹_›,h⟩
 · cases h
theorem yz {st:Stp}:∀ (q:My Stp) {m m2:Mt},m.get (q++[st])=some m2->∃ m1,m.get q=some m1/\m1.get [st]=some m2
 | [],m,m2,h=>⟨m,by cases m <;> rfl,h⟩
 | s::q,.s d,m2,h=>by cases h
 | s :: q,.n t cs,m2,h=>by
  have h':(match xa t cs s with | none=>none | some i=>match cs[i]? with | none=>none | some c=>Mt.get c.2 (q++[st]))=some m2:=h
  cases e1:xa t cs s with
  | none=>rw [e1] at h'; cases h'
  | some i=>
   rw [e1] at h'
   cases e2:cs[i]? with
   | none=>simp only [e2] at h'; cases h'
   | some c=>
    simp only [e2] at h';obtain ⟨m1,h1,h2⟩:=yz q h';refine ⟨m1,?_,h2⟩;show (match xa t cs s with | none=>none | some i=>match cs[i]? with | none=>none | some c=>Mt.get c.2 q)=some m1;simp only [e1,e2];exact h1
theorem nR {H:Hp} {st:Stp}:∀ (q:My Stp) {v v1:V},vAt H v q=some v1->vAt H v (q++[st])=vAt H v1 [st]
 | [],v,v1,h=>by
  have e:v=v1:=by cases v <;> exact Zj h
  rw [e]; rfl
 | .k k::q,v,v1,h=>by
  cases v with
  | ref a=>
   have h':(match H a with | some (.ins _ _ fs)=>(d8 (fs.map λ (f:Str×V)=>((Sum.inr f.1:Key),f.2)) k).bind λ v=>vAt H v q | some (.dK kvs)=>(d8 kvs k).bind λ v=>vAt H v q | _=>none)=some v1:=h;show (match H a with | some (.ins _ _ fs)=>(d8 (fs.map λ (f:Str×V)=>((Sum.inr f.1:Key),f.2)) k).bind λ v=>vAt H v (q++[st]) | some (.dK kvs)=>(d8 kvs k).bind λ v=>vAt H v (q++[st]) | _=>none)=_;split at h'
   ·obtain ⟨w,h1,h2⟩:=Ub h'
    rw [h1]; exact nR q h2
   ·obtain ⟨w,h1,h2⟩:=Ub h'
    rw [h1]; exact nR q h2
   · cases h'
  | _=>cases h
 | .i n::q,v,v1,h=>by
  cases v with
  | ref a=>
   have h':(match H a with | some (.lst xs)=>(xs[n]?).bind λ v=>vAt H v q | _=>none)=some v1:=h;show (match H a with | some (.lst xs)=>(xs[n]?).bind λ v=>vAt H v (q++[st]) | _=>none)=_;split at h'
   ·obtain ⟨w,h1,h2⟩:=Ub h'
    rw [h1]; exact nR q h2
   · cases h'
  | _=>cases h
theorem cq (g:cc H H'):∀ (q:My Stp) {v v1:V},vAt H v q=some v1->vAt H' v q=some v1
 | [],v,v1,h=>by cases v <;> exact h
 | .k k::q,v,v1,h=>by
  cases v with
  | ref a=>
   have h':(match H a with | some (.ins _ _ fs)=>(d8 (fs.map λ (f:Str×V)=>((Sum.inr f.1:Key),f.2)) k).bind λ v=>vAt H v q | some (.dK kvs)=>(d8 kvs k).bind λ v=>vAt H v q | _=>none)=some v1:=h;show (match H' a with | some (.ins _ _ fs)=>(d8 (fs.map λ (f:Str×V)=>((Sum.inr f.1:Key),f.2)) k).bind λ v=>vAt H' v q | some (.dK kvs)=>(d8 kvs k).bind λ v=>vAt H' v q | _=>none)=_;split at h'
   ·rename_i e
    obtain ⟨w,h1,h2⟩:=Ub h';simp only [g _ _ e];rw [h1]; exact cq g q h2
   ·rename_i e
    obtain ⟨w,h1,h2⟩:=Ub h';simp only [g _ _ e];rw [h1]; exact cq g q h2
   · cases h'
  | _=>cases h
 | .i n::q,v,v1,h=>by
  cases v with
  | ref a=>
   have h':(match H a with | some (.lst xs)=>(xs[n]?).bind λ v=>vAt H v q | _=>none)=some v1:=h;show (match H' a with | some (.lst xs)=>(xs[n]?).bind λ v=>vAt H' v q | _=>none)=_;split at h'
   ·rename_i e
    obtain ⟨w,h1,h2⟩:=Ub h';simp only [g _ _ e];rw [h1]; exact cq g q h2
   · cases h'
  | _=>cases h
theorem nQ:∀ (fs:My (Str×V)),d8 (fs.map λ f=>((Sum.inr f.1:Key),f.2)) (.inr x)=fs.lookup x
 | []=>rfl
 | (y,v)::fs=>by
  rw [Zg,List.lookup_cons]
  by_cases h:y=x
  · rw [jx (by rw [h]),h]; simp
  ·rw [jy (λ z=>h (by injection z)),nQ fs]
   have:(x == y)=false:=by simpa using λ z=>h z.symm
   rw [this]
def de (i:Nat):DPx:=λ _=>some (i,[])
noncomputable def jX (C:Pz) (x:Str) (f:DPx):DPx:=λ τ=>(f τ).bind λ p=>match bB τ p.1 p.2 with
 | some (.n (.o C') _)=>if C'=C then some (p.1,p.2++[.k (.inr x)]) else none
 | _=>none
noncomputable def vb (f:DPx) (g:DE):DPx:=λ τ=>(f τ).bind λ p=>(g (bf τ)).bind λ d=>(fu d).bind λ k=>match bB τ p.1 p.2 with
 | some (.n .d _)=>some (p.1,p.2++[.k k])
 | _=>none
section
variable {K:PB} {Hs0 H0 Hs H Hs' H':Hp} {ρ:My (Px Pz)} {σ:St} {τ:My Sm}
theorem b5.child {i:Nat} {q:My Stp} {st:Stp} {t:Tg} {cs:My (Key×Mt)} {m2:Mt} {rt v1:V} (r:b5 K Hs0 H0 ρ Hs H σ τ) (hg:bB τ i q=some (.n t cs)) (hg2:bB τ i (q++[st])=some m2) (hi:σ[i]?=some (some rt)) (hv:vAt H rt q=some v1):∃ (a dx:Pz) (ts:My Kd) (u:HO) (w:V),v1=.ref a/\cs=ts.map Kd.km/\H a=some u/\Lay t dx (ts.map Kd.kv) u/\vAt H rt (q++[st])=some w/\vAt H (.ref a) [st]=some w:=by
 obtain ⟨fp,s⟩:=r.st;obtain ⟨a,dx,ts,u,rfl,rfl,ha,hl,_⟩:=StM.node r.ext s hg hi hv;obtain ⟨b,m,e1,e2⟩:=dH hg2;obtain ⟨m1,e3,e4⟩:=yz q e2;have e5:bB τ i q=m.get q:=by unfold bB; rw [e1]
 rw [e5,e3] at hg;cases hg;have e':(match xa t (ts.map Kd.km) st with | none=>none | some i=>match (ts.map Kd.km)[i]? with | none=>none | some c=>Mt.get c.2 [])=some m2:=e4
 cases e6:xa t (ts.map Kd.km) st with
 | none=>rw [e6] at e'; cases e'
 | some j=>
  rw [e6] at e'
  cases e7:(ts.map Kd.km)[j]? with
  | none=>simp only [e7] at e'; cases e'
  | some c=>
   obtain ⟨t1,k,t2,_,_,_,q4⟩:=uB ha hl e6 e7;have w:vAt H (.ref a) [st]=some k.v:=by rw [q4]; cases k.v <;> rfl
   exact ⟨a,dx,ts,u,k.v,rfl,rfl,ha,hl,by rw [nR q hv]; exact w,w⟩
end
section
variable {X:Cx} {a b c e o:Expr} {es:My Expr} {pos Po Pp pos':Pos} {x:Str}
theorem PVm.em (h:PVm X e f):PEm X e f:=PE.imp h λ σ H Q w0=>g83 w0 λ Hs0 H0 nf ρ Hs τ s τ' r e k=>⟨Hs0,H0,nf,ρ,Hs,τ,s,τ',r,e,λ v Hs' H' _ r'=>k v Hs' H' r'⟩
end
section
variable {X:Cx}
theorem uc:∀ {ns:My Int} {us:My Py},bX (ns.map V.int) us->IntsAre us ns
 | [],_,.nil=>.nil
 | n::ns,_,.cons r t=>by
  obtain ⟨tk,rfl⟩:=r;exact .cons n tk (uc t)
variable {o e:Expr} {f g:DE} {Po Pp:Pos}
end
def Cz:V->My V->Hp->VK->Prop:=λ x vs H Q=>∃ l ns k,x=.ref l/\vs=[.int k]/\H l=some (.lst (List.map V.int ns))/\ns.length<=1000/\k ∈ ns/\Q .non (upd H l (.lst ((ns.eraseIdx (ns.idxOf k)).map V.int)))
section
variable {X:Cx}
theorem bX.del:∀ {xs:My V} {us:My Py} (j:Nat),bX xs us->bX (xs.eraseIdx j) (us.eraseIdx j)
 | _,_,_,.nil=>.nil
 | _,_,0,.cons _ r=>r
 | _,_,j+1,.cons h r=>.cons h (bX.del j r)
theorem lS {α β:Type} (f:α->β):∀ (l:My α) (j:Nat),(l.eraseIdx j).map f=(l.map f).eraseIdx j
 | [],_=>rfl
 | _::_,0=>rfl
 | x::l,j+1=>Yo (f x::·) (lS f l j)
theorem xR:MtM X "list.remove" Cz:=by
 intro Pn s σ H x vs v us Q I rx rv h;obtain ⟨l,ns,k,rfl,rfl,hH,hz,hk,q⟩:=h;cases rx;obtain ⟨u,rfl,tu,rfl⟩:=vals1 rv;obtain ⟨z,its,n,r,hl,e⟩:=I.BK hH;have hi:=uc r;have hln:=hi.length;have hj:ns.idxOf k < ns.length:=List.idxOf_lt_length_iff.mpr hk
 refine call_meets PySem.F.slot_list_remove ⟨_,e,rfl⟩ PySem.F.entry_list_remove (PySem.F.args_list_remove_2 _ _)
  (MeetsSeq.list_remove l its.toArray n (.int k tu) (isInt k) (λ y hy=>eq_isInt k tu hi y (by simpa using hy)) (ns.idxOf k) (by rw [Zq,hln]; exact hj) ?_ (λ m h1 h2=>?_) (by rw [Zq,hln]; exact Z6 hz (by decide))) ⟨e,?_⟩
 ·show isInt k its[ns.idxOf k]=true
  rw [isInt_at k hi _ (by omega) hj]
  simpa using List.getElem_idxOf hj
 ·have h1':m < its.length:=by simpa using h1
  show isInt k its[m]=false;rw [isInt_at k hi m h1' (by omega)];exact ne_of_lt_idxOf h2 _
 ·refine ⟨.non,_,I.Hd (its':=its.eraseIdx (ns.idxOf k)) hH e ?_ (by rw [lS]; exact bX.del _ r) ?_,rfl,q⟩
  ·show its.toArray.eraseIdxIfInBounds (ns.idxOf k)=(its.eraseIdx (ns.idxOf k)).toArray
   rw [List.eraseIdxIfInBounds_toArray]
  · rw [Zc]; exact Z6 (List.length_eraseIdx_le ..) (by rw [Zc] at z; exact z)
end
def jB:DSm:=λ τ=>some (.next τ)
def Cu:DSm:=λ _=>none
def fK (f g:DSm):DSm:=λ τ=>match f τ with
 | some (.next τ')=>g τ'
 | r=>r
def tG (t:DTm) (f g:DSm):DSm:=λ τ=>(t τ).bind λ x=>if x.1=true then f x.2 else g x.2
noncomputable def u7 (i:Nat) (f:DEm):DSm:=λ τ=>(f τ).bind λ x=>if i < x.2.length/\(toM x.1).isSome=true then some (.next (x.2.set i x.1)) else none
noncomputable def nX (f:DEm):DSm:=λ τ=>(f τ).map λ x=>.ret x.1 x.2
def lE (f:DEm):DSm:=λ τ=>(f τ).map λ x=>.next x.2
def tS (g:DT):DTm:=λ τ=>(g (bf τ)).map λ b=>(b,τ)
noncomputable def tE (f:DEm):DTm:=λ τ=>(f τ).bind λ x=>match x.1 with
 | .shr (.bl b)=>some (b,x.2)
 | _=>none
noncomputable def tNt (f:DTm):DTm:=λ τ=>(f τ).map λ x=>(!x.1,x.2)
section
variable {X:Cx} {a b c e o:Expr} {es:My Expr} {pos Po Pp pos':Pos} {x:Str} {st:Stmt} {rest:My Stmt} {f g:DSm}
def wJ (g:DE):DSm:=λ τ=>(g (bf τ)).map λ _=>.next τ
def kZ (cs:My (Key×Mt)) (k:Key) (m:Mt):My (Key×Mt):=if cs.any (λ c=>decide (c.1=k)) then cs.map (λ c=>if c.1=k then (c.1,m) else c) else cs++[(k,m)]
def fP (cs:My (Key×Mt)) (k:Key):My (Key×Mt):=cs.filter λ c=>decide (c.1≠k)
theorem pJ (k:Key) (nd:(ts.map Kd.k).Nodup):∃ l1 l2,(l1++l2).Sublist ts/\∀ n:Kd,n.k=k->(l1++n::l2).map Kd.kv=putK (ts.map Kd.kv) k n.v/\(l1++n::l2).map Kd.km=kZ (ts.map Kd.km) k n.m/\((l1++n::l2).map Kd.k).Nodup:=by
 have ea:∀ {α:Type} (g:Kd->α),k ∈ ts.map Kd.k->((ts.map λ t=>(t.k,g t)).any λ c=>decide (c.1=k))=true:=λ g h=>by
  rw [List.any_map,List.any_eq_true];obtain ⟨t,ht,rfl⟩:=Yt.mp h;exact ⟨t,ht,by simp⟩
 have en:∀ {α:Type} (g:Kd->α),k ∉ ts.map Kd.k->((ts.map λ t=>(t.k,g t)).any λ c=>decide (c.1=k))=false:=λ g h=>by
  rw [List.any_map,List.any_eq_false];exact λ t ht z=>h (Yt.mpr ⟨t,ht,by simpa using z⟩)
 by_cases h:k ∈ ts.map Kd.k
 ·obtain ⟨t,ht,et⟩:=Yt.mp h
  obtain ⟨l1,l2,rfl⟩:=List.append_of_mem ht;have nd':=nd;rw [Zp,Zg,Yc,Zw] at nd';have n1:∀ c ∈ l1,c.k≠k:=λ c hc z=>nd'.2.2 c.k (Z9 hc) t.k (Zd ..) (by rw [z,et])
  have n2:∀ c ∈ l2,c.k≠k:=λ c hc z=>nd'.2.1.1 (by rw [et,<- z]; exact Z9 hc)
  refine ⟨l1,l2,List.Sublist.append (.refl _) (List.sublist_cons_self ..),λ n hn=>⟨?_,?_,?_⟩⟩
  ·unfold putK
   rw [show ((l1++t::l2).map Kd.kv).any (λ kv=>decide (kv.1=k))=_ from ea Kd.v h,if_pos rfl,Zy,Zp,Zp,Zg,Zg];congr 1
   · exact Z0 λ c hc=>(if_neg (n1 c hc)).symm
   ·rw [show ((λ kv=>if kv.1=k then (kv.1,n.v) else kv) ∘ Kd.kv) t=(t.k,n.v) from if_pos et,et,<- hn]
    congr 1;exact Z0 λ c hc=>(if_neg (hn.symm ▸ n2 c hc)).symm
  ·unfold kZ
   rw [show ((l1++t::l2).map Kd.km).any (λ kv=>decide (kv.1=k))=_ from ea Kd.m h,if_pos rfl,Zy,Zp,Zp,Zg,Zg];congr 1
   · exact Z0 λ c hc=>(if_neg (n1 c hc)).symm
   ·rw [show ((λ c=>if c.1=k then (c.1,n.m) else c) ∘ Kd.km) t=(t.k,n.m) from if_pos et,et,<- hn]
    congr 1;exact Z0 λ c hc=>(if_neg (hn.symm ▸ n2 c hc)).symm
  ·rw [Zp,Zg,hn,<- et,<- Zg,<- Zp]
   exact nd
 ·refine ⟨ts,[],by rw [Zv]; exact .refl _,λ n hn=>⟨?_,?_,?_⟩⟩
  ·unfold putK
   rw [show (ts.map Kd.kv).any (λ kv=>decide (kv.1=k))=_ from en Kd.v h,if_neg (by simp),Zp,<- hn];rfl
  ·unfold kZ
   rw [show (ts.map Kd.km).any (λ kv=>decide (kv.1=k))=_ from en Kd.m h,if_neg (by simp),Zp,<- hn];rfl
  ·rw [Zp,Zg,Yc,hn]
   exact ⟨nd,by simp,λ c hc c' hc' z=>h (by rw [<- Zr.mp hc',<- z]; exact hc)⟩
theorem tO:∀ {fs:My (Str×V)},(fs.map Prod.fst).Nodup->(mJ x v fs).map (λ f=>((Sum.inr f.1:Key),f.2))=putK (fs.map λ f=>((Sum.inr f.1:Key),f.2)) (.inr x) v
 | [],_=>rfl
 | (y,w)::fs,nd=>by
  rw [Zg,Zw] at nd
  by_cases h:y=x
  ·subst h
   rw [show mJ y v ((y,w)::fs)=(y,v)::fs from if_pos rfl];unfold putK;rw [show ((((y,w)::fs).map λ f=>((Sum.inr f.1:Key),f.2)).any λ kv=>decide (kv.1=Sum.inr y))=true from by simp,if_pos rfl,Zg,Zg,Zg,Zy];congr 1
   · simp
   · exact Z0 λ c hc=>(if_neg (λ z=>nd.1 (by injection z with z; exact Yt.mpr ⟨c,hc,z⟩))).symm
  ·rw [show mJ x v ((y,w)::fs)=(y,w)::mJ x v fs from if_neg h,Zg,tO nd.2]
   unfold putK;rw [Zg,Xi,show decide ((Sum.inr y:Key)=Sum.inr x)=false from Zl (λ z=>h (by injection z)),Bool.false_or];split
   · rw [Zg,if_neg (λ z=>h (by injection z))]
   · rfl
noncomputable def gV (px:DPx) (gk:DE) (fv:DEm):DSm:=λ τ=>(fv τ).bind λ x=>(px x.2).bind λ p=>(gk (bf x.2)).bind λ d=>(fu d).bind λ k=>(toM x.1).bind λ mv=>match bB x.2 p.1 p.2 with
 | some (.n .d cs)=>if cs.length < 100000 then some (.next (ft x.2 p.1 p.2 (.n .d (kZ cs k mv)))) else none
 | _=>none
noncomputable def wI (C:Pz) (x:Str) (px:DPx) (fv:DEm):DSm:=λ τ=>(fv τ).bind λ y=>(px y.2).bind λ p=>(toM y.1).bind λ mv=>match bB y.2 p.1 p.2 with
 | some (.n (.o C') cs)=>if C'=C/\cs.length < 1000 then some (.next (ft y.2 p.1 p.2 (.n (.o C) (kZ cs (.inr x) mv)))) else none
 | _=>none
end
section
variable {K:PB} {Hs0 H0 Hs H Hs' H':Hp} {ρ:My (Px Pz)} {σ:St} {τ:My Sm}
theorem yf {dx:Pz} {ts:My Kd} {u:HO} (h:Lay .l dx (ts.map Kd.kv) u):u=.lst (ts.map Kd.v):=by
 generalize ek:ts.map Kd.kv=kvs at h
 cases h with
 | l _=>rw [<- ek,Zy]; rfl
def BN {dx:Pz} {ts:My Kd}:Lay .l dx (ts.map Kd.kv) (.lst (ts.map Kd.v)):=by
 have:=Lay.l (dx:=dx) (ts.map Kd.kv);rw [Zy] at this;exact this
def vm {dx:Pz} {ts:My Kd} {u:HO} (h:Lay .d dx (ts.map Kd.kv) u):u=.dK (ts.map Kd.kv):=by
 generalize ek:ts.map Kd.kv=kvs at h
 cases h with
 | d _=>rfl
theorem b5.pU (r:b5 K Hs0 H0 ρ Hs H σ τ) (hg:bB τ i q=some (.n t cs)) (hi:σ[i]?=some (some rt)) (hv:vAt H rt q=some v1):∃ (a dx:Pz) (ts:My Kd) (u:HO),v1=.ref a/\cs=ts.map Kd.km/\H a=some u/\Lay t dx (ts.map Kd.kv) u/\KU t ts/\(∀ c ∈ ts,Rp K H c.v (frz c.m))/\∀ ts' ks u',ts'.Sublist ts->(∀ k ∈ ks,k.fp=[]/\Od K Hs H [] k.v k.m)->Lay t dx ((ts'++ks).map Kd.kv) u'->KU t (ts'++ks)->b5 K Hs0 H0 ρ Hs (upd H a u') σ (ft τ i q (.n t ((ts'++ks).map Kd.km))):=by
 obtain ⟨fp,st⟩:=r.st;obtain ⟨b,m,em,eg⟩:=dH hg;obtain ⟨v,fp1,v1',w1,w2,w3,w4,w5⟩:=st.ro em eg;rw [hi] at w1;cases w1;rw [hv] at w2;cases w2;obtain ⟨a,dx,ts,u,rfl,rfl,rfl,ha,hl,nh,ku,nd,rr⟩:=w3.inv;have afp:a ∈ fp:=w4 a (Zd ..);have h0:=(st.live a afp).2.2;have nd1:=Zw.mp nd;refine ⟨a,dx,ts,u,rfl,rfl,ha,hl,ku,λ c hc=>(rr c hc).rp r.sm,λ ts' ks u' hsub hks hl' ku'=>?_⟩
 have ex:Ext Hs0 H0 Hs (upd H a u'):=by
  refine ⟨r.ext.ss,λ c o e=>?_,λ c o e=>?_,r.ext.fr⟩
  · rw [au (λ z=>by rw [z,nh] at e; cases e)]; exact r.ext.sh c o e
  · rw [au (λ z=>by rw [z,h0] at e; cases e)]; exact r.ext.hh c o e
 have kz:ks.flatMap Kd.fp=[]:=by
  rw [List.flatMap_eq_nil_iff];exact λ c hc=>(hks c hc).1
 have sf:=nU hsub
 have nda':(a::(ts'++ks).flatMap Kd.fp).Nodup:=by
  rw [Ym,kz,Zv];exact Zw.mpr ⟨λ z=>nd1.1 (sf.subset z),nd1.2.sublist sf⟩
 have od:Od K Hs (upd H a u') (a::(ts'++ks).flatMap Kd.fp) (.ref a) (.n t ((ts'++ks).map Kd.km)):=by
  refine .n ay hl' nh ku' nda' λ c hc=>?_
  have na:a ∉ c.fp:=λ z=>(Zw.mp nda').1 (Yk.mpr ⟨c,hc,z⟩)
  rcases Zi.mp hc with hc | hc
  ·have o:=rr c (hsub.subset hc)
   exact o.mv (.refl _) λ x hx=>⟨(o.live x hx).1,au λ z=>na (z ▸ hx)⟩
  ·obtain ⟨k1,k2⟩:=hks c hc
   rw [k1];exact k2.mv (.refl _) λ x hx=>by cases hx
 obtain ⟨fp',s',_⟩:=w5 Hs (upd H a u') _ _ (.refl _) (λ c hc hn=>⟨(st.live c hc).1,au λ z=>hn (by rw [z]; exact Zd ..)⟩) od λ c hc=>by
  rw [Ym,kz,Zv] at hc;rcases Zh.mp hc with rfl | hc
  · exact .inl (Zd ..)
  · exact .inl (Za _ (sf.subset hc))
 exact ⟨ex,fp',by unfold ft; rw [em]; exact s'⟩
theorem b5.isList (r:b5 K Hs0 H0 ρ Hs H σ τ) (hg:bB τ i q=some (.n .l cs)) (hi:σ[i]?=some (some rt)) (hv:vAt H rt q=some v1):tyV K "list" v1 H:=by
 obtain ⟨a,dx,ts,u,rfl,rfl,ha,hl,_⟩:=r.pU hg hi hv;rw [yf hl] at ha;exact .inl ⟨rfl,_,SqL.of ha⟩
end
def Jy (cs:My (Key×Mt)) (i:Nat) (m:Mt):My (Key×Mt):=cs.take i++(.inl 0,m)::cs.drop i
noncomputable def Cv (px:DPx) (gi:DE) (fv:DEm):DSm:=λ τ=>(px τ).bind λ p=>match bB τ p.1 p.2 with
 | some (.n .l _)=>(gi (bf τ)).bind λ d=>(fv τ).bind λ x=>(toM x.1).bind λ mv=>match d,bB x.2 p.1 p.2 with
  | .int i,some (.n .l cs)=>if 0<=i/\i<=cs.length/\cs.length < 100000 then some (.next (ft x.2 p.1 p.2 (.n .l (Jy cs i.toNat mv)))) else none
  | _,_=>none
 | _=>none
noncomputable def u9 (px:DPx) (g:DE):DSm:=λ τ=>(px τ).bind λ p=>(g (bf τ)).bind λ d=>match d,bB τ p.1 p.2 with
 | .int k,some (.n .l cs)=>(eL (qS cs)).bind λ ns=>if ns.length<=1000/\k ∈ ns then some (.next (ft τ p.1 p.2 (.n .l (cs.eraseIdx (ns.idxOf k))))) else none
 | _,_=>none
noncomputable def pG (px:DPx) (gk:DE):DSm:=λ τ=>(px τ).bind λ p=>(gk (bf τ)).bind λ d=>(fu d).bind λ k=>match bB τ p.1 p.2 with
 | some (.n .d cs)=>if (cs.any λ c=>decide (c.1=k))=true then some (.next (ft τ p.1 p.2 (.n .d (fP cs k)))) else none
 | _=>none
theorem zI {ts:My Kd} {k:Key} (h:((ts.map Kd.km).any λ c=>decide (c.1=k))=true):∃ v,d8 (ts.map Kd.kv) k=some v:=by
 rw [<- Yj,<- kY];rw [List.any_map] at h ⊢;exact h
def off (H:Hp) (fp:My Pz):Hp:=λ b=>if b ∈ fp then none else H b
noncomputable def M5:V->Px Pz
 | .ref a=>some a
 | _=>none
abbrev iS (vs:My V):My (Px Pz):=vs.map M5
def spM (F:My Sm->Px (Sm×My Sm)) (K:PB):Sp:=λ vs H Q _=>∃ Hs fp as s as',cc Hs H/\StM K (off H fp) Hs H (iS vs) (vs.map some) as fp/\F as=some (s,as')/\∀ v Hs' H' fp',Ext Hs (off H fp) Hs' H'->StM K (off H fp) Hs' H' (none::iS vs) (some v::vs.map some) (s::as') fp'->Q v H'
inductive Am where
 | v (d:D) | p (i:Nat) (q:List Stp)
inductive qP (K:W.Frag) (Hs H:Hp) (σ:St):List V->List Am->Prop where
 | nil:qP K Hs H σ [] []
 | v {x:V} {d:D} {vs:List V} {as:List Am} (h:Rp K Hs x d) (r:qP K Hs H σ vs as):qP K Hs H σ (x::vs) (.v d::as)
 | p {x rt:V} {i:Nat} {q:List Stp} {vs:List V} {as:List Am} (h1:σ[i]?=some (some rt)) (h2:vAt H rt q=some x) (r:qP K Hs H σ vs as):qP K Hs H σ (x::vs) (.p i q::as)
theorem qP.ext {K:PB} {Hs H Hs' H':Hp} {σ:St} {vs:My V} {as:My Am} (g1:cc Hs Hs') (g2:cc H H') (h:qP K Hs H σ vs as):qP K Hs' H' σ vs as:=by
 induction h with
 | nil=>exact .nil
 | v h _ ih=>exact .v (h.same g1) ih
 | p h1 h2 _ ih=>exact .p h1 (cq g2 _ h2) ih
noncomputable def lend:My Sm->My Am->Px (My Sm)
 | _,[]=>some []
 | τ,.v d::r=>(lend τ r).map (.shr d::·)
 | τ,.p i q::r=>match bB τ i q with
  | some (.n t cs)=>(lend (τ.set i .no) r).map (.mu true (.n t cs)::·)
  | _=>none
noncomputable def back:My Sm->My Am->My Sm->Px (My Sm)
 | τ,[],_=>some τ
 | τ,.v _::r,_::as=>back τ r as
 | τ,.p i q::r,.mu true m2::as=>(back (τ.set i .no) r as).bind λ τ'=>match τ[i]? with
  | some (.mu b m)=>some (τ'.set i (.mu b (m.put q m2)))
  | _=>none
 | _,_,_=>none
section
variable {K:PB} {H0 Hs H Hs' H':Hp} {ρ:My (Px Pz)} {σ:My (Px V)} {τ:My Sm} {fp:My Pz}
theorem StM.rebase (h:StM K H0 Hs H ρ σ τ fp):(∀ c ∈ fp,H1 c=none)->StM K H1 Hs H ρ σ τ fp:=by
 induction h with
 | nil=>exact λ _=>.nil
 | no _ ih=>exact λ q=>.no (ih q)
 | shr h _ ih=>exact λ q=>.shr h (ih q)
 | mu h hp z j _ ih=>exact λ q=>.mu h hp (λ c hc=>q c (Zk _ hc)) j (ih λ c hc=>q c (Ze _ hc))
theorem StM.pin {i:Nat} {b:Bool} {m:Mt} {v:V} (h:StM K H0 Hs H ρ σ τ fp):τ[i]?=some (.mu b m)->σ[i]?=some (some v)->b=true->∃ a,ρ[i]?=some (some a)/\v=.ref a:=by
 induction h generalizing i with
 | nil=>intro e; simp at e
 | no _ ih=>
  intro e e2 hb
  cases i with
  | zero=>simp at e
  | succ i=>simpa using ih (by simpa using e) (by simpa using e2) hb
 | shr h _ ih=>
  intro e e2 hb
  cases i with
  | zero=>simp at e
  | succ i=>simpa using ih (i:=i) (by simpa using e) (by simpa using e2) hb
 | @mu p v' b' m' ρ σ τ fq fp h hp z j _ ih=>
  intro e e2 hb
  cases i with
  | zero=>
   have e':Sm.mu b' m'=.mu b m:=by simpa using e
   injection e' with e1 _
   have e3:v'=v:=by simpa using e2
   subst e3;obtain ⟨a,h1,h2⟩:=hp (e1.trans hb);exact ⟨a,by rw [h1]; rfl,h2⟩
  | succ i=>simpa using ih (i:=i) (by simpa using e) (by simpa using e2) hb
theorem StM.fill (h:StM K H0 Hs H ρ σ τ fp) (hv:Od K Hs H fq v m) (z:∀ c ∈ fq,H0 c=none/\c ∉ fp):i < τ.length->σ[i]?=some (some v)->(b=true->∃ a,ρ[i]?=some (some a)/\v=.ref a)->∃ fp',StM K H0 Hs H ρ σ (τ.set i (.mu b m)) fp'/\∀ c ∈ fp',c ∈ fq\/c ∈ fp:=by
 induction h generalizing i with
 | nil=>intro hi; exact absurd hi (by simp)
 | @no p o ρ σ τ fp r ih=>
  intro hi e hp
  cases i with
  | zero=>
   have e':o=some v:=by simpa using e
   subst e';exact ⟨_,.mu hv (λ hb=>by obtain ⟨a,h1,h2⟩:=hp hb; exact ⟨a,by simpa using h1,h2⟩) (λ c hc=>(z c hc).1) (λ c hc=>(z c hc).2) r,λ c h=>Zi.mp h⟩
  | succ i=>
   obtain ⟨fp',h1,h2⟩:=ih z (by simpa using hi) (by simpa using e) (by simpa using hp);exact ⟨fp',.no h1,h2⟩
 | @shr p v' d ρ σ τ fp h r ih=>
  intro hi e hp
  cases i with
  | zero=>
   have e':v'=v:=by simpa using e
   subst e';exact ⟨_,.mu hv (λ hb=>by obtain ⟨a,h1,h2⟩:=hp hb; exact ⟨a,by simpa using h1,h2⟩) (λ c hc=>(z c hc).1) (λ c hc=>(z c hc).2) r,λ c h=>Zi.mp h⟩
  | succ i=>
   obtain ⟨fp',h1,h2⟩:=ih z (i:=i) (by simpa using hi) (by simpa using e) (by simpa using hp);exact ⟨fp',.shr h h1,h2⟩
 | @mu p v' b' m' ρ σ τ fq' fp h hp' z' j r ih=>
  intro hi e hp;have zr:∀ c ∈ fq,H0 c=none/\c ∉ fp:=λ c hc=>⟨(z c hc).1,λ q=>(z c hc).2 (Ze _ q)⟩
  cases i with
  | zero=>
   have e':v'=v:=by simpa using e
   subst e';exact ⟨_,.mu hv (λ hb=>by obtain ⟨a,h1,h2⟩:=hp hb; exact ⟨a,by simpa using h1,h2⟩) (λ c hc=>(z c hc).1) (λ c hc=>(zr c hc).2) r,λ c h=>(Zi.mp h).imp id λ q=>Ze _ q⟩
  | succ i=>
   obtain ⟨fp',h1,h2⟩:=ih zr (i:=i) (by simpa using hi) (by simpa using e) (by simpa using hp);refine ⟨_,.mu h hp' z' (λ c hc q=>?_) h1,λ c hc=>?_⟩
   ·rcases h2 c q with y | y
    · exact (z c y).2 (Zk _ hc)
    · exact j c hc y
   ·rcases Zi.mp hc with y | y
    · exact .inr (Zk _ y)
    · exact (h2 c y).imp id λ q=>Ze _ q
def uH:back τ [] ss=some τ:=by cases ss <;> rw [back]
theorem oZ:∀ {as:My Am} {τ ss τ':My Sm},back τ as ss=some τ'->τ'.length=τ.length
 | [],τ,ss,τ',e=>by rw [uH] at e; cases e; rfl
 | .v _::r,τ,[],τ',e=>by cases e
 | .v _::r,τ,_::as,τ',e=>oZ (as:=r) e
 | .p i q::r,τ,[],τ',e=>by cases e
 | .p i q::r,τ,s::as,τ',e=>by
  cases s with
  | no=>cases e
  | shr d=>cases e
  | mu b m2=>
   cases b with
   | false=>cases e
   | true=>
    obtain ⟨τ1,e1,e2⟩:=Ub (show (back (τ.set i .no) r as).bind _=_ from e);have l1:=oZ e1;rw [Y6] at l1;split at e2
    ·cases e2
     rw [Y6,l1]
    · cases e2
abbrev Ej:Hp:=λ _=>none
theorem lW : ∀ {as : My Am} {τ ss:My Sm} {fp:My Pz} {vs:My V},StM K H0 Hs H ρ σ τ fp->qP K Hs H σ vs as->lend τ as=some ss->∃ fpa,StM K Ej Hs H (iS vs) (vs.map some) ss fpa/\(∀ c ∈ fpa,c ∈ fp)/\∀ Hs' H' ss' fpa' τ',cc Hs Hs'->(∀ c ∈ fp,c ∉ fpa->Hs' c=none/\H' c=H c)->StM K Ej Hs' H' (iS vs) (vs.map some) ss' fpa'->(∀ c ∈ fpa',c ∈ fpa\/(c ∉ fp/\H0 c=none))->back τ as ss'=some τ'->∃ fp',StM K H0 Hs' H' ρ σ τ' fp'/\∀ c ∈ fp',(c ∈ fp/\c ∉ fpa)\/c ∈ fpa'
  | [],τ,ss,fp,[],st,.nil,e=>by
    cases e;refine ⟨[],.nil,λ c hc=>(nomatch hc),λ Hs' H' ss' fpa' τ' g k sa j eb=>?_⟩;rw [uH] at eb;cases eb;exact ⟨fp,st.mv g λ c hc=>k c hc (by simp),λ c hc=>.inl ⟨hc,by simp⟩⟩
  | .v d :: r,τ,ss,fp,_,st,.v h rr,e=>by
    obtain ⟨ss1,e1,rfl⟩:=Zm (show (lend τ r).map _=_ from e);obtain ⟨fpa,s1,w1,w2⟩:=lW st rr e1;refine ⟨fpa,.shr h s1,w1,λ Hs' H' ss' fpa' τ' g k sa j eb=>?_⟩
    cases ss' with
    | nil=>cases eb
    | cons s as'=>
      cases sa with
      | no sa=>exact w2 Hs' H' as' _ τ' g k sa j eb
      | shr _ sa=>exact w2 Hs' H' as' _ τ' g k sa j eb
      | mu _ _ _ _ sa=>
        obtain ⟨fp',h1,h2⟩:=w2 Hs' H' as' _ τ' g k sa (λ c hc=>j c (Ze _ hc)) eb;exact ⟨fp',h1,λ c hc=>(h2 c hc).imp id λ y=>Ze _ y⟩
  | .p i q :: r, τ, ss, fp,_,st,@qP.p _ _ _ _ x rt _ _ vs _ h1 h2 rr,e=>by
    have e':(match bB τ i q with | some (.n t cs)=>(lend (τ.set i .no) r).map (.mu true (.n t cs)::·) | _=>none)=some ss:=e;split at e'
    · rename_i t cs eg
      obtain ⟨ss1,e1,rfl⟩:=Zm e';obtain ⟨b,m,em,egm⟩:=dH eg;obtain ⟨v0,fq,fp0,o1,o2,o3,o4,o5⟩:=st.out em;rw [h1] at o1;cases o1;obtain ⟨fp1,v1,w1,w2,w3,w4⟩:=o2.ro q egm;rw [h2] at w1;cases w1;obtain ⟨a,dx,ts,u,rfl,_⟩:=w2.inv;obtain ⟨fpa,s1,a1,a2⟩:=lW o3 rr e1;have dj:∀ c ∈ fp1,c ∉ fpa:=λ c hc y=>(o4 c (w3 c hc)).1 (a1 c y)
      refine ⟨fp1++fpa,.mu w2 (λ _=>⟨a,rfl,rfl⟩) (λ _ _=>rfl) dj s1,λ c hc=>?_,λ Hs' H' ss' fpa' τ' g k sa j eb=>?_⟩
      · rcases Zi.mp hc with y | y
        · exact (o5 c).mpr (.inl (w3 c y))
        · exact (o5 c).mpr (.inr (a1 c y))
      · cases ss' with
        | nil=>cases eb
        | cons s as'=>
          cases s with
          | no=>cases eb
          | shr d=>cases eb
          | mu b2 m2=>
            cases b2 with
            | false=>cases eb
            | true=>
              obtain ⟨τ1,eb1,eb2⟩:=Ub (show (back (τ.set i .no) r as').bind _=_ from eb);simp only [em] at eb2;cases eb2
              cases sa with
              | @mu _ _ _ _ _ _ _ fq2 fpr od2 _ _ jj sr=>
                obtain ⟨fpx,x1,x2⟩:=a2 Hs' H' as' fpr τ1 g (λ c hc hn=>k c ((o5 c).mpr (.inr hc)) λ y=>(Zi.mp y).elim (λ y=>(o4 c (w3 c y)).1 hc) hn) sr (λ c hc=>by
                  rcases j c (Ze _ hc) with y | y
                  · rcases Zi.mp y with y | y
                    · exact .inr ⟨(o4 c (w3 c y)).1,(st.live c (o4 c (w3 c y)).2).2.2⟩
                    · exact .inl y
                  · exact .inr ⟨λ z=>y.1 ((o5 c).mpr (.inr z)),y.2⟩) eb1
                obtain ⟨fpo,y1,y2⟩:=w4 Hs' H' fq2 m2 g (λ c hc hn=>k c ((o5 c).mpr (.inl hc)) λ y=>(Zi.mp y).elim hn λ y=>(o4 c hc).1 (a1 c y)) od2 (λ c hc=>by
                  rcases j c (Zk _ hc) with y | y
                  · rcases Zi.mp y with y | y
                    · exact .inl y
                    · exact .inr λ z=>(o4 c z).1 (a1 c y)
                  · exact .inr λ z=>y.1 ((o5 c).mpr (.inl z)))
                have hlen:i < τ1.length:=by
                  rw [oZ eb1,Y6];exact (List.getElem?_eq_some_iff.mp em).1
                obtain ⟨fp',z1,z2⟩:=x1.fill (i:=i) (b:=b) y1 (λ c hc=>by
                  rcases (y2 c).mp hc with y | y
                  · refine ⟨(st.live c (o4 c y.1).2).2.2,λ z=>?_⟩
                    rcases x2 c z with z | z
                    · exact (o4 c y.1).1 z.1
                    · rcases j c (Ze _ z) with w | w
                      · rcases Zi.mp w with w | w
                        · exact y.2 w
                        · exact (o4 c y.1).1 (a1 c w)
                      · exact w.1 (o4 c y.1).2
                  · refine ⟨?_,λ z=>?_⟩
                    · rcases j c (Zk _ y) with w | w
                      · rcases Zi.mp w with w | w
                        · exact (st.live c (o4 c (w3 c w)).2).2.2
                        · exact (st.live c ((o5 c).mpr (.inr (a1 c w)))).2.2
                      · exact w.2
                    · rcases x2 c z with z | z
                      · rcases j c (Zk _ y) with w | w
                        · rcases Zi.mp w with w | w
                          · exact (o4 c (w3 c w)).1 z.1
                          · exact z.2 w
                        · exact w.1 ((o5 c).mpr (.inr z.1))
                      · exact jj c y z) hlen h1 (λ hb=>st.pin em h1 hb)
                refine ⟨fp',z1,λ c hc=>?_⟩;rcases z2 c hc with y | y
                · rcases (y2 c).mp y with y | y
                  · exact .inl ⟨(o4 c y.1).2,λ w=>(Zi.mp w).elim y.2 λ w=>(o4 c y.1).1 (a1 c w)⟩
                  · exact .inr (Zk _ y)
                · rcases x2 c y with y | y
                  · exact .inl ⟨(o5 c).mpr (.inr y.1),λ w=>(Zi.mp w).elim (λ w=>(o4 c (w3 c w)).1 y.1) y.2⟩
                  · exact .inr (Ze _ y)
    · cases e'
end
abbrev DAm:=My Sm->Px (My Am)
def Ov (N:Hp) (K:PB) (g:DAm):TA:=λ σ H Q=>∃ (Hs0 H0:Hp),∃ (_:Nf N H0),∃ ρ Hs τ as,b5 K Hs0 H0 ρ Hs H σ τ/\g τ=some as/\∀ vs Hs' H',cc H H'->b5 K Hs0 H0 ρ Hs' H' σ τ->cc Hs Hs'->qP K Hs' H' σ vs as->Q vs H'
def PAm (X:Cx) (es:My Expr) (g:DAm):Prop:=PA X es (Ov X.H₀ X.K g)
def Ot (N:Hp) (K:PB) (g:My Sm->Px Am):TE:=λ σ H Q=>∃ (Hs0 H0:Hp),∃ (_:Nf N H0),∃ ρ Hs τ a,b5 K Hs0 H0 ρ Hs H σ τ/\g τ=some a/\∀ v Hs' H',cc H H'->b5 K Hs0 H0 ρ Hs' H' σ τ->cc Hs Hs'->qP K Hs' H' σ [v] [a]->Q v H'
def PQm (X:Cx) (e:Expr) (g:My Sm->Px Am):Prop:=PE X e (Ot X.H₀ X.K g)
def qN (g:DE):My Sm->Px Am:=λ τ=>(g (er τ)).map .v
noncomputable def qX (f:DPx):My Sm->Px Am:=λ τ=>(f τ).bind λ p=>match bB τ p.1 p.2 with
 | some (.n _ _)=>some (.p p.1 p.2)
 | some (.s d)=>some (.v d)
 | none=>none
def mX:DAm:=λ _=>some []
def ck (h:My Sm->Px Am) (g:DAm):DAm:=λ τ=>(h τ).bind λ a=>(g τ).map (a::·)
theorem qP.app {K:PB} {Hs H:Hp} {σ:St} {v:V} {a:Am} {vs:My V} {as:My Am} (h:qP K Hs H σ [v] [a]) (r:qP K Hs H σ vs as):qP K Hs H σ (v::vs) (a::as):=by
 cases h with
 | v h _=>exact .v h r
 | p h1 h2 _=>exact .p h1 h2 r
def sQ (F:My Sm->Px (Sm×My Sm)) (τ:My Sm) (as:My Am):Px (Sm×My Sm):=(lend τ as).bind λ ss=>(F ss).bind λ x=>(back τ as x.2).map λ τ'=>(x.1,τ')
section
variable {K:PB} {Hs0 H0 Hs H Hs' H':Hp} {ρ:My (Px Pz)} {σ:St} {τ:My Sm}
def lO (h:off H fp c=none):c ∈ fp\/H c=none:=by
 unfold off at h;split at h
 · exact .inl ‹_›
 · exact .inr h
def Az:cc (off H fp) H:=λ b o e=>by
 unfold off at e;split at e
 · cases e
 · exact e
def tW (h:c ∈ fp):off H fp c=none:=if_pos h
def jZ (h:c ∉ fp):off H fp c=H c:=if_neg h
theorem b5.call (r:b5 K Hs0 H0 ρ Hs H σ τ) (ha:qP K Hs H σ vs as) (e:sQ F τ as=some (s,τ'))
  (k:∀ v Hs' H',b5 K Hs0 H0 (none::ρ) Hs' H' (some v::σ) (s::τ')->Q v H'):spM F K vs H Q E:=by
 obtain ⟨ss,e1,e⟩:=Ub e;obtain ⟨⟨s0,ss'⟩,e2,e⟩:=Ub e;obtain ⟨τ0,e3,e4⟩:=Zm e;obtain ⟨e4,e5⟩:=Prod.mk.inj e4;have e4':=e4;subst e4' e5;obtain ⟨fp,st⟩:=r.st;obtain ⟨fpa,sA,sub,ro⟩:=lW st ha e1;refine ⟨Hs,fpa,ss,s0,ss',r.sm,sA.rebase λ c hc=>tW hc,e2,λ v Hs' H' fp2 g s2=>?_⟩
 have far:∀ c ∈ fp,c ∉ fpa->Hs' c=none/\H' c=H c:=λ c hc hn=>by
  obtain ⟨l1,l2,_⟩:=st.live c hc;have ho:off H fpa c=H c:=jZ hn;refine ⟨g.fr c l1 (by rw [ho]; exact l2),?_⟩
  cases q:H c with
  | none=>exact absurd q l2
  | some u=>exact g.hh _ _ (ho.trans q)
 have ex:Ext Hs0 H0 Hs' H':=by
  have nf:∀ c,H0 c≠none->c ∉ fpa:=λ c h q=>h (st.live c (sub c q)).2.2
  refine ⟨r.ext.ss.trans g.ss,g.sh,λ c o e=>?_,λ c h1 h2=>?_⟩
  · exact g.hh _ _ ((jZ (nf c (iY e))).trans (r.ext.hh _ _ e))
  · exact g.fr c (r.ext.fr c h1 h2) (by rw [jZ (nf c h2)]; exact r.ext.hh.live h2)
 have fin:∀ fpr,StM K (off H fpa) Hs' H' (iS vs) (vs.map some) ss' fpr->∃ fp',StM K H0 Hs' H' ρ σ τ0 fp'/\∀ c ∈ fp',(c ∈ fp/\c ∉ fpa)\/c ∈ fpr:=λ fpr sr=>by
  refine ro Hs' H' ss' fpr τ0 g.ss far (sr.rebase λ _ _=>rfl) (λ c hc=>?_) e3;rcases lO (sr.live c hc).2.2 with y | y
  · exact .inl y
  · exact .inr ⟨st.new y,r.old y⟩
 cases s2 with
 | no sr=>
  obtain ⟨fp',h1,_⟩:=fin _ sr;exact k v Hs' H' ⟨ex,_,.no h1⟩
 | shr h sr=>
  obtain ⟨fp',h1,_⟩:=fin _ sr;exact k v Hs' H' ⟨ex,_,.shr h h1⟩
 | @mu _ _ b m _ _ _ fq fpr od hp z j sr=>
  obtain ⟨fp',h1,h2⟩:=fin _ sr;refine k v Hs' H' ⟨ex,_,.mu od (λ hb=>by obtain ⟨a,q,_⟩:=hp hb; cases q) (λ c hc=>?_) (λ c hc y=>?_) h1⟩
  ·rcases lO (z c hc) with y | y
   · exact (st.live c (sub c y)).2.2
   · exact r.old y
  ·rcases h2 c y with w | w
   ·rcases lO (z c hc) with y | y
    · exact w.2 y
    · exact (st.live c w.1).2.1 y
   · exact j c hc w
end
def eC (F:My Sm->Px (Sm×My Sm)) (g:DAm):DEm:=λ τ=>(g τ).bind λ as=>sQ F τ as
noncomputable def eM (C:Pz) (m:Str) (F:My Sm->Px (Sm×My Sm)) (f:DPx) (g:DAm):DEm:=λ τ=>(f τ).bind λ p=>match bB τ p.1 p.2 with
 | some (.n (.o C') cs)=>if C'=C/\(cs.any λ c=>decide (c.1=.inr m))=false then (g τ).bind λ as=>sQ F τ (.p p.1 p.2::as) else none
 | _=>none
noncomputable def eK (C:Pz) (F:My Sm->Px (Sm×My Sm)) (g:DAm):DEm:=λ τ=>(g τ).bind λ as=>(lend τ as).bind λ ss=>(F (.mu true (.n (.o C) [])::ss)).bind λ x=>match x.1,x.2 with
 | .shr .non,.mu true m::r=>(back τ as r).map λ τ'=>(.mu false m,τ')
 | _,_=>none
section
variable {X:Cx} {a b c e o:Expr} {es:My Expr} {pos Po Pp pos' p:Pos} {x m:Str} {k:Nat} {f fa C:Pz} {fd:FuncData} {ps:My Str} {F:My Sm->Px (Sm×My Sm)} {g:DAm}
theorem CS (Fo:gO X.prog X.w X.K X.mg X.base CX0 k f fd ps (spM F X.K)) (hr:dD k X.A) (hg:Gl X x) (hm:X.mg x=some (.ref f)) (hk:W.keepIn X.K (.ref f)=true) (hb:Binds X.K fd ps [])
  (ha:PAm X (e::es) g) (hdb:Dg x:=by decide) (he:Se X e es:=by rfl) (hpl:Sb X pos es:=by rfl):PEm X (.Call (.Name x p) (e::es) [] pos) (eC F g):=(lL Fo hr hg hm hk hb .nil oj ha hdb he hpl).imp λ σ H Q w0=>g83 w0 λ Hs0 H0 nf ρ Hs τ s τ' r e k=>by
 obtain ⟨as,e1,e2⟩:=Ub e;refine ⟨Hs0,H0,nf,ρ,Hs,τ,as,r,e1,λ vs Hs1 H1 g1 r1 s1 a1=>?_⟩;show spM F X.K (vs++[]) H1 Q E0;rw [Zv];exact r1.call a1 e2 k
theorem CP (ho:PXm X o fx) (c:Cls X.K C) (hm:B7 X.K C m fa) (Fo:gO X.prog X.w X.K X.mg X.base CX0 k fa fd ps (spM F X.K)) (hr:dD k X.A) (hb:Binds X.K fd ps []) (ha:PAm X (e::es) g)
  (hst:Se X e es:=by rfl) (hpl:Sb X pos es:=by rfl)
  (ht:eval (.Call (.Attribute o m Po) (e::es) [] pos) X.env=(do
    let ov <- eval o X.env
    standAt Po.atName
    let (f,first) <- holding [ov] (getMethod ov m pl)
    callWith pos f first (backTo pos (starEach (e::es) X.env)) (backToKw pos (keywordEach [] X.env))):=by rfl):PEm X (.Call (.Attribute o m Po) (e::es) [] pos) (eM C m F fx g):=(rM ho c hm Fo hr hb .nil oj ha hst hpl ht).imp λ σ H Q w0=>g83 w0 λ Hs0 H0 nf ρ Hs τ s τ' r e k=>by
 obtain ⟨⟨i,q⟩,e1,e2⟩:=Ub e;split at e2
 ·rename_i C' cs en
  split at e2
  · rename_i hc
    obtain ⟨hc,hn⟩:=hc;subst hc;obtain ⟨as,e3,e4⟩:=Ub e2;refine ⟨Hs0,H0,nf,ρ,Hs,τ,i,q,_,r,e1,en,λ rt v1 H1 g1 hrt hq=>?_⟩;have r1:=r.grow g1;obtain ⟨a,dx,ts,u,rfl,rfl,hu,hl,_⟩:=r1.pU en hrt hq;generalize ek:ts.map Kd.kv=kvs at hl
    cases hl with
    | o fs=>
     refine ⟨a,dx,fs,rfl,hu,?_,Hs0,H0,nf,ρ,Hs,τ,as,r1,e3,λ vs Hs2 H2 g2 r2 s2 a2=>?_⟩
     ·rw [<- nQ,<- ek]
      have:=kY (Sum.inr m) (ts.map Kd.kv);rw [List.any_map] at this hn;have h2:=this.symm.trans hn
      cases q:d8 (ts.map Kd.kv) (Sum.inr m) with
      | none=>rfl
      | some y=>rw [q] at h2; cases h2
     ·show spM F X.K (V.ref a::(vs++[])) H2 Q E0
      rw [Zv];exact r2.call (.p hrt (cq g2 q hq) a2) e4 k
  · cases e2
 · cases e2
theorem CQ (M:Mk X.K C fa) (Fo:gO X.prog X.w X.K X.mg X.base CX0 k fa fd ps (spM F X.K)) (hr:dD (k+1) X.A) (hg:Gl X x) (hm:X.mg x=some (.ref C)) (hb:Binds X.K fd ps [])
  (ha:PAm X (e::es) g) (hdb:Dg x:=by decide) (he:Se X e es:=by rfl) (hpl:Sb X pos es:=by rfl):PEm X (.Call (.Name x p) (e::es) [] pos) (eK C F g):=(CV M Fo hr hg hm hb .nil oj ha hdb he hpl).imp λ σ H Q w0=>g83 w0 λ Hs0 H0 nf ρ Hs τ s τ' r e k=>by
 obtain ⟨as,e1,e2⟩:=Ub e;obtain ⟨ss,e3,e4⟩:=Ub e2;obtain ⟨⟨s0,ss'⟩,e5,e6⟩:=Ub e4;refine ⟨Hs0,H0,nf,ρ,Hs,τ,as,r,e1,λ vs Hs1 H1 g1 r1 s1 a1 y dx hy hdx ne=>?_⟩;rw [Zv];split at e6
 ·rename_i m0 r0 q1 q2
  have q1':=q1;have q2':=q2;subst q1' q2';obtain ⟨τ0,e7,e8⟩:=Zm e6;cases e8
  let H2:Hp:=upd (upd H1 dx (.own y)) y (.ins C dx [])
  have hy1:upd H1 dx (.own y) y=none:=(au (Ne.symm ne)).trans hy;have g2:cc H1 H2:=(aC hdx _).trans (aC hy1 _);have r2:=r1.grow g2;obtain ⟨fp,st⟩:=r1.st;have st2:=st.ext ⟨.refl _,r1.ext.sh.trans g2,g2,λ _ h _=>h⟩;obtain ⟨fpa,sA,sub,ro⟩:=lW st2 (a1.ext (.refl _) g2) e3;have yfp:=st.new hy;have od:Od X.K Hs1 H2 [y] (.ref y) (.n (.o C) []):=Od.n (ts:=[]) ay (.o []) (r1.sm.free hy) (by show ([]:My Key).Nodup; exact .nil) (by simp) (λ c hc=>by cases hc);have sN:StM X.K (off H2 (y::fpa)) Hs1 H2 (iS (.ref y::vs)) ((V.ref y::vs).map some) (.mu true (.n (.o C) [])::ss) ([y]++fpa):=.mu od (λ _=>⟨y,rfl,rfl⟩) (λ c hc=>tW (by rw [Zr.mp hc]; exact Zd ..)) (λ c hc q=>yfp (sub y (by rw [<- Zr.mp hc]; exact q))) (sA.rebase λ c hc=>tW (Za _ hc));refine ⟨Hs1,y::fpa,_,_,_,r2.sm,sN,e5,λ v Hs' H' fp2 g s2=>⟨?_,?_⟩⟩
  ·cases s2 with
   | shr h _=>cases h; rfl
  ·cases s2 with
   | shr h sr=>
   cases sr with
   | @mu _ _ _ _ _ _ _ fq fpr od2 hp z j sr=>
   have far:∀ c ∈ fp,c ∉ fpa->Hs' c=none/\H' c=H2 c:=λ c hc hn=>by
    obtain ⟨l1,l2,_⟩:=st2.live c hc;have ho:off H2 (y::fpa) c=H2 c:=jZ λ q=>(Zh.mp q).elim (λ q=>yfp (q ▸ hc)) hn
    refine ⟨g.fr c l1 (by rw [ho]; exact l2),?_⟩
    cases q:H2 c with
    | none=>exact absurd q l2
    | some u=>exact g.hh _ _ (ho.trans q)
   have h0y:=r1.old hy
   have ex:Ext Hs0 H0 Hs' H':=by
    have nf:∀ c,H0 c≠none->c ∉ y::fpa:=λ c h q=>(Zh.mp q).elim (λ q=>h (q ▸ h0y)) λ q=>h (st.live c (sub c q)).2.2
    refine ⟨r1.ext.ss.trans g.ss,g.sh,λ c o e=>?_,λ c h1 h2=>?_⟩
    · exact g.hh _ _ ((jZ (nf c (iY e))).trans (r2.ext.hh _ _ e))
    · exact g.fr c (r1.ext.fr c h1 h2) (by rw [jZ (nf c h2)]; exact r2.ext.hh.live h2)
   obtain ⟨fp',h1,h2⟩:=ro Hs' H' r0 fpr _ g.ss far (sr.rebase λ _ _=>rfl) (λ c hc=>by
    rcases lO (sr.live c hc).2.2 with w | w
    ·rcases Zh.mp w with w | w
     ·subst w
      exact .inr ⟨yfp,h0y⟩
     · exact .inl w
    · exact .inr ⟨st2.new w,r2.old w⟩) e7
   refine k (.ref y) Hs' H' ⟨ex,_,.mu od2 (λ hb=>by cases hb) (λ c hc=>?_) (λ c hc q=>?_) h1⟩
   ·rcases lO (z c hc) with w | w
    ·rcases Zh.mp w with w | w
     · rw [w]; exact h0y
     · exact (st.live c (sub c w)).2.2
    · exact r2.old w
   ·rcases h2 c q with w | w
    ·rcases lO (z c hc) with y' | y'
     ·rcases Zh.mp y' with y' | y'
      · exact yfp (y' ▸ w.1)
      · exact w.2 y'
     · exact (st2.live c w.1).2.1 y'
    · exact j c hc w
 · cases e6
end
def yk:Sm->Sm
 | .mu true m=>.mu true m
 | _=>.no
noncomputable def kS (n m:Nat) (b:DSm) (as:My Sm):Px (Sm×My Sm):=if as.length=m then (match b (as++List.replicate (n - as.length) .no) with
 | some (.ret s τ)=>some (s,(τ.take m).map yk)
 | some (.next τ)=>some (.shr .non,(τ.take m).map yk)
 | _=>none) else none
section
variable {K:PB} {H0 Hs H:Hp}
theorem StM.startM (k:Nat) (h:StM K H0 Hs H ρ σ τ fp):StM K H0 Hs H (ρ++List.replicate k none) (σ++List.replicate k none) (τ++List.replicate k .no) fp:=by
 induction h with
 | nil=>
  induction k with
  | zero=>exact .nil
  | succ k ih=>rw [Y0,Y0,Y0]; exact .no ih
 | no _ ih=>exact .no ih
 | shr h _ ih=>exact .shr h ih
 | mu h hp z j _ ih=>exact .mu h hp z j ih
theorem StM.sZ:∀ {vs:My V} {ρ:My (Px Pz)} {σ:My (Px V)} {τ:My Sm} {fp:My Pz},StM K H0 Hs H (iS vs++ρ) σ τ fp->∃ fp',StM K H0 Hs H (iS vs) (vs.map some) ((τ.take vs.length).map yk) fp'/\∀ c ∈ fp',c ∈ fp
 | [],ρ,σ,τ,fp,h=>⟨[],.nil,λ c hc=>(nomatch hc)⟩
 | v :: vs,ρ,σ,τ,fp,h=>by
  cases h with
  | no r=>
   obtain ⟨fp',h1,h2⟩:=StM.sZ r;exact ⟨fp',.no h1,h2⟩
  | shr _ r=>
   obtain ⟨fp',h1,h2⟩:=StM.sZ r;exact ⟨fp',.no h1,h2⟩
  | @mu _ w b m _ _ _ fq fr od hp z j r=>
   obtain ⟨fp',h1,h2⟩:=StM.sZ r
   cases b with
   | false=>exact ⟨fp',.no h1,λ c hc=>Ze _ (h2 c hc)⟩
   | true=>
    obtain ⟨a,p1,p2⟩:=hp rfl
    have ev:v=.ref a:=by
     cases v <;> simp [M5] at p1
     rw [p1]
    subst p2;subst ev;exact ⟨fq++fp',.mu od (λ _=>⟨a,rfl,rfl⟩) z (λ c hc q=>j c hc (h2 c q)) h1,λ c hc=>(Zi.mp hc).elim (Zk _) λ q=>Ze _ (h2 c q)⟩
theorem Od.Dm (h:Od K Hs H fp v m):∀ c ∈ fp,∀ o u,H c≠some (.frz o u):=by
 induction h with
 | s r=>intro c h; cases h
 | @n a dx t ts u h hl nh ku nd r ih=>
  intro c hc o w;rcases Zh.mp hc with e | e
  ·subst e
   rw [h];generalize ts.map Kd.kv=kvs at hl;cases hl <;> (intro z; cases z)
  ·obtain ⟨k,hk,hb⟩:=Yk.mp e
   exact ih k hk c hb o w
theorem StM.Dm (h:StM K H0 Hs H ρ σ τ fp):∀ c ∈ fp,∀ o u,H c≠some (.frz o u):=by
 induction h with
 | nil=>intro c h; cases h
 | no _ ih=>exact ih
 | shr _ _ ih=>exact ih
 | mu h hp z j _ ih=>exact λ c hc=>(Zi.mp hc).elim (h.Dm c) (ih c)
variable {P:Program} {w:World} {mg:Str->Px Py} {base:Heap}
theorem Fun.okM {x qual:Str} {st:Stmt} {f:Pz} {fd:FuncData} {N ps:My Str} {k:Nat} {b:DSm} (F:Fun K x qual st f fd) (S:cM N ps (aD st))
  (hbody:∀ (cdv:Py) (A:Around) (outer:My Env) (s:PD) (H:Hp) (E:XK),dD k (A.deeper (envOfC qual (aD st) s.heap.objs.size f cdv))->uJ (qB CX0 P w K mg base N qual (aD st) f cdv A outer s H E).nox (bP st) b):gO P w K mg base CX0 (k+1) f fd ps (spM (kS N.length ps.length b) K):=by
 refine F.ok S (λ vs H Q E h=>?_) (λ cdv A outer s H vs Q E hr h=>?_)
 ·obtain ⟨Hs,fp,as,s,as',sm,r,e,_⟩:=h
  unfold kS at e;split at e
  · rename_i hl
    have:=r.len;rw [Zc] at this;rw [this]; exact hl
  · cases e
 obtain ⟨Hs,fp,as,sl,as',sm,r,e,q⟩:=h;refine ⟨_,hbody cdv A outer s H E hr,?_⟩;have lv:vs.length=as.length:=by have:=r.len; rw [Zc] at this; exact this
 unfold kS at e;split at e
 ·rename_i hl
  have h0:b5 K Hs (off H fp) (iS vs++List.replicate (N.length - vs.length) none) Hs H (start N vs) (as++List.replicate (N.length - as.length) .no):=⟨⟨.refl _,sm,Az,λ _ h _=>h⟩,fp,by unfold start; rw [lv]; exact r.startM _⟩
  have nf:Nf H (off H fp):=λ d o u e z=>by
    rcases lO z with q | q
    · exact r.Dm d q o u e
    · rw [q] at e; cases e
  cases q2:b (as++List.replicate (N.length - as.length) .no) with
  | none=>rw [q2] at e; cases e
  | some o=>
    rw [q2] at e;refine ⟨Hs,off H fp,nf,_,Hs,_,o,h0,q2,?_⟩
    cases o with
    | next τ=>
     cases e;intro σ Hs' H' r';obtain ⟨fp1,s1⟩:=r'.st;obtain ⟨fp2,s2,_⟩:=s1.sZ;rw [lv,hl] at s2;exact q .non Hs' H' fp2 r'.ext (.shr .non s2)
    | ret s τ=>
     cases e;intro v σ Hs' H' r';obtain ⟨fp1,s1⟩:=r'.st
     cases s1 with
     | no s1=>
      obtain ⟨fp2,s2,_⟩:=s1.sZ;rw [lv,hl] at s2;exact q v Hs' H' fp2 r'.ext (.no s2)
     | shr h s1=>
      obtain ⟨fp2,s2,_⟩:=s1.sZ;rw [lv,hl] at s2;exact q v Hs' H' fp2 r'.ext (.shr h s2)
     | mu h hp z j s1=>
      obtain ⟨fp2,s2,sub⟩:=s1.sZ;rw [lv,hl] at s2;exact q v Hs' H' _ r'.ext (.mu h hp z (λ c hc y=>j c hc (sub c y)) s2)
    | brk τ=>cases e
    | cnt τ=>cases e
 · cases e
end
section
variable {K:PB} {Hs0 H0 Hs H Hs' H':Hp} {ρ:My (Px Pz)} {σ:St} {τ:My Sm}
def b5.rebase (r:b5 K Hs0 H0 ρ Hs H σ τ):b5 K Hs H0 ρ Hs H σ τ:=⟨⟨.refl _,r.sm,r.ext.hh,λ _ h _=>h⟩,r.st⟩
def b5.kn (a:Ext Hs0 H0 Hs1 H1) (r:b5 K Hs1 H0 ρ Hs H σ τ):b5 K Hs0 H0 ρ Hs H σ τ:=⟨a.sub r.ext,r.st⟩
theorem B9.rebase (a:Ext Hs0 H0 Hs1 H1) (h:B9 K Hs0 H0 ρ E o):B9 K Hs1 H0 ρ E o:=by
 cases o with
 | next τ=>exact λ σ Hs H r=>h σ Hs H (r.kn a)
 | brk τ=>exact λ σ Hs H r=>h σ Hs H (r.kn a)
 | cnt τ=>exact λ σ Hs H r=>h σ Hs H (r.kn a)
 | ret s τ=>exact λ v σ Hs H r=>h v σ Hs H (r.kn a)
theorem b5.zN (r:b5 K Hs0 H0 ρ Hs H σ τ) (h:Rp K Hs v d):b5 K Hs0 H0 ρ Hs H (σ.set i (some v)) (τ.set i (.shr d)):=⟨r.ext,by
 obtain ⟨fp,st⟩:=r.st;obtain ⟨fp',h1,_⟩:=st.zN (i:=i) h
 exact ⟨fp',h1⟩⟩
theorem b5.hold (r:b5 K Hs0 H0 ρ Hs H σ τ) (hp:H p=none):b5 K Hs0 (upd H0 p u) ρ Hs (upd H p u) σ τ:=by
 obtain ⟨fp,st⟩:=r.st;refine ⟨⟨r.ext.ss,r.sm.trans (aC hp u),λ b o e=>?_,λ b h1 h2=>?_⟩,fp,?_⟩
 ·by_cases z:b=p
  · subst z; rw [ay] at e ⊢; exact e
  · rw [au z] at e ⊢; exact r.ext.hh b o e
 ·by_cases z:b=p
  · subst z; exact r.sm.free hp
  · rw [au z] at h2; exact r.ext.fr b h1 h2
 ·refine (st.rebase λ c hc=>?_).ext ⟨.refl _,r.sm.trans (aC hp u),aC hp u,λ _ h _=>h⟩
  rw [au (show c≠p from λ z=>(st.live c hc).2.1 (by rw [z]; exact hp))];exact (st.live c hc).2.2
theorem b5.FG (r:b5 K Hs0 (upd H0 p u) ρ Hs H σ τ) (h0:H0 p=none) (hs:Hs0 p=none):Ext Hs0 H0 Hs H/\Hs p=none/\H p=some u/\∃ fp,p ∉ fp/\StM K H0 Hs H ρ σ τ fp:=by
 obtain ⟨fp,st⟩:=r.st;have np:p ∉ fp:=λ q=>by have:=(st.live p q).2.2; rw [ay] at this; cases this
 refine ⟨⟨r.ext.ss,r.sm,λ b o e=>?_,λ b h1 h2=>?_⟩,r.ext.fr p hs (by rw [ay]; simp),r.ext.hh _ _ ay,fp,np,st.rebase λ c hc=>?_⟩
 · exact r.ext.hh b o (by rw [au (show b≠p from λ z=>by rw [z,h0] at e; cases e)]; exact e)
 · exact r.ext.fr b h1 (by rw [au (show b≠p from λ z=>h2 (by rw [z]; exact h0))]; exact h2)
 ·have:=(st.live c hc).2.2
  rw [au (show c≠p from λ z=>np (by rw [<- z]; exact hc))] at this;exact this
end
def eD0:DEm:=λ τ=>some (.mu false (.n .d []),τ)
noncomputable def eD1 (kc:Key) (fv:DEm):DEm:=λ τ=>(fv τ).bind λ x=>(toM x.1).map λ mv=>(.mu false (.n .d [(kc,mv)]),x.2)
def eF (g:DE):DEm:=λ τ=>(g (bf τ)).bind λ d=>match d with
 | .lst ds=>if ds.all sca=true then some (.shr (.lst ds),τ) else none
 | _=>none
section
variable {X:Cx} {a b c e o:Expr} {es:My Expr} {pos Po Pp pos' p:Pos} {x m:Str}
theorem M4 (h:PEo X e g):PVm X e (eF g):=PE.imp h λ σ H Q w0=>g83 w0 λ Hs0 H0 nf ρ Hs τ s τ' r e k=>by
 obtain ⟨d,e1,e2⟩:=Ub e;split at e2
 ·split at e2
  ·rename_i hs
   cases e2;obtain ⟨fp,st⟩:=r.st;refine ⟨H,H,bf τ,[],_,st.bf r.sm,.refl H,e1,λ a Hs' H' g1 ow hn=>?_⟩
   cases ow with
   | @lst xs ds h n rr=>
    have ha:Hs a=none:=r.sm.free hn
    have ex:Ext Hs H (upd Hs a (.lst xs)) H':=by
     refine ⟨aC ha _,λ b u q=>?_,g1.hh,λ b h1 h2=>?_⟩
     ·by_cases z:b=a
      · subst z; rw [ay] at q; cases q; exact h
      · rw [au z] at q; exact g1.hh _ _ (r.sm _ _ q)
     · rw [au (show b≠a from λ z=>h2 (by rw [z]; exact hn))]; exact h1
    exact k _ _ H' g1.hh ((r.ext' ex).push (.lst ay (lC rr hs)))
  · cases e2
 · cases e2
end
abbrev DGm:=D->My Sm->Px (My Sm)
def Ou (N:Hp) (K:PB) (g:DGm):TG:=λ v σ H Q=>∃ (Hs0 H0:Hp),∃ (_:Nf N H0),∃ ρ Hs τ τ' d,b5 K Hs0 H0 ρ Hs H σ τ/\Rp K Hs v d/\g d τ=some τ'/\∀ σ',b5 K Hs0 H0 ρ Hs H σ' τ'->Q σ' H
def PGm (X:Cx) (tg:Expr) (g:DGm):Prop:=PG X tg (Ou X.H₀ X.K g)
abbrev Ft:=My D->My Sm->Px (My Sm)
def J5 (N:Hp) (K:PB) (g:Ft):TGs:=λ v σ H Q=>∃ (Hs0 H0:Hp),∃ (_:Nf N H0),∃ ρ Hs τ τ' d,b5 K Hs0 H0 ρ Hs H σ τ/\Rps K Hs v d/\g d τ=some τ'/\∀ σ',b5 K Hs0 H0 ρ Hs H σ' τ'->Q σ' H
def JD (X:Cx) (tg:My Expr) (g:Ft):Prop:=PGs X tg (J5 X.H₀ X.K g)
def gNm (i:Nat):DGm:=λ d τ=>some (τ.set i (.shr d))
def BR:Ft:=λ ds τ=>if ds.isEmpty=true then some τ else none
noncomputable def yy (g:DGm) (h:Ft):Ft:=λ ds τ=>match ds with | d::r=>(g d τ).bind λ τ'=>h r τ' | []=>none
noncomputable def gTm (n:Nat) (g:Ft):DGm:=λ d τ=>match d with | .tup ds=>if ds.length=n then g ds τ else none | _=>none
noncomputable def forM (b:D->DSm):My D->DSm
 | [],τ=>some (.next τ)
 | d::ds,τ=>match b d τ with
  | some (.next τ')=>forM b ds τ'
  | some (.cnt τ')=>forM b ds τ'
  | some (.brk τ')=>some (.next τ')
  | r=>r
def Ab (it:DI) (g:DGm) (b:DSm):DSm:=λ τ=>(it (er τ)).bind λ ds=>forM (λ d τ=>(g d τ).bind b) ds τ
noncomputable def EG (i:Nat):DT:=λ τ=>match τ[i]? with
 | some (.own (.lst ds))=>some (!ds.isEmpty)
 | _=>none
noncomputable def va (i j:Nat):DS:=λ τ=>match τ[j]? with
 | some (.own (.lst ds))=>(ds[ds.length - 1]?).map λ d=>.next ((τ.set j (.own (.lst ds.dropLast))).set i (.shr d))
 | _=>none
theorem Rps.dropLast {K:PB} {H:Hp} {xs:My V} {ds:My D} (r:Rps K H xs ds):Rps K H xs.dropLast ds.dropLast:=by
 rw [List.dropLast_eq_take,List.dropLast_eq_take,r.length];exact r.take _
def Rps.emp {K:PB} {H:Hp} {xs:My V} {ds:My D} (r:Rps K H xs ds):xs.isEmpty=ds.isEmpty:=by cases r <;> rfl
def Od.Oj {K:PB} {Hs H:Hp} {fp:My Pz} {v:V} {d:D} (h:Od K Hs H fp v (.s d)):Rp K Hs v d:=by
 cases h with
 | s r=>exact r
noncomputable def lu (j:Nat) (b:Bool) (τ:List Sm):List Sm:=match τ[j]? with
 | some (.mu true m)=>τ.set j (.mu b m)
 | _=>τ
def Im (j:Nat) (b:Bool):v8->v8
 | .next τ=>.next (lu j b τ)
 | .ret s τ=>.ret s (lu j b τ)
 | .brk τ=>.brk (lu j b τ)
 | .cnt τ=>.cnt (lu j b τ)
noncomputable def j5 (j:Nat) (g:DGm) (b:DSm):Nat->Nat->DSm
 | 0,_,_=>none
 | n + 1,i,τ=>match τ[j]? with
  | some (.mu true (.n .l cs))=>match cs[i]? with
   | none=>some (.next τ)
   | some (_,.s d)=>match (g d τ).bind b with
    | some (.next τ')=>j5 j g b n (i+1) τ'
    | some (.cnt τ')=>j5 j g b n (i+1) τ'
    | some (.brk τ')=>some (.next τ')
    | r=>r
   | _=>none
  | _=>none
noncomputable def Gm (j:Nat) (g:DGm) (b:DSm):DSm:=λ τ=>match τ[j]? with
 | some (.mu b0 (.n .l cs))=>(j5 j g b (cs.length+1) 0 (τ.set j (.mu true (.n .l cs)))).map (Im j b0)
 | _=>none
section
variable {K:PB} {Hs0 H0 Hs H:Hp} {a:Pz} {b:Bool}
theorem StM.pinned:∀ {ρ:My (Px Pz)} {σ:My (Px V)} {τ:My Sm} {fp:My Pz},StM K H0 Hs H ρ σ τ fp->τ[j]?=some (.mu b m)->σ[j]?=some (some (.ref a))->StM K H0 Hs H (ρ.set j (some a)) σ (τ.set j (.mu true m)) fp:=by
 induction j with
 | zero=>
  intro ρ σ τ fp h e1 e2
  cases h with
  | nil=>simp at e1
  | no r=>simp at e1
  | shr h r=>simp at e1
  | mu h hp z j r=>
   have q:=Zj (show some (Sm.mu _ _)=some (Sm.mu b m) by simpa using e1);injection q with q1 q2
   subst q2;have q3:=Zj (Zj (show some (some _)=some (some (V.ref a)) by simpa using e2));subst q3;exact .mu h (λ _=>⟨a,rfl,rfl⟩) z j r
 | succ j ih=>
  intro ρ σ τ fp h e1 e2
  cases h with
  | nil=>simp at e1
  | no r=>exact .no (ih r (by simpa using e1) (by simpa using e2))
  | shr h r=>exact .shr h (ih r (by simpa using e1) (by simpa using e2))
  | mu h hp z j' r=>exact .mu h hp z j' (ih r (by simpa using e1) (by simpa using e2))
theorem StM.unp:∀ (j:Nat) {ρ:My (Px Pz)} {σ:My (Px V)} {τ:My Sm} {fp:My Pz},StM K H0 Hs H (ρ.set j (some a)) σ τ fp->(b=true->ρ[j]?=some (some a))->StM K H0 Hs H ρ σ (lu j b τ) fp:=by
 intro j
 induction j with
 | zero=>
  intro ρ σ τ fp h hb
  cases ρ with
  | nil=>cases h; exact .nil
  | cons p ρ=>
   cases h with
   | no r=>exact .no r
   | shr h r=>exact .shr h r
   | @mu _ v b' m _ _ _ fq fp h hp z j r=>
    cases b' with
    | false=>exact .mu h (λ q=>by cases q) z j r
    | true=>
     obtain ⟨a',q1,q2⟩:=hp rfl;cases q1;exact .mu h (λ q=>⟨a,by simpa using hb q,q2⟩) z j r
 | succ j ih=>
  intro ρ σ τ fp h hb
  cases ρ with
  | nil=>cases h; exact .nil
  | cons p ρ=>
   have un:∀ (s:Sm) (τ:List Sm),lu (j+1) b (s::τ)=s::lu j b τ:=λ s τ=>by
    unfold lu;rw [List.getElem?_cons_succ];split <;> rfl
   cases h with
   | no r=>rw [un]; exact .no (ih r (by simpa using hb))
   | shr h r=>rw [un]; exact .shr h (ih r (by simpa using hb))
   | mu h hp z j' r=>rw [un]; exact .mu h hp z j' (ih r (by simpa using hb))
def uQ (j:Nat) (s:Sm) (τ:List Sm):lu (j+1) b (s::τ)=s::lu j b τ:=by
 unfold lu;rw [List.getElem?_cons_succ];split <;> rfl
theorem B9.unp (hb:b=true->ρ[j]?=some (some a)) (h:B9 K Hs0 H0 ρ E (Im j b o)):B9 K Hs0 H0 (ρ.set j (some a)) E o:=by
 cases o with
 | next τ=>exact λ σ Hs H r=>h σ Hs H ⟨r.ext,let ⟨fp,s⟩:=r.st; ⟨fp,s.unp j hb⟩⟩
 | brk τ=>exact λ σ Hs H r=>h σ Hs H ⟨r.ext,let ⟨fp,s⟩:=r.st; ⟨fp,s.unp j hb⟩⟩
 | cnt τ=>exact λ σ Hs H r=>h σ Hs H ⟨r.ext,let ⟨fp,s⟩:=r.st; ⟨fp,s.unp j hb⟩⟩
 | ret s τ=>exact λ v σ Hs H r=>h v σ Hs H ⟨r.ext,by
  obtain ⟨fp,st⟩:=r.st;have:=StM.unp (ρ:=none::ρ) (j+1) (a:=a) (b:=b) st (by simpa using hb);rw [uQ] at this
  exact ⟨fp,this⟩⟩
end
def yA (f:Str):My Stp:=[.k (.inr f)]
noncomputable def Aq (s:Nat) (gk:DE) (C:Pz) (f:Str) (τ:My Sm):Px (My Sm):=match bB τ s [] with
 | some (.n (.o C') _)=>if C'=C then (gk (bf τ)).bind λ d=>(fu d).bind λ k=>match bB τ s (yA f) with
  | some (.n .d cs)=>if (cs.any λ c=>decide (c.1=k))=true then some (ft τ s (yA f) (.n .d (fP cs k))) else none
  | _=>none else none
 | _=>none
noncomputable def rJ (s:Nat) (gk:DE) (C:Pz):My Str->My Sm->Px (My Sm)
 | [],τ=>some τ
 | f::fs,τ=>(Aq s gk C f τ).bind (rJ s gk C fs)
noncomputable def Aa (i s:Nat) (C:Pz) (fs:My Str) (gk:DE):DSm:=λ τ=>match bB τ s [] with
 | some (.n (.o C') _)=>if C'=C/\(fs.all λ f=>(bB τ s (yA f)).isSome)=true/\fs.length<=50/\i < τ.length then (rJ s gk C fs (τ.set i .no)).map .next else none
 | _=>none
def Vs1 (H:Hp) (rt:V) (fs:My Str) (vs:My V):Prop:=vs.length=fs.length/\∀ (j:Nat) (f:Str) (v:V),fs[j]?=some f->vs[j]?=some v->vAt H rt (yA f)=some v
def Om (N:Hp) (K:PB) (s:Nat) (C:Pz) (fs:My Str):TA:=λ σ H Q=>∃ (Hs0 H0:Hp),∃ (_:Nf N H0),∃ ρ Hs τ cs rt,b5 K Hs0 H0 ρ Hs H σ τ/\bB τ s []=some (.n (.o C) cs)/\σ[s]?=some (some rt)/\(∀ f ∈ fs,(bB τ s (yA f)).isSome=true)/\∀ vs H',cc H H'->Vs1 H' rt fs vs->Q vs H'
def PXs (X:Cx) (es:My Expr) (s:Nat) (C:Pz) (fs:My Str):Prop:=PA X es (Om X.H₀ X.K s C fs)
def Vs1.same (g:cc H H') (h:Vs1 H rt fs vs):Vs1 H' rt fs vs:=⟨h.1,λ j f v e1 e2=>cq g _ (h.2 j f v e1 e2)⟩
section
variable {K:PB} {Hs0 H0 Hs H:Hp} {ρ:My (Px Pz)} {σ:St} {τ:My Sm}
theorem b5.forget (i:Nat) (v:Px V) (r:b5 K Hs0 H0 ρ Hs H σ τ):b5 K Hs0 H0 ρ Hs H (σ.set i v) (τ.set i .no):=by
 obtain ⟨fp,st⟩:=r.st;refine ⟨r.ext,?_⟩
 have:∀ {i ρ σ τ fp},StM K H0 Hs H ρ σ τ fp->∃ fp',StM K H0 Hs H ρ (σ.set i v) (τ.set i .no) fp'/\∀ c ∈ fp',c ∈ fp:=λ {i ρ σ τ fp} h=>by
  induction h generalizing i with
  | nil=>exact ⟨[],.nil,λ _ h=>h⟩
  | no r ih=>
   cases i with
   | zero=>exact ⟨_,.no r,λ _ h=>h⟩
   | succ i=>obtain ⟨fp',h1,h2⟩:=ih (i:=i); exact ⟨fp',.no h1,h2⟩
  | shr h r ih=>
   cases i with
   | zero=>exact ⟨_,.no r,λ _ h=>h⟩
   | succ i=>obtain ⟨fp',h1,h2⟩:=ih (i:=i); exact ⟨fp',.shr h h1,h2⟩
  | mu h hp z j r ih=>
   cases i with
   | zero=>exact ⟨_,.no r,λ _ h=>Ze _ h⟩
   | succ i=>
    obtain ⟨fp',h1,h2⟩:=ih (i:=i);exact ⟨_,.mu h hp z (λ c hc q=>j c hc (h2 c q)) h1,λ c hc=>(Zi.mp hc).elim (Zk _) λ q=>Ze _ (h2 c q)⟩
 obtain ⟨fp',h,_⟩:=this (i:=i) st;exact ⟨fp',h⟩
end
def Cd (h:r≠a):vAt (upd H a u) (.ref r) (yA f)=vAt H (.ref r) (yA f):=by
 simp only [yA,vAt,au h]
def kD:Key->D
 | .inl i=>.int i
 | .inr x=>.str x
def D8 {K:PB} {H:Hp} (k:Key):Rp K H (kV k) (kD k):=by
 cases k with
 | inl i=>exact .int i
 | inr x=>exact .str x
def Gu:My V->Hp->VK->Prop:=λ xs H Q=>∃ (a:Pz) (kvs:My (Key×V)),xs=[.ref a]/\H a=some (.dK kvs)/\∀ l,H l=none->Q (.ref l) (upd H l (.lst (kvs.map λ kv=>kV kv.1)))
theorem wb:∀ {us:My Py} {ks:My Key},us.length=ks.length->(∀ (j:Nat) (v:Py),us[j]?=some v->∃ k,ks[j]?=some k/\rZ k v=true)->bX (ks.map kV) us
 | [],[],_,_=>.nil
 | [],_::_,e,_=>by cases e
 | _::_,[],e,_=>by cases e
 | u::us,k::ks,e,h=>by
  obtain ⟨k',e1,e2⟩:=h 0 u rfl;cases e1;refine .cons ?_ (wb (Nat.succ.inj e) λ j v ev=>h (j+1) v ev)
  rcases bI e2 with ⟨i,t,rfl,rfl⟩ | ⟨y,t,rfl,rfl⟩
  · exact ⟨t,rfl⟩
  · exact ⟨t,rfl⟩
theorem vH (hh:X.A.handled=none):fw X (.type "list") Gu:=by
 intro Pn s σ H xs us Q I r h;obtain ⟨a,kvs,rfl,ha,q⟩:=h;obtain ⟨u,rfl,ru⟩:=vals1 r;cases (show u=Value.ref a from ru);obtain ⟨sz,lo,vs,kv,dd⟩:=yU I.hok ha;obtain ⟨ep,hat⟩:=dd.dictAt;have lv:vs.length=kvs.length:=kv.length.symm;refine PySem.W.kdl_call (PySem.W.kdl_dict (knd:=bO X.prog X.w) (kvs:=vs) (ep:=ep) lo) hh hat (by rw [lv]; exact sz) λ h' tk acc' c' hk hS hacc=>?_
 have hv:bX ((kvs.map (·.1)).map kV) acc'.toList:=by
  refine wb (by rw [Xr,hacc.1,Zc,lv]) λ j v hj=>?_
  obtain ⟨k,x,e1,e2⟩:=hacc.2 j v (by rw [<- Array.getElem?_toList]; exact hj);exact ⟨k,by rw [<- rY kv,List.getElem?_map,e1]; rfl,e2⟩
 rw [Zy] at hv;exact ⟨.ref s.heap.objs.size,_,I.laid (t':=tk) hk (Zn _) (show dg X.prog X.w _ h' _ (.lst (kvs.map λ kv=>kV kv.1)) from ⟨by rw [Zc]; exact sz,acc'.toList,c',hv,by rw [Array.toArray_toList]; exact hS⟩),rfl,q _ (I.hok.fresh (Zn _))⟩
noncomputable def zd (f:DE):DE:=λ τ=>(f τ).bind λ d=>match d with | .dct ds=>some (.lst (ds.map λ p=>kD p.1)) | _=>none
theorem tH {K:PB} {H H':Hp}:∀ {kvs:My (Key×V)} {ds:My (Key×D)},RpK K H kvs ds->Rps K H' (kvs.map λ kv=>kV kv.1) (ds.map λ p=>kD p.1)
 | _,_,.nil=>.nil
 | _,_,.cons _ r=>.cons (D8 _) (tH r)
noncomputable def Bo (j i:Nat) (c:DT) (g:DE) (cs:My (Str×Nat)):DSm:=λ τ=>match τ[i]? with
 | some (.mu _ (.n .d ks))=>if ks.length<=100000/\j < τ.length then (sg (λ d=>c (.shr d::fQ (bf (τ.set i .no)) cs)) (λ d=>g (.shr d::fQ (bf (τ.set i .no)) cs)) (ks.map λ p=>kD p.1)).bind λ es=>if es.all sca=true then some (.next (τ.set j (.shr (.lst es)))) else none else none
 | _=>none
def spP (F:My Sm->Px D) (K:PB):Sp:=λ vs H Q _=>∃ Hs fp as d,cc Hs H/\StM K (off H fp) Hs H (iS vs) (vs.map some) as fp/\F as=some d/\∀ v H',cc H H'->Rp K H' v d->Q v H'
def eP (F:My Sm->Px D) (g:DAm):DEm:=λ τ=>(g τ).bind λ as=>(lend τ as).bind λ ss=>(F ss).bind λ d=>if sca d=true then some (.shr d,τ) else none
section
variable {X:Cx} {e:Expr} {es:My Expr} {x:Str} {p pos:Pos} {k:Nat} {f:Pz} {fd:FuncData} {ps:My Str} {F:My Sm->Px D} {g:DAm}
theorem Ar (Fo:gO X.prog X.w X.K X.mg X.base CX0 k f fd ps (spP F X.K)) (hr:dD k X.A) (hg:Gl X x) (hm:X.mg x=some (.ref f)) (hk:W.keepIn X.K (.ref f)=true) (hb:Binds X.K fd ps [])
  (ha:PAm X (e::es) g) (hdb:Dg x:=by decide) (he:Se X e es:=by rfl) (hpl:Sb X pos es:=by rfl):PVm X (.Call (.Name x p) (e::es) [] pos) (eP F g):=(lL Fo hr hg hm hk hb .nil oj ha hdb he hpl).imp λ σ H Q w0=>g83 w0 λ Hs0 H0 nf ρ Hs τ s τ' r e k=>by
 obtain ⟨as,e1,e2⟩:=Ub e;obtain ⟨ss,e3,e4⟩:=Ub e2;obtain ⟨d,e5,e6⟩:=Ub e4;split at e6
 ·rename_i hs
  cases e6;refine ⟨Hs0,H0,nf,ρ,Hs,τ,as,r,e1,λ vs Hs1 H1 g1 r1 s1 a1=>?_⟩;show spP F X.K (vs++[]) H1 Q E0;rw [Zv];obtain ⟨fp,st⟩:=r1.st;obtain ⟨fpa,sA,_,_⟩:=lW st a1 e3;exact ⟨Hs1,fpa,ss,d,r1.sm,sA.rebase λ c hc=>tW hc,e5,λ v H' g' rv=>k v Hs1 H' (g1.trans g') ((r1.grow g').push (m4 rv hs))⟩
 · cases e6
end
end L2
end
section
namespace L2
open PySem
section
variable {τ τ' τ1:My Sm} {f g:DSm} {s:Sm} {o:v8} {b:Bool} {d:D} {i j:Nat} {q:My Stp} {m m2 mv:Mt} {cs:My (Key×Mt)} {k:Key}
def aS (h:f τ=some (.next τ')) (h2:g τ'=some o):fK f g τ=some o:=by unfold fK; rw [h]; exact h2
theorem cf {f:DEm} (h:f τ=some (s,τ')) (hi:i < τ'.length) (hs:(toM s).isSome=true):u7 i f τ=some (.next (τ'.set i s)):=by unfold u7; rw [h]; exact if_pos ⟨hi,hs⟩
def p5 {f:DEm} (h:f τ=some (s,τ')):lE f τ=some (.next τ'):=by unfold lE; rw [h]; rfl
def hG {g:DE} (h:g (bf τ)=some d):wJ g τ=some (.next τ):=by unfold wJ; rw [h]; rfl
theorem mP (h:t τ=some (true,τ')) (h2:f τ'=some o):tG t f g τ=some o:=by unfold tG; rw [h]; show (if true=true then f τ' else g τ')=_; rw [if_pos rfl]; exact h2
theorem dU (h:t τ=some (false,τ')) (h2:g τ'=some o):tG t f g τ=some o:=by unfold tG; rw [h]; show (if false=true then f τ' else g τ')=_; rw [if_neg (by simp)]; exact h2
def jE {f:DEm} (h:f τ=some (s,τ')):nX f τ=some (.ret s τ'):=by unfold nX; rw [h]; rfl
def v_S {g:DE} (h:g (bf τ)=some d) (hs:sca d=true):eS g τ=some (.shr d,τ):=by unfold eS; rw [h]; exact if_pos hs
def v_N {g:DE} (h:g (er τ)=some d):eN g τ=some (.shr d,τ):=by unfold eN; rw [h]; rfl
def v_O {g:DE} {ds:My D} (h:g (bf τ)=some (.lst ds)) (hs:ds.all sca=true):eO g τ=some (.mu false (lM ds),τ):=by unfold eO; rw [h]; exact if_pos hs
def v_F {g:DE} {ds:My D} (h:g (bf τ)=some (.lst ds)) (hs:ds.all sca=true):eF g τ=some (.shr (.lst ds),τ):=by unfold eF; rw [h]; exact if_pos hs
def v_V (h:τ[i]?=some (.mu false m)):eV i τ=some (.mu false m,τ.set i .no):=by unfold eV; rw [h]
theorem MR {f:DEm} (h:f τ=some (s,τ')) (hs:toM s=some mv):eD1 k f τ=some (.mu false (.n .d [(k,mv)]),τ'):=by unfold eD1; rw [h]; show (toM s).map _=_; rw [hs]; rfl
def t_S {g:DT} (h:g (bf τ)=some b):tS g τ=some (b,τ):=by unfold tS; rw [h]; rfl
def t_E {f:DEm} (h:f τ=some (.shr (.bl b),τ')):tE f τ=some (b,τ'):=by unfold tE; rw [h]; rfl
def N7 {f:DTm} (h:f τ=some (b,τ')):tNt f τ=some (!b,τ'):=by unfold tNt; rw [h]; rfl
def pW (h:τ[i]?=some (.mu b m)):bB τ i q=m.get q:=by unfold bB; rw [h]
def kr (h:τ[i]?=some (.mu b m)):ft τ i q m2=τ.set i (.mu b (m.put q m2)):=by unfold ft; rw [h]
def cI:de i τ=some (i,[]):=rfl
theorem mI {C:Pz} {x:Str} {f:DPx} (h:f τ=some (i,q)) (hm:bB τ i q=some (.n (.o C) cs)):jX C x f τ=some (i,q++[.k (.inr x)]):=by
 unfold jX;rw [h];show (match bB τ i q with | some (.n (.o C') _)=>if C'=C then some (i,q++[Stp.k (.inr x)]) else none | _=>none)=_;rw [hm];exact if_pos rfl
theorem wa {f:DPx} {gk:DE} (h:f τ=some (i,q)) (hk:gk (bf τ)=some d) (he:fu d=some k) (hm:bB τ i q=some (.n .d cs)):vb f gk τ=some (i,q++[.k k]):=by
 unfold vb;rw [h];show (gk (bf τ)).bind _=_;rw [hk];show (fu d).bind _=_;rw [he];show (match bB τ i q with | some (.n .d _)=>some (i,q++[Stp.k k]) | _=>none)=_;rw [hm]
theorem jF (h1:fv τ=some (s,τ1)) (h2:px τ1=some (i,q)) (h3:gk (bf τ1)=some d) (h4:fu d=some k) (h5:toM s=some mv) (h6:bB τ1 i q=some (.n .d cs)) (h7:cs.length < 100000):gV px gk fv τ=some (.next (ft τ1 i q (.n .d (kZ cs k mv)))):=by
 unfold gV;simp only [h1,h2,h3,h4,h5,h6,Z4];exact if_pos h7
theorem Hc (h1:fv τ=some (s,τ1)) (h2:px τ1=some (i,q)) (h5:toM s=some mv) (h6:bB τ1 i q=some (.n (.o C) cs)) (h7:cs.length < 1000):wI C x px fv τ=some (.next (ft τ1 i q (.n (.o C) (kZ cs (.inr x) mv)))):=by
 unfold wI;simp only [h1,h2,h5,h6,Z4];exact if_pos ⟨trivial,h7⟩
theorem D0 {px:DPx} {gi:DE} {fv:DEm} {cs0:My (Key×Mt)} {n:Int} (h1:px τ=some (i,q)) (h2:bB τ i q=some (.n .l cs0)) (h3:gi (bf τ)=some (.int n)) (h4:fv τ=some (s,τ1)) (h5:toM s=some mv) (h6:bB τ1 i q=some (.n .l cs)) (h7:0<=n/\n<=cs.length/\cs.length < 100000):Cv px gi fv τ=some (.next (ft τ1 i q (.n .l (Jy cs n.toNat mv)))):=by
 unfold Cv;simp only [h1,h2,h3,h4,h5,h6,Z4];exact if_pos h7
theorem DZ (h1:px τ=some (i,q)) (h2:gk (bf τ)=some (.int n)) (h3:bB τ i q=some (.n .l cs)) (h4:eL (qS cs)=some ns) (h5:ns.length<=1000/\n ∈ ns):u9 px gk τ=some (.next (ft τ i q (.n .l (cs.eraseIdx (ns.idxOf n))))):=by
 unfold u9;simp only [h1,h2,h3,h4,Z4];exact if_pos h5
theorem Mi (h1:px τ=some (i,q)) (h2:gk (bf τ)=some d) (h3:fu d=some k) (h4:bB τ i q=some (.n .d cs)) (h5:(cs.any λ c=>decide (c.1=k))=true):pG px gk τ=some (.next (ft τ i q (.n .d (fP cs k)))):=by
 unfold pG;simp only [h1,h2,h3,h4,Z4];exact if_pos h5
def q_N {g:DE} (h:g (er τ)=some d):qN g τ=some (.v d):=by unfold qN; rw [h]; rfl
theorem q_X {f:DPx} {t:Tg} (h:f τ=some (i,q)) (hm:bB τ i q=some (.n t cs)):qX f τ=some (.p i q):=by
 unfold qX;rw [h];show (match bB τ i q with | some (.n _ _)=>some (Am.p i q) | some (.s d)=>some (.v d) | none=>none)=_;rw [hm]
theorem bp {h:My Sm->Px Am} {g:DAm} {a:Am} {as:My Am} (h1:h τ=some a) (h2:g τ=some as):ck h g τ=some (a::as):=by unfold ck; rw [h1]; show (g τ).map _=_; rw [h2]; rfl
theorem v_C {F:My Sm->Px (Sm×My Sm)} {g:DAm} {as:My Am} {ss ss':My Sm} (h1:g τ=some as) (h2:lend τ as=some ss) (h3:F ss=some (s,ss')) (h4:back τ as ss'=some τ'):eC F g τ=some (s,τ'):=by
 unfold eC;rw [h1];show sQ F τ as=_;unfold sQ;simp only [h2,h3,h4,Z4,Option.map_some]
theorem v_M {C:Pz} {x:Str} {F:My Sm->Px (Sm×My Sm)} {f:DPx} {g:DAm} {as:My Am} {ss ss':My Sm} (h0:f τ=some (i,q)) (hm:bB τ i q=some (.n (.o C) cs)) (hn:(cs.any λ c=>decide (c.1=.inr x))=false) (h1:g τ=some as) (h2:lend τ (.p i q::as)=some ss) (h3:F ss=some (s,ss')) (h4:back τ (.p i q::as) ss'=some τ'):eM C x F f g τ=some (s,τ'):=by
 unfold eM;simp only [h0,hm,Z4];rw [if_pos ⟨trivial,hn⟩,h1];show sQ F τ _=_;unfold sQ;simp only [h2,h3,h4,Z4,Option.map_some]
theorem v_K {C:Pz} {F:My Sm->Px (Sm×My Sm)} {g:DAm} {as:My Am} {ss r:My Sm} (h1:g τ=some as) (h2:lend τ as=some ss) (h3:F (.mu true (.n (.o C) [])::ss)=some (.shr .non,.mu true m::r)) (h4:back τ as r=some τ'):eK C F g τ=some (.mu false m,τ'):=by
 unfold eK;simp only [h1,h2,h3,Z4];rw [h4];rfl
theorem v_P {F:My Sm->Px D} {g:DAm} {as:My Am} {ss:My Sm} (h1:g τ=some as) (h2:lend τ as=some ss) (h3:F ss=some d) (hs:sca d=true):eP F g τ=some (.shr d,τ):=by
 unfold eP;simp only [h1,h2,h3,Z4];exact if_pos hs
theorem fL (h:bd (as++List.replicate (n - as.length) .no)=some (.ret s τ)) (hl:as.length=mm:=by rfl):kS n mm bd as=some (s,(τ.take mm).map yk):=by unfold kS; rw [if_pos hl,h]
theorem Gn (h:bd (as++List.replicate (n - as.length) .no)=some (.next τ)) (hl:as.length=mm:=by rfl):kS n mm bd as=some (.shr .non,(τ.take mm).map yk):=by unfold kS; rw [if_pos hl,h]
theorem A0:(Mt.n .d cs).get [.k k]=(cs.find? λ c=>decide (c.1=k)).map (·.2):=by
 show (match cs.findIdx? (λ c=>decide (c.1=k)) with | none=>none | some i=>match cs[i]? with | none=>none | some c=>Mt.get c.2 [])=_;have e:∀ m:Mt,m.get []=some m:=λ m=>by cases m <;> rfl
 rw [List.find?_eq_bind_findIdx?_getElem?]
 cases h:cs.findIdx? (λ c=>decide (c.1=k)) with
 | none=>rfl
 | some i=>
  show (match cs[i]? with | none=>none | some c=>Mt.get c.2 [])=(cs[i]?).map (·.2)
  cases cs[i]? with
  | none=>rfl
  | some c=>exact e c.2
end
end L2
end
section
namespace L2
open PySem PySem.Spec PyProof.Rows
def nuI (ns:My Int) (i:Nat):Int:=(ns[i]?).getD 0
noncomputable def mxI (ns:My Int):Int:=nuI ns (argBest (λ i j=>decide (nuI ns i > nuI ns j)) (ns.length - 1))
def AD:My D->Px D
 | [.lst ds]=>(eL ds).bind λ ns=>if 0 < ns.length then some (.int (mxI ns)) else none
 | _=>none
theorem DQ (h:0 < ns.length):mxI ns ∈ ns:=by
 unfold mxI nuI;have:=(argBest_gt (nuI ns) (ns.length - 1)).1;have hl:argBest (λ i j=>decide (nuI ns i > nuI ns j)) (ns.length - 1) < ns.length:=by omega
 have e:ns[argBest (λ i j=>decide (nuI ns i > nuI ns j)) (ns.length - 1)]?=some (ns[argBest (λ i j=>decide (nuI ns i > nuI ns j)) (ns.length - 1)]):=List.getElem?_eq_getElem hl;unfold nuI at e;rw [e];exact Xp _
theorem G9 (h:a ∈ ns):a<=mxI ns:=by
 obtain ⟨i,hi,e⟩:=List.mem_iff_getElem.mp h;have:=(argBest_gt (nuI ns) (ns.length - 1)).2 i (by omega)
 have e':nuI ns i=a:=by
  unfold nuI;rw [List.getElem?_eq_getElem hi,e];rfl
 rw [e'] at this;exact this
section
variable {X:Cx}
theorem zk (hc:X.calm=true):fw X (.builtin "max") (λ xs H Q=>∃ (p:Pz) (ns:My Int),xs=[.ref p]/\H p=some (.lst (ns.map V.int))/\0 < ns.length/\Q (.int (mxI ns)) H):=by
 intro Pn s σ H xs us Q I r h;obtain ⟨p,ns,rfl,hH,hs,q⟩:=h;obtain ⟨u,rfl,ru⟩:=vals1 r;cases (show u=Value.ref p from ru);obtain ⟨its,rv,pl,hz⟩:=I.list (SqL.of hH);have hl:=pl.isList;have hlen:=rv.length;rw [Zc] at hlen;have hlt:p < s.heap.objs.size:=by obtain ⟨_,e,_⟩:=hl; exact Zs e
 refine call_max_walk (wpAny_pyIter_list hl ?_)
 refine ⟨s.heap.objs.size,[s.heap.objs.size,p],[s.heap.objs.size],its.toArray.size,_,_,_,rfl,Walks.list (A:=X.A.in1) (I.ok.hd hc) _ p (Z2 hlt) its.toArray,
  ⟨⟨_,Heap.get?_push_size _ rfl,rfl,rfl⟩,hl.push _⟩,λ b hb=>?_,by rw [Zq,<- hlen]; exact hs,CmpOf.ints_gt (nuI ns) (λ i v hP=>h9 rv i v (by simpa using hP)),λ v h' tk hP hk=>?_⟩
 ·rw [Heap.size_push]
  simp only [Zh,Yw,or_false] at hb;rcases hb with rfl | rfl
  · exact Y8 _
  · exact Nat.lt_succ_of_lt hlt
 ·rw [Zq,<- hlen] at hP
  obtain ⟨t,e⟩:=h9 rv _ v (by simpa using hP);refine ⟨.int (mxI ns),H,I.kept (t':=tk) λ b x ex=>hk b x (λ hm=>?_) (Heap.get?_push_of_some _ ex),⟨t,e⟩,q⟩;rw [Zr.mp hm] at ex;exact Ys _ (Zs ex)
theorem B3 (hc:X.calm=true):fw X (.builtin "max") (rdL X.K AD):=(zk hc).imp λ xs H Q w0=>g34 w0 λ Hs ds d sm r e k=>by
 match ds,r,e with
 | [x],.cons hx .nil,e=>
  cases hx with
  | @lst a ys ds h r=>
   obtain ⟨ns,e1,e2⟩:=Ub (show (eL ds).bind _=some d from e);have ed:=l0 e1;subst ed;have ey:=r.h9;subst ey;split at e2
   ·rename_i hs
    have e':D.int (mxI ns)=d:=Zj e2;subst e';exact ⟨a,ns,rfl,sm _ _ h,hs,k _ Hs H (.refl sm) (.int _)⟩
   · cases e2
  | _=>exact nn e
 | [],_,e=>simp [AD] at e
 | _::_::_,_,e=>simp [AD] at e
end
section
variable {X:Cx} {pos:Pos}
theorem wZ (hN:X.N.Nodup) (hy:X.N[i]?=some y) (hx:Loc X.env.scope y)
  (hc:X.calm=true) (O:dY X scope cl x cs) (hi:PId X (.Name x px) iter it)
  (hcd:∀ s H fp C,PTd (cK X scope cl (x::cs.map (·.1)) s H fp C) cnd c) (he:∀ s H fp C,PEd (cK X scope cl (x::cs.map (·.1)) s H fp C) elt g) (hs:∀ x,foldedSetIterable iter X.env x=pure x:=by intro _; rfl)
  (hsw:swapsWith (.ListComp elt [⟨.Name x px,iter,[cnd],0⟩] scope pos) (some (.Name y py)) spos.line X.env=pure true:=by rfl)
  (hf:X.fn y=true\/X.env.scope.names.lookup y=some .local:=by walk_at "v"):PSm X (.Assign [.Name y py] (.ListComp elt [⟨.Name x px,iter,[cnd],0⟩] scope pos) spos) (u7 i (eO (md it c g cs))):=(oa (te:=rdE X.K g) (tt:=rdT X.K c) hN hy hx hc O hi hcd he hs hsw hf).imp λ E σ H w0=>g73 w0 λ Hs0 H0 nf ρ Hs τ o r e k=>by
 obtain ⟨⟨s,τ1⟩,e1,e2⟩:=Ub e;split at e2
 ·rename_i h
  cases e2;obtain ⟨d,e3,e4⟩:=Ub e1;split at e4
  ·split at e4
   ·rename_i hsc
    cases e4;obtain ⟨fp,st⟩:=r.st;refine uA ⟨H,H,bf τ,[],_,st.bf r.sm,.refl H,e3,λ a Hs' H' g1 ow hn=>?_⟩
    cases ow with
    | lst h' n rr=>exact k _ Hs H' ((r.CF g1.hh (Od.lst h' (r.sm.free hn) (lC rr hsc)) λ c hc=>by rw [Zr.mp hc]; exact hn).into h.1 h.2)
   · cases e4
  · cases e4
 · cases e2
end
mutual
noncomputable def okL:Nat->D->Bool
 | _,.non=>true
 | _,.int _=>true
 | _,.bl _=>true
 | _,.str x=>PyData.strOk x
 | n+1,.tup ds=>C9 n ds
 | n+1,.lst ds=>C9 n ds
 | _,_=>false
noncomputable def C9:Nat->My D->Bool
 | _,[]=>true
 | n,d::ds=>okL n d&&C9 n ds
end
open PySem.W in
mutual
theorem rO:∀ (n:Nat) (d:D),okL n d=true->(kqdP (fT d)).canLay0=true/\(kqdP (fT d)).depth<=n/\PyData.eqv (kqdP (fT d)) (kqdP (fT d))=true
 | _,.non,_=>by simp [fT,kqdP,PyData.canLay0,PyData.depth,PyData.eqv]
 | _,.int _,_=>by simp [fT,kqdP,PyData.canLay0,PyData.depth,PyData.eqv]
 | _,.bl _,_=>by simp [fT,kqdP,PyData.canLay0,PyData.depth,PyData.eqv]
 | n,.str x,h=>by simp [okL] at h; simp [fT,kqdP,PyData.canLay0,PyData.depth,PyData.eqv,h]
 | n+1,.tup ds,h=>by
  simp [okL] at h;obtain ⟨a,b,c⟩:=om n ds h;simp only [fT,kqdP,PyData.canLay0,PyData.depth,PyData.eqv,a,c,true_and,and_true];omega
 | n+1,.lst ds,h=>by
  simp [okL] at h;obtain ⟨a,b,c⟩:=om n ds h;simp only [fT,kqdP,PyData.canLay0,PyData.depth,PyData.eqv,a,c,true_and,and_true];omega
 | 0,.lst _,h=>by simp [okL] at h
 | _,.ty _,h=>by simp [okL] at h
 | _,.cls _,h=>by simp [okL] at h
 | _,.dct _,h=>by simp [okL] at h
 | _,.fz _,h=>by simp [okL] at h
 | _,.obj _ _,h=>by simp [okL] at h
 | _,.dfz _,h=>by simp [okL] at h
 | 0,.tup _,h=>by simp [okL] at h
theorem om:∀ (n:Nat) (ds:My D),C9 n ds=true->PyData.canLayAll0 (kqdPs (eR ds))=true/\PyData.depthAll (kqdPs (eR ds))<=n/\PyData.eqvAll (kqdPs (eR ds)) (kqdPs (eR ds))=true
 | _,[],_=>by simp [eR,kqdPs,PyData.canLayAll0,PyData.depthAll,PyData.eqvAll]
 | n,d::ds,h=>by
  simp [C9] at h;obtain ⟨a,b,c⟩:=rO n d h.1;obtain ⟨a',b',c'⟩:=om n ds h.2;simp only [eR,kqdPs,PyData.canLayAll0,PyData.depthAll,PyData.eqvAll,a,a',c,c',Bool.and_self,true_and,and_true];omega
end
section
open PySem.W
variable {X:Cx} {Pn:My (Pz×Obj)} {σ:St} {H:Hp} {s:PD}
mutual
theorem Rp.lG (I:Inv X Pn σ H s):∀ {v:V} {d:D} {u:Py} (n:Nat),Rp X.K H v d->okL n d=true->RelV v u->∃ as,Reads s.heap u (kqdP (fT d)) as
 | _,_,u,_,.non,_,rv=>by cases (show u=Value.none from rv); exact ⟨_,Reads.none⟩
 | _,_,u,_,.bl b,_,rv=>by cases (show u=Value.bool b from rv); exact ⟨_,Reads.bool b⟩
 | _,_,u,_,.int i,_,rv=>by obtain ⟨t,rfl⟩:=(show ∃ t,u=Value.int i t from rv); exact ⟨_,Reads.int i t⟩
 | _,_,u,_,.str x,_,rv=>by obtain ⟨t,rfl⟩:=(show ∃ t,u=Value.str x t from rv); exact ⟨_,Reads.str x t⟩
 | _,_,u,n,@Rp.tup _ _ a xs ds h r,o,rv=>by
  cases n with
  | zero=>simp [okL] at o
  | succ n=>
   simp [okL] at o;cases (show u=Value.ref a from rv);obtain ⟨its,vs,p,_⟩:=I.tuple h;obtain ⟨as,q⟩:=Rps.lG I n r o vs;obtain ⟨ob,h1,h2,m,h3⟩:=p;rw [fT,kqdP];exact ⟨as,reads_tuple_at h1 h2 h3 (by simpa using q)⟩
 | _,_,u,n,@Rp.lst _ _ a xs ds h r,o,rv=>by
  cases n with
  | zero=>simp [okL] at o
  | succ n=>
   simp [okL] at o;cases (show u=Value.ref a from rv);obtain ⟨_,its,m,vs,e⟩:=I.hok _ _ h;obtain ⟨as,q⟩:=Rps.lG I n r o vs;rw [fT,kqdP];exact ⟨_,reads_list_at e rfl rfl (by simpa using q)⟩
 | _,_,_,_,.ty _,o,_=>by simp [okL] at o
 | _,_,_,_,.cls _,o,_=>by simp [okL] at o
 | _,_,_,_,.dct _ _,o,_=>by simp [okL] at o
 | _,_,_,_,.fz _ _,o,_=>by simp [okL] at o
 | _,_,_,_,.obj _ _,o,_=>by simp [okL] at o
 | _,_,_,_,.dfz _ _,o,_=>by simp [okL] at o
theorem Rps.lG (I:Inv X Pn σ H s):∀ {vs:My V} {ds:My D} {us:My Py} (n:Nat),Rps X.K H vs ds->C9 n ds=true->bX vs us->∃ as,ReadsAll s.heap us (kqdPs (eR ds)) as
 | _,_,_,_,.nil,_,.nil=>by rw [eR,kqdPs]; exact ⟨_,ReadsAll.nil⟩
 | _,_,_,n,.cons h r,o,.cons rv rs=>by
  simp [C9] at o;obtain ⟨as,q⟩:=Rp.lG I n h o.1 rv;obtain ⟨bs,p⟩:=Rps.lG I n r o.2 rs;rw [eR,kqdPs];exact ⟨_,ReadsAll.cons q p⟩
end
end
open PySem.W in
def Pf (d e:D):Bool:=PyData.eqv (kqdP (fT d)) (kqdP (fT e))
def Na (d e:D):Px D:=if okL 9 d=true/\okL 9 e=true then some (.bl (Pf d e)) else none
section
open PySem.W
variable {X:Cx}
theorem wA (ok:okL 9 d=true):SeqAt.shaped (kqdP (fT d))=true:=by
 obtain ⟨l1,l2,_⟩:=rO 9 d ok;unfold SeqAt.shaped;rw [l1,Bool.true_and];exact Zo (Z6 l2 (by decide))
theorem Kr (hu:X.A.units+64 < cLine):OpR X (compareOp .Eq) (rdR X.K Na):=by
 intro Pn s σ H x y v u Q I rx ry h;obtain ⟨Hs,dx,dy,d,sm,px,py,e,k⟩:=h;unfold Na at e;split at e
 ·rename_i hd
  cases e;obtain ⟨as,ra⟩:=(px.same sm).lG I 9 hd.1 rx;obtain ⟨bs,rb⟩:=(py.same sm).lG I 9 hd.2 ry;exact eq_dataH ra rb (wA hd.1) (wA hd.2) hu ⟨.bl _,H,I,rfl,k _ Hs H (.refl sm) (.bl _)⟩
 · cases e
end
def Ac (it:DE) (g:DGm) (b:DSm):DSm:=λ τ=>(it (bf τ)).bind λ d=>match d with
 | .lst ds=>if ds.all sca=true then forM (λ d τ=>(g d τ).bind b) ds τ else none
 | _=>none
abbrev Fn0 (K:PB) (x:Str) (st:Stmt) (f:Pz):Prop:=∃ (od an:Px Pz) (sl:Array (Px Py)) (oc kV dc pm cd ct:Py),PySem.W.nsIn K mainGlobals x=some (some (.ref f))/\K.lookup f=some ⟨oc,od,.func (PySem.W.fnOf x x (dv st) (bP st) (aD st) .none kV dc pm an cd ct),sl⟩/\PySem.W.codeIn K cd x=true/\W.keepIn K (.ref f)=true
theorem Fn0.mk {K:PB} {x:Str} {st:Stmt} {f:Pz} {h:Heap} {mg:Str->Px Py} {ps:My Str} (e:Fn0 K x st f) (X:K.In h) (G:h.Ns mainGlobals mg) (hb:∀ (kV doc pm:Py) (an:Px Pz) (cdv ct:Py) (us:My Py),us.length=ps.length->bindArgs (PySem.W.fnOf x x (dv st) (bP st) (aD st) .none kV doc pm an cdv ct) ⟨us,[]⟩=pure (ps.zip us)):∃ fd,Fun K x x st f fd/\mg x=some (.ref f)/\Binds K fd ps []:=by
 obtain ⟨od,an,sl,oc,kV,dc,pm,cd,ct,a,l,c,k⟩:=e;exact ⟨_,l5 (st:=st) l c k,PySem.W.mg_of X G a,(l5 (st:=st) l c k).binds hb⟩
theorem GV {as:My Pz} {h:Heap}:∀ {K:PB},as=K.map (·.1)->as.map h.get?=K.map (λ p=>some p.2)->∀ p ∈ K,h.get? p.1=some p.2:=by
 intro K e q;subst e;rw [Zy] at q;intro p hp;exact List.map_inj_left.mp q p hp
theorem BI:∀ {K:PB},List.lookup a K=some o->(a,o) ∈ K
 | [],h=>by cases h
 | (b,u)::K,h=>by
  rw [List.lookup_cons] at h
  cases q:a == b with
  | true=>
   rw [q] at h;have e1:a=b:=eq_of_beq q;have e2:u=o:=Zj h;subst e1 e2;exact Zd ..
  | false=>
   rw [q] at h;exact Za _ (BI h)
theorem zT {q:Program} {loose:My Str} {XP:(Str->Px Py)->Heap->Prop} {as:My Pz} {K:PF->PB} {n t:Nat} {r:PySem.W.RowW} {d:PySem.DefRec} {kwd:My (Str×Expr)} {run:Py->My Py->Sem Py}
  (e:∀ P,as=(K P).map (·.1)) (h:PySem.W.WalkO q loose XP (PySem.W.InK K) r d kwd run):PySem.W.WalkX q loose XP (PySem.W.X.obsZ as) (PySem.W.X.valZ K n t) r d kwd run:=by
 intro w s₀ s₁ mg mb G y a o pm cd doc dV kV ho hd hcd hD hmg hg args vals bs L hpre hlay hrd hwl hlo;have y1:as.map s₀.heap.get?=(K w.params).map (λ p=>some p.2):=Yo Prod.fst y;have KX:(K w.params).In s₁.heap:=λ b o' e'=>L.keeps b o' (GV (e w.params) y1 (b,o') (BI e'))
 exact h w s₀ s₁ mg mb G KX a o pm cd doc dV kV ho hd hcd hD hmg hg args vals bs hpre hlay hrd hwl hlo
end L2
end
local macro_rules | `(tactic| walk_at "n")=>`(tactic| first | exact L2.pT _ | rfl)
section
namespace L2
open PySem PySem.Spec PyProof.Rows
abbrev Dc (x:Str):Prop:=(x == ("__classdict__":Str))=false
abbrev Fs (X:Cx) (i:Expr):Prop:=∀ x,foldedSetIterable i X.env x=pure x
abbrev Xl (X:Cx) (x:Str):Prop:=X.fn x=true\/X.env.scope.names.lookup x=some .local
abbrev Sw (X:Cx) (e:Expr) (x:Str) (p pos:Pos):Prop:=swapsWith e (some (.Name x p)) pos.line X.env=pure false
def Df (K:PB) (mg:Str->Px Py) (x:Str) (st:Stmt) (ps:My Str):Prop:=∃ a d,Fun K x x st a d/\mg x=some (.ref a)/\Binds K d ps []
def Mf (K:PB) (C:Pz) (x q:Str) (st:Stmt) (ps:My Str):Prop:=∃ a d,Fun K x q st a d/\B7 K C x a/\Binds K d ps []
def If (K:PB) (C:Pz) (q:Str) (st:Stmt) (ps:My Str):Prop:=∃ a d,Fun K "__init__" q st a d/\Mk K C a/\Binds K d ps []
structure Go (P:Program) (w:World) (K:W.Frag) (mg:Str->Option Value) (base:Heap) (k:Nat) (x:Str) (sp:Sp):Prop where
 go:∃ f fd ps,mg x=some (.ref f)/\W.keepIn K (.ref f)=true/\Binds K fd ps []/\gO P w K mg base CX0 k f fd ps sp
structure GoM (P:Program) (w:World) (K:W.Frag) (mg:Str->Option Value) (base:Heap) (k:Nat) (C:Addr) (x:Str) (sp:Sp):Prop where
 go:∃ f fd ps,B7 K C x f/\Binds K fd ps []/\gO P w K mg base CX0 k f fd ps sp
structure GoI (P:Program) (w:World) (K:W.Frag) (mg:Str->Option Value) (base:Heap) (k:Nat) (C:Addr) (sp:Sp):Prop where
 go:∃ f fd ps,Mk K C f/\Binds K fd ps []/\gO P w K mg base CX0 k f fd ps sp
theorem aa (i:Nat) (hN:X.N[i]?=some x:=by exact rfl) (hv:Vis X.env.scope x:=by walk_at "w") (hd:Dg x:=by decide) (hcd:Dc x:=by decide):Bx (PEd X (.Name x pos) (aI i)):=⟨(fU hN hv hd hcd).imp λ σ H Q w0=>g54 w0 λ H0 Hs τ fp d st sm e k=>by
 have e':τ[i]?=some (.shr d):=by
  unfold aI at e;split at e
  · rename_i d' q; rw [q]; simpa using e
  · cases e
 obtain ⟨v,h1,h2⟩:=st.get e'
 exact ⟨v,h1,k v Hs H (.refl sm) h2⟩⟩
def ae  : Bx (PEd X (.Constant (.int i) j pos) (dC (.int i))):=⟨iK xt λ _=>.int i⟩
def bC  : Bx (PEd X (.Constant (.bool i) j pos) (dC (.bl i))):=⟨iK rN λ _=>.bl i⟩
def iN  : Bx (PEd X (.Constant .none j pos) (dC .non)):=⟨iK GG λ _=>.non⟩
def cQ  : Bx (PEd X (.Constant (.str x) j pos) (dC (.str x))):=⟨iK Bz λ _=>.str x⟩
theorem mq (hm:X.mg x=none) (hg:Gl X x:=by rfl) (hv:bootBuiltins x=some (.type n):=by decide +kernel) (hn:x≠"__name__":=by decide) (hd:Dg x:=by decide):Bx (PEd X (.Name x pos) (dC (.ty n))):=⟨iK (v:=.ty n) (xw hg hm hv (rfl) hn hd) λ _=>.ty n⟩
theorem ji (ho:OpR X (binaryOp op) (rdR X.K o)) (ha:Bx (PEd X a f)) (hb:Bx (PEd X b g)):Bx (PEd X (.BinOp a op b pos) (dOp o f g)):=⟨have ha:=ha.out; have hb:=hb.out; (CU ho ha hb).imp λ σ H Q h=>m3 X.K h⟩
theorem EW (ho:UnR X (unaryOp op) (rdU X.K o)) (ha:Bx (PEd X a f)):Bx (PEd X (.UnaryOp op a pos) (dUn o f)):=⟨have ha:=ha.out; (Ka ho ha).imp λ σ H Q w0=>g54 w0 λ H0 Hs τ fp d st sm e k=>by
 obtain ⟨x,e1,e⟩:=Ub e
 exact ⟨H0,Hs,τ,fp,x,st,sm,e1,λ v Hs1 H1 g1 r1=>⟨Hs1,x,d,g1.sh,r1,e,λ w Hs3 H3 g3 r3=>k w Hs3 H3 (g1.trans g3) r3⟩⟩⟩
theorem k9 (ho:OpR X (compareOp op) (rdR X.K o)) (ha:Bx (PEd X a f)) (hb:Bx (PEd X b g)) (hm:behindInMarks op b=false:=by walk_at "n"):Bx (PEd X (.Compare a [op] [b] pos) (dOp o f g)):=⟨have ha:=ha.out; have hb:=hb.out; (xu ho ha hb hm).imp λ σ H Q h=>m3 X.K h⟩
theorem bT (ho:OpR X (compareOp op) (rdR X.K o)) (ha:Bx (PEd X a f)) (hb:Bx (PEd X b g)) (hm:behindInMarks op b=false:=by walk_at "n"):Bx (PTd X (.Compare a [op] [b] pos) (dT (dOp o f g))):=⟨have ha:=ha.out; have hb:=hb.out; (rH ho ha hb hm).imp λ σ H Q w0=>g54 w0 λ H0 Hs τ fp d st sm e k=>by
 obtain ⟨x,e1,e⟩:=Ub e;have hx:x=.bl d:=by cases x <;> simp at e <;> subst e <;> rfl
 subst hx;refine m3 X.K ⟨H0,Hs,τ,fp,_,st,sm,e1,λ v Hs' H' g r=>?_⟩;cases r
 exact ⟨d,rfl,k Hs' H' g⟩⟩
theorem nI (ho:OpR X (compareOp op) (rdR X.K o)) (ho':OpR X (compareOp op') (rdR X.K o')) (ha:Bx (PEd X a f)) (hb:Bx (PEd X b g)) (hc:Bx (PEd X c h)) (hm:lastMarks [op,op'] [b,c]=false:=by with_unfolding_all rfl):Bx (PEd X (.Compare a [op,op'] [b,c] pos) (sL (dOp o f g) (dOp o' g h))):=⟨have ha:=ha.out; have hb:=hb.out; have hc:=hc.out; (Ax ho ho' ha hb hc hm).imp λ σ H Q w0=>g54 w0 λ H0 Hs τ fp d st sm e k=>by
 obtain ⟨r,e0,e⟩:=Ub e;obtain ⟨x,e1,e0⟩:=Ub e0;obtain ⟨y,e2,e0⟩:=Ub e0;refine ⟨H0,Hs,τ,fp,x,st,sm,e1,λ v Hs1 H1 g1 r1=>?_⟩;refine ⟨H0,Hs1,τ,fp,y,st.ext g1,g1.sh,e2,λ u Hs2 H2 g2 r2=>?_⟩;refine ⟨Hs2,x,y,r,g2.sh,r1.same g2.ss,r2,e0,λ w Hs3 H3 g3 r3=>?_⟩
 cases r3 with
 | bl kb=>
  refine ⟨kb,rfl,?_⟩
  cases kb with
  | false=>
   rw [if_neg Zf];have e':D.bl false=d:=by simpa using e
   subst e';exact k _ Hs3 H3 ((g1.trans g2).trans g3) (.bl false)
  | true=>
   rw [if_pos rfl];obtain ⟨y',q1,q2⟩:=Ub (e);have ey:y'=y:=by rw [e2] at q1; exact (Zj q1).symm
   subst ey;obtain ⟨z,q3,q4⟩:=Ub q2;refine ⟨H0,Hs3,τ,fp,z,st.ext ((g1.trans g2).trans g3),g3.sh,q3,λ u' Hs4 H4 g4 r4=>?_⟩;exact ⟨Hs4,y',z,d,g4.sh,(r2.same g3.ss).same g4.ss,r4,q4,λ w' Hs5 H5 g5 r5=>k w' Hs5 H5 ((((g1.trans g2).trans g3).trans g4).trans g5) r5⟩
 | _=>exact nn e⟩
def cO  : Bx (PAd X [] cN):=⟨du.imp λ σ H Q w0=>g54 w0 λ H0 Hs τ fp d st sm e k=>by
 have e':=Zj e;subst e'
 exact k [] Hs H (.refl sm) .nil⟩
theorem az (ha:Bx (PEd X e f)) (hr:Bx (PAd X es g)) (hs:Se X e es:=by rfl):Bx (PAd X (e::es) (aF f g)):=⟨have ha:=ha.out; have hr:=hr.out; (a8 ha hr hs).imp λ σ H Q w0=>g54 w0 λ H0 Hs τ fp d st sm e k=>by
 obtain ⟨x,e1,e⟩:=Ub e;obtain ⟨xs,e2,e⟩:=Ub e;have e':=Zj e;subst e';refine ⟨H0,Hs,τ,fp,x,st,sm,e1,λ v Hs1 H1 g1 r1=>?_⟩
 exact ⟨H0,Hs1,τ,fp,xs,st.ext g1,g1.sh,e2,λ u Hs2 H2 g2 r2=>k _ Hs2 H2 (g1.trans g2) (.cons (r1.same g2.ss) r2)⟩⟩
theorem gD (h:Bx (PAd X es g)):Bx (PEd X (.Tuple es x1 pos) (zP g)):=⟨have h:=h.out; (xq h).imp λ σ H Q w0=>g54 w0 λ H0 Hs τ fp d st sm e k=>by
 obtain ⟨xs,e1,e⟩:=Ub e
 by_cases hl:xs.length<=100000
 ·rw [if_pos hl] at e
  have e':=Zj e;subst e';refine ⟨H0,Hs,τ,fp,xs,st,sm,e1,λ v Hs1 H1 g1 r1=>?_⟩;refine ⟨by rw [r1.length]; exact vk hl,λ p hp=>?_⟩;have g2:=Ext.new g1.sh hp (.tup v);exact k _ _ _ (g1.trans g2) (.tup (SqT.of ay) (r1.same g2.ss))
 · rw [if_neg hl] at e; cases e⟩
theorem bK (h:Bx (PAd X es g)):Bx (PEo X (.List es pos) (Fp g)):=⟨have h:=h.out; (xr h).imp λ σ H Q w0=>g54 w0 λ H0 Hs τ fp d st sm e k=>by
 obtain ⟨xs,e1,e⟩:=Ub e
 by_cases hl:xs.length<=100000
 ·rw [if_pos hl] at e
  have e':=Zj e;subst e';refine ⟨H0,Hs,τ,fp,xs,st,sm,e1,λ v Hs1 H1 g1 r1=>?_⟩;refine ⟨by rw [r1.length]; exact vk hl,λ p hp=>?_⟩;refine k p Hs1 _ ⟨g1.ss,g1.sh.trans (aC hp _),g1.hh.trans (aC hp _),g1.fr⟩ (.lst ay (g1.sh.free hp) r1) (g1.hh.free hp)
 · rw [if_neg hl] at e; cases e⟩
def bh (h:Bx (PEo X e f)):Bx (PEd X e f):=⟨PEo.shr h.out⟩
theorem bD (h:Bx (PEd X e f)) (he:∀ whole,isTrue e X.env whole=(do let v <- whole; standAt e.pos; holding [v] (truthy v)):=by intro _; rfl):Bx (PTd X e (dT f)):=⟨have h:=h.out; (tP h he).imp λ σ H Q w0=>g54 w0 λ H0 Hs τ fp d st sm e k=>by
 obtain ⟨x,e1,e⟩:=Ub e;have hx:x=.bl d:=by cases x <;> simp at e <;> subst e <;> rfl
 subst hx;refine ⟨H0,Hs,τ,fp,_,st,sm,e1,λ v Hs' H' g r=>?_⟩;cases r
 exact ⟨d,rfl,k Hs' H' g⟩⟩
theorem ba (h:Bx (PTd X e f)):Bx (PTd X (.UnaryOp .Not e pos) (A2 f)):=⟨have h:=h.out; (wY h).imp λ σ H Q w0=>g54 w0 λ H0 Hs τ fp d st sm e k=>by
 obtain ⟨x,e1,e⟩:=Zm e;subst e
 exact ⟨H0,Hs,τ,fp,x,st,sm,e1,λ Hs' H' g=>k Hs' H' g⟩⟩
def dI (h:Bx (PTd X a f)):Bx (PWd X (.BoolOp .And [a] pos) f):=⟨have h:=h.out; pw_and1 h⟩
def bg (h:Bx (PTd X a f)):Bx (PWd X (.BoolOp .Or [a] pos) f):=⟨have h:=h.out; pw_or1 h⟩
theorem eT (ha:Bx (PTd X a f)) (hb:Bx (PWd X (.BoolOp .And (b::es) pos) g)):Bx (PWd X (.BoolOp .And (a::b::es) pos) (B0 f g)):=⟨have ha:=ha.out; have hb:=hb.out; PW.imp (pw_and ha hb) λ σ H Q w0=>g54 w0 λ H0 Hs τ fp d st sm e k=>by
 obtain ⟨x,e1,e⟩:=Ub e;refine ⟨H0,Hs,τ,fp,x,st,sm,e1,λ Hs' H' g1=>?_⟩
 cases x with
 | true=>exact ⟨H0,Hs',τ,fp,d,st.ext g1,g1.sh,e,λ Hs2 H2 g2=>k Hs2 H2 (g1.trans g2)⟩
 | false=>
  have e':false=d:=by simpa using e
  subst e'
  exact k Hs' H' g1⟩
theorem br (ha:Bx (PTd X a f)) (hb:Bx (PWd X (.BoolOp .Or (b::es) pos) g)):Bx (PWd X (.BoolOp .Or (a::b::es) pos) (dOr f g)):=⟨have ha:=ha.out; have hb:=hb.out; PW.imp (pw_or ha hb) λ σ H Q w0=>g54 w0 λ H0 Hs τ fp d st sm e k=>by
 obtain ⟨x,e1,e⟩:=Ub e;refine ⟨H0,Hs,τ,fp,x,st,sm,e1,λ Hs' H' g1=>?_⟩
 cases x with
 | false=>exact ⟨H0,Hs',τ,fp,d,st.ext g1,g1.sh,e,λ Hs2 H2 g2=>k Hs2 H2 (g1.trans g2)⟩
 | true=>
  have e':true=d:=by simpa using e
  subst e'
  exact k Hs' H' g1⟩
def aU (h:Bx (PWd X e f)):Bx (PTd X e f):=⟨PWd.ptd h.out⟩
def iM (h:Bx (PEd X a f)):Bx (PEd X (.BoolOp op [a] pos) f):=⟨have h:=h.out; BA h⟩
theorem jN (ha:Bx (PEd X a f)) (hb:Bx (PEd X (.BoolOp .And (b::es) pos) g)):Bx (PEd X (.BoolOp .And (a::b::es) pos) (sL f g)):=⟨have ha:=ha.out; have hb:=hb.out; (BC ha hb).imp λ σ H Q w0=>g54 w0 λ H0 Hs τ fp d st sm e k=>by
 obtain ⟨x,e1,e⟩:=Ub e;refine ⟨H0,Hs,τ,fp,x,st,sm,e1,λ v Hs' H' g1 r=>?_⟩
 cases r with
 | bl kb=>
  refine ⟨kb,rfl,?_⟩
  cases kb with
  | true=>exact ⟨H0,Hs',τ,fp,d,st.ext g1,g1.sh,e,λ v Hs2 H2 g2 r=>k v Hs2 H2 (g1.trans g2) r⟩
  | false=>
   have e':D.bl false=d:=by simpa using e
   subst e';exact k _ Hs' H' g1 (.bl false)
 | _=>exact nn e⟩
theorem EY (ha:Bx (PEd X a f)) (hb:Bx (PEd X (.BoolOp .Or (b::es) pos) g)):Bx (PEd X (.BoolOp .Or (a::b::es) pos) (Ia f g)):=⟨have ha:=ha.out; have hb:=hb.out; (Kb ha hb).imp λ σ H Q w0=>g54 w0 λ H0 Hs τ fp d st sm e k=>by
 obtain ⟨x,e1,e⟩:=Ub e;refine ⟨H0,Hs,τ,fp,x,st,sm,e1,λ v Hs' H' g1 r=>?_⟩
 cases r with
 | bl kb=>
  refine ⟨kb,rfl,?_⟩
  cases kb with
  | false=>exact ⟨H0,Hs',τ,fp,d,st.ext g1,g1.sh,e,λ v Hs2 H2 g2 r=>k v Hs2 H2 (g1.trans g2) r⟩
  | true=>
   have e':D.bl true=d:=by simpa using e
   subst e';exact k _ Hs' H' g1 (.bl true)
 | _=>exact nn e⟩
theorem A9 (ha:Bx (PEd X a f)):Bx (PEd X (.UnaryOp .Not a pos) (MG f)):=⟨have ha:=ha.out; (GF ha).imp λ σ H Q w0=>g54 w0 λ H0 Hs τ fp d st sm e k=>by
 obtain ⟨x,e1,e⟩:=Ub e;refine ⟨H0,Hs,τ,fp,x,st,sm,e1,λ v Hs' H' g1 r=>?_⟩
 cases r with
 | bl kb=>
  have e':D.bl (!kb)=d:=by simpa using e
  subst e';exact ⟨kb,rfl,k _ Hs' H' g1 (.bl _)⟩
 | _=>exact nn e⟩
theorem cG (ha:Bx (PEd X a f)) (hb:Bx (PEd X b g)) (hs:zL b:=by exact λ _ _=>rfl):Bx (PEd X (.Subscript a b pos) (dOp oIx f g)):=⟨have ha:=ha.out; have hb:=hb.out; (Kc ixd ha hb hs).imp λ σ H Q h=>m3 X.K h⟩
def j7  : Bx (POd X none N2):=⟨CN.imp λ σ H Q w0=>g54 w0 λ H0 Hs τ fp d st sm e k=>by
 have e':=Zj e;subst e'
 exact k Hs H (.refl sm)⟩
theorem f6 (h:Bx (PEd X e f)):Bx (POd X (some e) (dP f)):=⟨have h:=h.out; (CM h).imp λ σ H Q w0=>g54 w0 λ H0 Hs τ fp d st sm e k=>by
 obtain ⟨x,e1,e⟩:=Ub e;refine ⟨H0,Hs,τ,fp,x,st,sm,e1,λ v Hs' H' g r=>?_⟩
 cases r with
 | int i=>
  have e':=Zj e;subst e';exact ⟨i,rfl,k Hs' H' g⟩
 | _=>exact nn e⟩
section
variable {X:Cx} {a b c e:Expr} {es:My Expr} {pos:Pos} {f g h:DE}
theorem EU {lo hi:Px Expr} {p2:Pos} {l u:DO} (ha:Bx (PEd X a f)) (hl:Bx (POd X lo l)) (hh:Bx (POd X hi u)):Bx (PEo X (.Subscript a (.Slice lo hi none p2) pos) (dSl f l u)):=⟨have ha:=ha.out; have hl:=hl.out; have hh:=hh.out; (tT Cp ha hl hh).imp λ σ H Q w0=>g54 w0 λ H0 Hs τ fp d st sm e k=>by
 obtain ⟨x,e1,e⟩:=Ub e;obtain ⟨l',e2,e⟩:=Ub e;obtain ⟨u',e3,e⟩:=Ub e;refine ⟨H0,Hs,τ,fp,x,st,sm,e1,λ v Hs1 H1 g1 r1=>?_⟩;refine ⟨H0,Hs1,τ,fp,l',st.ext g1,g1.sh,e2,λ Hs2 H2 g2=>?_⟩;refine ⟨H0,Hs2,τ,fp,u',(st.ext g1).ext g2,g2.sh,e3,λ Hs3 H3 g3=>?_⟩;have g13:=(g1.trans g2).trans g3;have r3:=(r1.same g2.ss).same g3.ss
 have fin:∀ (p:Pz) (ys:My V) (ds:My D),H3 p=none->Rps X.K Hs3 ys ds->d=.lst ds->Q (.ref p) (upd H3 p (.lst ys)):=λ p ys ds hp r ed=>by
  subst ed;exact k p Hs3 _ ⟨g13.ss,g13.sh.trans (aC hp _),g13.hh.trans (aC hp _),g13.fr⟩ (.lst ay (g13.sh.free hp) r) (g13.hh.free hp)
 cases r3 with
 | @lst a xs ds h r=>
  have e':=Zj e;exact ⟨a,xs,rfl,SqL.of (g3.sh _ _ h),λ p hp=>fin p _ _ hp (ze l' u' r) e'.symm⟩
 | @fz a xs ds h r=>
  have e':D.lst (cutD ds l' u')=d:=Zj e;exact ⟨a,xs,rfl,g3.sh.seq h,λ p hp=>fin p _ _ hp (ze l' u' r) e'.symm⟩
 | _=>exact nn e⟩
theorem aE {x:Str} {id:String} {p:Pos} {o:My D->Px D} {g:DA} (hc:fw X (.builtin id) (rdL X.K o)) (hm:X.mg x=none) (ha:Bx (PAd X (e::es) g)) (hg:Gl X x:=by rfl) (hv:bootBuiltins x=some (.builtin id):=by decide +kernel) (hn:x≠"__name__":=by decide) (hdb:Dg x:=by decide) (he:Se X e es:=by rfl) (hpl:Sb X pos es:=by rfl):Bx (PEd X (.Call (.Name x p) (e::es) [] pos) (kX o g)):=⟨have ha:=ha.out; (k6 hc hg hm hv ha hn hdb he hpl).imp λ σ H Q h=>call_of X.K h⟩
end
theorem sU (hc:fw X (.type T) (rdL X.K o)) (hm:X.mg x=none) (ha:Bx (PAd X (e::es) g)) (hg:Gl X x:=by rfl) (hv:bootBuiltins x=some (.type T):=by decide +kernel) (hn:x≠"__name__":=by decide) (hdb:Dg x:=by decide) (he:Se X e es:=by rfl) (hpl:Sb X pos es:=by rfl):Bx (PEd X (.Call (.Name x p) (e::es) [] pos) (kX o g)):=⟨have ha:=ha.out; (lK hc hg hm hv ha hn hdb he hpl).imp λ σ H Q h=>call_of X.K h⟩
theorem zy (hm:X.mg x=none) (ha:Bx (PAd X (e::es) g)) (hg:Gl X x:=by rfl) (hv:bootBuiltins x=some (.type "list"):=by decide +kernel) (hn:x≠"__name__":=by decide) (hdb:Dg x:=by decide) (he:Se X e es:=by rfl) (hpl:Sb X pos es:=by rfl):Bx (PEo X (.Call (.Name x p) (e::es) [] pos) (kX Di g)):=⟨have ha:=ha.out; (lK qC hg hm hv ha hn hdb he hpl).imp λ σ H Q w0=>g54 w0 λ H0 Hs τ fp d st sm e k=>by
 obtain ⟨xs,e1,e⟩:=Ub e;refine ⟨H0,Hs,τ,fp,xs,st,sm,e1,λ v Hs1 H1 g1 r1=>?_⟩
 have fin:∀ (p:Pz) (ys:My V) (ds:My D),H1 p=none->Rps X.K Hs1 ys ds->d=.lst ds->Q (.ref p) (upd H1 p (.lst ys)):=λ p ys ds hp r ed=>by
  subst ed;exact k p Hs1 _ ⟨g1.ss,g1.sh.trans (aC hp _),g1.hh.trans (aC hp _),g1.fr⟩ (.lst ay (g1.sh.free hp) r) (g1.hh.free hp)
 match xs,r1,e with
 | [x],.cons hx .nil,e=>
  cases hx with
  | @tup a ys ds h r=>exact ⟨_,_,rfl,.inr (g1.sh.tup h),λ l hl=>fin l ys ds hl r (Zj e).symm⟩
  | @lst a ys ds h r=>exact ⟨_,_,rfl,.inl (SqL.of (g1.sh _ _ h)),λ l hl=>fin l ys ds hl r (Zj e).symm⟩
  | @fz a ys ds h r=>exact ⟨_,_,rfl,.inl (g1.sh.seq h),λ l hl=>fin l ys ds hl r (Zj e).symm⟩
  | _=>exact nn e
 | [],_,e=>simp [Di] at e
 | _::_::_,_,e=>simp [Di] at e⟩
theorem zv (i:Nat) (h:Bx (PTd X e f)):Bx (PTd X e (F7 i f)):=⟨have h:=h.out; PT.imp h λ σ H Q w0=>g54 w0 λ H0 Hs τ fp d st sm e k=>by
 unfold F7 at e;split at e
 ·rename_i d0 q
  obtain ⟨a,o,fp',h1,h2,h3,h4,h5,h6,h7,h8⟩:=st.frz q;exact ⟨H0,upd Hs a o,_,fp',d,h4,sm.frz h1,e,λ Hs' H' g=>k (yv a Hs') H' (g.JM h2 h1)⟩
 · exact ⟨H0,Hs,τ,fp,d,st,sm,e,k⟩⟩
def aN  : Bx (zM X [] kR):=⟨gX.imp λ E σ H w0=>g53 w0 λ Hs0 H0 Hs τ o r e k=>by
 have e':=Zj e;subst e'
 exact k σ Hs H r⟩
section
variable {X:Cx} {a b c e:Expr} {es:My Expr} {pos:Pos} {st:Stmt} {rest:My Stmt} {f g:DS}
def av (h:Bx (PSd X st f)):Bx (zM X [st] f):=⟨have h:=h.out; cR h⟩
theorem ao (h1:Bx (PSd X st f)) (h2:Bx (zM X rest g)):Bx (zM X (st::rest) (lD f g)):=⟨have h1:=h1.out; have h2:=h2.out; (dm h1 h2).imp λ E σ H w0=>g53 w0 λ Hs0 H0 Hs τ o r e k=>by
 unfold lD at e
 cases q:f τ with
 | none=>rw [q] at e; cases e
 | some o1=>
  rw [q] at e;refine ⟨Hs0,H0,Hs,τ,o1,r,q,?_⟩
  cases o1 with
  | next τ'=>exact λ σ' Hs' H' r'=>⟨Hs0,H0,Hs',τ',o,r',e,k⟩
  | ret s=>cases e; exact k
  | brk τ'=>cases e; exact k
  | cnt τ'=>cases e; exact k⟩
def eX  : Bx (PSd X st Gk):=⟨λ _ _ _ _ _ _ ⟨_,_,_,_,_,_,e,_⟩=>by cases e⟩
end
theorem bc (hc:Bx (PTd X c t)) (ha:Bx (zM X x f)) (hb:Bx (zM X y g)):Bx (PSd X (.If c x y pos) (sIf t f g)):=⟨have hc:=hc.out; have ha:=ha.out; have hb:=hb.out; (mK hc ha hb).imp λ E σ H w0=>g53 w0 λ Hs0 H0 Hs τ o r e k=>by
 obtain ⟨bb,e1,e2⟩:=Ub e;obtain ⟨fp,h⟩:=r.st;refine ⟨H0,Hs,τ,fp,bb,h,r.same,e1,λ Hs' H' g1=>?_⟩
 cases bb with
 | true=>exact ⟨Hs0,H0,Hs',τ,o,r.ext' g1,by simpa using e2,k⟩
 | false=>exact ⟨Hs0,H0,Hs',τ,o,r.ext' g1,by simpa using e2,k⟩⟩
theorem aJ (h:Bx (PEd X e f)):Bx (PSd X (.Return (some e) pos) (zO f)):=⟨have h:=h.out; (iR h).imp λ E σ H w0=>g53 w0 λ Hs0 H0 Hs τ o r e k=>by
 obtain ⟨d,e1,rfl⟩:=Zm e;obtain ⟨fp,h⟩:=r.st
 exact ⟨H0,Hs,τ,fp,d,h,r.same,e1,λ v Hs' H' g1 rv=>k v Hs' H' (r.ext.trans g1) rv⟩⟩
theorem vO (h:Bx (PEo X e f)):Bx (PSd X (.Return (some e) pos) (Ct f)):=⟨have h:=h.out; (iR h).imp λ E σ H w0=>g53 w0 λ Hs0 H0 Hs τ o r e k=>by
 obtain ⟨d,e1,rfl⟩:=Zm e;obtain ⟨fp,h⟩:=r.st
 exact ⟨H0,Hs,τ,fp,d,h,r.same,e1,λ v Hs' H' g1 rv z=>k _ Hs' H' (r.ext.trans g1) ⟨v,rfl,rv,r.old z⟩⟩⟩
theorem j6 (i:Nat) (hN:X.N[i]?=some x:=by exact rfl) (hv:Vis X.env.scope x:=by walk_at "w") (hd:Dg x:=by decide) (hcd:Dc x:=by decide):Bx (PSd X (.Return (some (.Name x p)) pos) (z9 i)):=⟨(iR (fU hN hv hd hcd)).imp λ E σ H w0=>g53 w0 λ Hs0 H0 Hs τ o r e k=>by
 obtain ⟨fp,h⟩:=r.st;unfold z9 at e;split at e
 ·rename_i d q
  cases e;obtain ⟨a,h1,h2,h3,h4⟩:=h.Em q;exact ⟨_,h1,k _ Hs H r.ext ⟨a,rfl,h2,h3⟩⟩
 ·rename_i d q
  cases e;obtain ⟨v,h1,h2⟩:=h.get q;exact ⟨_,h1,k _ Hs H r.ext h2⟩
 · cases e⟩
theorem zx (i:Nat) (hN:X.N.Nodup) (hi:X.N[i]?=some x:=by exact rfl) (he:Bx (PEd X e f)) (hx:Loc X.env.scope x:=by walk_at "v") (hs:Sw X e x pos' pos:=by rfl) (hf:Xl X x:=by walk_at "v"):Bx (PSd X (.Assign [.Name x pos'] e pos) (vY i f)):=⟨have he:=he.out; (pL hN hi hx he hs hf).imp λ E σ H w0=>g53 w0 λ Hs0 H0 Hs τ o r e k=>by
 obtain ⟨d,e1,rfl⟩:=Zm e;obtain ⟨fp,h⟩:=r.st;refine ⟨H0,Hs,τ,fp,d,h,r.same,e1,λ v Hs' H' g1 rv=>?_⟩;obtain ⟨fp',_,h'⟩:=(h.ext g1).zN rv
 exact k _ Hs' H' ⟨r.ext.trans g1,fp',h'⟩⟩
theorem fZ (i:Nat) (hN:X.N.Nodup) (hi:X.N[i]?=some x:=by exact rfl) (he:Bx (PEo X e f)) (hx:Loc X.env.scope x:=by walk_at "v") (hs:Sw X e x pos' pos:=by rfl) (hf:Xl X x:=by walk_at "v"):Bx (PSd X (.Assign [.Name x pos'] e pos) (z8 i f)):=⟨have he:=he.out; (pL hN hi hx he hs hf).imp λ E σ H w0=>g53 w0 λ Hs0 H0 Hs τ o r e k=>by
 unfold z8 at e;split at e
 ·rename_i hl
  obtain ⟨d,e1,rfl⟩:=Zm e;obtain ⟨fp,h⟩:=r.st;refine ⟨H0,Hs,τ,fp,d,h,r.same,e1,λ v Hs' H' g1 rv z=>?_⟩;obtain ⟨fp',_,h'⟩:=(h.ext g1).Oi rv (r.old z) (xB h z) hl;exact k _ Hs' H' ⟨r.ext.trans g1,fp',h'⟩
 · cases e⟩
theorem bQ (he:Bx (PEd X e f)) (hs:swapsWith e none pos.line X.env=pure false:=by rfl):Bx (PSd X (.Expr e pos) (Ad f)):=⟨have he:=he.out; (dS he hs).imp λ E σ H w0=>g53 w0 λ Hs0 H0 Hs τ o r e k=>by
 obtain ⟨d,e1,rfl⟩:=Zm e;obtain ⟨fp,h⟩:=r.st
 exact ⟨H0,Hs,τ,fp,d,h,r.same,e1,λ v Hs' H' g1 rv=>k _ Hs' H' (r.ext' g1)⟩⟩
theorem mj (i:Nat) (hN:X.N[i]?=some x:=by exact rfl) (he:Bx (PEd X e f)) (hv:Vis X.env.scope x:=by walk_at "w") (hd:Dg x:=by decide) (hcd:Dc x:=by decide) (Pu:Ue X (.Name x p) "append":=by rfl) (Pq:Uf X e Pp:=by rfl) (Pr:Ug Po Pp:=by rfl) (hst:Se X e []:=by rfl) (Pt:Sb X Pp []:=by rfl) (hs:swapsWith (.Call (.Attribute (.Name x p) "append" Po) [e] [] Pp) none pos.line X.env=pure false:=by rfl):Bx (PSd X (.Expr (.Call (.Attribute (.Name x p) "append" Po) [e] [] Pp) pos) (Cw i f)):=⟨have he:=he.out; (dS (xv Yy PySem.F.slot_list_append PySem.F.type_list_append xU (fU hN hv hd hcd) (a8 he du hst) Pu Pq Pr hst Pt) hs).imp λ E σ H w0=>g53 w0 λ Hs0 H0 Hs τ o r e k=>by
 obtain ⟨d,e1,e2⟩:=Ub e;obtain ⟨fp,h⟩:=r.st;split at e2
 ·rename_i ds q
  split at e2
  ·rename_i hl
   cases e2;obtain ⟨a,h1,h2,h3,h4⟩:=h.Em q
   cases h2 with
   | @lst xs _ hH hn hr=>
    refine ⟨_,h1,.inl ⟨rfl,_,SqL.of hH⟩,?_⟩;refine ⟨H0,Hs,τ,fp,d,h,r.same,e1,λ v Hs' H' g1 rv=>?_⟩;have hH':=g1.hh _ _ hH;have h':=h.ext g1;have n':=g1.fr a hn (iY hH);refine ⟨a,xs,v,rfl,rfl,hH',by rw [hr.length]; exact le5 (Xa hl),?_⟩;refine k σ Hs' _ ⟨⟨r.ext.ss.trans g1.ss,λ b u z=>?_,λ b u z=>?_,λ b k1 k2=>?_⟩,fp,h'.mut q h1 (.lst ay n' ((hr.same g1.ss).append (.cons rv .nil)))⟩
    ·have ne:b≠a:=λ y=>by subst y; rw [n'] at z; cases z
     rw [au ne]; exact g1.sh b u z
    ·have ne:b≠a:=λ y=>by subst y; rw [h3] at z; cases z
     rw [au ne]; exact g1.hh b u (r.ext.hh b u z)
    · exact g1.fr b (r.ext.fr b k1 k2) (r.ext.hh.live k2)
  · cases e2
 · cases e2⟩
theorem iu (h:Bx (PEd X l f)):Bx (PId X tg l (JA f)):=⟨have h:=h.out; (rL h).imp λ σ H R w0=>g54 w0 λ H0 Hs τ fp ds st sm e k=>by
 obtain ⟨x,e1,e2⟩:=Ub e;refine ⟨H0,Hs,τ,fp,x,st,sm,e1,λ v Hs' H' g r=>?_⟩
 cases r with
 | @lst a xs ds' h r=>
  have e':=Zj e2;subst e';exact ⟨a,rfl,⟨xs,SqL.of (g.sh _ _ h)⟩,k _ Hs' H' g (oy (SqL.of h) r)⟩
 | @fz a xs ds' h r=>
  have e':ds'=ds:=Zj e2;subst e';exact ⟨a,rfl,⟨xs,g.sh.seq h⟩,k _ Hs' H' g (oy h r)⟩
 | _=>exact nn e2⟩
theorem cV (hm:X.mg "range"=none) (ha:Bx (PAd X [a] f)) (hg:Gl X "range":=by rfl) (hs:starEach [a] X.env=[(false,eval a X.env)]:=by rfl):Bx (PId X tg (.Call (.Name "range" p) [a] [] pos) (uf f)):=⟨have ha:=ha.out; (xj hg hm ha hs).imp λ σ H R w0=>g54 w0 λ H0 Hs τ fp ds st sm e k=>by
 obtain ⟨x,e1,e2⟩:=Ub e;refine ⟨H0,Hs,τ,fp,x,st,sm,e1,λ v Hs' H' g r=>?_⟩
 match x,r,e2 with
 | [y],.cons hy .nil,e2=>
  cases hy with
  | int j=>
   simp only at e2;split at e2
   ·rename_i hj
    have e':=Zj e2;subst e';exact ⟨j,rfl,hj.1,hj.2,k _ Hs' H' g (qe _ _)⟩
   · cases e2
  | _=>exact nn e2
 | [],_,e2=>simp at e2
 | _::_::_,_,e2=>simp at e2⟩
theorem nG (i:Nat) (hN:X.N.Nodup) (hi:X.N[i]?=some x:=by exact rfl) (hx:Loc X.env.scope x:=by walk_at "v") (hf:Xl X x:=by walk_at "v"):Bx (PGd X (.Name x pos) (gN i)):=⟨(jb hN hi hx hf).imp λ v σ H Q w0=>g64 w0 λ Hs0 H0 Hs τ τ' d r rv e k=>by
 have e':=Zj e;subst e';obtain ⟨fp,h⟩:=r.st;obtain ⟨fp',_,h'⟩:=h.zN rv
 exact k _ ⟨r.ext,fp',h'⟩⟩
theorem qD (hi:Bx (PId X tg iter it)) (hg:Bx (PGd X tg g)) (hb:Bx (zM X body b)) (hp:PassesOwn (model X.prog X.w) X.A X.env X.xe:=by exact .never) (hc:X.calm=true:=by rfl) (hs:Fs X iter:=by intro _; rfl):Bx (PSd X (.For tg iter body [] pos) (Iq it g b)):=⟨have hi:=hi.out; have hg:=hg.out; have hb:=hb.out; (m7 hp hc hi hg hb hs).imp λ E σ H w0=>g53 w0 λ Hs0 H0 Hs τ o r e k=>by
 obtain ⟨ds,e1,e2⟩:=Ub e;obtain ⟨fp,hst⟩:=r.st;refine ⟨H0,Hs,τ,fp,ds,hst,r.same,e1,λ J Hs1 H1 g1 hJ=>?_⟩;have r1:=r.ext' g1;have kk:=k.rebase r1.ext;refine ⟨λ i m σ H=>m=ds.length - i/\i<=ds.length/\∃ Hs2 τ2,Rep X.K Hs1 H0 Hs2 H σ τ2/\v7 (λ d τ=>(g d τ).bind b) (ds.drop i) τ2=some o,⟨ds.length,by simp,Z8 _,Hs1,τ,r1.rebase,by simpa using e2⟩,?_⟩
 rintro i m σ2 H2 ⟨rfl,hi,Hs2,τ2,r2,e3⟩
 obtain ⟨hgo,hstop⟩:=hJ Hs2 H2 r2.ext.ss r2.same
 by_cases hlt:i < ds.length
 ·have ed:=Yg hlt
  rw [ed] at e3;obtain ⟨go,yl⟩:=hgo i ds[i] (List.getElem?_eq_getElem hlt);refine .inr ⟨go,λ σ' H'=>∃ Hs' τ',Rep X.K Hs1 H0 Hs' H' σ' τ'/\v7 (λ d τ=>(g d τ).bind b) (ds.drop (i+1)) τ'=some o,?_,?_⟩
  ·rintro σ' H' ⟨Hs',τ',r',e'⟩
   exact ⟨ds.length - (i+1),by omega,rfl,hlt,Hs',τ',r',e'⟩
  ·intro x H' y
   obtain ⟨Hs3,g3,rx⟩:=yl x H' y;have r3:=r2.ext' g3;unfold v7 at e3
   cases q:(g ds[i] τ2).bind b with
   | none=>simp only [q] at e3; cases e3
   | some o1=>
    simp only [q] at e3;obtain ⟨τ3,q1,q2⟩:=Ub q;refine ⟨Hs1,H0,Hs3,τ2,τ3,ds[i],r3,rx,q1,λ σ' r'=>?_⟩;refine ⟨Hs1,H0,Hs3,τ3,o1,r',q2,?_⟩
    cases o1 with
    | next τ'=>exact λ σ4 Hs4 H4 r4=>⟨Hs4,τ',r4,e3⟩
    | cnt τ'=>exact λ σ4 Hs4 H4 r4=>⟨Hs4,τ',r4,e3⟩
    | brk τ'=>cases e3; exact kk
    | ret s=>cases e3; exact kk
 ·have e0:i=ds.length:=by omega
  subst e0;rw [Y1] at e3;have e':Out.next τ2=o:=by simpa [v7] using e3
  subst e'
  exact .inl ⟨hstop _ (Zn _),kk σ2 Hs2 H2 r2⟩⟩
theorem gC (hc:Bx (PTd X c t)) (hb:Bx (zM X body b)) (hp:PassesOwn (model X.prog X.w) X.A X.env X.xe:=by exact .never):Bx (PSd X (.While c body [] pos) (pF t b)):=⟨have hc:=hc.out; have hb:=hb.out; (Aj hp hc hb).imp λ E σ H w0=>g53 w0 λ Hs0 H0 Hs τ o r e k=>by
 obtain ⟨n,e⟩:=wG e;refine ⟨λ m σ H=>∃ Hs2 τ2,Rep X.K Hs0 H0 Hs2 H σ τ2/\cE t b m τ2=some o,⟨n,Hs,τ,r,e⟩,?_⟩
 rintro m σ2 H2 ⟨Hs2,τ2,r2,e2⟩
 obtain ⟨fp,hst⟩:=r2.st
 cases m with
 | zero=>simp [cE] at e2
 | succ m=>
  unfold cE at e2
  cases q:t τ2 with
  | none=>rw [q] at e2; cases e2
  | some bb=>
   rw [q] at e2;refine ⟨H0,Hs2,τ2,fp,bb,hst,r2.same,q,λ Hs3 H3 g3=>?_⟩;have r3:=r2.ext' g3
   cases bb with
   | false=>
    have e':Out.next τ2=o:=by simpa using e2
    subst e';exact Eg (k σ2 Hs3 H3 r3)
   | true=>
    refine Ef ?_
    refine ⟨λ σ' H'=>∃ Hs' τ',Rep X.K Hs0 H0 Hs' H' σ' τ'/\cE t b m τ'=some o,?_,?_⟩
    ·rintro σ' H' ⟨Hs',τ',r',e'⟩
     exact ⟨m,by omega,Hs',τ',r',e'⟩
    ·cases q2:b τ2 with
     | none=>rw [q2] at e2; cases e2
     | some o1=>
      rw [q2] at e2;refine ⟨Hs0,H0,Hs3,τ2,o1,r3,q2,?_⟩
      cases o1 with
      | next τ'=>exact λ σ4 Hs4 H4 r4=>⟨Hs4,τ',r4,e2⟩
      | cnt τ'=>exact λ σ4 Hs4 H4 r4=>⟨Hs4,τ',r4,e2⟩
      | brk τ'=>cases e2; exact k
      | ret s=>cases e2; exact k⟩
theorem ai (Fo:Go X.prog X.w X.K X.mg X.base k x (spF F X.K)) (hr:dD jj X.A) (ha:Bx (PAd X (e::es) g)) (hj:k<=jj:=by decide) (hg:Gl X x:=by rfl) (hdb:Dg x:=by decide) (he:Se X e es:=by rfl) (hpl:Sb X pos es:=by rfl):Bx (PEd X (.Call (.Name x p) (e::es) [] pos) (dFn F g)):=by
 have ⟨f',fd',ps',hm,hk,hb,Fo⟩:=Fo.go;have hr:=hr.mono hj;exact ⟨C3 Fo hr hg hm hk hb ha.out hdb he hpl⟩
theorem jM (Fo:Go X.prog X.w X.K X.mg X.base k x (spF F X.K)) (hr:dD jj X.A) (ha:Bx (PAd X (e::es) g)) (hj:k<=jj:=by decide) (hg:Gl X x:=by rfl) (hdb:Dg x:=by decide) (he:Se X e es:=by rfl) (hpl:Sb X pos es:=by rfl):Bx (PEo X (.Call (.Name x p) (e::es) [] pos) (EK F g)):=by
 have ⟨f',fd',ps',hm,hk,hb,Fo⟩:=Fo.go;have hr:=hr.mono hj;exact ⟨CO Fo hr hg hm hk hb ha.out hdb he hpl⟩
theorem ip (O:dY X scope cl x cs) (hi:Bx (PId X (.Name x px) iter it)) (he:∀ s H fp C,Bx (PEd (cK X scope cl (x::cs.map (·.1)) s H fp C) elt g):=by intros; walk_at "g") (hc:X.calm=true:=by rfl) (hs:Fs X iter:=by intro _; rfl):Bx (PEo X (.ListComp elt [⟨.Name x px,iter,[],0⟩] scope pos) (A3 it g cs)):=⟨have hi:=hi.out; have he:=(λ s H fp C=>(he s H fp C).out); (CY (te:=rdE X.K g) hc O hi he hs).imp λ σ H Q h=>EN h⟩
theorem bL (c:Cls X.K C) (n:dX X.K C f) (he:Bx (PEd X e g)) (hb:Ue X e f:=by rfl):Bx (PEd X (.Attribute e f pos) (dUn (AE C f) g)):=⟨have he:=he.out; (BB he hb).imp λ σ H Q w0=>g54 w0 λ H0 Hs τ fp d st sm e k=>by
 obtain ⟨x,e1,e2⟩:=Ub e;refine ⟨H0,Hs,τ,fp,x,st,sm,e1,λ v Hs' H' g' r=>?_⟩
 cases r with
 | @obj a C' dx fs ds h r=>
  simp only [AE] at e2;split at e2
  ·rename_i hc
   subst hc;obtain ⟨v,h1,h2⟩:=r.look e2;exact ⟨a,C',dx,fs,v,rfl,g'.sh _ _ h,c,n,h1,k v Hs' H' g' h2⟩
  · cases e2
 | _=>exact nn e2⟩
theorem aL (c:Cls X.K C) (Fo:GoM X.prog X.w X.K X.mg X.base k C m (spF F X.K)) (hr:dD jj X.A) (he:Bx (PEd X o g)) (ha:Bx (PAd X (e::es) ga)) (hj:k<=jj:=by decide) (hst:Se X e es:=by rfl) (hpl:Sb X pos es:=by rfl) (ht:eval (.Call (.Attribute o m Po) (e::es) [] pos) X.env=(do
  let ov <- eval o X.env
  standAt Po.atName
  let (f,first) <- holding [ov] (getMethod ov m pl)
  callWith pos f first (backTo pos (starEach (e::es) X.env)) (backToKw pos (keywordEach [] X.env))):=by rfl):Bx (PEd X (.Call (.Attribute o m Po) (e::es) [] pos) (ig C m F g ga)):=by
 have ⟨f',fd',ps',hm,hb,Fo⟩:=Fo.go;have hr:=hr.mono hj;exact ⟨CZ he.out c hm Fo hr hb ha.out hst hpl ht⟩
theorem kH (i:Nat) (hN:X.N.Nodup) (O:dY X scope cl x cs) (hy:X.N[i]?=some y:=by exact rfl) (hi:Bx (PId X (.Name x px) iter it)) (hcd:∀ s H fp C,Bx (PTd (cK X scope cl (x::cs.map (·.1)) s H fp C) cnd c):=by intros; walk_at "h") (he:∀ s H fp C,Bx (PEd (cK X scope cl (x::cs.map (·.1)) s H fp C) elt g):=by intros; walk_at "g") (hx:Loc X.env.scope y:=by walk_at "v") (hc:X.calm=true:=by rfl) (hs:Fs X iter:=by intro _; rfl) (hsw:swapsWith (.ListComp elt [⟨.Name x px,iter,[cnd],0⟩] scope pos) (some (.Name y py)) spos.line X.env=pure true:=by rfl) (hf:Xl X y:=by walk_at "v"):Bx (PSd X (.Assign [.Name y py] (.ListComp elt [⟨.Name x px,iter,[cnd],0⟩] scope pos) spos) (vY i (md it c g cs))):=⟨have hi:=hi.out; have hcd:=(λ s H fp C=>(hcd s H fp C).out); have he:=(λ s H fp C=>(he s H fp C).out); (oa (te:=rdE X.K g) (tt:=rdT X.K c) hN hy hx hc O hi hcd he hs hsw hf).imp λ E σ H w0=>g53 w0 λ Hs0 H0 Hs τ o r e k=>by
 obtain ⟨d,e1,rfl⟩:=Zm e;obtain ⟨fp,h⟩:=r.st;refine uA ⟨H0,Hs,τ,fp,d,h,r.same,e1,λ a Hs' H' g1 rv z=>?_⟩;obtain ⟨Hs2,g2,r2⟩:=SlV.shr (s:=.own d) g1 ⟨a,rfl,rv,z⟩ rfl;obtain ⟨fp',_,h'⟩:=(h.ext g2).zN r2
 exact k _ Hs2 H' ⟨r.ext.trans g2,fp',h'⟩⟩
theorem bu (hu:X.A.units+64 < cLine) (hs:JF i) (ho:Bx (PEd X o f)) (hi:Bx (PEd X i g)):Bx (PEd X (.Subscript o i pos) (dOp d3 f g)):=⟨have ho:=ho.out; have hi:=hi.out; (oi (by omega) ho hi hs).imp λ σ H Q h=>by
 have h':=m3 X.K h;obtain ⟨H0,Hs,τ,fp,x,st,sm,e1,kk⟩:=h';refine ⟨H0,Hs,τ,fp,x,st,sm,e1,λ v Hs1 H1 g1 r1=>?_⟩;obtain ⟨H0',Hs',τ',fp',y,st',sm',e2,kk2⟩:=kk v Hs1 H1 g1 r1;refine ⟨H0',Hs',τ',fp',y,st',sm',e2,λ u Hs2 H2 g2 r2=>?_⟩;obtain ⟨Hs3,dx,dy,d,sm3,rx,ry,eo,k⟩:=kk2 u Hs2 H2 g2 r2
 cases rx with
 | @dct a kvs ds hH rk=>
  obtain ⟨key,ek,ev⟩:=Ub (eo);obtain ⟨w,hw,rw'⟩:=(rk.val).1 d ev;have:=kE ry ek;subst this;exact ⟨a,w,rfl,by rw [<- hw]; exact s9.k (sm3 _ _ hH),k w Hs3 H2 (.refl sm3) rw'⟩
 | @dfz a kvs ds hH rk=>
  obtain ⟨key,ek,ev⟩:=Ub (show (fu dy).bind _=some d from eo);obtain ⟨w,hw,rw'⟩:=(rk.val (k:=key)).1 d ev;have:=kE ry ek;subst this;refine ⟨a,w,rfl,.inl ⟨_,key,hH.elim (λ z=>.inl (sm3 _ _ z)) (λ ⟨o,z⟩=>.inr ⟨o,sm3 _ _ z⟩),rfl,hw.symm⟩,k w Hs3 H2 (.refl sm3) rw'⟩
 | _=>simp [d3] at eo⟩
theorem Ba (hu:X.A.units+64 < cLine) (hm:behindInMarks .In o=false) (hi:Bx (PEd X i f)) (ho:Bx (PEd X o g)):Bx (PEd X (.Compare i [.In] [o] pos) (dOp Dk f g)):=⟨have hi:=hi.out; have ho:=ho.out; (GI (BD (by omega) hi ho) hm).imp λ σ H Q h=>sI (neg:=false) X.K h⟩
theorem zu (hu:X.A.units+64 < cLine) (hm:behindInMarks .In o=false) (hi:Bx (PEd X i f)) (ho:Bx (PEd X o g)):Bx (PTd X (.Compare i [.In] [o] pos) (dT (dOp Dk f g))):=⟨have hi:=hi.out; have ho:=ho.out; (Bv (BD (by omega) hi ho) hm).imp λ σ H Q h=>sI (neg:=false) X.K (Cf X.K h)⟩
theorem fE (hu:X.A.units+64 < cLine) (hm:behindInMarks .NotIn o=false) (hi:Bx (PEd X i f)) (ho:Bx (PEd X o g)):Bx (PTd X (.Compare i [.NotIn] [o] pos) (dT (dOp jd f g))):=⟨have hi:=hi.out; have ho:=ho.out; (Bv (xy (by omega) hi ho) hm).imp λ σ H Q h=>sI (neg:=true) X.K (Cf X.K h)⟩
theorem zE (hu:X.A.units+64 < cLine) (ho:Bx (PEd X o f)) (he:Bx (PEd X e g)) (hv:Bx (PEd X value h)) (m:M2 X o "get" Po e value Pp:=by exact ⟨rfl,rfl,rfl,rfl⟩):Bx (PEd X (.Call (.Attribute o "get" Po) [e,value] [] Pp) (EJ f g h)):=⟨have ho:=ho.out; have he:=he.out; have hv:=hv.out; (Aw (by omega) ho he hv m).imp λ σ H Q w0=>g54 w0 λ H0 Hs τ fp d st sm e k=>by
 obtain ⟨x,e1,e⟩:=Ub e;obtain ⟨y,e2,e⟩:=Ub e;obtain ⟨z,e3,e⟩:=Ub e;refine ⟨H0,Hs,τ,fp,x,st,sm,e1,λ v Hs1 H1 g1 r1=>?_⟩
 cases r1 with
 | @dct a kvs ds hH rk=>
  obtain ⟨key,ek,ev⟩:=Zm (e);refine ⟨a,rfl,.inl ⟨kvs,.inl (g1.sh _ _ hH)⟩,?_⟩;refine ⟨H0,Hs1,τ,fp,y,st.ext g1,g1.sh,e2,λ u Hs2 H2 g2 r2=>?_⟩;refine ⟨H0,Hs2,τ,fp,z,(st.ext g1).ext g2,g2.sh,e3,λ w Hs3 H3 g3 r3=>?_⟩;have:=kE r2 ek;subst this;have hH3:=g3.sh _ _ (g3.ss _ _ (g2.ss _ _ hH));refine ⟨d8 kvs key,s9.k hH3,?_⟩;have g13:=(g1.trans g2).trans g3;subst ev;have rk3:=(rk.same g2.ss).same g3.ss
  cases q:jv ds key with
  | none=>
   rw [q] at k;rw [(rk3.val).2 q];exact k w Hs3 H3 g13 r3
  | some d'=>
   obtain ⟨w',hw,rw'⟩:=(rk3.val (k:=key)).1 d' q;rw [q] at k;rw [hw];exact k w' Hs3 H3 g13 rw'
 | _=>exact nn e⟩
theorem eU (ho:OpR X (compareOp op) (rdR X.K o)) (ho':OpR X (compareOp op') (rdR X.K o')) (ha:Bx (PEd X a f)) (hb:Bx (PEd X b g)) (hc:Bx (PEd X c h)) (hm:lastMarks [op,op'] [b,c]=false:=by with_unfolding_all rfl):Bx (PTd X (.Compare a [op,op'] [b,c] pos) (dT (sL (dOp o f g) (dOp o' g h)))):=⟨have ha:=ha.out; have hb:=hb.out; have hc:=hc.out; (Ai ho ho' ha hb hc hm).imp λ σ H Q hh=>A4 X.K (Cf X.K hh)⟩
theorem kI (hm:X.mg "range"=none) (ha:Bx (PAd X [a,b] f)) (hg:Gl X "range":=by rfl) (hs:starEach [a,b] X.env=[(false,eval a X.env),(false,eval b X.env)]:=by rfl) (hs2:starEach [b] X.env=[(false,eval b X.env)]:=by rfl):Bx (PId X tg (.Call (.Name "range" p) [a,b] [] pos) (yt f)):=⟨have ha:=ha.out; (xi hg hm ha hs hs2).imp λ σ H R w0=>g54 w0 λ H0 Hs τ fp ds st sm e k=>by
 obtain ⟨x,e1,e2⟩:=Ub e;refine ⟨H0,Hs,τ,fp,x,st,sm,e1,λ v Hs' H' g r=>?_⟩
 match x,r,e2 with
 | [y,z],.cons hy (.cons hz .nil),e2=>
  cases hy with
  | int i=>cases hz with
   | int j=>
    simp only at e2;split at e2
    ·rename_i hj
     have e':nY i (j - i).toNat=ds:=Zj e2;subst e';exact ⟨i,j,rfl,hj,k _ Hs' H' g (qe _ _)⟩
    · cases e2
   | _=>exact nn e2
  | _=>cases hz <;> exact nn e2
 | [],_,e2=>simp at e2
 | [_],_,e2=>simp at e2
 | _::_::_::_,_,e2=>simp at e2⟩
theorem vT (hm:X.mg "enumerate"=none) (ha:Bx (PAd X [a] f)) (hg:Gl X "enumerate":=by rfl) (hs:starEach [a] X.env=[(false,eval a X.env)]:=by rfl):Bx (PId X (.Tuple elts k pt) (.Call (.Name "enumerate" p) [a] [] pos) (yu f)):=⟨have ha:=ha.out; (CT hg hm ha hs).imp λ σ H R w0=>g54 w0 λ H0 Hs τ fp ds st sm e k=>by
 obtain ⟨x,e1,e2⟩:=Ub e;refine ⟨H0,Hs,τ,fp,x,st,sm,e1,λ v Hs' H' g r=>?_⟩
 match x,r,e2 with
 | [y],.cons hy .nil,e2=>
  cases hy with
  | @lst a1 xs1 ds1 h1 r1=>
   have e':=Zj e2;subst e';exact ⟨a1,xs1,rfl,SqL.of (g.sh _ _ h1),k _ Hs' H' g (ua (SqL.of h1) r1)⟩
  | @fz a1 xs1 ds1 h1 r1=>
   have e':mW ds1=ds:=Zj e2;subst e';exact ⟨a1,xs1,rfl,g.sh.seq h1,k _ Hs' H' g (ua h1 r1)⟩
  | _=>exact nn e2
 | [],_,e2=>simp at e2
 | _::_::_,_,e2=>simp at e2⟩
section
variable {X:Cx} {a b e o:Expr} {es:My Expr} {pos Po Pp:Pos} {f g:DE}
theorem oW {lo hi:Px Expr} {p2:Pos} {l u:DO} (ha:Bx (PEd X a f)) (hl:Bx (POd X lo l)) (hh:Bx (POd X hi u)):Bx (PEd X (.Subscript a (.Slice lo hi none p2) pos) (MF f l u)):=⟨have ha:=ha.out; have hl:=hl.out; have hh:=hh.out; (tT Ga ha hl hh).imp λ σ H Q w0=>g54 w0 λ H0 Hs τ fp d st sm e k=>by
 obtain ⟨x,e1,e⟩:=Ub e;obtain ⟨l',e2,e⟩:=Ub e;obtain ⟨u',e3,e⟩:=Ub e;refine ⟨H0,Hs,τ,fp,x,st,sm,e1,λ v Hs1 H1 g1 r1=>?_⟩;refine ⟨H0,Hs1,τ,fp,l',st.ext g1,g1.sh,e2,λ Hs2 H2 g2=>?_⟩;refine ⟨H0,Hs2,τ,fp,u',(st.ext g1).ext g2,g2.sh,e3,λ Hs3 H3 g3=>?_⟩
 cases r1 with
 | str z=>
  unfold M8 at e;simp only at e;split at e
  ·rename_i hz
   have e':=Zj e;subst e';exact ⟨z,rfl,vk hz,k _ Hs3 H3 ((g1.trans g2).trans g3) (.str _)⟩
  · cases e
 | _=>exact nn e⟩
end
theorem zD (ho:Bx (PEd X o f)) (he:Bx (PEd X e g)) (Pu:Ue X o "join":=by rfl) (Pq:Uf X e Pp:=by rfl) (Pr:Ug Po Pp:=by rfl) (hst:Se X e []:=by rfl) (Pt:Sb X Pp []:=by rfl):Bx (PEd X (.Call (.Attribute o "join" Po) [e] [] Pp) (EH f g)):=⟨have ho:=ho.out; have he:=he.out; (xv PySem.F.plainAttrs_str PySem.F.slot_str_join PySem.F.type_str_join DU ho (a8 he du hst) Pu Pq Pr hst Pt).imp λ σ H Q w0=>g54 w0 λ H0 Hs τ fp d st sm e k=>by
 obtain ⟨x,e1,e⟩:=Ub e;obtain ⟨y,e2,e⟩:=Ub e
 obtain ⟨z,ds,rfl,rfl⟩:∃ z ds,x=.str z/\y=.lst ds:=by
  split at e
  · exact ⟨_,_,rfl,rfl⟩
  · cases e
 refine ⟨H0,Hs,τ,fp,_,st,sm,e1,λ v Hs1 H1 g1 r1=>?_⟩
 cases r1 with
 | str _=>
  refine ⟨rfl,H0,Hs1,τ,fp,_,st.ext g1,g1.sh,e2,λ u Hs2 H2 g2 r2=>?_⟩
  cases r2 with
  | @lst p xs _ h r=>
   obtain ⟨ts,e3,e4⟩:=Ub (e);have ed:=pA e3;subst ed;have ex:=r.lx;subst ex;split at e4
   ·rename_i hs
    have e':=Zj e4;subst e';exact ⟨z,p,ts,rfl,rfl,SqL.of (g2.sh _ _ h),Z6 hs (by decide),k _ Hs2 H2 (g1.trans g2) (.str _)⟩
   · cases e4⟩
theorem oV (hm:X.mg x=none) (hm2:X.mg y=none) (ha:Bx (PEd X a f)) (hc:X.calm=true:=by rfl) (hg:Gl X x:=by rfl) (hv:bootBuiltins x=some (.type "list"):=by decide +kernel) (hg2:Gl X y:=by rfl) (hv2:bootBuiltins y=some (.type "reversed"):=by decide +kernel) (hn:x≠"__name__":=by decide) (hdb:Dg x:=by decide) (hn2:y≠"__name__":=by decide) (hdb2:Dg y:=by decide) (he:starEach [.Call (.Name y p2) [a] [] pos2] X.env=(false,eval (.Call (.Name y p2) [a] [] pos2) X.env)::starEach [] X.env:=by rfl) (hpl:Sb X pos []:=by rfl) (he2:Se X a []:=by rfl) (hpl2:Sb X pos2 []:=by rfl):Bx (PEo X (.Call (.Name x p) [.Call (.Name y p2) [a] [] pos2] [] pos) (H9 f)):=⟨have ha:=ha.out; (GD hc hg hm hv hg2 hm2 hv2 ha hn hdb hn2 hdb2 he hpl he2 hpl2).imp λ σ H Q w0=>g54 w0 λ H0 Hs τ fp d st sm e k=>by
 obtain ⟨x,e1,e⟩:=Ub e;refine ⟨H0,Hs,τ,fp,x,st,sm,e1,λ v Hs1 H1 g1 r1=>?_⟩
 have fin:∀ (p:Pz) (ys:My V) (ds:My D),H1 p=none->Rps X.K Hs1 ys ds->d=.lst ds->Q (.ref p) (upd H1 p (.lst ys)):=λ p ys ds hp r ed=>by
  subst ed;exact k p Hs1 _ ⟨g1.ss,g1.sh.trans (aC hp _),g1.hh.trans (aC hp _),g1.fr⟩ (.lst ay (g1.sh.free hp) r) (g1.hh.free hp)
 cases r1 with
 | @lst a ys ds h r=>exact ⟨_,_,rfl,SqL.of (g1.sh _ _ h),λ l hl=>fin l _ _ hl r.reverse (Zj e).symm⟩
 | @fz a ys ds h r=>exact ⟨_,_,rfl,g1.sh.seq h,λ l hl=>fin l _ _ hl r.reverse (Zj e).symm⟩
 | _=>exact nn e⟩
theorem zA (ha:Bx (PEd X a f)) (hb:Bx (PEd X b g)):Bx (PEo X (.BinOp a .Add b pos) (EL f g)):=⟨have ha:=ha.out; have hb:=hb.out; (CU xG ha hb).imp λ σ H Q w0=>g54 w0 λ H0 Hs τ fp d st sm e k=>by
 obtain ⟨x,e1,e⟩:=Ub e;obtain ⟨y,e2,e⟩:=Ub e
 obtain ⟨ds,es,rfl,rfl⟩:∃ ds es,x=.lst ds/\y=.lst es:=by
  split at e
  · exact ⟨_,_,rfl,rfl⟩
  · cases e
 refine ⟨H0,Hs,τ,fp,_,st,sm,e1,λ v Hs1 H1 g1 r1=>?_⟩;refine ⟨H0,Hs1,τ,fp,_,st.ext g1,g1.sh,e2,λ u Hs2 H2 g2 r2=>?_⟩
 cases r1 with
 | @lst p xs _ h r=>cases r2 with
  | @lst p' ys _ h' r'=>
   simp only at e;split at e
   ·rename_i hh
    have e':=Zj e;subst e';have g12:=g1.trans g2;refine ⟨p,p',xs,ys,rfl,rfl,g2.sh _ _ (g2.ss _ _ h),g2.sh _ _ h',by rw [r.length,r'.length]; exact vk hh,λ q hq=>?_⟩;exact k q Hs2 _ ⟨g12.ss,g12.sh.trans (aC hq _),g12.hh.trans (aC hq _),g12.fr⟩ (.lst ay (g12.sh.free hq) ((r.same g2.ss).append r')) (g12.hh.free hq)
   · cases e⟩
theorem qE (i:Nat) (hN:X.N[i]?=some x:=by exact rfl) (he:Bx (PEd X e f)) (hv:Vis X.env.scope x:=by walk_at "w") (hd:Dg x:=by decide) (hcd:Dc x:=by decide) (Pu:Ue X (.Name x p) "extend":=by rfl) (Pq:Uf X e Pp:=by rfl) (Pr:Ug Po Pp:=by rfl) (hst:Se X e []:=by rfl) (Pt:Sb X Pp []:=by rfl) (hs:swapsWith (.Call (.Attribute (.Name x p) "extend" Po) [e] [] Pp) none pos.line X.env=pure false:=by rfl):Bx (PSd X (.Expr (.Call (.Attribute (.Name x p) "extend" Po) [e] [] Pp) pos) (Ff i f)):=⟨have he:=he.out; (dS (xv Yy PySem.F.slot_list_extend PySem.F.type_list_extend xT (fU hN hv hd hcd) (a8 he du hst) Pu Pq Pr hst Pt) hs).imp λ E σ H w0=>g53 w0 λ Hs0 H0 Hs τ o r e k=>by
 obtain ⟨es,ds,e1,q,hl,rfl⟩:=HN e;obtain ⟨fp,h⟩:=r.st;obtain ⟨a,h1,h2,h3,h4⟩:=h.Em q
 cases h2 with
 | @lst xs _ hH hn hr=>
  refine ⟨_,h1,.inl ⟨rfl,_,SqL.of hH⟩,?_⟩;refine ⟨H0,Hs,τ,fp,_,h,r.same,e1,λ v Hs' H' g1 rv=>?_⟩;have hH':=g1.hh _ _ hH;have h':=h.ext g1;have n':=g1.fr a hn (iY hH)
  cases rv with
  | @lst b ys _ hB rb=>
   refine ⟨a,b,xs,ys,rfl,rfl,hH',g1.sh _ _ hB,by rw [hr.length,rb.length]; exact vk hl,?_⟩;refine k σ Hs' _ ⟨⟨r.ext.ss.trans g1.ss,λ b u z=>?_,λ b u z=>?_,λ b k1 k2=>?_⟩,fp,h'.mut q h1 (.lst ay n' ((hr.same g1.ss).append rb))⟩
   ·have ne:b≠a:=λ y=>by subst y; rw [n'] at z; cases z
    rw [au ne]; exact g1.sh b u z
   ·have ne:b≠a:=λ y=>by subst y; rw [h3] at z; cases z
    rw [au ne]; exact g1.hh b u (r.ext.hh b u z)
   · exact g1.fr b (r.ext.fr b k1 k2) (r.ext.hh.live k2)⟩
theorem qG (h:Bx (PEd X l f)):Bx (PId X tg l (Ei f)):=⟨have h:=h.out; (GB h).imp λ σ H R w0=>g54 w0 λ H0 Hs τ fp ds st sm e k=>by
 obtain ⟨x,e1,e2⟩:=Ub e;refine ⟨H0,Hs,τ,fp,x,st,sm,e1,λ v Hs' H' g r=>?_⟩
 cases r with
 | str z=>
  have e':=Zj e2;subst e';exact ⟨z,rfl,k _ Hs' H' g Ee⟩
 | _=>exact nn e2⟩
def aq (h:Bx (PVm X e f)):Bx (PEm X e f):=⟨PVm.em h.out⟩
theorem iq (h:Bx (PEd X e g)):Bx (PVm X e (eS g)):=⟨have h:=h.out; PE.imp h λ σ H Q w0=>g83 w0 λ Hs0 H0 nf ρ Hs τ s τ' r e k=>by
 obtain ⟨d,e1,e2⟩:=Ub e;split at e2
 ·rename_i hs
  cases e2;obtain ⟨fp,st⟩:=r.st;exact ⟨H,H,bf τ,[],d,st.bf r.sm,.refl H,e1,λ v Hs' H' g1 rv=>k v Hs H' g1.hh ((r.grow g1.hh).push (m4 rv hs))⟩
 · cases e2⟩
theorem aV (h:Bx (PEd X e g)):Bx (PVm X e (eN g)):=⟨have h:=h.out; PE.imp h λ σ H Q w0=>g83 w0 λ Hs0 H0 nf ρ Hs τ s τ' r e k=>by
 obtain ⟨d,e1,e2⟩:=Zm e;cases e2;obtain ⟨fp,st⟩:=r.st
 exact ⟨H0,Hs,er τ,[],d,st.er,r.sm,e1,λ v Hs' H' g1 rv=>k v Hs' H' g1.hh ((r.ext' g1).push rv)⟩⟩
theorem qF (h:Bx (PEo X e g)):Bx (PVm X e (eO g)):=⟨have h:=h.out; PE.imp h λ σ H Q w0=>g83 w0 λ Hs0 H0 nf ρ Hs τ s τ' r e k=>by
 obtain ⟨d,e1,e2⟩:=Ub e;split at e2
 ·split at e2
  ·rename_i hs
   cases e2;obtain ⟨fp,st⟩:=r.st;refine ⟨H,H,bf τ,[],_,st.bf r.sm,.refl H,e1,λ a Hs' H' g1 ow hn=>?_⟩
   cases ow with
   | lst h n rr=>exact k _ Hs H' g1.hh (r.CF g1.hh (Od.lst h (r.sm.free hn) (lC rr hs)) λ c hc=>by rw [Zr.mp hc]; exact hn)
  · cases e2
 · cases e2⟩
theorem B4 (i:Nat) (hN:X.N[i]?=some x:=by exact rfl) (hv:Vis X.env.scope x:=by walk_at "w") (hd:Dg x:=by decide) (hcd:Dc x:=by decide):Bx (PVm X (.Name x p) (eV i)):=⟨(fU hN hv hd hcd).imp λ σ H Q w0=>g83 w0 λ Hs0 H0 nf ρ Hs τ s τ' r e k=>by
 obtain ⟨fp,st⟩:=r.st;unfold eV at e;split at e
 ·rename_i m em
  cases e;obtain ⟨v,fq,fp',h1,h2,h3,h4,h5⟩:=st.out em;exact ⟨v,h1,k v Hs H (.refl H) ⟨r.ext,fq++fp',.mu h2 (λ e=>by cases e) (λ c hc=>(st.live c (h4 c hc).2).2.2) (λ c hc=>(h4 c hc).1) h3⟩⟩
 ·rename_i d ed
  cases e;obtain ⟨v,h1,h2⟩:=Pd st ed;exact ⟨v,h1,k v Hs H (.refl H) (r.push h2)⟩
 · cases e⟩
theorem aA (i:Nat) (hN:X.N[i]?=some x:=by exact rfl) (hv:Vis X.env.scope x:=by walk_at "w") (hd:Dg x:=by decide) (hcd:Dc x:=by decide):Bx (PXm X (.Name x p) (de i)):=⟨(fU hN hv hd hcd).imp λ σ H Q w0=>g94 w0 λ Hs0 H0 nf ρ Hs τ i' q m r e eg k=>by
 cases e;obtain ⟨b,m',e3,e4⟩:=dH eg;obtain ⟨fp,st⟩:=r.st;obtain ⟨v,fp1,v1,w1,w2,_⟩:=st.ro e3 e4
 exact ⟨v,w1,k v v H (.refl H) w1 (by cases v <;> rfl)⟩⟩
theorem bS (cl:Cls X.K C) (n:dX X.K C x) (he:Bx (PXm X e f)) (hb:Ue X e x:=by rfl):Bx (PXm X (.Attribute e x pos) (jX C x f)):=⟨have he:=he.out; (BB he hb).imp λ σ H Q w0=>g94 w0 λ Hs0 H0 nf ρ Hs τ i' q' m r e eg k=>by
 obtain ⟨⟨i,q⟩,e1,e2⟩:=Ub e;split at e2
 ·rename_i C' cs en
  split at e2
  ·rename_i hc
   subst hc;cases e2;refine ⟨Hs0,H0,nf,ρ,Hs,τ,i,q,_,r,e1,en,λ v v1 H' g hv hq=>?_⟩;obtain ⟨a,dx,ts,u,w,rfl,rfl,ha,hl,w1,w2⟩:=(r.grow g).child en eg hv hq;generalize ek:ts.map Kd.kv=kvs at hl
   cases hl with
   | o fs=>
    have w3:((d8 (fs.map λ f=>((Sum.inr f.1:Key),f.2)) (.inr x)).bind λ v=>vAt H' v [])=some w:=by
     have:=w2;simp only [vAt,ha] at this;exact this
    obtain ⟨y,h1,h2⟩:=Ub w3;have ey:y=w:=by cases y <;> exact Zj h2
    subst ey;rw [nQ] at h1;exact ⟨a,C',dx,fs,y,rfl,ha,cl,n,h1,k v y H' g hv w1⟩
  · cases e2
 · cases e2⟩
theorem jJ (hu:X.A.units+1 < cLine) (hs:JF b) (he:Bx (PXm X a f)) (hk:Bx (PEd X b g)):Bx (PXm X (.Subscript a b pos) (vb f g)):=⟨have he:=he.out; have hk:=hk.out; (oi hu he hk hs).imp λ σ H Q w0=>g94 w0 λ Hs0 H0 nf ρ Hs τ i' q' m r e eg k=>by
 obtain ⟨⟨i,q⟩,e1,e2⟩:=Ub e;obtain ⟨d,e3,e4⟩:=Ub e2;obtain ⟨ky,e5,e6⟩:=Ub e4;split at e6
 ·rename_i cs en
  cases e6;refine ⟨Hs0,H0,nf,ρ,Hs,τ,i,q,_,r,e1,en,λ v v1 H1 g1 hv hq=>?_⟩;have r1:=r.grow g1;obtain ⟨fp,st⟩:=r1.st;refine ⟨H1,H1,bf τ,[],d,st.bf r1.sm,.refl H1,e3,λ y Hs2 H2 g2 ry=>?_⟩;have hy:=kE ry e5;subst hy;obtain ⟨a,dx,ts,u,w,rfl,rfl,ha,hl,w1,w2⟩:=(r1.grow g2.hh).child en eg hv (cq g2.hh q hq);generalize ek:ts.map Kd.kv=kvs at hl
  cases hl with
  | d _=>
   have w3:((d8 kvs ky).bind λ v=>vAt H2 v [])=some w:=by
    have:=w2;simp only [vAt,ha] at this;exact this
   obtain ⟨y,h1,h2⟩:=Ub w3;have ey:y=w:=by cases y <;> exact Zj h2
   subst ey;exact ⟨a,y,rfl,by rw [<- h1]; exact s9.k ha,k v y H2 (g1.trans g2.hh) hv w1⟩
 · cases e6⟩
def aK  : Bx (uJ X [] jB):=⟨gX.imp λ E σ H w0=>g73 w0 λ Hs0 H0 nf ρ Hs τ o r e k=>by
 cases e
 exact k σ Hs H r⟩
section
variable {X:Cx} {a b c e o:Expr} {es:My Expr} {pos Po Pp pos':Pos} {x:Str} {st:Stmt} {rest:My Stmt} {f g:DSm}
def aw (h:Bx (PSm X st f)):Bx (uJ X [st] f):=⟨have h:=h.out; cR h⟩
theorem ag (h1:Bx (PSm X st f)) (h2:Bx (uJ X rest g)):Bx (uJ X (st::rest) (fK f g)):=⟨have h1:=h1.out; have h2:=h2.out; (dm h1 h2).imp λ E σ H w0=>g73 w0 λ Hs0 H0 nf ρ Hs τ o r e k=>by
 unfold fK at e
 cases q:f τ with
 | none=>rw [q] at e; cases e
 | some o1=>
  rw [q] at e;refine ⟨Hs0,H0,nf,ρ,Hs,τ,o1,r,q,?_⟩
  cases o1 with
  | next τ'=>exact λ σ' Hs' H' r'=>⟨Hs0,H0,nf,ρ,Hs',τ',o,r',e,k⟩
  | ret s τ'=>cases e; exact k
  | brk τ'=>cases e; exact k
  | cnt τ'=>cases e; exact k⟩
def eW  : Bx (PSm X st Cu):=⟨λ _ _ _ _ _ _ ⟨_,_,_,_,_,_,_,_,e,_⟩=>by cases e⟩
end
theorem aW (hc:Bx (PTm X c t)) (ha:Bx (uJ X x f)) (hb:Bx (uJ X y g)):Bx (PSm X (.If c x y pos) (tG t f g)):=⟨have hc:=hc.out; have ha:=ha.out; have hb:=hb.out; (mK hc ha hb).imp λ E σ H w0=>g73 w0 λ Hs0 H0 nf ρ Hs τ o r e k=>by
 obtain ⟨⟨bb,τ1⟩,e1,e2⟩:=Ub e;refine ⟨Hs0,H0,nf,ρ,Hs,τ,bb,τ1,r,e1,λ Hs' H' r'=>?_⟩
 cases bb with
 | true=>exact ⟨Hs0,H0,nf,ρ,Hs',τ1,o,r',by simpa using e2,k⟩
 | false=>exact ⟨Hs0,H0,nf,ρ,Hs',τ1,o,r',by simpa using e2,k⟩⟩
theorem aO (h:Bx (PEm X e f)):Bx (PSm X (.Return (some e) pos) (nX f)):=⟨have h:=h.out; (iR h).imp λ E σ H w0=>g73 w0 λ Hs0 H0 nf ρ Hs τ o r e k=>by
 obtain ⟨⟨s,τ1⟩,e1,rfl⟩:=Zm e
 exact ⟨Hs0,H0,nf,ρ,Hs,τ,s,τ1,r,e1,λ v Hs' H' r'=>k v σ Hs' H' r'⟩⟩
theorem aB (i:Nat) (hN:X.N.Nodup) (hi:X.N[i]?=some x:=by exact rfl) (he:Bx (PEm X e f)) (hx:Loc X.env.scope x:=by walk_at "v") (hs:Sw X e x pos' pos:=by rfl) (hf:Xl X x:=by walk_at "v"):Bx (PSm X (.Assign [.Name x pos'] e pos) (u7 i f)):=⟨have he:=he.out; (pL hN hi hx he hs hf).imp λ E σ H w0=>g73 w0 λ Hs0 H0 nf ρ Hs τ o r e k=>by
 obtain ⟨⟨s,τ1⟩,e1,e2⟩:=Ub e;split at e2
 ·rename_i h
  cases e2;exact ⟨Hs0,H0,nf,ρ,Hs,τ,s,τ1,r,e1,λ v Hs' H' r'=>k _ Hs' H' (r'.into h.1 h.2)⟩
 · cases e2⟩
theorem fY (he:Bx (PEm X e f)) (hs:swapsWith e none pos.line X.env=pure false:=by rfl):Bx (PSm X (.Expr e pos) (lE f)):=⟨have he:=he.out; (dS he hs).imp λ E σ H w0=>g73 w0 λ Hs0 H0 nf ρ Hs τ o r e k=>by
 obtain ⟨⟨s,τ1⟩,e1,rfl⟩:=Zm e
 exact ⟨Hs0,H0,nf,ρ,Hs,τ,s,τ1,r,e1,λ v Hs' H' r'=>k σ Hs' H' r'.pop⟩⟩
theorem cF (he:Bx (PEd X e g)) (hs:swapsWith e none pos.line X.env=pure false:=by rfl):Bx (PSm X (.Expr e pos) (wJ g)):=⟨have he:=he.out; (dS he hs).imp λ E σ H w0=>g73 w0 λ Hs0 H0 nf ρ Hs τ o r e k=>by
 obtain ⟨d,e1,rfl⟩:=Zm e;obtain ⟨fp,st⟩:=r.st
 exact ⟨H,H,bf τ,[],d,st.bf r.sm,.refl H,e1,λ v Hs' H' g1 rv=>k σ Hs H' (r.grow g1.hh)⟩⟩
theorem bJ (h:Bx (PTd X e g)):Bx (PTm X e (tS g)):=⟨have h:=h.out; PT.imp h λ σ H Q w0=>g83 w0 λ Hs0 H0 nf ρ Hs τ b τ' r e k=>by
 obtain ⟨b',e1,e2⟩:=Zm e;cases e2;obtain ⟨fp,st⟩:=r.st
 exact ⟨H,H,bf τ,[],b,st.bf r.sm,.refl H,e1,λ Hs' H' g1=>k Hs H' (r.grow g1.hh)⟩⟩
theorem zp (h:Bx (PEm X e f)) (he:∀ whole,isTrue e X.env whole=(do let v <- whole; standAt e.pos; holding [v] (truthy v)):=by intro _; rfl):Bx (PTm X e (tE f)):=⟨have h:=h.out; (tP h he).imp λ σ H Q w0=>g83 w0 λ Hs0 H0 nf ρ Hs τ b τ' r e k=>by
 obtain ⟨⟨s,τ1⟩,e1,e2⟩:=Ub e;split at e2
 ·rename_i b' es
  cases e2;have es':s=.shr (.bl b):=es;subst es';refine ⟨Hs0,H0,nf,ρ,Hs,τ,_,τ1,r,e1,λ v Hs' H' r'=>?_⟩;have:=r'.st;obtain ⟨fp,st⟩:=this
  cases st with
  | shr h _=>cases h; exact ⟨b,rfl,k Hs' H' r'.pop⟩
 · cases e2⟩
theorem zt (h:Bx (PTm X e f)):Bx (PTm X (.UnaryOp .Not e pos) (tNt f)):=⟨have h:=h.out; (wY h).imp λ σ H Q w0=>g83 w0 λ Hs0 H0 nf ρ Hs τ b τ' r e k=>by
 obtain ⟨⟨b',τ1⟩,e1,e2⟩:=Zm e;cases e2
 exact ⟨Hs0,H0,nf,ρ,Hs,τ,b',_,r,e1,λ Hs' H' r'=>k Hs' H' r'⟩⟩
theorem cC (hu:X.A.units+1 < cLine) (ho:Bx (PXm X o px)) (hi:Bx (PEd X i gk)) (hv:Bx (PEm X value fv)) (hs:swapsWith value (some (.Subscript o i pos')) pos.line X.env=pure false:=by rfl):Bx (PSm X (.Assign [.Subscript o i pos'] value pos) (gV px gk fv)):=⟨have ho:=ho.out; have hi:=hi.out; have hv:=hv.out; (CI hu ho hi hv hs).imp λ E σ H w0=>g73 w0 λ Hs0 H0 nf ρ Hs τ o r e k=>by
 obtain ⟨⟨s,τ1⟩,e1,e⟩:=Ub e;obtain ⟨⟨i,q⟩,e2,e⟩:=Ub e;obtain ⟨d,e3,e⟩:=Ub e;obtain ⟨ky,e4,e⟩:=Ub e;obtain ⟨mv,e5,e⟩:=Ub e;split at e
 ·rename_i cs en
  split at e
  ·rename_i hz
   cases e;refine ⟨Hs0,H0,nf,ρ,Hs,τ,s,τ1,r,e1,λ v Hs1 H1 r1=>?_⟩;refine ⟨Hs0,H0,nf,ρ,Hs1,τ1,i,q,_,r1.pop,e2,en,λ rt v1 H2 g2 hrt hq=>?_⟩;have r2:=r1.grow g2;obtain ⟨fp,st⟩:=r2.pop.st;refine ⟨H2,H2,bf τ1,[],d,st.bf r2.sm,.refl H2,e3,λ y Hs3 H3 g3 ry=>?_⟩;have hy:=kE ry e4;subst hy;obtain ⟨a,dx,ts,u,fv,rfl,rfl,ha,hl,ku,fin⟩:=(r2.grow g3.hh).Dp e5 en hrt (cq g3.hh q hq);obtain ⟨l1,l2,hsub,spl⟩:=pJ ky ku;obtain ⟨p1,p2,p3⟩:=spl ⟨ky,v,mv,fv⟩ rfl;generalize ek:ts.map Kd.kv=kvs at hl
   cases hl with
   | d _=>
    refine ⟨a,_,rfl,Il.k ha (by rw [<- ek,Zc,<- Zc (f:=Kd.km)]; exact le5 (Xa hz)),?_⟩;have:=fin l1 ky l2 (.dK (putK kvs ky v)) hsub (by rw [p1,ek]; exact .d _) p3;rw [p2] at this;exact k σ Hs1 _ this
  · cases e
 · cases e⟩
theorem dQ (cl:Cls X.K C) (n:dX X.K C x) (ho:Bx (PXm X o px)) (hv:Bx (PEm X value fv)) (hs:swapsWith value (some (.Attribute o x pos')) pos.line X.env=pure false:=by rfl):Bx (PSm X (.Assign [.Attribute o x pos'] value pos) (wI C x px fv)):=⟨have ho:=ho.out; have hv:=hv.out; (Gx ho hv hs).imp λ E σ H w0=>g73 w0 λ Hs0 H0 nf ρ Hs τ o r e k=>by
 obtain ⟨⟨s,τ1⟩,e1,e⟩:=Ub e;obtain ⟨⟨i,q⟩,e2,e⟩:=Ub e;obtain ⟨mv,e5,e⟩:=Ub e;split at e
 ·rename_i C' cs en
  split at e
  ·rename_i hz
   obtain ⟨hc,hz⟩:=hz;subst hc;cases e;refine ⟨Hs0,H0,nf,ρ,Hs,τ,s,τ1,r,e1,λ v Hs1 H1 r1=>?_⟩;refine ⟨Hs0,H0,nf,ρ,Hs1,τ1,i,q,_,r1.pop,e2,en,λ rt v1 H2 g2 hrt hq=>?_⟩;obtain ⟨a,dx,ts,u,fv,rfl,rfl,ha,hl,ku,fin⟩:=(r1.grow g2).Dp e5 en hrt hq;obtain ⟨l1,l2,hsub,spl⟩:=pJ (.inr x) ku;obtain ⟨p1,p2,p3⟩:=spl ⟨.inr x,v,mv,fv⟩ rfl;have ku':(ts.map Kd.k).Nodup:=ku;generalize ek:ts.map Kd.kv=kvs at hl
   cases hl with
   | o fs=>
    have nf:(fs.map Prod.fst).Nodup:=by
     have e0:ts.map Kd.k=(fs.map Prod.fst).map (λ x=>(Sum.inr x:Key)):=by
      rw [Zy,show ts.map Kd.k=(ts.map Kd.kv).map Prod.fst by rw [Zy]; rfl,ek,Zy];rfl
     rw [e0] at ku';exact List.Pairwise.of_map _ (λ a b h e=>h (by rw [e])) ku'
    refine ⟨a,C',dx,fs,rfl,ha,cl,n,?_,?_⟩
    ·have:=Yo List.length ek
     rw [Zc,Zc] at this;rw [Zc] at hz;omega
    ·have:=fin l1 (.inr x) l2 (.ins C' dx (mJ x v fs)) hsub (by rw [p1,ek,<- tO nf]; exact .o _) p3
     rw [p2] at this;exact k σ Hs1 _ this
  · cases e
 · cases e⟩
theorem mi (ho:Bx (PXm X o px)) (hi:Bx (PEd X i gi)) (he:Bx (PVm X e fv)) (Pu:Ue X o "insert":=by rfl) (Pq:((backTo Pp (starEach [i,e] X.env)).all (λ x=>!x.1)&&(backToKw Pp (keywordEach [] X.env)).all (λ x=>x.1.isSome)
  && decide ([i,e].length+([]:My Keyword).length+(if ([]:My Keyword).isEmpty then 0 else 1) < 30))=true:=by rfl) (Pr:Ug Po Pp:=by rfl) (hst:starEach [i,e] X.env=(false,eval i X.env)::starEach [e] X.env:=by rfl) (hst2:Se X e []:=by rfl) (Pt:(backTo Pp (starEach [e] X.env)).any (·.1)=false:=by rfl) (hs:swapsWith (.Call (.Attribute o "insert" Po) [i,e] [] Pp) none pos.line X.env=pure false:=by rfl):Bx (PSm X (.Expr (.Call (.Attribute o "insert" Po) [i,e] [] Pp) pos) (Cv px gi fv)):=⟨have ho:=ho.out; have hi:=hi.out; have he:=he.out; (dS (GH (KK:=X.K) rfl ho hi he Pu Pq Pr hst hst2 Pt) hs).imp λ E σ H w0=>g73 w0 λ Hs0 H0 nf ρ Hs τ o r e k=>by
 obtain ⟨⟨i,q⟩,e1,e⟩:=Ub e;split at e
 ·rename_i cs0 en0
  obtain ⟨d,e4,e5⟩:=Ub e;obtain ⟨⟨s,τ1⟩,e2,e6⟩:=Ub e5;obtain ⟨mv,e3,e7⟩:=Ub e6;clear e e5 e6;split at e7
  ·rename_i j cs en
   split at e7
   ·rename_i hz
    obtain ⟨h0,h1,hz⟩:=hz;cases e7;refine ⟨Hs0,H0,nf,ρ,Hs,τ,i,q,_,r,e1,en0,λ rt v1 H1 g1 hrt hq=>⟨(r.grow g1).isList en0 hrt hq,?_⟩⟩;have r1:=r.grow g1;obtain ⟨fp,st⟩:=r1.st;refine ⟨H1,H1,bf τ,[],_,st.bf r1.sm,.refl H1,e4,λ y Hs2 H2 g2 ry=>?_⟩;cases ry;have r2:=r1.grow g2.hh;refine ⟨Hs0,H0,nf,ρ,Hs,τ,s,τ1,r2,e2,λ v Hs3 H3 g3 r3=>?_⟩;obtain ⟨a,dx,ts,u,fv,rfl,rfl,ha,hl,ku,fin⟩:=r3.Dp e3 en hrt (cq g3 q (cq g2.hh q hq));rw [yf hl] at ha;rw [Zc] at h1 hz;refine ⟨a,_,j,v,rfl,rfl,ha,h0,by rw [Zc]; exact h1,by rw [Zc]; exact le5 (Xa hz),by omega,?_⟩
    have:=fin (ts.take j.toNat) (.inl 0) (ts.drop j.toNat) (.lst ((ts.map Kd.v).take j.toNat++v::(ts.map Kd.v).drop j.toNat)) (by rw [List.take_append_drop]; exact .refl _) (by
     have:=BN (dx:=dx) (ts:=ts.take j.toNat++⟨.inl 0,v,mv,fv⟩::ts.drop j.toNat);rw [Zp (f:=Kd.v),Zg,List.map_take,List.map_drop] at this
     exact this) trivial
    rw [Zp,Zg,List.map_take,List.map_drop] at this;exact k σ Hs3 _ this
   · cases e7
  · cases e7
 · cases e⟩
theorem mh (ho:Bx (PXm X o px)) (he:Bx (PEd X e g)) (Pu:Ue X o "remove":=by rfl) (Pq:Uf X e Pp:=by rfl) (Pr:Ug Po Pp:=by rfl) (hst:Se X e []:=by rfl) (Pt:Sb X Pp []:=by rfl) (hs:swapsWith (.Call (.Attribute o "remove" Po) [e] [] Pp) none pos.line X.env=pure false:=by rfl):Bx (PSm X (.Expr (.Call (.Attribute o "remove" Po) [e] [] Pp) pos) (u9 px g)):=⟨have ho:=ho.out; have he:=he.out; (dS (xv Yy PySem.F.slot_list_remove PySem.F.type_list_remove xR ho (a8 he du hst) Pu Pq Pr hst Pt) hs).imp λ E σ H w0=>g73 w0 λ Hs0 H0 nf ρ Hs τ o r e k=>by
 obtain ⟨⟨i,q⟩,e1,e⟩:=Ub e;obtain ⟨d,e2,e⟩:=Ub e;split at e
 ·rename_i ky cs en
  obtain ⟨ns,e3,e⟩:=Ub e;split at e
  ·rename_i hz
   cases e;refine ⟨Hs0,H0,nf,ρ,Hs,τ,i,q,_,r,e1,en,λ rt v1 H1 g1 hrt hq=>⟨(r.grow g1).isList en hrt hq,?_⟩⟩;have r1:=r.grow g1;obtain ⟨fp,st⟩:=r1.st;refine ⟨H1,H1,bf τ,[],_,st.bf r1.sm,.refl H1,e2,λ y Hs2 H2 g2 ry=>?_⟩;cases ry;have r2:=r1.grow g2.hh;obtain ⟨a,dx,ts,u,rfl,rfl,ha,hl,ku,hrp,fin⟩:=r2.pU en hrt (cq g2.hh q hq);rw [yf hl] at ha
   have ev:ts.map Kd.v=ns.map V.int:=by
    have h1:=wM hrp;rw [Zy,l0 e3] at h1;exact Rps.h9 h1
   rw [ev] at ha;refine ⟨a,ns,ky,rfl,rfl,ha,hz.1,hz.2,?_⟩
   have:=fin (ts.eraseIdx (ns.idxOf ky)) [] (.lst ((ns.eraseIdx (ns.idxOf ky)).map V.int)) (List.eraseIdx_sublist ..) (λ k hk=>by cases hk) (by
    have:=BN (dx:=dx) (ts:=ts.eraseIdx (ns.idxOf ky));rw [lS Kd.v,ev,<- lS] at this;rw [Zv]
    exact this) trivial
   rw [Zv,lS Kd.km] at this;exact k σ Hs _ this
  · cases e
 · cases e⟩
theorem zw (m:M1 X o "pop" Po e Pp) (ho:Bx (PXm X o px)) (he:Bx (PEd X e gk)) (hs:swapsWith (.Call (.Attribute o "pop" Po) [e] [] Pp) none pos.line X.env=pure false:=by rfl):Bx (PSm X (.Expr (.Call (.Attribute o "pop" Po) [e] [] Pp) pos) (pG px gk)):=⟨have ho:=ho.out; have he:=he.out; (dS (tU ho he m) hs).imp λ E σ H w0=>g73 w0 λ Hs0 H0 nf ρ Hs τ o r e k=>by
 obtain ⟨⟨i,q⟩,e1,e⟩:=Ub e;obtain ⟨d,e2,e⟩:=Ub e;obtain ⟨ky,e3,e⟩:=Ub e;split at e
 ·rename_i cs en
  split at e
  ·rename_i hz
   cases e;refine ⟨Hs0,H0,nf,ρ,Hs,τ,i,q,_,r,e1,en,λ rt v1 H1 g1 hrt hq=>?_⟩;have r1:=r.grow g1;obtain ⟨a,dx,ts,u,rfl,rfl,ha,hl,ku,hrp,fin⟩:=r1.pU en hrt hq;rw [vm hl] at ha;obtain ⟨fp,st⟩:=r1.st;refine ⟨a,rfl,.inl ⟨_,.inl ha⟩,H1,H1,bf τ,[],_,st.bf r1.sm,.refl H1,e2,λ y Hs2 H2 g2 ry=>?_⟩;have hy:=kE ry e3;subst hy;have r2:=r1.grow g2.hh;obtain ⟨a',dx',ts',u',ea,ec,ha',hl',ku',hrp',fin'⟩:=r2.pU en hrt (cq g2.hh q hq);cases ea;have ha2:=ha';rw [vm hl'] at ha2;have eq:=g2.hh _ _ ha;rw [ha2] at eq;rw [ec] at hz;obtain ⟨w,hw⟩:=zI hz;refine ⟨_,ky,w,ha2,rfl,hw,?_⟩
   have:=fin' (ts'.filter λ c=>decide (c.k≠ky)) [] (.dK (oO (ts'.map Kd.kv) ky)) Xs (λ k hk=>by cases hk) (by
    rw [Zv];unfold oO;rw [Xx]
    exact .d _) (by
    rw [Zv];show ((ts'.filter _).map Kd.k).Nodup
    exact List.Nodup.sublist (List.filter_sublist.map _) ku')
   rw [Zv] at this
   have em:(ts'.filter λ c=>decide (c.k≠ky)).map Kd.km=fP (ts.map Kd.km) ky:=by
    rw [ec];unfold fP;rw [Xx];rfl
   rw [em] at this;exact k σ Hs _ this
  · cases e
 · cases e⟩
theorem aY (h:Bx (PEd X e g)):Bx (PQm X e (qN g)):=⟨have h:=h.out; PE.imp h λ σ H Q w0=>g73 w0 λ Hs0 H0 nf ρ Hs τ a r e k=>by
 obtain ⟨d,e1,e2⟩:=Zm e;cases e2;obtain ⟨fp,st⟩:=r.st
 exact ⟨H0,Hs,er τ,[],d,st.er,r.sm,e1,λ v Hs' H' g1 rv=>k v Hs' H' g1.hh (r.ext' g1) g1.ss (.v rv .nil)⟩⟩
theorem jL (h:Bx (PXm X e f)):Bx (PQm X e (qX f)):=⟨have h:=h.out; PE.imp h λ σ H Q w0=>g73 w0 λ Hs0 H0 nf ρ Hs τ a r e k=>by
 obtain ⟨⟨i,q⟩,e1,e2⟩:=Ub e;split at e2
 ·rename_i t cs eg
  cases e2;exact ⟨Hs0,H0,nf,ρ,Hs,τ,i,q,_,r,e1,eg,λ v v1 H' g hv hq=>k v1 Hs H' g (r.grow g) (.refl _) (.p hv hq .nil)⟩
 ·rename_i d eg
  cases e2;refine ⟨Hs0,H0,nf,ρ,Hs,τ,i,q,_,r,e1,eg,λ v v1 H' g hv hq=>?_⟩;have r':=r.grow g;obtain ⟨fp,st⟩:=r'.st;obtain ⟨b,m,e3,e4⟩:=dH eg;obtain ⟨v',fp1,v1',w1,w2,w3,_⟩:=st.ro e3 e4;rw [hv] at w1;cases w1;rw [hq] at w2;cases w2
  cases w3 with
  | s rr=>exact k v1 Hs H' g r' (.refl _) (.v rr .nil)
 · cases e2⟩
def aZ  : Bx (PAm X [] mX):=⟨du.imp λ σ H Q w0=>g73 w0 λ Hs0 H0 nf ρ Hs τ as r e k=>by
 cases e
 exact k [] Hs H (.refl H) r (.refl _) .nil⟩
theorem ak (h1:Bx (PQm X e h)) (h2:Bx (PAm X es g)) (hs:Se X e es:=by rfl):Bx (PAm X (e::es) (ck h g)):=⟨have h1:=h1.out; have h2:=h2.out; (a8 h1 h2 hs).imp λ σ H Q w0=>g73 w0 λ Hs0 H0 nf ρ Hs τ as r e k=>by
 obtain ⟨a,e1,e2⟩:=Ub e;obtain ⟨as',e3,e4⟩:=Zm e2;cases e4;refine ⟨Hs0,H0,nf,ρ,Hs,τ,a,r,e1,λ v Hs1 H1 g1 r1 s1 a1=>?_⟩;refine ⟨Hs0,H0,nf,ρ,Hs1,τ,as',r1,e3,λ vs Hs2 H2 g2 r2 s2 a2=>?_⟩
 exact k (v::vs) Hs2 H2 (g1.trans g2) r2 (s1.trans s2) ((a1.ext s2 g2).app a2)⟩
theorem ir (Fo:Go X.prog X.w X.K X.mg X.base k x (spM F X.K)) (hr:dD jj X.A) (ha:Bx (PAm X (e::es) g)) (hj:k<=jj:=by decide) (hg:Gl X x:=by rfl) (hdb:Dg x:=by decide) (he:Se X e es:=by rfl) (hpl:Sb X pos es:=by rfl):Bx (PEm X (.Call (.Name x p) (e::es) [] pos) (eC F g)):=by
 have ⟨f',fd',ps',hm,hk,hb,Fo⟩:=Fo.go;have hr:=hr.mono hj;exact ⟨CS Fo hr hg hm hk hb ha.out hdb he hpl⟩
theorem b7 (c:Cls X.K C) (Fo:GoM X.prog X.w X.K X.mg X.base k C m (spM F X.K)) (hr:dD jj X.A) (ho:Bx (PXm X o fx)) (ha:Bx (PAm X (e::es) g)) (hj:k<=jj:=by decide) (hst:Se X e es:=by rfl) (hpl:Sb X pos es:=by rfl) (ht:eval (.Call (.Attribute o m Po) (e::es) [] pos) X.env=(do
  let ov <- eval o X.env
  standAt Po.atName
  let (f,first) <- holding [ov] (getMethod ov m pl)
  callWith pos f first (backTo pos (starEach (e::es) X.env)) (backToKw pos (keywordEach [] X.env))):=by rfl):Bx (PEm X (.Call (.Attribute o m Po) (e::es) [] pos) (eM C m F fx g)):=by
 have ⟨f',fd',ps',hm,hb,Fo⟩:=Fo.go;have hr:=hr.mono hj;exact ⟨CP ho.out c hm Fo hr hb ha.out hst hpl ht⟩
theorem mn (Fo:GoI X.prog X.w X.K X.mg X.base k C (spM F X.K)) (hr:dD jj X.A) (hm:X.mg x=some (.ref C)) (ha:Bx (PAm X (e::es) g)) (hj:k+1<=jj:=by decide) (hg:Gl X x:=by rfl) (hdb:Dg x:=by decide) (he:Se X e es:=by rfl) (hpl:Sb X pos es:=by rfl):Bx (PEm X (.Call (.Name x p) (e::es) [] pos) (eK C F g)):=by
 have ⟨f',fd',ps',M,hb,Fo⟩:=Fo.go;have hr:=hr.mono hj;exact ⟨CQ M Fo hr hg hm hb ha.out hdb he hpl⟩
theorem jh  : Bx (PVm X (.Dict [] [] pos) eD0):=⟨Av.imp λ σ H Q w0=>g83 w0 λ Hs0 H0 nf ρ Hs τ s τ' r e k=>by
 cases e;intro p hp
 exact k (.ref p) Hs _ (aC hp _) (r.CF (aC hp _) (fq:=[p]) (Od.n (ts:=[]) (dx:=0) (u:=.dK []) ay (.d []) (r.sm.free hp) (by show ([]:My Key).Nodup; exact .nil) (by simp) (λ c hc=>by cases hc)) λ c hc=>by rw [Zr.mp hc]; exact hp)⟩
def uE (h:Bx (PEo X e g)):Bx (PVm X e (eF g)):=⟨M4 h.out⟩
theorem zB (hk:PE X kx (tC (kV kc))) (hv:Bx (PVm X value fv)):Bx (PVm X (.Dict [some kx] [value] pos) (eD1 kc fv)):=⟨have hv:=hv.out; (@CW X pos [some kx] [value] _ (@Ao _ _ _ _ _ _ _ _ _ hk hv CJ) rfl rfl (by simp) (by simp)).imp λ σ H Q w0=>g83 w0 λ Hs0 H0 nf ρ Hs τ s τ' r e k=>by
 obtain ⟨⟨s1,τ1⟩,e1,e2⟩:=Ub e;obtain ⟨mv,e3,e4⟩:=Zm e2;cases e4;intro p hp;refine ⟨Hs0,upd H0 p (.dK []),nf.upd,ρ,Hs,τ,s1,τ1,r.hold hp,e1,λ v Hs2 H2 g2 r2=>?_⟩;obtain ⟨ex,hsp,hpp,fp,np,st⟩:=r2.FG (r.old hp) (r.ext.ss.free (r.sm.free hp));refine ⟨hpp,[(kc,v)],rfl,Zb rfl,?_⟩
 have sm0:cc H (upd H2 p (.dK [(kc,v)])):=λ b o q=>by
  have nb:b≠p:=λ z=>by rw [z,hp] at q; cases q
  rw [au nb];exact g2 _ _ (by rw [au nb]; exact q)
 have ex':Ext Hs0 H0 Hs2 (upd H2 p (.dK [(kc,v)])):=by
  refine ⟨ex.ss,λ b o q=>?_,λ b o q=>?_,ex.fr⟩
  · rw [au (show b≠p from λ z=>by rw [z,hsp] at q; cases q)]; exact ex.sh b o q
  · rw [au (show b≠p from λ z=>by rw [z,r.old hp] at q; cases q)]; exact ex.hh b o q
 have fin:∀ {fq fr:My Pz},Od X.K Hs2 H2 fq v mv->p ∉ fq->p ∉ fr->(∀ c ∈ fq,H0 c=none)->(∀ c ∈ fq,c ∉ fr)->StM X.K H0 Hs2 H2 ρ σ τ1 fr->Q (.ref p) (upd H2 p (.dK [(kc,v)])):=λ {fq fr} od n1 n2 z j sr=>by
  refine k (.ref p) Hs2 _ sm0 ⟨ex',(p::fq)++fr,.mu (fq:=p::fq) ?_ (λ e=>by cases e) (λ c hc=>?_) (λ c hc=>?_) (sr.mv (.refl _) λ c hc=>⟨(sr.live c hc).1,au (show c≠p from λ q=>n2 (by rw [<- q]; exact hc))⟩)⟩
  ·have:=Od.n (K:=X.K) (Hs:=Hs2) (H:=upd H2 p (.dK [(kc,v)])) (a:=p) (dx:=0) (t:=.d) (ts:=[⟨kc,v,mv,fq⟩]) (u:=.dK [(kc,v)]) ay (.d _) hsp (by show [kc].Nodup; simp) (by
    rw [Yd,List.flatMap_nil,Zv]
    exact Zw.mpr ⟨n1,od.nd⟩) (λ c hc=>by
    rw [Zr.mp hc]
    exact od.mv (.refl _) λ x hx=>⟨(od.live x hx).1,au (show x≠p from λ q=>n1 (by rw [<- q]; exact hx))⟩)
   rw [Yd,List.flatMap_nil,Zv] at this;exact this
  ·rcases Zh.mp hc with q | q
   · rw [q]; exact r.old hp
   · exact z c q
  ·rcases Zh.mp hc with q | q
   · rw [q]; exact n2
   · exact j c q
 cases st with
 | no st=>cases e3
 | shr h st=>cases e3; exact fin (.s h) (by simp) np (λ c hc=>by cases hc) (λ c hc=>by cases hc) st
 | @mu _ _ b _ _ _ _ fq fr od hpn z j st=>
  cases b with
  | true=>cases e3
  | false=>cases e3; exact fin od (λ q=>np (Zk _ q)) (λ q=>np (Ze _ q)) z j st⟩
theorem cJ (i:Nat) (hN:X.N.Nodup) (hi:X.N[i]?=some x:=by exact rfl) (hx:Loc X.env.scope x:=by walk_at "v") (hf:Xl X x:=by walk_at "v"):Bx (PGm X (.Name x pos) (gNm i)):=⟨(jb hN hi hx hf).imp λ v σ H Q w0=>g84 w0 λ Hs0 H0 nf ρ Hs τ τ' d r rv e k=>by
 cases e
 exact k _ (r.zN rv)⟩
theorem vU  : Bx (JD X [] BR):=⟨xo.imp λ v σ H Q w0=>g84 w0 λ Hs0 H0 nf ρ Hs τ τ' d r rv e k=>by
 cases rv with
 | nil=>cases e; exact ⟨rfl,k σ r⟩
 | cons _ _=>simp [BR] at e⟩
theorem mo (h1:Bx (PGm X e g)) (h2:Bx (JD X es h)) (hs:(assignEach (e::es) X.env).map (·.2)=assign e X.env::(assignEach es X.env).map (·.2):=by rfl):Bx (JD X (e::es) (yy g h)):=⟨have h1:=h1.out; have h2:=h2.out; (og h1 h2 hs).imp λ v σ H Q w0=>g84 w0 λ Hs0 H0 nf ρ Hs τ τ' d r rv e k=>by
 cases rv with
 | nil=>simp [yy] at e
 | cons rx rr=>
  obtain ⟨τ1,e1,e2⟩:=Ub e
  exact ⟨_,_,rfl,Hs0,H0,nf,ρ,Hs,τ,τ1,_,r,rx,e1,λ σ' r'=>⟨Hs0,H0,nf,ρ,Hs,τ1,τ',_,r',rr,e2,k⟩⟩⟩
theorem zC (h:Bx (JD X es g)) (hc:X.calm=true:=by rfl) (hn:(assignEach es X.env).length=n:=by rfl) (hst:(assignEach es X.env).findIdx? (·.1)=none:=by rfl):Bx (PGm X (.Tuple es k' pos) (gTm n g)):=⟨have h:=h.out; (By hc h hn hst).imp λ v σ H Q w0=>g84 w0 λ Hs0 H0 nf ρ Hs τ τ' d r rv e k=>by
 cases rv with
 | @tup a xs ds h rr=>
  simp only [gTm] at e;split at e
  ·rename_i hl
   exact ⟨a,xs,rfl,r.sm.tup h,by rw [rr.length]; exact hl,Hs0,H0,nf,ρ,Hs,τ,τ',ds,r,rr,e,k⟩
  · cases e
 | _=>simp [gTm] at e⟩
theorem fX (hi:Bx (PId X tg iter it)) (hg:Bx (PGm X tg g)) (hb:Bx (uJ X body b)) (hp:PassesOwn (model X.prog X.w) X.A X.env X.xe:=by exact .never) (hc:X.calm=true:=by rfl) (hs:Fs X iter:=by intro _; rfl):Bx (PSm X (.For tg iter body [] pos) (Ab it g b)):=⟨have hi:=hi.out; have hg:=hg.out; have hb:=hb.out; (m7 hp hc hi hg hb hs).imp λ E σ H w0=>g73 w0 λ Hs0 H0 nf ρ Hs τ o r e k=>by
 obtain ⟨ds,e1,e2⟩:=Ub e;obtain ⟨fp,hst⟩:=r.st;refine ⟨H0,Hs,er τ,[],ds,hst.er,r.sm,e1,λ J Hs1 H1 g1 hJ=>?_⟩;have r1:=r.ext' g1;have kk:=k.rebase r1.ext;refine ⟨λ i m σ H=>m=ds.length - i/\i<=ds.length/\∃ Hs2 τ2,b5 X.K Hs1 H0 ρ Hs2 H σ τ2/\forM (λ d τ=>(g d τ).bind b) (ds.drop i) τ2=some o,⟨ds.length,by simp,Z8 _,Hs1,τ,r1.rebase,by simpa using e2⟩,?_⟩
 rintro i m σ2 H2 ⟨rfl,hi,Hs2,τ2,r2,e3⟩
 obtain ⟨hgo,hstop⟩:=hJ Hs2 H2 r2.ext.ss r2.sm
 by_cases hlt:i < ds.length
 ·have ed:ds.drop i=ds[i]::ds.drop (i+1):=Yg hlt
  rw [ed] at e3;obtain ⟨go,yl⟩:=hgo i ds[i] (List.getElem?_eq_getElem hlt);refine .inr ⟨go,λ σ' H'=>∃ Hs' τ',b5 X.K Hs1 H0 ρ Hs' H' σ' τ'/\forM (λ d τ=>(g d τ).bind b) (ds.drop (i+1)) τ'=some o,?_,?_⟩
  ·rintro σ' H' ⟨Hs',τ',r',e'⟩
   exact ⟨ds.length - (i+1),by omega,rfl,hlt,Hs',τ',r',e'⟩
  ·intro x H' y
   obtain ⟨Hs3,g3,rx⟩:=yl x H' y;have r3:=r2.ext' g3;unfold forM at e3
   cases q:(g ds[i] τ2).bind b with
   | none=>simp only [q] at e3; cases e3
   | some o1=>
    simp only [q] at e3;obtain ⟨τ3,q1,q2⟩:=Ub q;refine ⟨Hs1,H0,nf,ρ,Hs3,τ2,τ3,ds[i],r3,rx,q1,λ σ' r'=>?_⟩;refine ⟨Hs1,H0,nf,ρ,Hs3,τ3,o1,r',q2,?_⟩
    cases o1 with
    | next τ'=>exact λ σ4 Hs4 H4 r4=>⟨Hs4,τ',r4,e3⟩
    | cnt τ'=>exact λ σ4 Hs4 H4 r4=>⟨Hs4,τ',r4,e3⟩
    | brk τ'=>cases e3; exact kk
    | ret s τ'=>cases e3; exact kk
 ·have e0:i=ds.length:=by omega
  subst e0;rw [Y1] at e3;have e':v8.next τ2=o:=by simpa [forM] using e3
  subst e'
  exact .inl ⟨hstop _ (Zn _),kk σ2 Hs2 H2 r2⟩⟩
theorem vK (i:Nat) (hN:X.N[i]?=some x:=by exact rfl) (hv:Vis X.env.scope x:=by walk_at "w") (hd:Dg x:=by decide) (hcd:Dc x:=by decide):Bx (PTd X (.Name x p) (EG i)):=⟨(Ah (fU hN hv hd hcd) (λ _=>rfl)).imp λ σ H Q w0=>g54 w0 λ H0 Hs τ fp d st sm e k=>by
 unfold EG at e;split at e
 ·rename_i ds q
  cases e;obtain ⟨a,h1,h2,_⟩:=st.Em q
  cases h2 with
  | lst h n r=>exact ⟨_,h1,_,.inl ⟨_,SqL.of h,by rw [r.emp]⟩,k Hs H (.refl sm)⟩
 · cases e⟩
theorem nF (i j:Nat) (hN:X.N.Nodup) (hi:X.N[i]?=some x:=by exact rfl) (hj:X.N[j]?=some y:=by exact rfl) (hx:Loc X.env.scope x:=by walk_at "v") (hv:Vis X.env.scope y:=by walk_at "w") (hd:Dg y:=by decide) (hcd:(y == ("__classdict__":Str))=false:=by decide) (Pu:Ue X (.Name y py) "pop":=by rfl) (Pr:Ug Po Pp:=by rfl) (hs:swapsWith (.Call (.Attribute (.Name y py) "pop" Po) [] [] Pp) (some (.Name x pos')) pos.line X.env=pure false:=by rfl) (hf:Xl X x:=by walk_at "v"):Bx (PSd X (.Assign [.Name x pos'] (.Call (.Attribute (.Name y py) "pop" Po) [] [] Pp) pos) (va i j)):=⟨(pL hN hi hx (GJ Yy PySem.F.slot_list_pop PySem.F.type_list_pop Ha (fU hj hv hd hcd) Pu Pr) hs hf).imp λ E σ H w0=>g53 w0 λ Hs0 H0 Hs τ o r e k=>by
 unfold va at e;split at e
 ·rename_i ds q
  obtain ⟨d,e1,rfl⟩:=Zm e;obtain ⟨fp,st⟩:=r.st;obtain ⟨a,h1,h2,h3,h4⟩:=st.Em q
  cases h2 with
  | @lst xs _ hH hn hr=>
   obtain ⟨v,hv1,hv2⟩:=hr.get e1;rw [<- hr.length] at hv1;refine ⟨_,h1,.inl ⟨rfl,_,SqL.of hH⟩,a,xs,v,rfl,rfl,hH,hv1,?_⟩;have s1:=st.mut q h1 (o:=.lst xs.dropLast) (d':=.lst ds.dropLast) (.lst ay hn hr.dropLast);obtain ⟨fp',_,s2⟩:=s1.zN (i:=i) hv2;refine k _ Hs _ ⟨⟨r.ext.ss,λ b u z=>?_,λ b u z=>?_,r.ext.fr⟩,fp',s2⟩
   · rw [au (show b≠a from λ w=>by rw [w,hn] at z; cases z)]; exact r.ext.sh b u z
   · rw [au (show b≠a from λ w=>by rw [w,h3] at z; cases z)]; exact r.ext.hh b u z
 · cases e⟩
theorem vM (j:Nat) (hN:X.N[j]?=some x:=by exact rfl) (hg:Bx (PGm X tg g)) (hb:Bx (uJ X body b)) (hp:PassesOwn (model X.prog X.w) X.A X.env X.xe:=by exact .never) (hc:X.calm=true:=by rfl) (hv:Vis X.env.scope x:=by walk_at "w") (hd:Dg x:=by decide) (hcd:Dc x:=by decide) (hs:∀ y,foldedSetIterable (.Name x p) X.env y=pure y:=by intro _; rfl):Bx (PSm X (.For tg (.Name x p) body [] pos) (Gm j g b)):=⟨have hg:=hg.out; have hb:=hb.out; (m7 hp hc (rL (fU hN hv hd hcd)) hg hb hs).imp λ E σ H w0=>g73 w0 λ Hs0 H0 nf ρ Hs τ o r e k=>by
 unfold Gm at e;split at e
 ·rename_i b0 cs ej
  obtain ⟨o',e1,rfl⟩:=Zm e;obtain ⟨fp,st⟩:=r.st;obtain ⟨v,fp1,v1,w1,w2,w3,_⟩:=st.ro (q:=[]) ej rfl;have ev:v=v1:=by cases v <;> exact Zj w2
  subst ev;obtain ⟨a,dx,ts,u,rfl,rfl,rfl,ha,hl,_⟩:=w3.inv;rw [yf hl] at ha
  have pinb:b0=true->ρ[j]?=some (some a):=λ hb=>by
   obtain ⟨a',q1,q2⟩:=st.pin ej w1 hb;cases q2;exact q1
  have kk:=B9.unp (a:=a) pinb k;refine ⟨_,w1,a,rfl,⟨_,SqL.of ha⟩,λ i n σ H=>∃ Hs2 τ2,b5 X.K Hs0 H0 (ρ.set j (some a)) Hs2 H σ τ2/\j5 j g b n i τ2=some o',⟨_,Hs,_,⟨r.ext,fp,st.pinned ej w1⟩,e1⟩,?_⟩
  rintro i n σ2 H2 ⟨Hs2,τ2,r2,e2⟩
  cases n with
  | zero=>cases e2
  | succ n=>
   unfold j5 at e2;split at e2
   ·rename_i cs2 ej2
    obtain ⟨fp2,st2⟩:=r2.st;obtain ⟨v',fp1',v1',y1,y2,y3,_⟩:=st2.ro (q:=[]) ej2 rfl;have ev:v'=v1':=by cases v' <;> exact Zj y2
    subst ev;obtain ⟨a',q1,q2⟩:=st2.pin ej2 y1 rfl
    have lj:j < ρ.length:=by
     have:=List.getElem?_eq_some_iff.mp q1;have:=this.1;rw [Y6] at this;exact this
    rw [List.getElem?_set_self lj] at q1;cases q1;obtain ⟨a2,dx2,ts2,u2,ea,_,ec,ha2,hl2,_,_,_,rr⟩:=y3.inv;rw [q2] at ea;cases ea;rw [yf hl2] at ha2
    cases q3:cs2[i]? with
    | none=>
     simp only [q3] at e2;cases e2;refine .inl ⟨⟨_,SqL.of ha2,?_⟩,kk σ2 Hs2 H2 r2⟩;rw [Zc];rw [ec,List.getElem?_map,Option.map_eq_none_iff] at q3;exact List.getElem?_eq_none_iff.mp q3
    | some c=>
     obtain ⟨kc,mc⟩:=c;simp only [q3] at e2
     cases mc with
     | n t cs=>cases e2
     | s d=>
      simp only at e2;rw [ec,List.getElem?_map] at q3;obtain ⟨kd,q4,q5⟩:=Zm q3;have hkd:=rr kd (List.mem_of_getElem? q4);have q6:kd.m=.s d:=(Prod.mk.inj q5).2;rw [q6] at hkd;have hx:(ts2.map Kd.v)[i]?=some kd.v:=by rw [List.getElem?_map,q4]; rfl
      refine .inr ⟨⟨_,kd.v,SqL.of ha2,hx⟩,λ σ' H'=>∃ Hs' τ',b5 X.K Hs0 H0 (ρ.set j (some a)) Hs' H' σ' τ'/\j5 j g b n (i+1) τ'=some o',λ σ' H' h=>⟨n,by omega,h⟩,?_⟩
      rintro x H' ⟨rfl,hy⟩
      have ex:=hy _ (SqL.of ha2);rw [hx] at ex;cases ex
      cases q7:(g d τ2).bind b with
      | none=>simp only [q7] at e2; cases e2
      | some o1=>
       simp only [q7] at e2;obtain ⟨τ3,q8,q9⟩:=Ub q7;have rpd:Rp X.K Hs2 kd.v d:=hkd.Oj;refine ⟨Hs0,H0,nf,ρ.set j (some a),Hs2,τ2,τ3,d,r2,rpd,q8,λ σ' r'=>?_⟩;refine ⟨Hs0,H0,nf,ρ.set j (some a),Hs2,τ3,o1,r',q9,?_⟩
       cases o1 with
       | next τ'=>exact λ σ4 Hs4 H4 r4=>⟨Hs4,τ',r4,e2⟩
       | cnt τ'=>exact λ σ4 Hs4 H4 r4=>⟨Hs4,τ',r4,e2⟩
       | brk τ'=>cases e2; exact kk
       | ret s τ'=>cases e2; exact kk
   · cases e2
 · cases e⟩
def zF  : Bx (PXs X [] s C []):=⟨du.imp λ σ H Q ⟨Hs0,H0,nf,ρ,Hs,τ,cs,rt,r,e1,e2,e3,k⟩=>k [] H (.refl H) ⟨rfl,λ j f v q=>by simp at q⟩⟩
theorem d9 (h1:Bx (PXm X e (jX C f (de s)))) (h2:Bx (PXs X es s C fs)) (hs:Se X e es:=by rfl):Bx (PXs X (e::es) s C (f::fs)):=⟨have h1:=h1.out; have h2:=h2.out; (a8 h1 h2 hs).imp λ σ H Q ⟨Hs0,H0,nf,ρ,Hs,τ,cs,rt,r,e1,e2,e3,k⟩=>by
 have hf:=e3 f (Zd ..);obtain ⟨m,em⟩:=Yj.mp hf;refine ⟨Hs0,H0,nf,ρ,Hs,τ,s,yA f,m,r,?_,em,λ v v1 H1 g1 hv hq=>?_⟩
 ·show (some (s,([]:My Stp))).bind _=_
  show (match bB τ s [] with | some (.n (.o C') _)=>if C'=C then some (s,[]++[Stp.k (.inr f)]) else none | _=>none)=_;rw [e1];simp only [if_pos]
  first | done | rfl
 ·rw [e2] at hv
  cases hv;refine ⟨Hs0,H0,nf,ρ,Hs,τ,cs,rt,r.grow g1,e1,e2,λ f' hf'=>e3 f' (Za _ hf'),λ vs H2 g2 hvs=>k (v1::vs) H2 (g1.trans g2) ⟨Yo (·+1) hvs.1,λ j f' v q1 q2=>?_⟩⟩
  cases j with
  | zero=>
   cases q1;cases q2;exact cq g2 _ hq
  | succ j=>exact hvs.2 j f' v (by simpa using q1) (by simpa using q2)⟩
theorem vL (i:Nat) (hN:X.N.Nodup) (is:i≠s) (m:M1 X (.Name x p3) "pop" Po e Pp) (hi:X.N[i]?=some x:=by exact rfl) (ha:Bx (PXs X es s C fs)) (he:Bx (PEd X e gk)) (hp:PassesOwn (model X.prog X.w) X.A X.env X.xe:=by exact .never) (hc:X.calm=true:=by rfl) (hx:Loc X.env.scope x:=by walk_at "v") (hvis:Vis X.env.scope x:=by walk_at "w") (hd:Dg x:=by decide) (hcd:Dc x:=by decide) (hf:Xl X x:=by walk_at "v") (hs:∀ y,foldedSetIterable (.Tuple es kk p2) X.env y=pure y:=by intro _; rfl) (hsw:swapsWith (.Call (.Attribute (.Name x p3) "pop" Po) [e] [] Pp) none epos.line X.env=pure false:=by rfl):Bx (PSm X (.For (.Name x p1) (.Tuple es kk p2) [.Expr (.Call (.Attribute (.Name x p3) "pop" Po) [e] [] Pp) epos] [] pos) (Aa i s C fs gk)):=⟨have ha:=ha.out; have he:=he.out; (m7 hp hc (GA (xq ha)) (jb hN hi hx hf) (cR (dS (tU (fU hi hvis hd hcd) he m) hsw)) hs).imp λ E σ H w0=>g73 w0 λ Hs0 H0 nf ρ Hs τ o r e k=>by
 unfold Aa at e;split at e
 ·rename_i C' cs0 e0
  split at e
  ·rename_i hcs
   obtain ⟨hC,hall,h50,hil⟩:=hcs;subst hC;obtain ⟨τF,e1,rfl⟩:=Zm e;obtain ⟨b0,m0,em0,_⟩:=dH e0;obtain ⟨fp,st⟩:=r.st;obtain ⟨rt,_,_,w1,_⟩:=st.ro (q:=[]) em0 rfl;refine ⟨Hs0,H0,nf,ρ,Hs,τ,cs0,rt,r,e0,w1,λ f hf=>Yq.mp hall f hf,λ vs H1 g1 hvs=>?_⟩;refine ⟨by rw [hvs.1]; exact vk (Z6 h50 (by decide)),λ T hT=>?_⟩;have r1:=(r.grow g1).grow (aC hT (.tup vs));have hvs1:=hvs.same (aC hT (.tup vs));have r1':=r1.forget i (σ[i]?.getD none);refine ⟨T,rfl,⟨vs,SqT.of ay⟩,λ j n σ' H'=>n=fs.length - j/\j<=fs.length/\∃ Hs2 τ2,b5 X.K Hs0 H0 ρ Hs2 H' σ' τ2/\(τ2.set i .no=τ2/\i < τ2.length)/\rJ s gk C' (fs.drop j) τ2=some τF/\H' T=some (.tup vs)/\σ'[s]?=some (some rt)/\∀ (j':Nat) (f:Str) (v:V),j<=j'->fs[j']?=some f->vs[j']?=some v->vAt H' rt (yA f)=some v,⟨_,rfl,Z8 _,Hs,τ.set i .no,?_,⟨List.set_set ..,by rw [Y6]; exact hil⟩,by simpa using e1,ay,w1,λ j' f v _ q1 q2=>hvs1.2 j' f v q1 q2⟩,?_⟩
   ·have es:σ.set i (σ[i]?.getD none)=σ:=by
     apply List.ext_getElem?;intro n
     by_cases hn:i=n
     ·subst hn
      by_cases hl:i < σ.length
      · rw [List.getElem?_set_self hl,List.getElem?_eq_getElem hl]; rfl
      · rw [List.getElem?_eq_none (by rw [Y6]; omega),List.getElem?_eq_none (by omega)]
     · rw [List.getElem?_set_ne hn]
    rw [es] at r1';exact r1'
   ·rintro j n σ2 H2 ⟨rfl,hj,Hs2,τ2,r2,⟨t2,l2⟩,e2,hT2,w2,hat⟩
    by_cases hlt:j < fs.length
    ·have hlv:j < vs.length:=by rw [hvs.1]; exact hlt
     have hv:=List.getElem?_eq_getElem hlv;have hfj:=List.getElem?_eq_getElem hlt;generalize vs[j]=v at hv;generalize fs[j]=f at hfj
     have ed:fs.drop j=f::fs.drop (j+1):=by
      rw [Yg hlt];rw [List.getElem?_eq_getElem hlt] at hfj;rw [Zj hfj]
     rw [ed] at e2;obtain ⟨τ3,e3,e4⟩:=Ub (show (Aq s gk C' f τ2).bind _=_ from e2);refine .inr ⟨⟨vs,v,SqT.of hT2,hv⟩,λ σ' H'=>j+1<=fs.length/\∃ Hs2 τ2,b5 X.K Hs0 H0 ρ Hs2 H' σ' τ2/\(τ2.set i .no=τ2/\i < τ2.length)/\rJ s gk C' (fs.drop (j+1)) τ2=some τF/\H' T=some (.tup vs)/\σ'[s]?=some (some rt)/\∀ (j':Nat) (f:Str) (v:V),j+1<=j'->fs[j']?=some f->vs[j']?=some v->vAt H' rt (yA f)=some v,λ σ' H' h=>⟨fs.length - (j+1),by omega,rfl,h.1,h.2⟩,?_⟩
     rintro x H' ⟨rfl,hy⟩
     have hx:=hy vs (SqT.of hT2);rw [hv] at hx;cases hx;have r3:=r2.forget i (some v);rw [t2] at r3;obtain ⟨fp2,st2⟩:=r2.st;have ls:i < σ2.length:=by rw [st2.len]; exact l2
     have w3:(σ2.set i (some v))[s]?=some (some rt):=by rw [List.getElem?_set_ne is]; exact w2
     have hvat:=hat j f v (Zn _) hfj hv;unfold Aq at e3;split at e3
     ·rename_i C2 cs2 e5
      split at e3
      ·rename_i hC2
       subst hC2;obtain ⟨d,e6,e7⟩:=Ub e3;obtain ⟨ky,e8,e9⟩:=Ub e7;split at e9
       ·rename_i cs en
        split at e9
        ·rename_i hz
         cases e9;obtain ⟨a,dx,ts,u,rfl,rfl,hu,hl,ku,hrp,fin⟩:=r3.pU en w3 hvat;rw [vm hl] at hu;obtain ⟨fp3,st3⟩:=r3.st;refine ⟨.ref a,List.getElem?_set_self ls,a,rfl,.inl ⟨_,.inl hu⟩,_,_,bf τ2,[],_,st3.bf r3.sm,.refl _,e6,λ y Hs4 H4 g4 ry=>?_⟩;have hy:=kE ry e8;subst hy;have r4:=r3.grow g4.hh;obtain ⟨a',dx',ts',u',ea,ec,ha',hl',ku',hrp',fin'⟩:=r4.pU en w3 (cq g4.hh _ hvat);cases ea;rw [vm hl'] at ha';rw [ec] at hz;obtain ⟨w,hw⟩:=zI hz;refine ⟨_,ky,w,ha',rfl,hw,?_⟩
         have r5:=fin' (ts'.filter λ c=>decide (c.k≠ky)) [] (.dK (oO (ts'.map Kd.kv) ky)) Xs (λ k hk=>by cases hk) (by
          rw [Zv];unfold oO;rw [Xx]
          exact .d _) (by
          rw [Zv];show ((ts'.filter _).map Kd.k).Nodup
          exact List.Nodup.sublist (List.filter_sublist.map _) ku')
         rw [Zv] at r5
         have em:(ts'.filter λ c=>decide (c.k≠ky)).map Kd.km=fP (ts.map Kd.km) ky:=by
          rw [ec];unfold fP;rw [Xx];rfl
         rw [em] at r5;have rtv:vAt H4 rt []=some rt:=by cases rt <;> rfl
         obtain ⟨r0,dx0,ts0,u0,er0,_,hr0,hl0,_⟩:=r4.pU e5 w3 rtv;subst er0
         have ne:r0≠a:=λ q=>by
          rw [q,ha'] at hr0;cases hr0;generalize ts0.map Kd.kv=kv0 at hl0;cases hl0
         have hT4:=g4.hh _ _ hT2;refine ⟨hlt,Hs2,_,r5,⟨?_,?_⟩,e4,?_,w3,λ j' f' v' q0 q1 q2=>?_⟩
         ·obtain ⟨b,m,eb,_⟩:=dH en
          unfold ft;rw [eb];simp only;rw [List.set_comm _ _ (Ne.symm is),t2]
         ·unfold ft
          split
          · rw [Y6]; exact l2
          · exact l2
         ·rw [au (show T≠a from λ q=>by rw [q,ha'] at hT4; cases hT4)]
          exact hT4
         ·rw [Cd ne]
          exact cq g4.hh _ (hat j' f' v' (by omega) q1 q2)
        · cases e9
       · cases e9
      · cases e3
     · cases e3
    ·have e0:j=fs.length:=by omega
     subst e0;rw [Y1] at e2;cases e2;exact .inl ⟨⟨vs,SqT.of hT2,by rw [hvs.1]; exact Zn _⟩,k σ2 Hs2 H2 r2⟩
  · cases e
 · cases e⟩
theorem vP (hh:X.A.handled=none) (hm:X.mg "list"=none) (he:Bx (PEd X e f)) (hg:Gl X "list":=by rfl) (hv:bootBuiltins "list"=some (.type "list"):=by decide +kernel) (hst:Se X e []:=by rfl) (hpl:Sb X pos []:=by rfl):Bx (PEo X (.Call (.Name "list" p) [e] [] pos) (zd f)):=⟨have he:=he.out; (lK (vH hh) hg hm hv (a8 he du hst) (by decide) (by decide) hst hpl).imp λ σ H Q w0=>g54 w0 λ H0 Hs τ fp d st sm e k=>by
 obtain ⟨x,e1,e2⟩:=Ub e;refine ⟨H0,Hs,τ,fp,x,st,sm,e1,λ v Hs1 H1 g1 r1=>?_⟩
 cases r1 with
 | @dct a kvs ds h r=>
  cases e2;exact ⟨a,kvs,rfl,g1.sh _ _ h,λ p hp=>k p Hs1 _ ⟨g1.ss,g1.sh.trans (aC hp _),g1.hh.trans (aC hp _),g1.fr⟩ (.lst ay (g1.sh.free hp) (tH r)) (g1.hh.free hp)⟩
 | _=>exact nn e2⟩
theorem sT (hN:X.N.Nodup) (O:dY X scope cl x cs) (hy:X.N[j]?=some y:=by exact rfl) (hz:X.N[i]?=some z:=by exact rfl) (hcd:∀ s H fp C,Bx (PTd (cK X scope cl (x::cs.map (·.1)) s H fp C) cnd c):=by intros; walk_at "h") (he:∀ s H fp C,Bx (PEd (cK X scope cl (x::cs.map (·.1)) s H fp C) elt g):=by intros; walk_at "g") (hx:Loc X.env.scope y:=by walk_at "v") (hv:Vis X.env.scope z:=by walk_at "w") (hc:X.calm=true:=by rfl) (hd:Dg z:=by decide) (hcl:(z == ("__classdict__":Str))=false:=by decide) (hs:∀ x,foldedSetIterable (.Name z pz) X.env x=pure x:=by intro _; rfl) (hsw:swapsWith (.ListComp elt [⟨.Name x px,.Name z pz,[cnd],0⟩] scope pos) (some (.Name y py)) spos.line X.env=pure true:=by rfl) (hf:Xl X y:=by walk_at "v"):Bx (PSm X (.Assign [.Name y py] (.ListComp elt [⟨.Name x px,.Name z pz,[cnd],0⟩] scope pos) spos) (Bo j i c g cs)):=⟨have hcd:=(λ s H fp C=>(hcd s H fp C).out); have he:=(λ s H fp C=>(he s H fp C).out); (w6 (oa (te:=rdE X.K g) (tt:=rdT X.K c) hN hy hx hc O (xk (fU hz hv hd hcl)) hcd he hs hsw hf)).imp λ E σ H w0=>g73 w0 λ Hs0 H0 nf ρ Hs τ o r e k=>by
 unfold Bo at e;split at e
 ·rename_i b0 ks ei
  split at e
  ·rename_i hl
   obtain ⟨hl,hj⟩:=hl;obtain ⟨full,e3,e4⟩:=Ub e;split at e4
   ·rename_i hsc
    cases e4;obtain ⟨fp,st⟩:=r.st;obtain ⟨v,fq,fpr,o1,o2,o3,o4,o5⟩:=st.out ei;obtain ⟨d,dx,ts,u,rfl,rfl,rfl,hdH,hlay,hnd,ku,ndp,rr⟩:=o2.inv;rw [vm hlay] at hdH;have d0:H0 d=none:=(st.live d (o4 d (Zd ..)).2).2.2;refine ⟨_,o1,d,ts.map Kd.kv,rfl,hdH,λ ob=>?_⟩;have dnf:d ∉ fpr:=(o4 d (Zd ..)).1;have s1:StM X.K H0 Hs (upd H d (.frz ob (.dK (ts.map Kd.kv)))) ρ σ (τ.set i .no) fpr:=o3.mv (.refl _) λ c hc=>⟨(o3.live c hc).1,au (show c≠d from λ q=>dnf (by rw [<- q]; exact hc))⟩
    have sm1:cc Hs (upd H d (.frz ob (.dK (ts.map Kd.kv)))):=λ c w q=>by
     rw [au (show c≠d from λ y=>by rw [y,hnd] at q; cases q)]; exact r.sm c w q
    have snp:=s1.bf sm1;generalize hH1:upd H d (.frz ob (.dK (ts.map Kd.kv)))=H1 at snp;have h1d:H1 d=some (.frz ob (.dK (ts.map Kd.kv))):=by rw [<- hH1]; exact ay
    let ds:My D:=(ts.map Kd.km).map λ p=>kD p.1
    have ld:ds.length=(ts.map Kd.kv).length:=by simp [ds]
    rw [Zc] at hl;have ld2:ds.length=ts.length:=by simp [ds]
    refine ⟨λ n m ys H'=>m=ds.length - n/\n<=ds.length/\cc H1 H'/\∃ es rest,Rps X.K Ej ys es/\es.length<=n/\sg (λ d=>c (.shr d::fQ (bf (τ.set i .no)) cs)) (λ d=>g (.shr d::fQ (bf (τ.set i .no)) cs)) (ds.drop n)=some rest/\es++rest=full,⟨ds.length,by simp,Z8 _,   .refl _,[],full,.nil,Zn _,by rw [List.drop_zero]; exact e3,rfl⟩,?_⟩
    rintro n m ys H2 ⟨rfl,hn,g2,es,rest,ry,ley,e5,e6⟩
    have ly:ys.length<=n:=by rw [ry.length]; exact ley
    have h2d:=g2 _ _ h1d
    by_cases hlt:n < ds.length
    ·have ed:ds.drop n=ds[n]::ds.drop (n+1):=Yg hlt
     rw [ed] at e5;obtain ⟨b,q0,q0'⟩:=Ub e5;refine .inr ⟨⟨h2d,by rw [<- ld]; exact hlt⟩,le5 (by omega),?_⟩
     rintro w H3 ⟨rfl,kk,ww,hk,rfl⟩
     have ekk:ds[n]=kD kk:=by
      have h1:ds[n]?=some (kD kk):=by
       simp only [ds];rw [List.getElem?_map,List.getElem?_map];rw [List.getElem?_map] at hk;obtain ⟨t,ht,et⟩:=Zm hk;rw [ht];have:t.k=kk:=(Prod.mk.inj et).1;show some (kD t.k)=_;rw [this]
      rw [List.getElem?_eq_getElem hlt] at h1;exact Zj h1
     have snp2:StR X.K H3 H3 H3 σ (bf (τ.set i .no)) []:=by
      have s2:=s1;rw [hH1] at s2;exact (s2.ext ⟨.refl _,(hH1 ▸ sm1).trans g2,g2,λ _ h _=>h⟩).bf ((hH1 ▸ sm1).trans g2)
     refine ⟨H3,H3,.shr ds[n]::fQ (bf (τ.set i .no)) cs,[],b,.shr (by rw [ekk]; exact D8 kk) (jV snp2 cs),.refl _,q0,λ Hs4 H4 g4=>?_⟩
     cases b with
     | true=>
      refine Ef ?_
      obtain ⟨x,q1,q2⟩:=Ub (show (g (.shr ds[n]::fQ (bf (τ.set i .no)) cs)).bind _=some rest from q0');obtain ⟨xs,q3,q4⟩:=Ub q2;have eq:x::xs=rest:=Zj q4;subst eq
      have snp4:StR X.K H4 H4 H4 σ (bf (τ.set i .no)) []:=by
       have s2:=s1;rw [hH1] at s2;exact (s2.ext ⟨.refl _,((hH1 ▸ sm1).trans g2).trans g4.hh,g2.trans g4.hh,λ _ h _=>h⟩).bf (((hH1 ▸ sm1).trans g2).trans g4.hh)
      refine ⟨H4,H4,.shr ds[n]::fQ (bf (τ.set i .no)) cs,[],x,.shr (by rw [ekk]; exact D8 kk) (jV snp4 cs),.refl _,q1,λ v5 Hs5 H5 g5 r5=>?_⟩
      have sx:sca x=true:=by
       refine Yq.mp hsc x ?_
       rw [<- e6];simp
      exact ⟨ds.length - (n+1),by omega,rfl,hlt,(g2.trans g4.hh).trans g5.hh,es++[x],xs,ry.append (.cons (m4 r5 sx) .nil),by simp; omega,q3,by rw [<- e6]; simp⟩
     | false=>
      refine Eg ?_
      exact ⟨ds.length - (n+1),by omega,rfl,hlt,g2.trans g4.hh,es,rest,ry,by omega,q0',e6⟩
    ·have e0:n=ds.length:=by omega
     subst e0;rw [Y1] at e5;have er:[]=rest:=Zj e5;subst er;rw [Zv] at e6;subst e6;refine .inl ⟨⟨h2d,by rw [<- ld]; exact Zn _⟩,vk (by omega),λ p hp=>?_⟩;have pd:p≠d:=λ q=>by rw [q,h2d] at hp; cases hp
     refine ⟨d,ob,ts.map Kd.kv,by rw [au (Ne.symm pd)]; exact h2d,λ o' u' q=>nf d o' u' q d0,?_⟩
     let Hf:Hp:=upd (upd H2 p (.lst ys)) d (.dK (ts.map Kd.kv))
     have hpH:H p=none:=by
      have:H1 p=none:=g2.free hp;rw [<- hH1,au pd] at this;exact this
     have smf:cc H Hf:=λ c w q=>by
      by_cases cd:c=d
      ·subst cd
       rw [hdH] at q;cases q;exact ay
      ·have c1:H1 c=some w:=by rw [<- hH1,au cd]; exact q
       have cp:c≠p:=λ y=>by rw [y,hpH] at q; cases q
       show upd (upd H2 p (.lst ys)) d _ c=_;rw [au cd,au cp];exact g2 _ _ c1
     have hfp:Hf p=some (.lst ys):=by
      show upd (upd H2 p (.lst ys)) d _ p=_;rw [au pd,ay]
     have hsp:Hs p=none:=r.sm.free hpH
     have ex:Ext Hs H (upd Hs p (.lst ys)) Hf:=by
      refine ⟨aC hsp _,λ c w q=>?_,smf,λ c h1 h2=>?_⟩
      ·by_cases z:c=p
       · subst z; rw [ay] at q; cases q; exact hfp
       · rw [au z] at q; exact smf _ _ (r.sm _ _ q)
      · rw [au (show c≠p from λ z=>h2 (by rw [z]; exact hpH))]; exact h1
     exact k _ _ Hf ((r.ext' ex).zN (.lst ay (lC ry hsc)))
   · cases e4
  · cases e
 · cases e⟩
theorem vQ (Fo:Go X.prog X.w X.K X.mg X.base k x (spP F X.K)) (hr:dD jj X.A) (ha:Bx (PAm X (e::es) g)) (hj:k<=jj:=by decide) (hg:Gl X x:=by rfl) (hdb:Dg x:=by decide) (he:Se X e es:=by rfl) (hpl:Sb X pos es:=by rfl):Bx (PVm X (.Call (.Name x p) (e::es) [] pos) (eP F g)):=by
 have ⟨f',fd',ps',hm,hk,hb,Fo⟩:=Fo.go;have hr:=hr.mono hj;exact ⟨Ar Fo hr hg hm hk hb ha.out hdb he hpl⟩
theorem sS (i:Nat) (hN:X.N.Nodup) (O:dY X scope cl x cs) (hy:X.N[i]?=some y:=by exact rfl) (hi:Bx (PId X (.Name x px) iter it)) (hcd:∀ s H fp C,Bx (PTd (cK X scope cl (x::cs.map (·.1)) s H fp C) cnd c):=by intros; walk_at "h") (he:∀ s H fp C,Bx (PEd (cK X scope cl (x::cs.map (·.1)) s H fp C) elt g):=by intros; walk_at "g") (hx:Loc X.env.scope y:=by walk_at "v") (hc:X.calm=true:=by rfl) (hs:Fs X iter:=by intro _; rfl) (hsw:swapsWith (.ListComp elt [⟨.Name x px,iter,[cnd],0⟩] scope pos) (some (.Name y py)) spos.line X.env=pure true:=by rfl) (hf:Xl X y:=by walk_at "v"):Bx (PSm X (.Assign [.Name y py] (.ListComp elt [⟨.Name x px,iter,[cnd],0⟩] scope pos) spos) (u7 i (eO (md it c g cs)))):=⟨wZ hN hy hx hc O hi.out (λ s H fp C=>(hcd s H fp C).out) (λ s H fp C=>(he s H fp C).out) hs hsw hf⟩
theorem vN (hi:Bx (PEo X iter it)) (hg:Bx (PGm X tg g)) (hb:Bx (uJ X body b)) (hp:PassesOwn (model X.prog X.w) X.A X.env X.xe:=by exact .never) (hc:X.calm=true:=by rfl) (hs:Fs X iter:=by intro _; rfl):Bx (PSm X (.For tg iter body [] pos) (Ac it g b)):=⟨have hi:=hi.out; have hg:=hg.out; have hb:=hb.out; (m7 hp hc (rL (M4 hi)) hg hb hs).imp λ E σ H w0=>g73 w0 λ Hs0 H0 nf ρ Hs τ o r e k=>by
 obtain ⟨d,e1,e⟩:=Ub e;split at e
 ·rename_i ds
  split at e
  ·rename_i hsc
   refine ⟨Hs0,H0,nf,ρ,Hs,τ,.shr (.lst ds),τ,r,by unfold eF; rw [e1]; exact if_pos hsc,λ v Hs1 H1 _ rr=>?_⟩;have r1:=rr.pop;obtain ⟨fp,st⟩:=rr.st
   cases st with
   | shr h st=>
   cases h with
   | @lst a xs _ ha rx=>
   have kk:=k.rebase r1.ext;refine ⟨a,rfl,⟨xs,SqL.of (r1.sm _ _ ha)⟩,?_⟩;have hJ:=oy (K:=X.K) (SqL.of ha) rx;refine ⟨λ i m σ H=>m=ds.length - i/\i<=ds.length/\∃ Hs2 τ2,b5 X.K Hs1 H0 ρ Hs2 H σ τ2/\forM (λ d τ=>(g d τ).bind b) (ds.drop i) τ2=some o,⟨ds.length,by simp,Z8 _,Hs1,τ,r1.rebase,by simpa using e⟩,?_⟩
   rintro i m σ2 H2 ⟨rfl,hi,Hs2,τ2,r2,e3⟩
   obtain ⟨hgo,hstop⟩:=hJ Hs2 H2 r2.ext.ss r2.sm
   by_cases hlt:i < ds.length
   ·have ed:ds.drop i=ds[i]::ds.drop (i+1):=Yg hlt
    rw [ed] at e3;obtain ⟨go,yl⟩:=hgo i ds[i] (List.getElem?_eq_getElem hlt);refine .inr ⟨go,λ σ' H'=>∃ Hs' τ',b5 X.K Hs1 H0 ρ Hs' H' σ' τ'/\forM (λ d τ=>(g d τ).bind b) (ds.drop (i+1)) τ'=some o,?_,?_⟩
    ·rintro σ' H' ⟨Hs',τ',r',e'⟩
     exact ⟨ds.length - (i+1),by omega,rfl,hlt,Hs',τ',r',e'⟩
    ·intro x H' y
     obtain ⟨Hs3,g3,rx⟩:=yl x H' y;have r3:=r2.ext' g3;unfold forM at e3
     cases q:(g ds[i] τ2).bind b with
     | none=>simp only [q] at e3; cases e3
     | some o1=>
      simp only [q] at e3;obtain ⟨τ3,q1,q2⟩:=Ub q;refine ⟨Hs1,H0,nf,ρ,Hs3,τ2,τ3,ds[i],r3,rx,q1,λ σ' r'=>?_⟩;refine ⟨Hs1,H0,nf,ρ,Hs3,τ3,o1,r',q2,?_⟩
      cases o1 with
      | next τ'=>exact λ σ4 Hs4 H4 r4=>⟨Hs4,τ',r4,e3⟩
      | cnt τ'=>exact λ σ4 Hs4 H4 r4=>⟨Hs4,τ',r4,e3⟩
      | brk τ'=>cases e3; exact kk
      | ret s τ'=>cases e3; exact kk
   ·have e0:i=ds.length:=by omega
    subst e0;rw [Y1] at e3;have e':v8.next τ2=o:=by simpa [forM] using e3
    subst e';exact .inl ⟨hstop _ (Zn _),kk σ2 Hs2 H2 r2⟩
  · cases e
 · cases e⟩
def bo (ha:Bx (PEd X a f)) (hb:Bx (PEd X b g)):Bx (PEd X (.BinOp a .Add b pos) (dOp kU f g)):=ji Ku ha hb
def vV (ha:Bx (PEd X a f)) (hb:Bx (PEd X b g)):Bx (PEd X (.BinOp a .Sub b pos) (dOp Fi f g)):=ji Kk ha hb
def qI (ha:Bx (PEd X a f)) (hb:Bx (PEd X b g)):Bx (PEd X (.BinOp a .Mult b pos) (dOp BG f g)):=ji Kn ha hb
def b8 (ha:Bx (PEd X a f)) (hb:Bx (PEd X b g)):Bx (PEd X (.BinOp a .FloorDiv b pos) (dOp oDiv f g)):=ji Kt ha hb
def cB (ha:Bx (PEd X a f)) (hb:Bx (PEd X b g)):Bx (PEd X (.BinOp a .Mod b pos) (dOp oMod f g)):=ji Ko ha hb
def EZ (ha:Bx (PEd X a f)) (hb:Bx (PEd X b g)):Bx (PEd X (.BinOp a .Pow b pos) (dOp Iw f g)):=ji Kl ha hb
def Ig (ha:Bx (PEd X a f)) (hb:Bx (PEd X b g)):Bx (PTd X (.Compare a [.Lt] [b] pos) (dT (dOp oLt f g))):=bT OF ha hb
def Pj (ha:Bx (PEd X a f)) (hb:Bx (PEd X b g)):Bx (PEd X (.Compare a [.Gt] [b] pos) (dOp oGt f g)):=k9 M7 ha hb
def me (ha:Bx (PEd X a f)) (hb:Bx (PEd X b g)):Bx (PTd X (.Compare a [.Gt] [b] pos) (dT (dOp oGt f g))):=bT M7 ha hb
def Ih (ha:Bx (PEd X a f)) (hb:Bx (PEd X b g)):Bx (PTd X (.Compare a [.GtE] [b] pos) (dT (dOp oGe f g))):=bT OG ha hb
def uD (ha:Bx (PEd X a f)) (hb:Bx (PEd X b g)):Bx (PTd X (.Compare a [.IsNot] [b] pos) (dT (dOp mO f g))):=bT BE ha hb
theorem zo (ha:Bx (PEd X a f)) (hb:Bx (PEd X b g)) (hm:behindInMarks .In b=false:=by rfl): Bx (PTd X (.Compare a [.In] [b] pos) (dT (dOp Dj f g))):=bT Kq ha hb hm
theorem E1 (ha:Bx (PEd X a f)) (hb:Bx (PEd X b g)) (hm:behindInMarks .NotIn b=false:=by rfl): Bx (PEd X (.Compare a [.NotIn] [b] pos) (dOp oq f g)):=k9 AB ha hb hm
theorem E3 (ha:Bx (PEd X a f)) (hb:Bx (PEd X b g)) (hr:dD jj X.A:=by assumption):Bx (PEd X (.Compare a [.Eq] [b] pos) (dOp oEq f g)):=k9 (Ks hr.units) ha hb
theorem cA (ha:Bx (PEd X a f)) (hb:Bx (PEd X b g)) (hr:dD jj X.A:=by assumption):Bx (PTd X (.Compare a [.Eq] [b] pos) (dT (dOp oEq f g))):=bT (Ks hr.units) ha hb
theorem d5 (ha:Bx (PEd X a f)) (hb:Bx (PEd X b g)) (hr:dD jj X.A:=by assumption):Bx (PTd X (.Compare a [.NotEq] [b] pos) (dT (dOp oNe f g))):=bT (Fh hr.units) ha hb
def qH (ha:Bx (PEd X a f)):Bx (PEd X (.UnaryOp .USub a pos) (dUn GX f)):=EW Km ha
def bE (h:Bx (PEd X e f)) (he:Se X e []:=by rfl):Bx (PAd X [e] (aF f cN)):=az h cO he
theorem cb {e2:Expr} {f2:DE} (h:Bx (PEd X e f)) (h2:Bx (PEd X e2 f2)) (he:Se X e [e2]:=by rfl) (he2:Se X e2 []:=by rfl):Bx (PAd X [e,e2] (aF f (aF f2 cN))):=az h (bE h2 he2) he
theorem oX {e2 e3:Expr} {f2 f3:DE} (h:Bx (PEd X e f)) (h2:Bx (PEd X e2 f2)) (h3:Bx (PEd X e3 f3)) (he:Se X e [e2,e3]:=by rfl) (he2:Se X e2 [e3]:=by rfl) (he3:Se X e3 []:=by rfl):Bx (PAd X [e,e2,e3] (aF f (aF f2 (aF f3 cN)))):=az h (cb h2 h3 he2 he3) he
theorem Ph (i:Nat) {j:Int} (hN:X.N[i]?=some x:=by exact rfl) (hv:Vis X.env.scope x:=by walk_at "w") (hd:Dg x:=by decide) (hcd:Dc x:=by decide):Bx (PEd X (.Subscript (.Name x p) (.Constant (.int j) k q) r) (dOp oIx (aI i) (dC (.int j)))):=cG (aa i hN hv hd hcd) ae (λ _ _=>rfl)
theorem qT (i:Nat) {x:Str} {f:DE} {pos':Pos} (hN:X.N.Nodup) (he:Bx (PEd X e f)) (hi:X.N[i]?=some x:=by exact rfl) (hx:Loc X.env.scope x:=by walk_at "v") (hs:Sw X e x pos' pos:=by rfl) (hf:Xl X x:=by walk_at "v"):Bx (PSd X (.Assign [.Name x pos'] e pos) (vY i f)):=zx i hN hi he hx hs hf
def Ic (mg:Str->Px Py) (x:Str) (i:Int):Prop:=∃ t,mg x=some (.int i t)
theorem sV (h:Ic X.mg x i) (hg:Gl X x:=by rfl) (hd:Dg x:=by decide):Bx (PEd X (.Name x pos) (dC (.int i))):=h.elim λ _ h=>⟨C0 (v:=.int i) hg h ⟨_,rfl⟩ (λ _=>.int _) hd⟩
theorem ckN {X:Cx} {scope:Scope} {cl:My (Str×Pz)} {x:Str} (cs:My (Str×Nat)) (h0:closureFor scope X.env=pure cl:=by rfl) (h1:scope.kind=.function:=by rfl) (h2:(scope.names.all λ y=>!(y.2 == .cell))=true:=by rfl)
 (h3:(scope.names.all λ y=>!(y.2 == .local)||(scope.names.lookup y.1 == some .local))=true:=by rfl) (h4:scope.names.lookup x=some .local:=by rfl) (h5:Fu X cl:=by walk_at "r")
 (h6:((relabel scope X.env).names.all λ p=>!(p.2 == .cell||p.2 == .free)||(cl.lookup p.1).isSome)=true:=by rfl)
 (h7:AllP X scope cs:=by walk_at "r") (h8:(x::cs.map (·.1)).Nodup:=by decide +kernel):dY X scope cl x cs:=EO cs h0 h1 h2 h3 h4 h5 h6 h7 h8
theorem ck0 {X:Cx} {scope:Scope} {x:Str} (h1:scope.kind=.function:=by rfl) (h2:∀ y ∈ scope.names,y.2≠.cell:=by decide +kernel) (h3:∀ y ∈ scope.names,y.2≠.free:=by decide +kernel) (h4:∀ y ∈ scope.names,y.2=.local->scope.names.lookup y.1=some .local:=by decide +kernel) (h5:scope.names.lookup x=some .local:=by rfl):dY X scope [] x []:=ES h1 h2 h3 h4 h5
section
variable {P:Program} {w:World} {K:PB} {mg:Str->Px Py} {base:Heap} {x q:Str} {st:Stmt} {ps:My Str} {k:Nat} {C:Pz}
abbrev Bdy (P:Program) (w:World) (K:PB) (mg:Str->Px Py) (base:Heap) (k:Nat) (q:Str) (st:Stmt) (N:My Str) (J:Cx->My Stmt->Prop):Prop:=∀ {cdv:Py} {A:Around} {outer:My Env} {s:PD} {H:Hp} {E:XK} {f:Pz},dD k (A.deeper (envOfC q (aD st) s.heap.objs.size f cdv))->N.Nodup->Bx (J (qB CX0 P w K mg base N q (aD st) f cdv A outer s H E).nox (bP st))
theorem oD (N:My Str) {b:DS} (D:Df K mg x st ps) (h:Bdy P w K mg base k x st N λ X b'=>zM X b' b) (S:cM N ps (aD st):=by walk_at "s"):Go P w K mg base (k+1) x (spF (iJ N.length ps.length b) K):=
 have ⟨a,d,F,m,bi⟩:=D
 ⟨a,d,ps,m,F.kp,bi,F.okD S λ cdv A outer s H E hr=>(h hr S.nd).out⟩
theorem oDm (N:My Str) {b:DS} (D:Mf K C x q st ps) (h:Bdy P w K mg base k q st N λ X b'=>zM X b' b) (S:cM N ps (aD st):=by walk_at "s"):GoM P w K mg base (k+1) C x (spF (iJ N.length ps.length b) K):=
 have ⟨a,d,F,m,bi⟩:=D
 ⟨a,d,ps,m,bi,F.okD S λ cdv A outer s H E hr=>(h hr S.nd).out⟩
theorem oM (N:My Str) {b:DSm} (D:Df K mg x st ps) (h:Bdy P w K mg base k x st N λ X b'=>uJ X b' b) (S:cM N ps (aD st):=by walk_at "s"):Go P w K mg base (k+1) x (spM (kS N.length ps.length b) K):=
 have ⟨a,d,F,m,bi⟩:=D
 ⟨a,d,ps,m,F.kp,bi,F.okM S λ cdv A outer s H E hr=>(h hr S.nd).out⟩
theorem oMm (N:My Str) {b:DSm} (D:Mf K C x q st ps) (h:Bdy P w K mg base k q st N λ X b'=>uJ X b' b) (S:cM N ps (aD st):=by walk_at "s"):GoM P w K mg base (k+1) C x (spM (kS N.length ps.length b) K):=
 have ⟨a,d,F,m,bi⟩:=D
 ⟨a,d,ps,m,bi,F.okM S λ cdv A outer s H E hr=>(h hr S.nd).out⟩
theorem oMi (N:My Str) {b:DSm} (D:If K C q st ps) (h:Bdy P w K mg base k q st N λ X b'=>uJ X b' b) (S:cM N ps (aD st):=by walk_at "s"):GoI P w K mg base (k+1) C (spM (kS N.length ps.length b) K):=
 have ⟨a,d,F,m,bi⟩:=D
 ⟨a,d,ps,m,bi,F.okM S λ cdv A outer s H E hr=>(h hr S.nd).out⟩
theorem oLM (N:My Str) {b:DSm} {a:Pz} {d:FuncData} (F:Fun K x x st a d) (h:Bdy P w K mg base k x st N λ X b'=>uJ X b' b) (S:cM N ps (aD st):=by walk_at "s"):gO P w K mg base CX0 (k+1) a d ps (spM (kS N.length ps.length b) K):=F.okM S λ cdv A outer s H E hr=>(h hr S.nd).out
theorem Fn0.df {f:Pz} {h:Heap} (e:Fn0 K x st f) (X:K.In h) (G:h.Ns mainGlobals mg) (hb:∀ (kV doc pm:Py) (an:Px Pz) (cdv ct:Py) (us:My Py),us.length=ps.length->bindArgs (PySem.W.fnOf x x (dv st) (bP st) (aD st) .none kV doc pm an cdv ct) ⟨us,[]⟩=pure (ps.zip us)):Df K mg x st ps:=
 have ⟨d,F,m,b⟩:=e.mk X G hb
 ⟨f,d,F,m,b⟩
theorem DW {f:Pz} {oc:Py} {od an:Px Pz} {osl:Array (Px Py)} {kV doc pm cdv ct:Py} (a:W.findIn K (.ref C) x=some (some (.ref f))) (i:PySem.W.isFn K (.ref f)=true) (l:K.lookup f=some ⟨oc,od,.func (PySem.W.fnOf x q (dv st) (bP st) (aD st) .none kV doc pm an cdv ct),osl⟩) (c:PySem.W.codeIn K cdv q=true) (k:W.keepIn K (.ref f)=true) (hb:∀ (kV doc pm:Py) (an:Px Pz) (cdv ct:Py) (us:My Py),us.length=ps.length->bindArgs (PySem.W.fnOf x q (dv st) (bP st) (aD st) .none kV doc pm an cdv ct) ⟨us,[]⟩=pure (ps.zip us)):Mf K C x q st ps:=
 ⟨f,_,l5 (st:=st) l c k,⟨a,i,k⟩,(l5 (st:=st) l c k).binds hb⟩
theorem Mp {f:Pz} {oc:Py} {od an:Px Pz} {osl:Array (Px Py)} {kV doc pm cdv ct:Py} (a:W.findIn K (.ref C) "__init__"=some (some (.ref f))) (i:PySem.W.isFn K (.ref f)=true) (l:K.lookup f=some ⟨oc,od,.func (PySem.W.fnOf "__init__" q (dv st) (bP st) (aD st) .none kV doc pm an cdv ct),osl⟩) (c:PySem.W.codeIn K cdv q=true) (k:W.keepIn K (.ref f)=true) (mk:PySem.W.makesIn K C=true) (kc:W.keepIn K (.ref C)=true) (hb:∀ (kV doc pm:Py) (an:Px Pz) (cdv ct:Py) (us:My Py),us.length=ps.length->bindArgs (PySem.W.fnOf "__init__" q (dv st) (bP st) (aD st) .none kV doc pm an cdv ct) ⟨us,[]⟩=pure (ps.zip us)):If K C q st ps:=
 ⟨f,_,l5 (st:=st) l c k,⟨mk,a,i,kc⟩,(l5 (st:=st) l c k).binds hb⟩
def Lf (K:PB) (mg:Str->Px Py) (x:Str) (st:Stmt) (y:Str):Prop:=∃ a d,Fun K x x st a d/\mg x=some (.ref a)/\∀ (s:PD) (u:Py),BindsTo s d ⟨[u],[]⟩ [(y,u)]
theorem Ml {f:Pz} {y:Str} {h:Heap} (e:Fn0 K x st f) (X:K.In h) (G:h.Ns mainGlobals mg) (hb:∀ (kV doc pm:Py) (an:Px Pz) (cdv ct:Py) (s:PD) (u:Py),BindsTo s (PySem.W.fnOf x x (dv st) (bP st) (aD st) .none kV doc pm an cdv ct) ⟨[u],[]⟩ [(y,u)]):Lf K mg x st y:=by
 obtain ⟨od,an,sl,oc,kV,dc,pm,cd,ct,a,l,c,k⟩:=e;exact ⟨_,_,l5 (st:=st) l c k,PySem.W.mg_of X G a,hb _ _ _ _ _ _⟩
end
end L2
end
section
end
section
end
section
end
section
namespace L2
open PySem PySem.Spec PyProof.Rows
def FX (C:Pz) (m:Str) (sp:Sp) (dvs:My V) (EX:St->XK) (ta:TE) (t:TA):TE:=λ σ H Q=>ta σ H λ x H1=>∃ a dx fs,x=.ref a/\H1 a=some (.ins C dx fs)/\fs.lookup m=none/\t σ H1 λ vs H2=>sp (x::(vs++dvs)) H2 Q (EX σ)
section
variable {X:Cx} {CX:CXT} {k:Nat} {f C:Pz} {fd:FuncData} {ps:My Str} {sp:Sp} {dvs:My V} {ds:My Py} {EX:St->XK} {x m:Str} {p pos Po:Pos} {e o:Expr} {es:My Expr} {ta:TE} {t:TA}
theorem As {pl:Sem Bool} (he:PE X o ta) (c:Cls X.K C) (hm:B7 X.K C m f) (F:gO X.prog X.w X.K X.mg X.base CX k f fd ps sp) (hr:dD k X.A) (hb:Binds X.K fd ps ds) (hd:bX dvs ds) (hx:∀ σ,dO CX X σ (EX σ)) (ha:PA X (e::es) t)
  (hst:Se X e es:=by rfl) (hpl:Sb X pos es:=by rfl)
  (ht:eval (.Call (.Attribute o m Po) (e::es) [] pos) X.env=(do
    let ov <- eval o X.env
    standAt Po.atName
    let (f,first) <- holding [ov] (getMethod ov m pl)
    callWith pos f first (backTo pos (starEach (e::es) X.env)) (backToKw pos (keywordEach [] X.env))):=by rfl):PE X (.Call (.Attribute o m Po) (e::es) [] pos) (FX C m sp dvs EX ta t):=by
 intro Pn s σ H Q I h;refine PySem.W.methodCall_KW (pl:=pl) (thn (he Pn s σ H _ I h) λ u s1 ⟨x,H1,I1,rx,a,dx,fs,ex,ea,l,q⟩=>?_) ht;subst ex;cases (show u=Value.ref a from rx);refine nv I1 ea c hm l (Xd (first:=[.ref a]) (h₀:=X.base) I.ok.mod.kin hm.kp (thn (ha pos Pn s1 σ H1 _ I1 q) λ us s2 ⟨vs,H2,I2,r,q2⟩=>⟨I2.kIn,wL (us:=.ref a::us) (vs:=.ref a::vs) F hr hb hd (hx σ) I2 (.cons rfl r) q2⟩) hst hpl)
end
end L2
end
section
namespace L2
open PySem
section
variable {τ τ':My Sl} {f g h:DE} {x y z d:D}
def aM {i:Nat} (q:τ[i]?=some (.shr d)):aI i τ=some d:=by unfold aI; rw [q]
def e_v {i:Nat} (q:τ[i]?=some (.shr d):=by rfl):aI i τ=some d:=aM q
def Ua:dC d τ=some d:=rfl
def aH {o:D->D->Px D} (h1:f τ=some x) (h2:g τ=some y) (h3:o x y=some z):dOp o f g τ=some z:=by unfold dOp; rw [h1,h2]; exact h3
def Ud {i:Nat} {d y z:D} {o:D->D->Px D} {τ:My Sl} (q:τ[i]?=some (.shr d)):o d y=some z->dOp o (aI i) (dC y) τ=some z:=aH (aM q) Ua
def Fm {o:D->Px D} (h1:f τ=some x) (h3:o x=some z):dUn o f τ=some z:=by unfold dUn; rw [h1]; exact h3
def ar:cN τ=some []:=rfl
def af {ga:DA} {xs:My D} (h1:f τ=some x) (h2:ga τ=some xs):aF f ga τ=some (x::xs):=by unfold aF; rw [h1,h2]; rfl
def bM {o:My D->Px D} {ga:DA} {xs:My D} (h1:ga τ=some xs) (h2:o xs=some z):kX o ga τ=some z:=by unfold kX; rw [h1]; exact h2
def qy {ga:DA} {xs:My D} (h1:ga τ=some xs) (h2:xs.length<=100000):zP ga τ=some (.tup xs):=by unfold zP; rw [h1]; exact if_pos h2
def gA {ga:DA} {xs:My D} (h1:ga τ=some xs) (h2:xs.length<=100000):Fp ga τ=some (.lst xs):=by unfold Fp; rw [h1]; exact if_pos h2
theorem cU {F:My D->Px Sl} {ga:DA} {xs:My D} {s:Sl} (h1:ga τ=some xs) (h2:F xs=some s) (h3:slD s=some z):dFn F ga τ=some z:=by unfold dFn; rw [h1]; show (F xs).bind slD=_; rw [h2]; exact h3
theorem AW {F:My D->Px Sl} {ga:DA} {xs:My D} {s:Sl} (h1:ga τ=some xs) (h2:F xs=some s) (h3:slO s=some z):EK F ga τ=some z:=by unfold EK; rw [h1]; show (F xs).bind slO=_; rw [h2]; exact h3
def aP {b:Bool} (h1:f τ=some (.bl b)):dT f τ=some b:=by unfold dT; rw [h1]; rfl
theorem FP {f g:DT} {b c:Bool} (h1:f τ=some b) (h2:b=true->g τ=some c) (h3:b=false->c=false):B0 f g τ=some c:=by
 unfold B0; rw [h1]
 cases b with
 | true=>exact h2 rfl
 | false=>rw [h3 rfl]; rfl
theorem tm {f g:DT} {b c:Bool} (h1:f τ=some b) (h2:b=false->g τ=some c) (h3:b=true->c=true):dOr f g τ=some c:=by
 unfold dOr; rw [h1]
 cases b with
 | false=>exact h2 rfl
 | true=>rw [h3 rfl]; rfl
def gQ {f:DT} {b:Bool} (h1:f τ=some b):A2 f τ=some (!b):=by unfold A2; rw [h1]; rfl
def Iu:N2 τ=some none:=rfl
def m8 {i:Int} (h:f τ=some (.int i)):dP f τ=some (some i):=by unfold dP; rw [h]; rfl
theorem N0 {l u:DO} {lo hi:Px Int} (h1:f τ=some x) (h2:l τ=some lo) (h3:u τ=some hi) (h4:oSl x lo hi=some z):dSl f l u τ=some z:=by unfold dSl; rw [h1]; show (l τ).bind _=_; rw [h2]; show (u τ).bind _=_; rw [h3]; exact h4
theorem qz {it:DI} {g:DE} {cs:My (Str×Nat)} {ds es:My D} (h1:it τ=some ds) (hl:ds.length<=100000) (h2:xY (λ d=>g (.shr d::fQ τ cs)) ds=some es):A3 it g cs τ=some (.lst es):=by
 unfold A3; rw [h1]; show (if ds.length<=100000 then _ else _)=_; rw [if_pos hl,h2]; rfl
theorem fV {C:Pz} {n:Str} {fs:My (Str×D)} (h1:f τ=some (.obj C fs)) (h2:fs.lookup n=some z):dUn (AE C n) f τ=some z:=by unfold dUn; rw [h1]; show (if C=C then _ else _)=_; rw [if_pos rfl]; exact h2
theorem bZ {C:Pz} {m:Str} {F:My D->Px Sl} {o:DE} {ga:DA} {fs:My (Str×D)} {xs:My D} {s:Sl} (h1:o τ=some (.obj C fs)) (h2:ga τ=some xs) (h0:fs.lookup m=none) (h3:F (.obj C fs::xs)=some s) (h4:slD s=some z):ig C m F o ga τ=some z:=by
 unfold ig; rw [h1]; show (ga τ).bind _=_; rw [h2]; show (if C=C/\_ then _ else _)=_; rw [if_pos ⟨rfl,h0⟩,h3]; exact h4
def yr {ds:My D} (h:f τ=some (.lst ds)):JA f τ=some ds:=by unfold JA; rw [h]; rfl
def vt {ga:DA} {j:Int} (h:ga τ=some [.int j]) (h1:-(2 ^ 62)<=j/\j < 2 ^ 62):uf ga τ=some (nY 0 j.toNat):=by unfold uf; rw [h]; exact if_pos h1
def JR {i:Nat} {d0:D} {f:DT} {b:Bool} (q:τ[i]?=some (.own d0)) (h:f (τ.set i (.shr d0))=some b):F7 i f τ=some b:=by unfold F7; rw [q]; exact h
end
section
variable {τ τ':My Sl} {f g:DS} {e:DE} {d:D} {o:Out}
def dF (h:f τ=some (.next τ')) (h2:g τ'=some o):lD f g τ=some o:=by simp only [lD,h]; exact h2
def gT {i:Nat} (h:e τ=some d):vY i e τ=some (.next (τ.set i (.shr d))):=by unfold vY; rw [h]; rfl
def pD {i:Nat} (h:e τ=some d) (hi:i < τ.length):z8 i e τ=some (.next (τ.set i (.own d))):=by unfold z8; rw [if_pos hi,h]; rfl
def da (h:e τ=some d):zO e τ=some (.ret (.shr d)):=by unfold zO; rw [h]; rfl
def Gh (h:e τ=some d):Ct e τ=some (.ret (.own d)):=by unfold Ct; rw [h]; rfl
def wD {i:Nat} (q:τ[i]?=some (.own d)):z9 i τ=some (.ret (.own d)):=by unfold z9; rw [q]
def gU (h:e τ=some d):Ad e τ=some (.next τ):=by unfold Ad; rw [h]; rfl
theorem wF {c:DT} {b:Bool} {r:Px Out} (h:c τ=some b) (h1:b=true->f τ=r) (h2:b=false->g τ=r):sIf c f g τ=r:=by
 unfold sIf; rw [h]
 cases b with
 | true=>exact h1 rfl
 | false=>exact h2 rfl
theorem Gj {i:Nat} {ds:My D} (h:e τ=some d) (q:τ[i]?=some (.own (.lst ds))) (hl:ds.length < 100000):Cw i e τ=some (.next (τ.set i (.own (.lst (ds++[d]))))):=by unfold Cw; rw [h]; show (match τ[i]? with | some (.own (.lst ds))=>_ | _=>_)=_; rw [q]; exact if_pos hl
def Cs {it:DI} {gg:DG} {ds:My D} {r:Px Out} (h1:it τ=some ds) (h2:v7 (λ d τ=>(gg d τ).bind f) ds τ=r):Iq it gg f τ=r:=by unfold Iq; rw [h1]; exact h2
def fk {n m:Nat} {b:DS} {ds:My D} {s:Sl} (h:b (dk n ds)=some (.ret s)) (hl:ds.length=m:=by rfl):iJ n m b ds=some s:=by
 unfold iJ;rw [if_pos hl,h]
theorem Es {it:DI} {gg:DG} {ds:My D} (P:Nat->My Sl->Prop) (h1:it τ=some ds) (h0:P 0 τ) (hs:∀ j d τ,ds[j]?=some d->P j τ->∃ τ1 τ2,gg d τ=some τ1/\f τ1=some (.next τ2)/\P (j+1) τ2):∃ τ',Iq it gg f τ=some (.next τ')/\P ds.length τ':=by
 obtain ⟨τ',e,p⟩:=uk (o:=.next []) (b:=λ d τ=>(gg d τ).bind f) P 0 h0 (λ j d τ hd p=>by
  rw [Nat.zero_add] at *;obtain ⟨τ1,τ2,e1,e2,p2⟩:=hs j d τ hd p
  exact ⟨τ2,by rw [e1]; exact e2,p2⟩)
 rw [Nat.zero_add] at p;exact ⟨τ',Cs h1 e,p⟩
theorem i9 {lo:Int} {n j:Nat} {d:D} (h:(nY lo n)[j]?=some d):d=.int (lo+j)/\j < n:=by
 unfold nY at h;rw [List.getElem?_map] at h
 by_cases hj:j < n
 ·rw [List.getElem?_range hj] at h
  exact ⟨by simpa using h.symm,hj⟩
 ·rw [List.getElem?_eq_none (by simpa using hj)] at h
  cases h
def iZ {lo:Int} {n:Nat}:(nY lo n).length=n:=by simp [nY]
end
def aG (i j:Int):kU (.int i) (.int j)=some (.int (i+j)):=rfl
def gr (i j:Int):Fi (.int i) (.int j)=some (.int (i - j)):=rfl
def rT (i j:Int):oLt (.int i) (.int j)=some (.bl (decide (i < j))):=rfl
theorem aQ {i j:Int} (h:0 < j):oMod (.int i) (.int j)=some (.int (i % j)):=by
 simp only [oMod,Ne.symm (Int.ne_of_lt h),ne_eq,not_false_eq_true,if_true,Int.fmod_eq_emod_of_nonneg _ (Int.le_of_lt h)]
theorem dM {i j:Int} (h:0 < j) (z:Sz j):oDiv (.int i) (.int j)=some (.int (i / j)):=by
 simp only [oDiv,Ne.symm (Int.ne_of_lt h),ne_eq,not_false_eq_true,z,and_self,if_true,Int.fdiv_eq_ediv_of_nonneg _ (Int.le_of_lt h)]
theorem BF {i j:Int} (h:-(2 ^ 64) < j) (z:j < 2 ^ 64):BG (.int i) (.int j)=some (.int (i * j)):=by
 have:Ca i j:=.inr ⟨h,z⟩;simp only [BG,this,true_or,if_true]
theorem GY {i j:Int} (h:-(2 ^ 64) < i) (z:i < 2 ^ 64):BG (.int i) (.int j)=some (.int (i * j)):=by
 have:Ca i j:=.inl ⟨h,z⟩;simp only [BG,this,true_or,if_true]
def bN (i j:Int):oEq (.int i) (.int j)=some (.bl (decide (i=j))):=rfl
def g8 (i j:Int):oNe (.int i) (.int j)=some (.bl (!decide (i=j))):=rfl
def xM (i j:Str):oNe (.str i) (.str j)=some (.bl (!decide (i=j))):=rfl
def Bc {α:Type} (x:α) (xs:My α):atI (x::xs) 0=some x:=by simp [atI,ixN]
def Cq (d:D):slD (.shr d)=some d:=rfl
def pS (x:D) (xs:My D):oIx (.tup (x::xs)) (.int 0)=some x:=Bc _ _
theorem m5 {τ:My Sl} {c:DT} {f g:DS} {r:Px Out} (h:c τ=some false) (h2:g τ=r):lD (sIf c f kR) g τ=r:=by
 simp only [lD,sIf,h,Z4,Bool.false_eq_true,if_false,kR];exact h2
theorem tF {τ:My Sl} {c:DT} {f g:DS} {s:Sl} (h:c τ=some true) (h2:f τ=some (.ret s)):lD (sIf c f kR) g τ=some (.ret s):=by
 simp only [lD,sIf,h,Z4,if_true,h2]
section
variable {τ τ':My Sl} {f g:DS} {e e2 e3:DE} {c:DT} {b:Bool} {d x y z:D} {P:D->Prop} {R:My Sl->Prop}
def tw {f g:DT} {b c:Bool} (h1:f τ=some b) (h2:g τ=some c):B0 f g τ=some (b&&c):=by
 unfold B0; rw [h1]; cases b <;> simp [h2]
def FO {f g:DT} {b c:Bool} (h1:f τ=some b) (h2:g τ=some c):dOr f g τ=some (b||c):=by
 unfold dOr; rw [h1]; cases b <;> simp [h2]
def gM {b c:Bool} (h1:e τ=some (.bl b)) (h2:e2 τ=some (.bl c)):sL e e2 τ=some (.bl (b&&c)):=by
 unfold sL; rw [h1]; cases b <;> simp [h2]
def HW {b c:Bool} (h1:e τ=some (.bl b)) (h2:e2 τ=some (.bl c)):Ia e e2 τ=some (.bl (b||c)):=by
 unfold Ia; rw [h1]; cases b <;> simp [h2]
theorem BX {kvs:My (Key×D)} {k:Key} (h1:e τ=some (.dct kvs)) (h2:e2 τ=some y) (h3:e3 τ=some z) (hk:fu y=some k):EJ e e2 e3 τ=some ((jv kvs k).getD z):=by
 unfold EJ; rw [h1]; show (e2 τ).bind _=_; rw [h2]; show (e3 τ).bind _=_; rw [h3]; show (fu y).map _=_; rw [hk]; rfl
end
theorem qO {α:Type} {xs:My α} {j:Int} (h0:0<=j) (h1:j < xs.length):∃ (h:j.toNat < xs.length),atI xs j=some xs[j.toNat]:=by
 refine ⟨by omega,?_⟩;have e:=E6 (xs:=xs) (j:=j.toNat) (List.getElem?_eq_getElem (by omega));rw [show ((j.toNat:Nat):Int)=j by omega] at e;exact e
end L2
end
section
namespace L2
open PySem PySem.Spec PyProof.Rows
section
variable {X:Cx} {o e a b:Expr} {f g:DE} {Po Pp pos py:Pos} {y:Str}
def jc:D->D->Px D
 | .str i,.str j=>some (.bl (!occ j i))
 | _,_=>none
theorem AA:OpR X (compareOp .NotIn) (rdR X.K jc):=pM.imp λ x y H Q w0=>g45 w0 λ Hs dx dy d sm rx ry e k=>by
 cases rx with
 | str i=>cases ry with
  | str j=>
   have e':=Zj e;subst e';exact ⟨i,j,rfl,rfl,k _ Hs H (.refl sm) (.bl _)⟩
  | _=>exact nn e
 | _=>cases dy <;> exact nn e
def Fg (x:Str) (n:Nat):Str:=⟨(List.replicate n x.cps).foldl (·++·) #[]⟩
theorem tJ (x:Array Nat):∀ (n:Nat) (a:Array Nat),((List.replicate n x).foldl (·++·) a).size=a.size+n * x.size
 | 0,a=>by simp
 | n+1,a=>by
  rw [Y0,List.foldl_cons,tJ x n,Array.size_append,Nat.succ_mul];omega
theorem tK (x:Str) (n:Nat):(Fg x n).length=n * x.length:=(tJ x.cps n #[]).trans (by simp [Str.length])
noncomputable def Dh:D->D->Px D
 | .str x,.int n=>if (1<=x.length/\x.length<=100)/\1 < n/\n < 1000 then some (.str (Fg x n.toNat)) else none
 | _,_=>none
theorem GS:OpR X (binaryOp .Mult) (rdR X.K Dh):=by
 intro Pn s σ H x y v u Q I rx ry h;obtain ⟨Hs,dx,dy,d,sm,r1,r2,e,k⟩:=h;unfold Dh at e;split at e
 ·rename_i xx n
  split at e
  ·rename_i hz
   cases e;cases r1;cases r2;obtain ⟨t,rfl⟩:=rx;obtain ⟨t2,rfl⟩:=ry;have n1:¬ n < 1:=by omega
   have n2:¬ (n == 1||xx.length == 0)=true:=by
    rw [Bool.or_eq_true]
    rintro (z | z)
    · have:=Y2.mp z; omega
    · have:=Y2.mp z; omega
   refine P.mul_str ?_ (λ _ _=>?_) (λ _ _=>?_) ?_
   · rw [Zl (by omega),Zl (by omega)]; rfl
   ·have:(2 ^ 63 - 1) / n ≥ (2 ^ 63 - 1) / 1000:=by
     refine Int.le_ediv_of_mul_le (by omega) ?_
     omega
    omega
   ·unfold Builtin.Str.tooLong
    have nl:xx.length * n.toNat<=100 * 999:=Nat.mul_le_mul hz.1.2 (by omega);exact Zl (by have h:=(by decide:sizeLine ≥ 100000); omega)
   ·rw [if_neg n1,if_neg n2]
    refine ⟨?_,.str (Fg xx n.toNat),H,I.tok _,⟨_,rfl⟩,k (.str _) Hs H (.refl sm) (.str _)⟩;have:=tK xx n.toNat;unfold Fg at this;have l:sizeLine ≥ 100000:=by decide
    have nl:n.toNat * xx.length<=999 * 100:=Nat.mul_le_mul (by omega) hz.1.2;omega
  · cases e
 · cases e
end
end L2
end
section
namespace L2
open PySem PySem.Spec PySem.W PySem.Calls PyProof.Rows
theorem vJ {X:Cx} {K:Frag} (hK:X.K=K):fw X (.builtin "isinstance") (λ xs H Q=>∃ (a D p:Pz) (cs:My Pz) (b:Bool),xs=[.ref a,.ref p]/\H p=some (.tup (cs.map V.ref))/\H a=some (.ext (uL a D))/\yL K D=true/\kitAny K (.ref D) (cs.map Value.ref)=some b/\Q (.bl b) H):=by
 subst hK;intro Pn s σ H xs us Q I r h;obtain ⟨a,D,p,cs,b,rfl,hp,hH,ok,e,q⟩:=h;obtain ⟨u,w',rfl,ru,rw'⟩:=vals2 r;cases (show u=Value.ref a from ru);cases (show w'=Value.ref p from rw');obtain ⟨hz,its,vs,⟨oc,od,dt,sl⟩,ho,hcl,n,hd⟩:=I.hok _ _ hp
 have ei:its=cs.map Value.ref:=by
  clear hd ho e hp r hz
  induction cs generalizing its with
  | nil=>cases vs; rfl
  | cons c cs ih=>
   cases vs with
   | cons h t=>cases (show _=Value.ref c from h); rw [ih _ t]; rfl
 subst ei;cases (show oc=Value.type "tuple" from hcl);cases (show dt=_ from hd);exact kia_tup (yg ok) I.kIn (I.hok _ _ hH).1 ho e (λ z=>nomatch z) λ tk=>⟨.bl b,H,I.tok tk,rfl,q⟩
end L2
end
section
namespace L2
open PySem PySem.Spec PyProof.Rows
def yN (K:PB) (cs:My Pz) (h:Pz) (os:My Pz):Bool:=decide cs.Nodup&&cs.all λ c=>PySem.W.excIn K c MM "ValueError.__new__"&&yL K c&&(PySem.W.exmOne K (.ref c) (.ref h) == some true)&&(cs.all λ d=>PySem.W.kitOne K (.ref c) (.ref d) == some (c == d))&&(PySem.W.kitOne K (.ref c) (.type "ValueError") == some true)&&(PySem.W.kitAny K (.ref c) (os.map .ref) == some false)
structure MQ (K:W.Frag) (cs:List Addr) (h:Addr) (os:List Addr) (c:Addr):Prop where
 x:PySem.W.excIn K c MM "ValueError.__new__"=true
 o:yL K c=true
 m:PySem.W.exmOne K (.ref c) (.ref h)=some true
 i:∀ d ∈ cs,PySem.W.kitOne K (.ref c) (.ref d)=some (c == d)
 v:PySem.W.kitOne K (.ref c) (.type "ValueError")=some true
 n:PySem.W.kitAny K (.ref c) (os.map .ref)=some false
theorem uo {K:PB} {cs os:My Pz} {h c:Pz} (e:yN K cs h os=true) (hc:c ∈ cs):MQ K cs h os c:=by
 unfold yN at e;rw [Z7] at e;have e:=Yq.mp e.2 c hc;simp only [Z7,Y2,Yq] at e;obtain ⟨⟨⟨⟨⟨e1,e2⟩,e3⟩,e4⟩,e5⟩,e6⟩:=e;exact ⟨e1,e2,e3,e4,e5,e6⟩
abbrev DY:=My Sl->Px Pz
def Fk (E:XK) (C:Pz) (H:Hp):Prop:=∀ H',cc H H'->E (.ref C) none H'
def Fk.on (h:Fk E C H) (g:cc H H'):Fk E C H':=λ _ k=>h _ (g.trans k)
def ryS (K:PB) (E:XK) (r:DY):TS:=λ _ σ H=>∃ Hs0 H0 Hs τ C,Rep K Hs0 H0 Hs H σ τ/\r τ=some C/\Fk E C H0
def PSy (X:Cx) (E:XK) (s:Stmt) (r:DY):Prop:=PS X s (ryS X.K E r)
def Be (X:Cx) (E:XK) (s:My Stmt) (r:DY):Prop:=PSs X s (ryS X.K E r)
def spY (R:My D->Px Pz) (K:PB):Sp:=λ vs H _ E=>∃ Hs ds C,cc Hs H/\Rps K Hs vs ds/\R ds=some C/\Fk E C H
structure Gy (P:Program) (w:World) (K:W.Frag) (mg:Str->Option Value) (base:Heap) (k:Nat) (x:Str) (sp:Sp):Prop where
 go:∃ f fd ps,mg x=some (.ref f)/\W.keepIn K (.ref f)=true/\Binds K fd ps []/\gO P w K mg base (CX1 P w) k f fd ps sp
structure GyM (P:Program) (w:World) (K:W.Frag) (mg:Str->Option Value) (base:Heap) (k:Nat) (C:Addr) (x:Str) (sp:Sp):Prop where
 go:∃ f fd ps,B7 K C x f/\Binds K fd ps []/\gO P w K mg base (CX1 P w) k f fd ps sp
structure GyI (P:Program) (w:World) (K:W.Frag) (mg:Str->Option Value) (base:Heap) (k:Nat) (C:Addr) (sp:Sp):Prop where
 go:∃ f fd ps,Mk K C f/\Binds K fd ps []/\gO P w K mg base (CX1 P w) k f fd ps sp
structure Yp (X:Cx) (E:XK):Prop where
 pa:∀ σ,dO (CX1 X.prog X.w) X σ E
 ra:zK X E
def zR (g:DA) (R:My D->Px Pz):DY:=λ τ=>(g τ).bind R
noncomputable def qZ (C:Pz) (m:Str) (f:DE) (g:DA) (R:My D->Px Pz):DY:=λ τ=>match f τ with
 | some (.obj C' fs)=>if C'=C/\fs.lookup m=none then (g τ).bind λ ds=>R (.obj C' fs::ds) else none
 | _=>none
def yC (C:Pz):DY:=λ _=>some C
noncomputable def yIf (t:DT) (a b:DY):DY:=λ τ=>match t τ with
 | some true=>a τ
 | some false=>b τ
 | none=>none
def yNo:DY:=λ _=>none
def yTl (d:DS) (r:DY):DY:=λ τ=>match d τ with
 | some (.next τ')=>r τ'
 | _=>none
noncomputable def uO (d:DS) (r1 r2:DY):DY:=λ τ=>match r1 τ with
 | some C=>some C
 | none=>yTl d r2 τ
def rzS (K:PB) (EX:St->XK) (r:DY):TS:=λ _ σ H=>∃ H0 Hs τ fp C,StR K H0 Hs H σ τ fp/\cc Hs H/\r τ=some C/\Fk (EX σ) C H
def PSz (X:Cx) (EX:St->XK) (s:Stmt) (r:DY):Prop:=PS X s (rzS X.K EX r)
def MP (X:Cx) (EX:St->XK) (s:My Stmt) (r:DY):Prop:=PSs X s (rzS X.K EX r)
section
variable {X:Cx} {C:Pz} {E:XK} {EX:St->XK} {c e o:Expr} {es:My Expr} {s:Stmt} {ss xs ys:My Stmt} {f:DE} {g:DA} {r r1 r2:DY} {x m:Str} {p pos pos' Po Pp:Pos} {R:My D->Px Pz}
def Ex:PSs X ss (λ _ _ _=>False):=λ _ _ _ _ _ _ h=>h.elim
theorem y_call (Fo:Gy X.prog X.w X.K X.mg X.base k x (spY R X.K)) (hr:dD jj X.A) (xp:Yp X E) (ha:Bx (PAd X (e::es) g)) (hj:k<=jj:=by decide) (hg:Gl X x:=by rfl) (hdb:Dg x:=by decide) (he:Se X e es:=by rfl) (hpl:Sb X pos es:=by rfl) (hs:swapsWith (.Call (.Name x p) (e::es) [] pos) none pos'.line X.env=pure false:=by rfl):Bx (PSy X E (.Expr (.Call (.Name x p) (e::es) [] pos) pos') (zR g R)):=by
 obtain ⟨f,fd,ps,hm,hk,hb,Fo⟩:=Fo.go;refine ⟨(dS (Ay Fo (hr.mono hj) hg hm hk hb .nil xp.pa ha.out hdb he hpl) hs).imp λ E' σ H w0=>g53 w0 λ Hs0 H0 Hs τ C rp e1 ex=>?_⟩;obtain ⟨ds,e1,hR⟩:=Ub e1;obtain ⟨fp,st⟩:=rp.st;refine ⟨H0,Hs,τ,fp,ds,st,rp.ext.sh,e1,λ vs Hs' H' g1 r1=>?_⟩;show spY R X.K (vs++[]) H' _ E;rw [Zv];exact ⟨Hs',ds,C,g1.sh,r1,hR,ex.on (rp.ext.hh.trans g1.hh)⟩
theorem eA (c:Cls X.K C) (Fo:GyM X.prog X.w X.K X.mg X.base k C m (spY R X.K)) (hr:dD jj X.A) (hx:∀ σ,dO (CX1 X.prog X.w) X σ (EX σ)) (ho:Bx (PEd X o f)) (ha:Bx (PAd X (e::es) g)) (hj:k<=jj:=by decide) (he:Se X e es:=by rfl) (hpl:Sb X pos es:=by rfl)
  (ht:eval (.Call (.Attribute o m Po) (e::es) [] pos) X.env=(do
    let ov <- eval o X.env
    standAt Po.atName
    let (f,first) <- holding [ov] (getMethod ov m pl)
    callWith pos f first (backTo pos (starEach (e::es) X.env)) (backToKw pos (keywordEach [] X.env))):=by rfl) (hs:swapsWith (.Call (.Attribute o m Po) (e::es) [] pos) none pos'.line X.env=pure false:=by rfl):Bx (PSz X EX (.Expr (.Call (.Attribute o m Po) (e::es) [] pos) pos') (qZ C m f g R)):=by
 obtain ⟨fa,fd,ps,hm,hb,Fo⟩:=Fo.go;refine ⟨(dS (As ho.out c hm Fo (hr.mono hj) hb .nil hx ha.out he hpl ht) hs).imp λ E' σ H w0=>g54 w0 λ H0 Hs τ fp C1 st sm e1 ex=>?_⟩;unfold qZ at e1;split at e1
 ·rename_i C' fs ef
  split at e1
  · rename_i hc
    obtain ⟨rfl,hl⟩:=hc;obtain ⟨ds,e1,hR⟩:=Ub e1;refine ⟨H0,Hs,τ,fp,_,st,sm,ef,λ v Hs1 H1 g1 r1=>?_⟩
    cases r1 with
    | @obj a _ dx fv _ hH rf=>
    refine ⟨a,dx,fv,rfl,g1.sh _ _ hH,rf.AI hl,H0,Hs1,τ,fp,ds,st.ext g1,g1.sh,e1,λ vs Hs' H' g2 r2=>?_⟩;show spY R X.K (V.ref a::(vs++[])) H' _ _;rw [Zv];exact ⟨Hs',_,C1,g2.sh,.cons (.obj (g2.ss _ _ hH) (rf.same g2.ss)) r2,hR,ex.on (g1.hh.trans g2.hh)⟩
  · cases e1
 · cases e1
theorem PSz.y (h:Bx (PSz X (λ _=>E) s r)):Bx (PSy X E s r):=⟨h.out.imp λ E' σ H w0=>g53 w0 λ Hs0 H0 Hs τ C rp e1 ex=>let ⟨fp,st⟩:=rp.st; ⟨H0,Hs,τ,fp,C,st,rp.ext.sh,e1,ex.on rp.ext.hh⟩⟩
theorem Cb (hc:Bx (PTd X c t)) (ha:Bx (MP X EX xs r1)) (hb:Bx (MP X EX ys r2)):Bx (PSz X EX (.If c xs ys pos) (yIf t r1 r2)):=
 ⟨(mK hc.out ha.out hb.out).imp λ E' σ H w0=>g54 w0 λ H0 Hs τ fp C st sm hr ex=>by
   unfold yIf at hr;split at hr
   · rename_i e1; exact ⟨H0,Hs,τ,fp,true,st,sm,e1,λ Hs' H' g1=>Ef ⟨H0,Hs',τ,fp,C,st.ext g1,g1.sh,hr,ex.on g1.hh⟩⟩
   · rename_i e1; exact ⟨H0,Hs,τ,fp,false,st,sm,e1,λ Hs' H' g1=>Eg ⟨H0,Hs',τ,fp,C,st.ext g1,g1.sh,hr,ex.on g1.hh⟩⟩
   · cases hr⟩
def eu (hs:Bx (PSz X EX s r)):Bx (MP X EX [s] r):=⟨cR hs.out⟩
theorem y_raise {j} {cs os:My Pz} {h:Pz} (i:Nat) (xp:Yp X E) (hex:yN X.K cs h os=true) (hm:X.mg x=some (.ref C)) (hc:X.calm=true:=by rfl) (hg:Gl X x:=by rfl)
   (he:Se X (.Constant (.str y) j p) []:=by rfl) (Pt:Sb X Pp []:=by rfl) (hd:Dg x:=by decide) (hi:cs[i]?=some C:=by rfl):Bx (PSy X E (.Raise (some (.Call (.Name x np) [.Constant (.str y) j p] [] Pp)) none pos) (yC C)):=
 ⟨(An xp.ra hc (uo hex (List.mem_of_getElem? hi)).x hg hm (a8 Bz du he) he Pt hd).imp λ E' σ H w0=>g53 w0 λ Hs0 H0 Hs τ C rp e ex=>by
   cases e
   exact ⟨Zb rfl,ex H rp.ext.hh⟩⟩
def Bf:Bx (Be X E ss yNo):=⟨λ _ _ _ _ _ _ ⟨_,_,_,_,_,_,h,_⟩=>nomatch h⟩
theorem Bg (hc:Bx (PTd X c t)) (ha:Bx (Be X E xs r1)) (hb:Bx (Be X E ys r2)):Bx (PSy X E (.If c xs ys pos) (yIf t r1 r2)):=
 ⟨(mK hc.out ha.out hb.out).imp λ E' σ H w0=>g53 w0 λ Hs0 H0 Hs τ C rp hr ex=>by
   obtain ⟨fp,st⟩:=rp.st;unfold yIf at hr;split at hr
   · rename_i e1; exact ⟨H0,Hs,τ,fp,true,st,rp.ext.sh,e1,λ Hs' H' g1=>Ef ⟨Hs0,H0,Hs',τ,C,rp.ext' g1,hr,ex⟩⟩
   · rename_i e1; exact ⟨H0,Hs,τ,fp,false,st,rp.ext.sh,e1,λ Hs' H' g1=>Eg ⟨Hs0,H0,Hs',τ,C,rp.ext' g1,hr,ex⟩⟩
   · cases hr⟩
def b6 (hs:Bx (PSy X E s r)):Bx (Be X E (s::ss) r):=⟨(dm hs.out Ex).imp λ _ _ _ h=>h⟩
theorem nO (hs:Bx (PSd X s d)) (ht:Bx (Be X E ss r)):Bx (Be X E (s::ss) (yTl d r)):=
 ⟨(dm hs.out ht.out).imp λ E' σ H w0=>g53 w0 λ Hs0 H0 Hs τ C rp hr ex=>by
   unfold yTl at hr;split at hr
   · rename_i τ' e1; exact ⟨Hs0,H0,Hs,τ,_,rp,e1,λ σ' Hs' H' rp'=>⟨Hs0,H0,Hs',τ',C,rp',hr,ex⟩⟩
   · cases hr⟩
theorem eD (hs:Bx (PSd X s d)) (hx:Bx (PSy X E s r1)) (ht:Bx (Be X E ss r2)):Bx (Be X E (s::ss) (uO d r1 r2)):=⟨λ Pn s' σ H Q I w0=>g53 w0 λ Hs0 H0 Hs τ C rp hr ex=>by
 unfold uO at hr;split at hr
 · rename_i e; cases hr; exact (b6 hx).out Pn s' σ H Q I ⟨Hs0,H0,Hs,τ,C,rp,e,ex⟩
 · exact (nO hs ht).out Pn s' σ H Q I ⟨Hs0,H0,Hs,τ,C,rp,hr,ex⟩⟩
end
section
variable {P:Program} {w:World} {K:PB} {mg:Str->Px Py} {base:Heap} {x q:Str} {st:Stmt} {ps:My Str} {k:Nat} {C:Pz} {r:DY}
def iQ (n m:Nat) (r:DY) (ds:My D):Px Pz:=if ds.length=m then r (dk n ds) else none
abbrev Ydy (P:Program) (w:World) (K:PB) (mg:Str->Px Py) (base:Heap) (k:Nat) (q:Str) (st:Stmt) (N:My Str) (r:DY):Prop:=∀ {cdv:Py} {A:Around} {outer:My Env} {s:PD} {H:Hp} {E:XK} {f:Pz},dD k (A.deeper (envOfC q (aD st) s.heap.objs.size f cdv))->N.Nodup->Yp (qB (CX1 P w) P w K mg base N q (aD st) f cdv A outer s H E) E->Bx (Be (qB (CX1 P w) P w K mg base N q (aD st) f cdv A outer s H E) E (bP st) r)
theorem okY (F:Fun K x q st a d) (S:cM N ps (aD st)) (h:Ydy P w K mg base k q st N r):gO P w K mg base (CX1 P w) (k+1) a d ps (spY (iQ N.length ps.length r) K):=by
 have rn:∀ {ds:My D} {C},iQ N.length ps.length r ds=some C->ds.length=ps.length/\r (dk N.length ds)=some C:=λ {ds C} e=>by
  unfold iQ at e;split at e
  · exact ⟨‹_›,e⟩
  · cases e
 exact F.okX S (λ vs H Q E w0=>g34 w0 λ Hs ds C sm r e ex=>r.length.trans (rn e).1) λ cdv A outer s H vs Q E hr w0=>g34 w0 λ Hs ds C sm rp e ex=>
  ⟨_,(h hr S.nd ⟨λ σ=>xA.at σ,wQ⟩).out,Hs,H,Hs,dk N.length ds,C,⟨.refl sm,[],by unfold start dk; rw [rp.length]; exact gS _ rp⟩,(rn e).2,ex⟩
theorem oY (N:My Str) (D:Df K mg x st ps) (h:Ydy P w K mg base k x st N r) (S:cM N ps (aD st):=by walk_at "s"):Gy P w K mg base (k+1) x (spY (iQ N.length ps.length r) K):=
 have ⟨a,d,F,m,bi⟩:=D
 ⟨a,d,ps,m,F.kp,bi,okY F S h⟩
theorem oYm (N:My Str) (D:Mf K C x q st ps) (h:Ydy P w K mg base k q st N r) (S:cM N ps (aD st):=by walk_at "s"):GyM P w K mg base (k+1) C x (spY (iQ N.length ps.length r) K):=
 have ⟨a,d,F,m,bi⟩:=D
 ⟨a,d,ps,m,bi,okY F S h⟩
theorem oYi (N:My Str) (D:If K C q st ps) (h:Ydy P w K mg base k q st N r) (S:cM N ps (aD st):=by walk_at "s"):GyI P w K mg base (k+1) C (spY (iQ N.length ps.length r) K):=
 have ⟨a,d,F,m,bi⟩:=D
 ⟨a,d,ps,m,bi,okY F S h⟩
end
def FY (C:Pz) (sp:Sp) (EX:St->XK) (t:TA):TE:=λ σ H Q=>t σ H λ vs H1=>∀ x dx,H1 x=none->H1 dx=none->dx≠x->sp (.ref x::(vs++[])) (upd (upd H1 dx (.own x)) x (.ins C dx [])) (λ v H2=>v=.non/\Q (.ref x) H2) (EX σ)
theorem wK (M:Mk X.K C f) (F:gO X.prog X.w X.K X.mg X.base CX k f fd ps sp) (hr:dD (k+1) X.A) (hb:Binds X.K fd ps ds) (hd:bX dvs ds)
  (hx:dO CX X σ E) (I:Inv X Pn σ H s) (r:bX vs us)
  (h:∀ x dx,H x=none->H dx=none->dx≠x->sp (.ref x::(vs++dvs)) (upd (upd H dx (.own x)) x (.ins C dx [])) (λ v H2=>v=.non/\Q (.ref x) H2) E):wpAny (model X.prog X.w) X.A (call (.ref C) us) (EP X Pn σ Q) X.xe s:=by
 have hq:=h (s.heap.objs.size+1) s.heap.objs.size (I.hok.fresh (Nat.le_succ _)) (I.hok.fresh (Zn _)) (Z2 (Y8 _));have I2:=Inv.made (C:=C) I;have r2:bX (V.ref (s.heap.objs.size+1)::(vs++dvs)) (Value.ref (s.heap.objs.size+1)::(us++ds)):=.cons rfl (r.append hd)
 have hl:(Value.ref (s.heap.objs.size+1)::us++ds).length=ps.length:=by
  have e:=r2.length;rw [F.len _ _ _ _ hq] at e;exact e.symm
 refine wpAny_call (t6 I.kIn M.makes M.init (Y2.mp M.fn) (codeAny_mono (F.run _ X.stack _ _ ⟨Value.ref (s.heap.objs.size+1)::us,[]⟩ (Value.ref (s.heap.objs.size+1)::(us++ds)) _ _ E (hr.make C us [])
  (I2.JB.make C us []) (hb _ (Value.ref (s.heap.objs.size+1)::us) I2.kIn hl) r2 hq) λ r s' hq'=>?_))
 cases r with
 | error e=>exact hx Pn _ _ e s' I2 hq'
 | ok fl=>
  cases fl with
  | ret u=>
   obtain ⟨v,H',I3,rv,ev,q3⟩:=I2.after hq';subst ev;exact ⟨rv,⟨V.ref (s.heap.objs.size+1),H',I3,rfl,q3⟩⟩
  | next=>exact False.elim hq'
  | brk=>exact False.elim hq'
  | cont=>exact False.elim hq'
theorem Au (M:Mk X.K C f) (F:gO X.prog X.w X.K X.mg X.base CX k f fd ps sp) (hr:dD (k+1) X.A) (hg:Gl X x) (hm:X.mg x=some (.ref C)) (hb:Binds X.K fd ps []) (hx:∀ σ,dO CX X σ (EX σ))
  (ha:PA X (e::es) t) (hdb:Dg x:=by decide) (he:Se X e es:=by rfl) (hpl:Sb X pos es:=by rfl):PE X (.Call (.Name x p) (e::es) [] pos) (FY C sp EX t):=by
 intro Pn s σ H Q I h;refine Yv (j4 I hg hm ?_ hdb);refine Xd I.ok.mod.kin M.kp (thn (ha pos Pn s σ H _ I h) λ us s1 ⟨vs,H1,I1,r,q⟩=>⟨I1.kIn,?_⟩) he hpl;exact wK M F hr hb .nil (hx σ) I1 r q
def zQ (C:Pz) (g:DA) (R:My D->Px Pz):DY:=λ τ=>(g τ).bind λ ds=>R (.obj C []::ds)
theorem Fx (Fo:GyI X.prog X.w X.K X.mg X.base k C (spY R X.K)) (hr:dD jj X.A) (hx:∀ σ,dO (CX1 X.prog X.w) X σ (EX σ)) (hm:X.mg x=some (.ref C)) (ha:Bx (PAd X (e::es) g)) (hj:k+1<=jj:=by decide) (hg:Gl X x:=by rfl) (hdb:Dg x:=by decide) (he:Se X e es:=by rfl) (hpl:Sb X pos es:=by rfl) (hs:swapsWith (.Call (.Name x p) (e::es) [] pos) none pos'.line X.env=pure false:=by rfl):Bx (PSz X EX (.Expr (.Call (.Name x p) (e::es) [] pos) pos') (zQ C g R)):=by
 obtain ⟨fa,fd,ps,M,hb,Fo⟩:=Fo.go;refine ⟨(dS (Au M Fo (hr.mono hj) hg hm hb hx ha.out hdb he hpl) hs).imp λ E' σ H w0=>g54 w0 λ H0 Hs τ fp C1 st sm e1 ex=>?_⟩;obtain ⟨ds,e1,hR⟩:=Ub e1;refine ⟨H0,Hs,τ,fp,ds,st,sm,e1,λ vs Hs' H' g1 r1 y dx hy hd ne=>?_⟩;rw [Zv];have a1:=Ext.new g1.sh hd (.own y);have a2:=Ext.new (o:=.ins C dx []) a1.sh (by rw [au (Ne.symm ne)]; exact hy);exact ⟨_,_,C1,a2.sh,.cons (.obj ay .nil) ((r1.same a1.ss).same a2.ss),hR,ex.on ((g1.hh.trans a1.hh).trans a2.hh)⟩
noncomputable def GW:D->D->Px D | .bl a,.bl b=>some (.bl (!(a == b))) | _,_=>none
theorem xK:OpR X (compareOp .IsNot) (rdR X.K GW):=xC.imp λ x y H Q w0=>g45 w0 λ Hs dx dy d sm rx ry e k=>by
 unfold GW at e;split at e
 · cases e; cases rx; cases ry; exact ⟨_,_,rfl,rfl,k _ Hs H (.refl sm) (.bl _)⟩
 · cases e
noncomputable def AX (o:D->D->Px D) (f:DEm) (g:DE):DEm:=λ τ=>(f τ).bind λ p=>match p.1 with
 | .shr a=>if sca a=true then (g (bf p.2)).bind λ b=>(o a b).bind λ d=>if sca d=true then some (.shr d,p.2) else none else none
 | _=>none
theorem B2 {X:Cx} {o:D->D->Px D} {f:DEm} {g:DE} (h:J6 X.H₀ X.K (AX o f g) σ H Q):tOp (rdR X.K o) (J6 X.H₀ X.K f) (rdE X.K g) σ H Q:=by
 obtain ⟨Hs0,H0,nf,ρ,Hs,τ,s,τ',r,e,k⟩:=h;obtain ⟨⟨s1,τ1⟩,e1,e⟩:=Ub e
 cases s1 with
 | no=>cases e
 | mu _ _=>cases e
 | shr a=>
  dsimp only at e;split at e
  ·rename_i hs
   obtain ⟨b,e2,e⟩:=Ub e;obtain ⟨d,e3,e⟩:=Ub e;split at e
   ·rename_i hd
    cases e;refine ⟨Hs0,H0,nf,ρ,Hs,τ,_,_,r,e1,λ v Hs' H' r'=>?_⟩;obtain ⟨fp,st⟩:=r'.st
    cases st with
    | shr hv _=>
    have r2:=r'.pop;obtain ⟨fp2,st2⟩:=r2.st;refine ⟨H',H',bf _,[],b,st2.bf r2.sm,.refl H',e2,λ u Hs2 H2 g1 ru=>?_⟩;refine ⟨Hs2,a,b,d,g1.sh,m4 hv hs,ru,e3,λ z Hs3 H3 g2 rz=>k z Hs' H3 ((r2.grow (g1.hh.trans g2.hh)).push (m4 rz hd))⟩
   · cases e
  · cases e
theorem A8 (ho:OpR X (compareOp op) (rdR X.K o)) (ha:Bx (PEm X a f)) (hb:Bx (PEd X b g)) (hm:behindInMarks op b=false:=by walk_at "n"):Bx (PEm X (.Compare a [op] [b] pos) (AX o f g)):=
 ⟨(xu ho ha.out hb.out hm).imp λ σ H Q h=>B2 h⟩
theorem jK (ho:OpR X (compareOp op) (rdR X.K o)) (ha:Bx (PEm X a f)) (hb:Bx (PEd X b g)) (hm:behindInMarks op b=false:=by walk_at "n"):Bx (PTm X (.Compare a [op] [b] pos) (tE (AX o f g))):=
 ⟨(rH ho ha.out hb.out hm).imp λ σ H Q w0=>g83 w0 λ Hs0 H0 nf ρ Hs τ b τ' r e k=>by
   obtain ⟨⟨s,τ1⟩,e1,e2⟩:=Ub e;split at e2
   ·rename_i b' es
    cases e2;have es':=es;subst es';refine B2 ⟨Hs0,H0,nf,ρ,Hs,τ,_,τ1,r,e1,λ v Hs' H' r'=>?_⟩;obtain ⟨fp,st⟩:=r'.st
    cases st with
    | shr h _=>cases h; exact ⟨b,rfl,k Hs' H' r'.pop⟩
   · cases e2⟩
noncomputable def JU (f:DTm) (g:DT):DTm:=λ τ=>(f τ).bind λ p=>if p.1=true then some (true,p.2) else (g (bf p.2)).map λ b=>(b,p.2)
theorem zq (ha:Bx (PTm X a f)) (hb:Bx (PWd X (.BoolOp .Or (b::bs) pos) g)):Bx (PTm X (.BoolOp .Or (a::b::bs) pos) (JU f g)):=
 ⟨(PW.pt (pw_or ha.out hb.out)).imp λ σ H Q w0=>g83 w0 λ Hs0 H0 nf ρ Hs τ b τ' r e k=>by
   obtain ⟨⟨b',τ1⟩,e1,e2⟩:=Ub e;refine ⟨Hs0,H0,nf,ρ,Hs,τ,b',τ1,r,e1,λ Hs' H' r'=>?_⟩
   cases b' with
   | true=>cases e2; exact k Hs' H' r'
   | false=>
    obtain ⟨b2,e3,e4⟩:=Zm e2;cases e4;obtain ⟨fp,st⟩:=r'.st
    exact ⟨H',H',bf τ1,[],b,st.bf r'.sm,.refl H',e3,λ Hs2 H2 g1=>k Hs' H2 (r'.grow g1.hh)⟩⟩
noncomputable def eFz (f:DEm):DEm:=λ τ=>(f τ).bind λ p=>match p.1 with
 | .mu false (.n .l cs)=>if (qS cs).all sca=true then some (.shr (.lst (qS cs)),p.2) else none
 | _=>none
theorem EV (h:Bx (PEm X e f)):Bx (PEm X e (eFz f)):=⟨PE.imp h.out λ σ H Q w0=>g83 w0 λ Hs0 H0 nf ρ Hs τ s τ' r e k=>by
 obtain ⟨⟨s1,τ1⟩,e1,e⟩:=Ub e;dsimp only at e;split at e
 ·rename_i cs
  split at e
  ·rename_i hs
   cases e;refine ⟨Hs0,H0,nf,ρ,Hs,τ,_,_,r,e1,λ v Hs' H' r'=>?_⟩;obtain ⟨fp,st⟩:=r'.st
   cases st with
   | mu ho hp z j rest=>
   obtain ⟨a,dx,ts,u,rfl,hf,_⟩:=ho.inv;have rp:=ho.rp r'.sm;rw [frz] at rp
   cases rp with
   | @lst _ xs _ hH rs=>
   have ha:=Zd (a:=a) (l:=ts.flatMap Kd.fp);rw [<- hf] at ha;have hn:=(ho.live a ha).1;have x:=r'.ext;refine k _ (upd Hs' a (.lst xs)) H' ⟨⟨x.ss.trans (aC hn _),λ b o q=>?_,x.hh,λ b h1 h2=>?_⟩,_,.shr (.lst ay (lC rs hs)) (rest.mv (aC hn _) λ b hb=>⟨?_,rfl⟩)⟩
   ·by_cases z:b=a
    · subst z; rw [ay] at q; cases q; exact hH
    · rw [au z] at q; exact x.sh _ _ q
   ·by_cases z':b=a
    · subst z'; exact absurd (z b ha) h2
    · rw [au z']; exact x.fr b h1 h2
   ·have ne:b≠a:=λ e=>j a ha (e ▸ hb)
    rw [au ne];exact (rest.live b hb).1
  · cases e
 · cases e⟩
noncomputable def EC (f g:DEm):DEm:=λ τ=>(f τ).bind λ p=>match p.1 with
 | .shr (.bl true)=>g p.2
 | .shr (.bl false)=>some (.shr (.bl false),p.2)
 | _=>none
def A7 (h:Bx (PEm X a f)):Bx (PEm X (.BoolOp .And [a] pos) f):=⟨BA h.out⟩
theorem uF {X:Cx} {a b:Expr} {rest:My Expr} {pos:Pos} {f g:DEm} (ha:Bx (PEm X a f)) (hb:Bx (PEm X (.BoolOp .And (b::rest) pos) g)):Bx (PEm X (.BoolOp .And (a::b::rest) pos) (EC f g)):=
 ⟨(BC ha.out hb.out).imp λ σ H Q w0=>g83 w0 λ Hs0 H0 nf ρ Hs τ s τ' r e k=>by
   obtain ⟨⟨s1,τ1⟩,e1,e⟩:=Ub e;dsimp only at e;split at e
   ·refine ⟨Hs0,H0,nf,ρ,Hs,τ,_,_,r,e1,λ v Hs' H' r'=>?_⟩
    obtain ⟨fp,st⟩:=r'.st
    cases st with
    | shr hv _=>
    cases hv;exact ⟨true,rfl,Ef ⟨Hs0,H0,nf,ρ,Hs',_,s,τ',r'.pop,e,k⟩⟩
   ·cases e
    refine ⟨Hs0,H0,nf,ρ,Hs,τ,_,_,r,e1,λ v Hs' H' r'=>?_⟩;obtain ⟨fp,st⟩:=r'.st
    cases st with
    | shr hv _=>
    cases hv;exact ⟨false,rfl,Eg (k _ Hs' H' (r'.pop.push (.bl false)))⟩
   · cases e⟩
end L2
end
section
namespace N11
open PySem L2
def Uc (i:Nat):Stmt:=PySem.Challenge.pw_stylehouse_k11_refused.main.body.getD i (.Pass ⟨0,0,0,0⟩)
structure Adr where
 ah:Addr
 kJ:Addr
 cW:Addr
 dz:Addr
 d6:Addr
 cH:Addr
 dw:Addr
 bU:Addr
 iP:Addr
 iO:Addr
 f7:Addr
structure Txt (K:W.Frag) (mg:Str->Option Value) (t:Adr):Prop where
 p6:mg "Tree"=some (.ref t.ah)
 aj:Cls K t.ah
 gy:dX K t.ah "given"
 bq:dX K t.ah "names"
 bH:dX K t.ah "holders"
 aR:dX K t.ah "boxes"
 gw:dX K t.ah "marks"
 gu:dX K t.ah "words"
 g9:dX K t.ah "rows"
 yH:Df K mg "is_name" (Uc 14) ["thing"]
 qr:Df K mg "_law_whole" (Uc 30) ["_law_found"]
 sy:Df K mg "_law_good" (Uc 38) ["_law_word_here"]
 kF:Df K mg "check_name" (Uc 24) ["name"]
 l7:Df K mg "_law_refusing" (Uc 42) ["_law_script"]
 mU:Df K mg "_law_deepest" (Uc 43) ["_law_script"]
 mT:Df K mg "_law_fullest" (Uc 44) ["_law_script"]
 MA:Lf K mg "law" (Uc 45) "_law_script"
 jI:Df K mg "check_place" (Uc 25) ["place","row"]
 sD:Df K mg "_law_cell" (Uc 27) ["_law_script","_law_k"]
 vC:Df K mg "_law_mix" (Uc 28) ["_law_cell_here","_law_way"]
 qt:Df K mg "_law_under" (Uc 32) ["_law_rows","_law_box"]
 sC:Df K mg "_law_deep" (Uc 33) ["_law_facts","_law_box"]
 su:Df K mg "_law_only" (Uc 37) ["_law_told","_law_due_here"]
 sv:Df K mg "_law_name" (Uc 29) ["_law_cell_here","_law_way"]
 l6:Df K mg "_law_same_row" (Uc 31) ["_law_found","_law_due_here"]
 yJ:Df K mg "beneath" (Uc 16) ["tree","box"]
 qq:Df K mg "holders_of" (Uc 17) ["tree","box"]
 sk:Df K mg "_law_word" (Uc 41) ["_law_cell_here","_law_way"]
 vA:Df K mg "depth_of" (Uc 18) ["tree","box"]
 qu:Df K mg "_law_stood" (Uc 34) ["_law_tree","_law_rows","_law_facts"]
 oJ:Df K mg "_law_number" (Uc 40) ["_law_rows","_law_coming","_law_cell_here","_law_way"]
 vD:Df K mg "_law_due" (Uc 39) ["_law_rows","_law_deed","_law_box","_law_holder","_law_place","_law_word_here"]
 vB:Df K mg "_law_put" (Uc 35) ["_law_tree","_law_rows","_law_facts","_law_number_here","_law_cell_here","_law_way"]
 so:Df K mg "_law_said" (Uc 36) ["_law_tree","_law_deed","_law_box","_law_holder","_law_place","_law_word_here"]
 ie:If K t.ah "Tree.__init__" (inClass (Uc 23) 0) ["self","name"]
 kG:Mf K t.ah "check" "Tree.check" (inClass (Uc 23) 2) ["self","box"]
 oK:Mf K t.ah "stands" "Tree.stands" (inClass (Uc 23) 10) ["self","box"]
 mV:Mf K t.ah "name_of" "Tree.name_of" (inClass (Uc 23) 11) ["self","box"]
 kW:Mf K t.ah "holder_of" "Tree.holder_of" (inClass (Uc 23) 15) ["self","box"]
 l9:Mf K t.ah "boxes_of" "Tree.boxes_of" (inClass (Uc 23) 16) ["self","box"]
 nC:Mf K t.ah "cut" "Tree.cut" (inClass (Uc 23) 4) ["self","box"]
 qw:Mf K t.ah "enter" "Tree.enter" (inClass (Uc 23) 1) ["self","holder","name"]
 qv:Mf K t.ah "write" "Tree.write" (inClass (Uc 23) 8) ["self","box","words"]
 qx:Mf K t.ah "dress" "Tree.dress" (inClass (Uc 23) 9) ["self","box","rows"]
 sE:Mf K t.ah "mark" "Tree.mark" (inClass (Uc 23) 6) ["self","box","word"]
 sF:Mf K t.ah "bare" "Tree.bare" (inClass (Uc 23) 7) ["self","box","word"]
 nB:Mf K t.ah "put" "Tree.put" (inClass (Uc 23) 3) ["self","holder","place","name"]
 l8:Mf K t.ah "move" "Tree.move" (inClass (Uc 23) 5) ["self","box","holder","place"]
 pe:mg "ValueError"=none
 JH:mg "all"=none
 Fz:mg "bool"=none
 qU:mg "enumerate"=none
 Fy:mg "int"=none
 be:mg "isinstance"=none
 eB:mg "len"=none
 mY:mg "list"=none
 Fw:mg "max"=none
 gR:mg "range"=none
 jT:mg "reversed"=none
 Fv:mg "str"=none
 mQ:Ic mg "LONGEST_NAME" 8
 fC:Ic mg "MOST_BOXES" 90
 eJ:Ic mg "MOST_DEEP" 12
 p7:Ic mg "ROOT" 0
 kB:mg "HouseError"=some (.ref t.kJ)
 kA:mg "NoFraction"=some (.ref t.cW)
 rX:mg "NoBox"=some (.ref t.dz)
 k8:mg "Rooted"=some (.ref t.d6)
 lT:mg "NoPlace"=some (.ref t.cH)
 ox:mg "NoName"=some (.ref t.dw)
 hU:mg "TooMuch"=some (.ref t.bU)
 t8:mg "NoRule"=some (.ref t.iP)
 t7:mg "NoText"=some (.ref t.iO)
 p8:mg "NoValue"=some (.ref t.f7)
 xx:yN K [t.dz,t.d6,t.cH,t.dw,t.bU] t.kJ [t.cW,t.iP,t.iO,t.f7]=true
abbrev gOD (f:∀ (P:Program) (w:World) (K:PB) (mg:Str->Px Py) (base:Heap),DS->Prop) (t:Adr):Type:={G:DS // ∀ {P w K mg base},Txt K mg t->f P w K mg base G}
abbrev gO0 (f:∀ (P:Program) (w:World) (K:PB) (mg:Str->Px Py) (base:Heap),DS->Prop):Type:={G:DS // ∀ {t P w K mg base},Txt K mg t->f P w K mg base G}
abbrev gFD (k:Nat) (x:Str) (n m:Nat) (P:Program) (w:World) (K:PB) (mg:Str->Px Py) (base:Heap) (G:DS):Prop:=Go P w K mg base k x (spF (iJ n m G) K)
abbrev gMD (k:Nat) (C:Pz) (x:Str) (n m:Nat) (P:Program) (w:World) (K:PB) (mg:Str->Px Py) (base:Heap) (G:DS):Prop:=GoM P w K mg base k C x (spF (iJ n m G) K)
abbrev gOM (f:∀ (P:Program) (w:World) (K:PB) (mg:Str->Px Py) (base:Heap),DSm->Prop) (t:Adr):Type:={G:DSm // ∀ {P w K mg base},Txt K mg t->f P w K mg base G}
abbrev gFM (k:Nat) (x:Str) (n m:Nat) (P:Program) (w:World) (K:PB) (mg:Str->Px Py) (base:Heap) (G:DSm):Prop:=Go P w K mg base k x (spM (kS n m G) K)
abbrev gMM (k:Nat) (C:Pz) (x:Str) (n m:Nat) (P:Program) (w:World) (K:PB) (mg:Str->Px Py) (base:Heap) (G:DSm):Prop:=GoM P w K mg base k C x (spM (kS n m G) K)
abbrev gIM (k:Nat) (C:Pz) (n m:Nat) (P:Program) (w:World) (K:PB) (mg:Str->Px Py) (base:Heap) (G:DSm):Prop:=GoI P w K mg base k C (spM (kS n m G) K)
section
variable {P:Program} {w:World} {K:PB} {mg:Str->Px Py} {base:Heap} {t:Adr}
set_option maxHeartbeats 0
noncomputable def mB:gO0 (gFD 1 "is_name" 1 1):=⟨_,λ T=>oD ["thing"] T.yH λ hr nd=>
 (ao (bc (ba (bD (aE zj T.be (cb (aa 0) (mq (n:="str") T.Fv))))) (av (aJ bC)) aN) (ao (bc (ba (eU vZ vZ ae (aE fW T.eB (bE (aa 0))) (sV T.mQ))) (av (aJ bC)) aN) (av (aJ (aE (MK rfl) T.JH (bE (bh (ip ck0 (qG (aa 0)) (λ _ _ _ _=>(nI GU GU cQ (aa 0) cQ))))))))))⟩
def mF:=iJ 1 1 (mB).1
def pP (T:Txt K mg t):Go P w K mg base 1 "is_name" (spF (mF) K):=(mB).2 T
noncomputable def iC (t:Adr):gOM (gMM 1 t.ah "enter" 4 3) t:=⟨_,λ T=>oMm ["self","holder","name","box"] T.qw λ hr nd=>
 (ag (aB 3 nd (he:=aq (iq (bL T.aj T.gy (aa 0))))) (ag (dQ T.aj T.gy (aA 0) (aq (aV (bo (aa 3) ae)))) (ag (cC (ia hr) (bS T.aj T.bq (aA 0)) (aa 3) (aq (aV (aa 2)))) (ag (cC (ia hr) (bS T.aj T.bH (aA 0)) (aa 3) (aq (aV (aa 1)))) (ag (cC (ia hr) (bS T.aj T.aR (aA 0)) (aa 3) (aq (qF (bK cO)))) (ag (cC (ia hr) (bS T.aj T.gw (aA 0)) (aa 3) (aq jh)) (ag (cC (ia hr) (bS T.aj T.gu (aA 0)) (aa 3) (aq (qF (bK cO)))) (ag (cC (ia hr) (bS T.aj T.g9 (aA 0)) (aa 3) (aq (aV (gD cO)))) (aw (aO (aq (aV (aa 3)))))))))))))⟩
def iH (t:Adr):=kS 4 3 (iC t).1
def ko (T:Txt K mg t):GoM P w K mg base 1 t.ah "enter" (spM (iH t) K):=(iC t).2 T
def iD (t:Adr):gOD (gMD 1 t.ah "check" 2 2) t:=⟨_,λ T=>oDm ["self","box"] T.kG λ hr nd=>
 (av (bc (fE hr.units rfl (aa 1) (bL T.aj T.bq (aa 0))) (av eX) aN))⟩
def fJ (t:Adr):=iJ 2 2 (iD t).1
def a9 (T:Txt K mg t):GoM P w K mg base 1 t.ah "check" (spF (fJ t) K):=(iD t).2 T
def d7 (t:Adr):gOD (gMD 1 t.ah "stands" 2 2) t:=⟨_,λ T=>oDm ["self","box"] T.oK λ hr nd=>
 (av (aJ (Ba hr.units rfl (aa 1) (bL T.aj T.bq (aa 0)))))⟩
def cz (t:Adr):=iJ 2 2 (d7 t).1
def gq (T:Txt K mg t):GoM P w K mg base 1 t.ah "stands" (spF (cz t) K):=(d7 t).2 T
noncomputable def gH:gO0 (gFD 1 "check_place" 2 2):=⟨_,λ T=>oD ["place","row"] T.jI λ hr nd=>
 (av (bc (ba (eU vZ vZ ae (aa 0) (aE fW T.eB (bE (aa 1))))) (av eX) aN))⟩
def gK:=iJ 2 2 (gH).1
def dZ (T:Txt K mg t):Go P w K mg base 1 "check_place" (spF (gK) K):=(gH).2 T
noncomputable def jq:gO0 (gFD 1 "_law_cell" 2 2):=⟨_,λ T=>oD ["_law_script","_law_k"] T.sD λ hr nd=>
 (ao (bc (Ig (aa 1) (aE fW T.eB (bE (aa 0)))) (av (aJ (cG (aa 0) (aa 1)))) aN) (av (aJ ae)))⟩
def cw:=iJ 2 2 (jq).1
def a5 (T:Txt K mg t):Go P w K mg base 1 "_law_cell" (spF (cw) K):=(jq).2 T
noncomputable def ka:gO0 (gFD 1 "_law_mix" 3 2):=⟨_,λ T=>oD ["_law_cell_here","_law_way","_law_first"] T.vC λ hr nd=>
 (ao (qT 2 nd (cB (bo (qI (aa 0) ae) (qI (aa 1) ae)) ae)) (av (aJ (cB (qI (aa 2) (bo ae (qI ae (aa 1)))) ae))))⟩
def cZ:=iJ 3 2 (ka).1
def bF (T:Txt K mg t):Go P w K mg base 1 "_law_mix" (spF (cZ) K):=(ka).2 T
noncomputable def kP:gO0 (gFD 1 "_law_whole" 1 1):=⟨_,λ T=>oD ["_law_found"] T.qr λ hr nd=>
 (av (aJ (jN (aE zj T.be (cb (aa 0) (mq (n:="int") T.Fy))) (iM (A9 (aE zj T.be (cb (aa 0) (mq (n:="bool") T.Fz))))))))⟩
def fI:=iJ 1 1 (kP).1
def gZ (T:Txt K mg t):Go P w K mg base 1 "_law_whole" (spF (fI) K):=(kP).2 T
def iB (t:Adr):gOD (gFD 1 "_law_under" 5 2) t:=⟨_,λ T=>oD ["_law_rows","_law_box","_law_told","_law_todo","_law_one"] T.qt λ hr nd=>
 (ao (fZ 2 nd (he:=bK cO)) (ao (fZ 3 nd (he:=bK (bE (aa 1)))) (ao (gC (zv 3 (me (aE fW T.eB (bE (aa 3))) ae)) (ao (nF 4 3 nd) (ao (mj 2 (he:=aa 4)) (av (qE 3 (he:=bh (oV T.mY T.jT (bu hr.units (λ _ _=>rfl) (aa 0) (aa 4))))))))) (av (j6 2)))))⟩
def cY (t:Adr):=iJ 5 2 (iB t).1
def g7 (T:Txt K mg t):Go P w K mg base 1 "_law_under" (spF (cY t) K):=(iB t).2 T
def jm:gO0 (gFD 1 "_law_deep" 3 2):=⟨_,λ T=>oD ["_law_facts","_law_box","_law_deep_here"] T.sC λ hr nd=>
 (ao (qT 2 nd ae) (ao (gC (uD (cG (bu hr.units (λ _ _=>rfl) (aa 0) (aa 1)) ae) iN) (ao (qT 1 nd (cG (bu hr.units (λ _ _=>rfl) (aa 0) (aa 1)) ae)) (av (qT 2 nd (bo (aa 2) ae))))) (av (aJ (aa 2)))))⟩
def dJ:=iJ 3 2 (jm).1
def rR (T:Txt K mg t):Go P w K mg base 1 "_law_deep" (spF (dJ) K):=(jm).2 T
def mD:gO0 (gFD 1 "_law_only" 2 2):=⟨_,λ T=>oD ["_law_told","_law_due_here"] T.su λ hr nd=>
 (av (aJ (k9 (Kr hr.units) (aa 0) (bh (ip (ckN [("_law_due_here",1)]) (cV T.gR (bE ae)) (λ _ _ _ _=>(EY (E3 (aa 0) (aa 1)) (iM (E3 (aa 0) ae)))))))))⟩
def jr:=iJ 2 2 (mD).1
def bW (T:Txt K mg t):Go P w K mg base 1 "_law_only" (spF (jr) K):=(mD).2 T
noncomputable def mE:gO0 (gFD 1 "_law_good" 2 1):=⟨_,λ T=>oD ["_law_word_here","_law_sign"] T.sy λ hr nd=>
 (ao (qD (qG (aa 0)) (nG 1 nd) (av (bc (bT AA (aa 1) cQ) (av (aJ bC)) aN))) (av (aJ (nI vZ vZ ae (aE fW T.eB (bE (aa 0))) ae))))⟩
def jt:=iJ 2 1 (mE).1
def rQ (T:Txt K mg t):Go P w K mg base 1 "_law_good" (spF (jt) K):=(mE).2 T
def fS (t:Adr):gOD (gMD 2 t.ah "name_of" 2 2) t:=⟨_,λ T=>oDm ["self","box"] T.mV λ hr nd=>
 (ao (bQ (aL T.aj (a9 T) hr (aa 0) (bE (aa 1)))) (av (aJ (bu hr.units (λ _ _=>rfl) (bL T.aj T.bq (aa 0)) (aa 1)))))⟩
def bY (t:Adr):=iJ 2 2 (fS t).1
def iT (T:Txt K mg t):GoM P w K mg base 2 t.ah "name_of" (spF (bY t) K):=(fS t).2 T
def dW (t:Adr):gOD (gMD 2 t.ah "holder_of" 2 2) t:=⟨_,λ T=>oDm ["self","box"] T.kW λ hr nd=>
 (ao (bQ (aL T.aj (a9 T) hr (aa 0) (bE (aa 1)))) (av (aJ (bu hr.units (λ _ _=>rfl) (bL T.aj T.bH (aa 0)) (aa 1)))))⟩
def aX (t:Adr):=iJ 2 2 (dW t).1
def bA (T:Txt K mg t):GoM P w K mg base 2 t.ah "holder_of" (spF (aX t) K):=(dW t).2 T
def fe (t:Adr):gOD (gMD 2 t.ah "boxes_of" 2 2) t:=⟨_,λ T=>oDm ["self","box"] T.l9 λ hr nd=>
 (ao (bQ (aL T.aj (a9 T) hr (aa 0) (bE (aa 1)))) (av (vO (zy T.mY (bE (bu hr.units (λ _ _=>rfl) (bL T.aj T.aR (aa 0)) (aa 1)))))))⟩
def b9 (t:Adr):=iJ 2 2 (fe t).1
def bG (T:Txt K mg t):GoM P w K mg base 2 t.ah "boxes_of" (spF (b9 t) K):=(fe t).2 T
def iA:gO0 (gFD 2 "check_name" 1 1):=⟨_,λ T=>oD ["name"] T.kF λ hr nd=>
 (av (bc (ba (bD (ai (pP T) hr (bE (aa 0))))) (av eX) aN))⟩
def iF:=iJ 1 1 (iA).1
def gY (T:Txt K mg t):Go P w K mg base 2 "check_name" (spF (iF) K):=(iA).2 T
noncomputable def jk:gO0 (gFD 2 "_law_name" 4 2):=⟨_,λ T=>oD ["_law_cell_here","_law_way","_law_letters","_law_size"] T.sv λ hr nd=>
 (ao (qT 2 nd cQ) (ao (qT 3 nd (bo ae (cB (ai (bF T) hr (cb (aa 0) (bo (aa 1) ae))) ae))) (av (aJ (zD cQ (bh (ip (ckN [("_law_letters",2),("_law_cell_here",0),("_law_way",1)]) (cV T.gR (bE (aa 3))) (λ _ _ _ _=>(cG (aa 1) (cB (ai (bF T) hr (cb (aa 2) (bo (aa 3) (qI ae (aa 0))))) ae))))))))))⟩
def js:=iJ 4 2 (jk).1
def eG (T:Txt K mg t):Go P w K mg base 2 "_law_name" (spF (js) K):=(jk).2 T
def eZ:gO0 (gFD 2 "_law_same_row" 3 2):=⟨_,λ T=>oD ["_law_found","_law_due_here","_law_k"] T.l6 λ hr nd=>
 (ao (bc (aU (br (ba (bD (aE zj T.be (cb (aa 0) (mq (n:="list") T.mY))))) (bg (d5 (aE fW T.eB (bE (aa 0))) (aE fW T.eB (bE (aa 1))))))) (av (aJ bC)) aN) (ao (qD (cV T.gR (bE (aE fW T.eB (bE (aa 1))))) (nG 2 nd) (av (bc (aU (br (ba (bD (ai (gZ T) hr (bE (cG (aa 0) (aa 2)))))) (bg (d5 (cG (aa 0) (aa 2)) (cG (aa 1) (aa 2)))))) (av (aJ bC)) aN))) (av (aJ bC))))⟩
def dB:=iJ 3 2 (eZ).1
def lQ (T:Txt K mg t):Go P w K mg base 2 "_law_same_row" (spF (dB) K):=(eZ).2 T
def nL (t:Adr):gOD (gFD 2 "_law_due" 7 6) t:=⟨_,λ T=>oD ["_law_rows","_law_deed","_law_box","_law_holder","_law_place","_law_word_here","_law_rest"] T.vD λ hr nd=>
 (ao (bc (aU (br (aU (eT (eU vZ vZ ae (aa 1) ae) (dI (fE hr.units rfl (aa 2) (aa 0))))) (bg (aU (eT (aU (br (cA (aa 1) ae) (bg (cA (aa 1) ae)))) (dI (fE hr.units rfl (aa 3) (aa 0)))))))) (av (aJ ae)) aN) (ao (bc (aU (br (aU (eT (cA (aa 1) ae) (dI (cA (aa 2) ae)))) (bg (aU (eT (cA (aa 1) ae) (dI (aU (br (cA (aa 2) ae) (bg (zo (aa 3) (ai (g7 T) hr (cb (aa 0) (aa 2))))))))))))) (av (aJ ae)) aN) (ao (bc (aU (br (cA (aa 1) ae) (bg (cA (aa 1) ae)))) (ao (kH 6 nd (ckN [("_law_deed",1),("_law_box",2)]) (hi:=iu (bu hr.units (λ _ _=>rfl) (aa 0) (aa 3))) (hcd:=(λ _ _ _ _=>(aU (br (cA (aa 1) ae) (bg (d5 (aa 0) (aa 2))))))) (he:=(λ _ _ _ _=>(aa 0)))) (av (bc (ba (eU vZ vZ ae (aa 4) (aE fW T.eB (bE (aa 6))))) (av (aJ ae)) aN))) aN) (ao (bc (aU (eT (zo (aa 1) (gD (az ae (oX ae ae ae)))) (dI (ba (bD (ai (rQ T) hr (bE (aa 5)))))))) (av (aJ ae)) aN) (av (aJ (qH ae)))))))⟩
def nM (t:Adr):=iJ 7 6 (nL t).1
def ve (T:Txt K mg t):Go P w K mg base 2 "_law_due" (spF (nM t) K):=(nL t).2 T
def gJ:gO0 (gFD 2 "_law_number" 6 4):=⟨_,λ T=>oD ["_law_rows","_law_coming","_law_cell_here","_law_way","_law_draw","_law_some"] T.oJ λ hr nd=>
 (ao (qT 4 nd (ai (bF T) hr (cb (aa 2) (aa 3)))) (ao (qT 5 nd (bh (vP hr.hd T.mY (aa 0)))) (ao (bc (cA (cB (aa 4) ae) ae) (av (aJ (aa 1))) aN) (ao (bc (cA (cB (aa 4) ae) ae) (av (aJ (cB (b8 (aa 4) ae) (aa 1)))) aN) (ao (bc (cA (cB (aa 4) ae) ae) (av (aJ (cG (bh (bK (oX (vV (qH ae) (cB (aa 2) (EZ ae ae))) (bo (aa 1) (cB (aa 2) (EZ ae ae))) (qH ae)))) (cB (b8 (aa 4) ae) ae)))) aN) (ao (bc (cA (cB (aa 4) ae) ae) (av (aJ ae)) aN) (av (aJ (cG (aa 5) (cB (b8 (aa 4) ae) (aE fW T.eB (bE (aa 5)))))))))))))⟩
def jS:=iJ 6 4 (gJ).1
def jC (T:Txt K mg t):Go P w K mg base 2 "_law_number" (spF (jS) K):=(gJ).2 T
def mC (t:Adr):gOD (gFD 3 "beneath" 5 2) t:=⟨_,λ T=>oD ["tree","box","found","left","one"] T.yJ λ hr nd=>
 (ao (fZ 2 nd (he:=bK cO)) (ao (fZ 3 nd (he:=oV T.mY T.jT (aL T.aj (bG T) hr (aa 0) (bE (aa 1))))) (ao (gC (vK 3) (ao (nF 4 3 nd) (ao (mj 2 (he:=aa 4)) (av (qE 3 (he:=bh (oV T.mY T.jT (aL T.aj (bG T) hr (aa 0) (bE (aa 4)))))))))) (av (j6 2)))))⟩
def mG (t:Adr):=iJ 5 2 (mC t).1
def lP (T:Txt K mg t):Go P w K mg base 3 "beneath" (spF (mG t) K):=(mC t).2 T
def iz (t:Adr):gOD (gFD 3 "holders_of" 4 2) t:=⟨_,λ T=>oD ["tree","box","found","holder"] T.qq λ hr nd=>
 (ao (fZ 2 nd (he:=bK cO)) (ao (qT 3 nd (aL T.aj (bA T) hr (aa 0) (bE (aa 1)))) (ao (gC (uD (aa 3) iN) (ao (mj 2 (he:=aa 3)) (av (qT 3 nd (aL T.aj (bA T) hr (aa 0) (bE (aa 3))))))) (av (j6 2)))))⟩
def iE (t:Adr):=iJ 4 2 (iz t).1
def pQ (T:Txt K mg t):Go P w K mg base 3 "holders_of" (spF (iE t) K):=(iz t).2 T
noncomputable def ff (t:Adr):gOM (gIM 3 t.ah 2 2) t:=⟨_,λ T=>oMi ["self","name"] T.ie λ hr nd=>
 (ag (cF (ai (gY T) hr (bE (aa 1)))) (ag (dQ T.aj T.gy (aA 0) (aq (aV ae))) (ag (dQ T.aj T.bq (aA 0) (aq jh)) (ag (dQ T.aj T.bH (aA 0) (aq jh)) (ag (dQ T.aj T.aR (aA 0) (aq jh)) (ag (dQ T.aj T.gw (aA 0) (aq jh)) (ag (dQ T.aj T.gu (aA 0) (aq jh)) (ag (dQ T.aj T.g9 (aA 0) (aq jh)) (aw (fY (b7 T.aj (ko T) hr (aA 0) (ak (aY iN) (ak (aY (aa 1)) aZ)))))))))))))⟩
def fj (t:Adr):=kS 2 2 (ff t).1
def eI (T:Txt K mg t):GoI P w K mg base 3 t.ah (spM (fj t) K):=(ff t).2 T
def gI:gO0 (gFD 3 "_law_word" 6 2):=⟨_,λ T=>oD ["_law_cell_here","_law_way","_law_odd","_law_draw","_law_word_here","_law_at"] T.sk λ hr nd=>
 (ao (qT 2 nd cQ) (ao (qT 3 nd (ai (bF T) hr (cb (aa 0) (aa 1)))) (ao (qT 4 nd (ai (eG T) hr (cb (aa 0) (bo (aa 1) ae)))) (ao (bc (cA (cB (aa 3) ae) ae) (ao (qT 5 nd (cB (b8 (aa 3) ae) (bo (aE fW T.eB (bE (aa 4))) ae))) (av (aJ (bo (bo (oW (aa 4) j7 (f6 (aa 5))) (cG (aa 2) (cB (b8 (aa 3) ae) (aE fW T.eB (bE (aa 2)))))) (oW (aa 4) (f6 (aa 5)) j7))))) aN) (ao (bc (cA (cB (aa 3) ae) ae) (av (aJ (oW (ji GS (aa 4) ae) j7 (f6 (bo ae (cB (b8 (aa 3) ae) ae)))))) aN) (ao (bc (cA (cB (aa 3) ae) ae) (av (aJ cQ)) aN) (av (aJ (aa 4)))))))))⟩
def mH:=iJ 6 2 (gI).1
def rP (T:Txt K mg t):Go P w K mg base 3 "_law_word" (spF (mH) K):=(gI).2 T
def j8 (t:Adr):gOD (gFD 4 "depth_of" 2 2) t:=⟨_,λ T=>oD ["tree","box"] T.vA λ hr nd=>
 (av (aJ (aE fW T.eB (bE (ai (pQ T) hr (cb (aa 0) (aa 1)))))))⟩
def ki (t:Adr):=iJ 2 2 (j8 t).1
def cS (T:Txt K mg t):Go P w K mg base 4 "depth_of" (spF (ki t) K):=(j8 t).2 T
def kh (t:Adr):gOM (gMM 4 t.ah "cut" 5 2) t:=⟨_,λ T=>oMm ["self","box","gone","one","store"] T.nC λ hr nd=>
 (ag (cF (aL T.aj (a9 T) hr (aa 0) (bE (aa 1)))) (ag (aW (bJ (cA (aa 1) (sV T.p7))) (aw eW) aK) (ag (aB 2 nd (he:=aq (qF (zA (bh (bK (bE (aa 1)))) (ai (lP T) hr (cb (aa 0) (aa 1))))))) (ag (mh (jJ (ia hr) (λ _ _=>rfl) (bS T.aj T.aR (aA 0)) (bu hr.units (λ _ _=>rfl) (bL T.aj T.bH (aa 0)) (aa 1))) (aa 1)) (ag (vM 2 (hg:=cJ 3 nd) (hb:=aw (vL 4 nd (by decide) ⟨rfl,rfl,rfl,rfl⟩ (ha:=d9 (bS T.aj T.bq (aA 0)) (d9 (bS T.aj T.bH (aA 0)) (d9 (bS T.aj T.aR (aA 0)) (d9 (bS T.aj T.gw (aA 0)) (d9 (bS T.aj T.gu (aA 0)) (d9 (bS T.aj T.g9 (aA 0)) zF)))))) (he:=aa 3)))) (aw (aO (aq (B4 2)))))))))⟩
def gc (t:Adr):=kS 5 2 (kh t).1
def nc (T:Txt K mg t):GoM P w K mg base 4 t.ah "cut" (spM (gc t) K):=(kh t).2 T
def kg (t:Adr):gOM (gMM 5 t.ah "put" 5 4) t:=⟨_,λ T=>oMm ["self","holder","place","name","box"] T.nB λ hr nd=>
 (ag (cF (aL T.aj (a9 T) hr (aa 0) (bE (aa 1)))) (ag (cF (ai (dZ T) hr (cb (aa 2) (bu hr.units (λ _ _=>rfl) (bL T.aj T.aR (aa 0)) (aa 1))))) (ag (cF (ai (gY T) hr (bE (aa 3)))) (ag (aW (bJ (me (bo (aE zg T.eB (bE (bL T.aj T.bq (aa 0)))) ae) (sV T.fC))) (aw eW) aK) (ag (aW (bJ (me (bo (ai (cS T) hr (cb (aa 0) (aa 1))) ae) (sV T.eJ))) (aw eW) aK) (ag (aB 4 nd (he:=b7 T.aj (ko T) hr (aA 0) (ak (aY (aa 1)) (ak (aY (aa 3)) aZ)))) (ag (mi (jJ (ia hr) (λ _ _=>rfl) (bS T.aj T.aR (aA 0)) (aa 1)) (aa 2) (aV (aa 4))) (aw (aO (aq (aV (aa 4))))))))))))⟩
def cD (t:Adr):=kS 5 4 (kg t).1
def cT (T:Txt K mg t):GoM P w K mg base 5 t.ah "put" (spM (cD t) K):=(kg t).2 T
def fc (t:Adr):gOM (gMM 5 t.ah "move" 7 4) t:=⟨_,λ T=>oMm ["self","box","holder","place","under","row","lowest"] T.l8 λ hr nd=>
 (ag (cF (aL T.aj (a9 T) hr (aa 0) (bE (aa 1)))) (ag (cF (aL T.aj (a9 T) hr (aa 0) (bE (aa 2)))) (ag (aB 4 nd (he:=aq (uE (jM (lP T) hr (cb (aa 0) (aa 1)))))) (ag (aW (bJ (aU (br (cA (aa 1) (sV T.p7)) (br (cA (aa 2) (aa 1)) (bg (zo (aa 2) (aa 4))))))) (aw eW) aK) (ag (sS 5 nd (ckN [("box",1)]) (hi:=iu (bu hr.units (λ _ _=>rfl) (bL T.aj T.aR (aa 0)) (aa 2))) (hcd:=(λ _ _ _ _=>(d5 (aa 0) (aa 1)))) (he:=(λ _ _ _ _=>(aa 0)))) (ag (cF (ai (dZ T) hr (cb (aa 3) (aa 5)))) (ag (aB 6 nd (he:=aq (iq (aE (B3 rfl) T.Fw (bE (bh (ip (ckN [("self",0)]) (iu (bo (bh (bK (bE (aa 1)))) (aa 4))) (λ _ _ _ _=>(ai (cS T) hr (cb (aa 1) (aa 0))))))))))) (ag (aW (bJ (me (vV (bo (bo (ai (cS T) hr (cb (aa 0) (aa 2))) ae) (aa 6)) (ai (cS T) hr (cb (aa 0) (aa 1)))) (sV T.eJ))) (aw eW) aK) (ag (mi (aA 5) (aa 3) (aV (aa 1))) (ag (aW (bJ (cA (aa 5) (bu hr.units (λ _ _=>rfl) (bL T.aj T.aR (aa 0)) (aa 2)))) (aw (aO (aq (aV bC)))) aK) (ag (mh (jJ (ia hr) (λ _ _=>rfl) (bS T.aj T.aR (aA 0)) (bu hr.units (λ _ _=>rfl) (bL T.aj T.bH (aa 0)) (aa 1))) (aa 1)) (ag (cC (ia hr) (bS T.aj T.aR (aA 0)) (aa 2) (aq (B4 5))) (ag (cC (ia hr) (bS T.aj T.bH (aA 0)) (aa 1) (aq (aV (aa 2)))) (aw (aO (aq (aV bC)))))))))))))))))⟩
def ju (t:Adr):=kS 7 4 (fc t).1
def rS (T:Txt K mg t):GoM P w K mg base 5 t.ah "move" (spM (ju t) K):=(fc t).2 T
def j9 (t:Adr):gOM (gFM 6 "_law_put" 12 6) t:=⟨_,λ T=>oM ["_law_tree","_law_rows","_law_facts","_law_number_here","_law_cell_here","_law_way","_law_some","_law_draw","_law_holder","_law_place","_law_name_here","_law_made"] T.vB λ hr nd=>
 (ag (sT (i:=1) (j:=6) nd (ckN [("_law_facts",2)]) (hcd:=(λ _ _ _ _=>(Ig (ai (rR T) hr (cb (aa 1) (aa 0))) ae))) (he:=(λ _ _ _ _=>(aa 0)))) (ag (aB 7 nd (he:=aq (aV (ai (bF T) hr (cb (aa 4) (aa 5)))))) (ag (aB 8 nd (he:=aq (aV (cG (aa 6) (qH ae))))) (ag (aW (bJ (cA (cB (aa 7) ae) ae)) (aw (aB 8 nd (he:=aq (aV (cG (aa 6) (cB (b8 (aa 7) ae) (aE fW T.eB (bE (aa 6))))))))) aK) (ag (aB 9 nd (he:=aq (iq (cB (ai (bF T) hr (cb (aa 4) (bo (aa 5) ae))) (bo (aE fW T.eB (bE (bu hr.units (λ _ _=>rfl) (aa 1) (aa 8)))) ae))))) (ag (aB 10 nd (he:=aq (aV (ai (eG T) hr (cb (aa 4) (bo (aa 5) ae)))))) (ag (aB 11 nd (he:=b7 T.aj (cT T) hr (aA 0) (ak (aY (aa 8)) (ak (aY (aa 9)) (ak (aY (aa 10)) aZ))))) (ag (mi (jJ (ia hr) (λ _ _=>rfl) (aA 1) (aa 8)) (aa 9) (aV (aa 3))) (ag (cC (ia hr) (aA 1) (aa 3) (aq (qF (bK cO)))) (ag (cC (ia hr) (aA 2) (aa 3) (aq (aV (gD (cb (aa 8) (aa 10)))))) (aw (aO (aq (aV (jN (ai (gZ T) hr (bE (aa 11))) (iM (E3 (aa 11) (aa 3))))))))))))))))))⟩
def kj (t:Adr):=kS 12 6 (j9 t).1
def m9 (T:Txt K mg t):Go P w K mg base 6 "_law_put" (spM (kj t) K):=(j9 t).2 T
end
end N11
end
local macro_rules | `(tactic| walk_at "ee")=>`(tactic| first
 | with_reducible assumption
 | with_reducible exact L2.Ua
 | ((with_reducible apply L2.aM); exact rfl)
 | with_reducible exact L2.ar
 | ((with_reducible apply L2.af) <;> walk_at "ee")
 | ((with_reducible apply L2.aH) <;> walk_at "ee")
 | ((with_reducible apply L2.qy) <;> walk_at "ee")
 | ((with_reducible apply L2.gA) <;> walk_at "ee")
 | ((with_reducible apply L2.fV) <;> walk_at "ee")
 | ((with_reducible apply L2.Fm) <;> walk_at "ee")
 | ((with_reducible apply L2.bM) <;> walk_at "ee")
 | ((with_reducible apply L2.cU) <;> walk_at "ee")
 | ((with_reducible apply L2.bZ) <;> walk_at "ee")
 | ((with_reducible apply L2.aP) <;> walk_at "ee")
 | ((with_reducible apply L2.gQ) <;> walk_at "ee")
 | with_reducible exact L2.Iu
 | ((with_reducible apply L2.m8) <;> walk_at "ee")
 | ((with_reducible apply L2.N0) <;> walk_at "ee")
 | ((with_reducible apply L2.tw) <;> walk_at "ee")
 | ((with_reducible apply L2.FO) <;> walk_at "ee")
 | ((with_reducible apply L2.gM) <;> walk_at "ee")
 | ((with_reducible apply L2.HW) <;> walk_at "ee")
 | ((with_reducible apply L2.BX) <;> walk_at "ee")
 | with_reducible exact L2.Cq _
 | with_reducible exact L2.pS _ _
 | with_reducible exact L2.aG _ _
 | with_reducible exact L2.gr _ _
 | with_reducible exact L2.bN _ _
 | with_reducible exact L2.g8 _ _
 | with_reducible exact L2.rT _ _
 | with_reducible exact L2.xM _ _
 | with_reducible exact L2.aQ (by decide)
 | with_reducible exact L2.dM (by decide) (by decide +kernel)
 | with_reducible exact L2.BF (by decide) (by decide)
 | with_reducible exact L2.GY (by decide) (by decide)
 | with_reducible exact L2.Bc _ _
 | exact rfl
 | exact Zb rfl
 | skip)
section
namespace N11
open PySem L2
theorem J7 {n m:Nat} {b:DS} {ds:My D} {τ:My Sl} (h:b (dk n ds)=some (.next τ)) (hl:ds.length=m:=by rfl):iJ n m b ds=some (.shr .non):=by
 unfold iJ;rw [if_pos hl,h]
theorem z7 {τ:My Sl} {c:DT} {f g:DS} {b:Bool} {s:Sl} (h:c τ=some b) (h1:b=true->f τ=some (.ret s)) (h2:b=false->g τ=some (.ret s)):lD (sIf c f kR) g τ=some (.ret s):=by
 cases b with
 | true=>exact tF h (h1 rfl)
 | false=>exact m5 h (h2 rfl)
def Eh {τ:My Sl} {f:DE} {x:Str} (h:f τ=some (.str x)):Ei f τ=some (chD x):=by unfold Ei; rw [h]; rfl
def lower (c:Nat):Bool:=decide (97<=c)&&decide (c<=122)
noncomputable def bR (x:Str):Bool:=(decide (1<=(x.length:Int))&&decide ((x.length:Int)<=8))&&x.cps.toList.all lower
def lt1 (c d:Nat):[c] < [d]↔c < d:=by
 constructor
 ·intro z
  cases z with
  | rel h=>exact h
  | cons h=>cases h
 ·intro h
  exact List.Lex.rel h
theorem le1 (c d:Nat):Kv (.str ⟨#[c]⟩) (.str ⟨#[d]⟩)=some (.bl (decide (c<=d))):=by
 show some (D.bl (!decide ([d] < [c])))=_;congr 2
 by_cases h:c<=d
 ·rw [Zo h,Zl]
  · rfl
  ·intro z
   have:=(lt1 d c).mp z;omega
 ·rw [Zl h,Zo]
  · rfl
  · exact (lt1 d c).mpr (by omega)
theorem xX {g:D->Px D} {t:Nat->Bool}:∀ {cs:My Nat},(∀ c ∈ cs,g (.str ⟨#[c]⟩)=some (.bl (t c)))->xY g (cs.map λ c=>.str ⟨#[c]⟩)=some (cs.map λ c=>.bl (t c))
 | [],_=>rfl
 | c::cs,h=>by
  show (g (.str ⟨#[c]⟩)).bind (λ x=>(xY g (cs.map λ c=>.str ⟨#[c]⟩)).bind λ xs=>some (x::xs))=_;rw [h c (Zd ..),xX λ c m=>h c (Za _ m)];rfl
theorem jO (t:Nat->Bool):∀ cs:My Nat,E4 (cs.map λ c=>.bl (t c))=some (cs.map t)
 | []=>rfl
 | c::cs=>by
  show (E4 (cs.map λ c=>.bl (t c))).map (t c::·)=_;rw [jO t cs]; rfl
theorem qg (x:Str) (hx:x.length<=100):mF [.str x]=some (.shr (.bl (bR x))):=by
 unfold mF mB;dsimp only;refine fk ?_
 refine m5 (gQ (b:=true) (aP (bM (af e_v (af Ua ar)) rfl))) ?_
 have hl:tX [.str x]=some (.int (x.length:Int)):=by
  show (if x.length<=100000 then _ else none)=_;rw [if_pos (by omega)]
 refine z7 (gQ (aP (gM (aH Ua (bM (af e_v ar) hl) rfl) (aH (bM (af e_v ar) hl) Ua rfl)))) (λ h=>?_) (λ h=>?_)
 ·unfold bR
  rw [Bool.not_eq_true'] at h;rw [h];exact da Ua
 ·rw [Bool.not_eq_false'] at h
  refine da (bM (af (qz (Eh e_v) ?_ (xX λ c _=>gM (aH Ua e_v (le1 97 c)) (aH e_v Ua (le1 c 122)))) ar) ?_)
  ·show (x.cps.toList.map _).length<=_
   rw [Zc];exact Z6 hx (by decide)
  ·show (E4 _).map _=_
   rw [jO];unfold bR;rw [h];show some (D.bl ((x.cps.toList.map lower).all id))=some (D.bl (x.cps.toList.all lower));rw [List.all_map];rfl
def scr (ns:My Int):D:=.fz (ns.map .int)
def D6 (ns:My Int):tX [scr ns]=some (.int ns.length):=by
 show some (D.int ((ns.map D.int).length:Nat))=_;rw [Zc]
theorem Hr {ns:My Int} {j:Int} (h0:0<=j) (h1:j < ns.length):∃ c:Int,oIx (scr ns) (.int j)=some (.int c):=by
 obtain ⟨h,e⟩:=qO (xs:=ns.map D.int) h0 (by rw [Zc]; exact h1);refine ⟨ns[j.toNat]'(by rw [Zc] at h; exact h),?_⟩;show atI (ns.map D.int) j=_;rw [e,List.getElem_map]
theorem j0 (c:Int) {w:Int} (w0:0<=w) (w1:w<=10000):∃ r,cZ [.int c,.int w]=some (.shr (.int r))/\0<=r/\r < 1000003:=by
 have m0:=Xy ((c * 48271+w * 7919) % 2147483647 * (16807+2 * w)) (b:=1000003) (by decide);have m1:=Xg ((c * 48271+w * 7919) % 2147483647 * (16807+2 * w)) (b:=1000003) (by decide);have e1:=BF (i:=(c * 48271+w * 7919) % 2147483647) (j:=16807+2 * w) (by omega) (by omega);refine ⟨_,?_,m0,m1⟩;unfold cZ ka;refine fk ?_
 refine dF (gT (by walk_at "ee")) ?_
 exact da (by walk_at "ee")
theorem ij (ns:My Int) {k:Int} (k0:0<=k):∃ c:Int,cw [scr ns,.int k]=some (.shr (.int c)):=by
 have hl:=D6 ns;have t:=rT k (ns.length:Int);unfold cw jq
 by_cases h:k < (ns.length:Int)
 ·obtain ⟨c,hc⟩:=Hr k0 h
  rw [Zo h] at t;refine ⟨c,fk ?_⟩;exact tF (by walk_at "ee") (da (by walk_at "ee"))
 ·rw [Zl h] at t
  refine ⟨0,fk ?_⟩;show lD _ _ [.shr (scr ns),.shr (.int k)]=_;exact m5 (by walk_at "ee") (da Ua)
def LET:Str:="abcdefghijklmnopqrstuvwxyz"
def okS (x:Str):Bool:=x.cps.all lower
def One (z:Str):Prop:=z.length=1/\okS z=true
def D5:LET.cps.toList.length=26:=by rfl
def Hg:∀ c ∈ LET.cps.toList,lower c=true:=by decide +kernel
theorem Hh {k:Int} (k0:0<=k) (k1:k < 26):∃ z:Str,oIx (.str LET) (.int k)=some (.str z)/\One z:=by
 obtain ⟨h,e⟩:=qO k0 (by rw [D5]; omega);refine ⟨⟨#[LET.cps.toList[k.toNat]]⟩,?_,rfl,?_⟩
 ·show (if LET.length<=100000 then (atI LET.cps.toList k).map _ else none)=_
  rw [if_pos (by decide +kernel),e];rfl
 ·unfold okS
  rw [Array.all_eq_true_iff_forall_mem];intro c hc;have e:c=LET.cps.toList[k.toNat]:=by simpa using hc
  rw [e];exact Hg _ (Xp h)
theorem strs_map:∀ ts:My Str,L2.uX (ts.map .str)=some ts
 | []=>rfl
 | t::ts=>by
  show (L2.uX (ts.map .str)).map _=_;rw [strs_map ts]; rfl
theorem pZ {gg:D->Px D}:∀ {ds:My D},(∀ d ∈ ds,∃ z:Str,gg d=some (.str z)/\One z)->∃ ts:My Str,xY gg ds=some (ts.map .str)/\ts.length=ds.length/\∀ z ∈ ts,One z
 | [],_=>⟨[],rfl,rfl,λ q hq=>nomatch hq⟩
 | d::ds,h=>by
  obtain ⟨q,e1,p1⟩:=h d (Zd ..);obtain ⟨qs,e2,l2,p2⟩:=pZ (gg:=gg) (ds:=ds) λ x hx=>h x (Za _ hx)
  refine ⟨q::qs,by simp only [xY,e1,e2]; rfl,by simp [l2],λ x hx=>?_⟩;rcases Zh.mp hx with rfl | hx
  · exact p1
  · exact p2 x hx
theorem tz:∀ {ts:My Str},(∀ z ∈ ts,One z)->(ts.map (·.length)).sum=ts.length
 | [],_=>rfl
 | t::ts,h=>by
  rw [Zg,List.sum_cons,(h t (Zd ..)).1,tz λ z hz=>h z (Za _ hz),Zu];omega
theorem Cy {n:Nat} {d:D} (h:d ∈ nY 0 n):∃ j:Nat,j < n/\d=.int (j:Int):=by
 obtain ⟨j,hj⟩:=List.getElem?_of_mem h;obtain ⟨e,l⟩:=i9 hj;exact ⟨j,l,by rw [e]; congr 1; omega⟩
def xI {x y:Array Nat} (hx:x.all (lower)=true) (hy:y.all (lower)=true):(x++y).all (lower)=true:=by grind
theorem yE:∀ (ts:My Str) (a:Array Nat),(∀ z ∈ ts,One z)->a.all (lower)=true->(ts.foldl (λ acc p=>acc++(Str.cps "")++p.cps) a).size=a.size+ts.length/\(ts.foldl (λ acc p=>acc++(Str.cps "")++p.cps) a).all (lower)=true
 | [],a,_,h=>⟨rfl,h⟩
 | t::ts,a,h,ha=>by
  have h1:=h t (Zd ..);have h0:(Str.cps "").size=0:=by decide +kernel
  have h1':t.cps.size=1:=h1.1;obtain ⟨e1,e2⟩:=yE ts (a++(Str.cps "")++t.cps) (λ z hz=>h z (Za _ hz)) (xI (xI ha (by decide +kernel)) h1.2);refine ⟨?_,e2⟩;rw [List.foldl_cons,e1,Array.size_append,Array.size_append,h1',h0,Zu];omega
theorem D9 {ts:My Str} (h:∀ z ∈ ts,One z) (n:ts≠[]):(Txt.join "" ts).length=ts.length/\okS (Txt.join "" ts)=true:=by
 match ts,n with
 | t::ts,_=>
  have h1:=h t (Zd ..);have h1':t.cps.size=1:=h1.1;obtain ⟨e1,e2⟩:=yE ts t.cps (λ z hz=>h z (Za _ hz)) h1.2;refine ⟨?_,e2⟩;show (ts.foldl (λ acc p=>acc++(Str.cps "")++p.cps) t.cps).size=_;rw [e1,h1',Zu];omega
theorem HX {τ:My Sl} {f g:DE} {z:Str} {ts:My Str} (h1:f τ=some (.str z)) (h2:g τ=some (.lst (ts.map .str))) (h3:(ts.map (·.length)).sum+ts.length * z.length<=100000):EH f g τ=some (.str (Txt.join z ts)):=by
 unfold EH;rw [h1];rw [h2];show (L2.uX (ts.map .str)).bind _=_;rw [strs_map];exact if_pos h3
theorem pV (c:Int) {w:Int} (w0:0<=w) (w1:w<=1000):∃ z:Str,js [.int c,.int w]=some (.shr (.str z))/\bR z=true:=by
 obtain ⟨r,er,r0,r1⟩:=j0 c (w:=w+3) (by omega) (by omega)
 obtain ⟨ts,ets,lts,ots⟩:=pZ (gg:=λ d=>dOp oIx (aI 1) (dOp oMod (dFn cZ (aF (aI 2) (aF (dOp kU (aI 3) (dOp BG (dC (.int 5)) (aI 0))) cN))) (dC (.int 26))) [.shr d,.shr (.str LET),.shr (.int c),.shr (.int w)]) (ds:=nY 0 (Int.toNat (1+r % 8))) (by
  intro d hm;obtain ⟨j,hj,rfl⟩:=Cy hm;obtain ⟨q,eq,q0,q1⟩:=j0 c (w:=w+5 * (j:Int)) (by omega) (by omega);obtain ⟨z,ez,lz⟩:=Hh (Xy _ (by decide)) (Xg _ (by decide))
  exact ⟨z,by walk_at "ee",lz⟩)
 rw [iZ] at lts;have ne:ts≠[]:=λ z=>by rw [z] at lts; simp at lts; omega
 obtain ⟨jl,jo⟩:=D9 ots ne
 have nk:bR (Txt.join "" ts)=true:=by
  unfold bR
  have jo':(Txt.join "" ts).cps.toList.all lower=true:=by
   rw [Array.all_toList];exact jo
  rw [Zo (by omega),Zo (by omega),jo'];rfl
 refine ⟨Txt.join "" ts,?_,nk⟩;unfold js jk;dsimp only;refine fk ?_
 refine dF (gT Ua) ?_
 refine dF (gT (by walk_at "ee")) ?_
 exact da (HX Ua (qz (vt rfl (by omega)) (by rw [iZ]; omega) ets) (by rw [tz ots,show Str.length ""=0 by decide +kernel]; omega))
theorem gB {z:Str} (h:bR z=true):iF [.str z]=some (.shr .non):=by
 have l:z.length<=100:=by
  unfold bR at h;rw [Z7,Z7] at h;have:=Z3 h.1.2;omega
 have e:=qg z l;rw [h] at e;unfold iF iA;exact J7 (wF (gQ (aP (cU (af e_v ar) e rfl))) nofun λ _=>rfl)
def mR (ns:My Int):tX [.lst (ns.map .int)]=some (.int (ns.length:Int)):=by
 show some (D.int ((ns.map D.int).length:Nat))=_;rw [Zc]
theorem dN {ns:My Int} {p:Int} (h0:0<=p) (h1:p<=ns.length):gK [.int p,.lst (ns.map .int)]=some (.shr .non):=by
 have hl:=mR ns;have e1:oLe (.int 0) (.int p)=some (.bl true):=by show some (D.bl (decide _))=_; rw [Zo h0]
 have e2:oLe (.int p) (.int (ns.length:Int))=some (.bl true):=by show some (D.bl (decide _))=_; rw [Zo h1]
 unfold gK gH;exact J7 (wF (gQ (aP (gM (aH Ua e_v e1) (aH e_v (bM (af e_v ar) hl) e2)))) nofun λ _=>rfl)
def nP (i:Int):fI [.int i]=some (.shr (.bl true)):=rfl
theorem rD (ns:My Int) (hl:ns.length < 1000):dB [.lst (ns.map .int),.lst (ns.map .int)]=some (.shr (.bl true)):=by
 have hn:=mR ns;have e0:oNe (.int (ns.length:Int)) (.int (ns.length:Int))=some (.bl false):=by rw [g8,Zo rfl]; rfl
 obtain ⟨τ',e,s2,rfl⟩:=Es (f:=sIf (dOr (A2 (dT (dFn fI (aF (dOp oIx (aI 0) (aI 2)) cN)))) (dT (dOp oNe (dOp oIx (aI 0) (aI 2)) (dOp oIx (aI 1) (aI 2))))) (zO (dC (.bl false))) kR) (gg:=gN 2) (it:=uf (aF (kX tX (aF (aI 1) cN)) cN))
  (λ j τ=>∃ s2,τ=[.shr (.lst (ns.map .int)),.shr (.lst (ns.map .int)),s2]) ((vt (af (bM (af e_v ar) hn) ar) (by omega)).trans (by rw [Int.toNat_natCast])) ⟨.no,rfl⟩ (λ j d τ hd ⟨s2,e⟩=>by
    subst e;obtain ⟨e,l⟩:=i9 hd;rw [Int.zero_add] at e;subst e
    have hx:oIx (.lst (ns.map .int)) (.int (j:Int))=some (.int ns[j]):=by
     obtain ⟨h,e⟩:=qO (xs:=ns.map D.int) (j:=(j:Int)) (by omega) (by rw [Zc]; omega);show atI (ns.map D.int) _=_;rw [e];simp
    have e1:oNe (.int ns[j]) (.int ns[j])=some (.bl false):=by rw [g8,Zo rfl]; rfl
    exact ⟨_,[.shr (.lst (ns.map .int)),.shr (.lst (ns.map .int)),.shr (.int (j:Int))],rfl,wF (tm (b:=false) (gQ (aP (cU (af (aH e_v e_v hx) ar) (nP _) rfl))) (λ _=>aP (aH (aH e_v e_v hx) (aH e_v e_v hx) e1)) nofun) nofun λ _=>rfl,_,rfl⟩)
 unfold dB eZ;exact fk (m5 (tm (b:=false) (gQ (b:=true) rfl) (λ _=>aP (aH (bM (af e_v ar) hn) (bM (af e_v ar) hn) e0)) nofun) (dF e (da Ua)))
structure B8 where
 i:Int
 h:Option Int
 n:Str
 r:List Int
def kv {β:Type} (g:B8->β) (M:My B8):My (Key×β):=M.map λ b=>((.inl b.i:Key),g b)
def fd (M:My B8) (i:Int):Px B8:=M.find? λ b=>decide (b.i=i)
def fO {M:My B8} {i:Int} {b:B8} (h:fd M i=some b):b.i=i:=by simpa using List.find?_some h
def a7 {M:My B8} {i:Int} {b:B8} (h:fd M i=some b):b ∈ M:=List.mem_of_find?_eq_some h
theorem mZ (g:B8->D) (M:My B8) (i:Int):jv (kv g M) (.inl i)=(fd M i).map g:=by
 unfold jv kv fd
 induction M with
 | nil=>rfl
 | cons b M ih=>
  rw [Zg,List.find?_cons,List.find?_cons]
  by_cases h:b.i=i
  · simp [h]
  ·have:decide ((Sum.inl b.i:Key)=Sum.inl i)=false:=Zl λ z=>h (by injection z)
   rw [Zl h,this];exact ih
def hD:Px Int->D
 | none=>.non
 | some j=>.int j
noncomputable def trF (gv:Int) (M:My B8):My (Str×D):=[("given",.int gv),("names",.dct (kv (λ b=>.str b.n) M)),("holders",.dct (kv (λ b=>hD b.h) M)),("boxes",.dct (kv (λ b=>.lst (b.r.map .int)) M)),("marks",.dct (kv (λ _=>.dct []) M)),("words",.dct (kv (λ _=>.lst []) M)),("rows",.dct (kv (λ _=>.tup []) M))]
def trD (C:Pz) (gv:Int) (M:My B8):D:=.obj C (trF gv M)
noncomputable def faD (M:My B8):D:=.dct (kv (λ b=>.tup [hD b.h,.str b.n]) M)
def cu {g:B8->D} {M:My B8} {i:Int} {b:B8} (h:fd M i=some b):d3 (.dct (kv g M)) (.int i)=some (g b):=by
 show jv (kv g M) (.inl i)=_;rw [mZ,h];rfl
theorem BY {g:B8->D} {M:My B8} {i:Int} {b:B8} (h:fd M i=some b):Dk (.int i) (.dct (kv g M))=some (.bl true):=by
 show some (D.bl (jv (kv g M) (.inl i)).isSome)=_;rw [mZ,h];rfl
theorem yS {g:B8->D} {M:My B8} {i:Int} {b:B8} (h:fd M i=some b):jd (.int i) (.dct (kv g M))=some (.bl false):=by
 show some (D.bl (!(jv (kv g M) (.inl i)).isSome))=_;rw [mZ,h];rfl
theorem yW {g:B8->D} {M:My B8} {j:Int} (h:fd M j=none):Dk (.int j) (.dct (kv g M))=some (.bl false):=by
 show some (D.bl (jv (kv g M) (.inl j)).isSome)=_;rw [mZ,h];rfl
section
variable {t:Adr} {gv:Int} {M:My B8} {i:Int} {b:B8} {z:Int}
def fN:(trF gv M).lookup ("names":Str)=some (D.dct (kv (λ b=>.str b.n) M)):=rfl
def fH:(trF gv M).lookup ("holders":Str)=some (D.dct (kv (λ b=>hD b.h) M)):=rfl
def fB:(trF gv M).lookup ("boxes":Str)=some (D.dct (kv (λ b=>.lst (b.r.map .int)) M)):=rfl
theorem cP (h:fd M i=some b):fJ t [trD t.ah gv M,.int i]=some (.shr .non):=by
 have e1:=yS (g:=λ b=>.str b.n) h;unfold fJ iD;exact J7 (wF (aP (aH e_v (fV e_v fN) e1)) nofun λ _=>rfl)
def pB (h:fd M i=some b):cz t [trD t.ah gv M,.int i]=some (.shr (.bl true)):=by
 unfold cz d7;exact fk (da (aH e_v (fV e_v fN) (BY h)))
def uY {j:Int} (h:fd M j=none):cz t [trD t.ah gv M,.int j]=some (.shr (.bl false)):=by
 unfold cz d7;exact fk (da (aH e_v (fV e_v fN) (yW h)))
theorem chk (h:fd M i=some b):Ad (ig t.ah "check" (fJ t) (aI 0) (aF (aI 1) cN)) [.shr (trD t.ah gv M),.shr (.int i)]=some (.next [.shr (trD t.ah gv M),.shr (.int i)]):=
 gU (bZ e_v (af e_v ar) rfl (cP h) rfl)
def Ds (h:fd M i=some b):bY t [trD t.ah gv M,.int i]=some (.shr (.str b.n)):=by
 unfold bY fS;exact fk (dF (chk h) (da (aH (fV e_v fN) e_v (cu h))))
def ib (h:fd M i=some b):aX t [trD t.ah gv M,.int i]=some (.shr (hD b.h)):=by
 unfold aX dW;exact fk (dF (chk h) (da (aH (fV e_v fH) e_v (cu h))))
theorem gE (h:fd M i=some b):b9 t [trD t.ah gv M,.int i]=some (.own (.lst (b.r.map .int))):=by
 unfold b9 fe;exact fk (dF (chk h) (Gh (bM (af (aH (fV e_v fB) e_v (cu h)) ar) rfl)))
inductive Ch (M:List B8):Int->Nat->Prop where
 | top {i:Int} {b:B8} (h:fd M i=some b) (e:b.h=none):Ch M i 0
 | up {i j:Int} {n:Nat} {b:B8} (h:fd M i=some b) (e:b.h=some j) (c:Ch M j n):Ch M i (n+1)
def Ch.get {n:Nat} (h:Ch M i n):∃ b,fd M i=some b:=by
 cases h with
 | top h _=>exact ⟨_,h⟩
 | up h _ _=>exact ⟨_,h⟩
theorem yX {n:Nat} (c:Ch M i n):∀ (m:Int),∃ x,cE (dT (dOp mO (dOp oIx (dOp d3 (aI 0) (aI 1)) (dC (.int 0))) (dC .non))) (lD (vY 1 (dOp oIx (dOp d3 (aI 0) (aI 1)) (dC (.int 0)))) (vY 2 (dOp kU (aI 2) (dC (.int 1))))) (n+1) [.shr (faD M),.shr (.int i),.shr (.int m)]=some (.next [.shr (faD M),.shr x,.shr (.int (m+n))]):=by
 induction c with
 | @top i b h e=>
  intro m;have e1:d3 (faD M) (.int i)=some (.tup [hD b.h,.str b.n]):=cu h
  have t1:dT (dOp mO (dOp oIx (dOp d3 (aI 0) (aI 1)) (dC (.int 0))) (dC .non)) [.shr (faD M),.shr (.int i),.shr (.int m)]=some false:=by
   rw [e] at e1;exact aP (aH (aH (aH e_v e_v e1) Ua (pS _ _)) Ua rfl)
  refine ⟨.int i,?_⟩;unfold cE;rw [t1];simp only [Int.natCast_zero,Int.add_zero]
 | @up i j n b h e c ih=>
  intro m;have e1:d3 (faD M) (.int i)=some (.tup [hD b.h,.str b.n]):=cu h;rw [e] at e1;have t1:dT (dOp mO (dOp oIx (dOp d3 (aI 0) (aI 1)) (dC (.int 0))) (dC .non)) [.shr (faD M),.shr (.int i),.shr (.int m)]=some true:=aP (aH (aH (aH e_v e_v e1) Ua (pS _ _)) Ua rfl)
  have t2:lD (vY 1 (dOp oIx (dOp d3 (aI 0) (aI 1)) (dC (.int 0)))) (vY 2 (dOp kU (aI 2) (dC (.int 1)))) [.shr (faD M),.shr (.int i),.shr (.int m)]=some (.next [.shr (faD M),.shr (.int j),.shr (.int (m+1))]):=
   dF ((gT (aH (aH e_v e_v e1) Ua (pS _ _))).trans rfl) ((gT (aH e_v Ua (aG _ _))).trans rfl)
  obtain ⟨x,hx⟩:=ih (m+1);refine ⟨x,?_⟩
  conv=>lhs; unfold cE
  rw [t1];simp only [t2];rw [hx];simp only [Int.natCast_add,Int.natCast_one,show m+1+(n:Int)=m+((n:Int)+1) by omega]
theorem ED {n:Nat} (c:Ch M i n):dJ [faD M,.int i]=some (.shr (.int (n:Int))):=by
 obtain ⟨x,hx⟩:=yX c 0;have w:=jA hx;unfold dJ jm;dsimp only;refine fk (dF rfl (dF w (da ?_)));rw [Int.zero_add];exact aM rfl
theorem qh {n:Nat} (c:Ch M i n):∀ (ds:My D) (b:B8),fd M i=some b->ds.length+n < 100000->∃ es:My D,es.length=ds.length+n/\cE (dT (dOp mO (aI 3) (dC .non))) (lD (Cw 2 (aI 3)) (vY 3 (ig t.ah "holder_of" (aX t) (aI 0) (aF (aI 3) cN)))) (n+1) [.shr (trD t.ah gv M),.shr (.int z),.own (.lst ds),.shr (hD b.h)]=some (.next [.shr (trD t.ah gv M),.shr (.int z),.own (.lst es),.shr .non]):=by
 induction c with
 | @top i b h e=>
  intro ds b' hb hz;rw [h] at hb;cases hb;refine ⟨ds,rfl,?_⟩;rw [e];have t1:dT (dOp mO (aI 3) (dC .non)) [.shr (trD t.ah gv M),.shr (.int z),.own (.lst ds),.shr (hD none)]=some false:=rfl;unfold cE;rw [t1];rfl
 | @up i j n b h e c ih=>
  intro ds b' hb hz;rw [h] at hb;cases hb;obtain ⟨bj,hj⟩:=c.get;obtain ⟨es,l,hx⟩:=ih (ds++[.int j]) bj hj (by rw [Z1]; show ds.length+1+n < _; omega);refine ⟨es,by rw [l,Z1]; show ds.length+1+n=_; omega,?_⟩;rw [e];have t1:dT (dOp mO (aI 3) (dC .non)) [.shr (trD t.ah gv M),.shr (.int z),.own (.lst ds),.shr (hD (some j))]=some true:=rfl
  have t2:lD (Cw 2 (aI 3)) (vY 3 (ig t.ah "holder_of" (aX t) (aI 0) (aF (aI 3) cN))) [.shr (trD t.ah gv M),.shr (.int z),.own (.lst ds),.shr (hD (some j))]=some (.next [.shr (trD t.ah gv M),.shr (.int z),.own (.lst (ds++[.int j])),.shr (hD bj.h)]):=
   dF ((Gj e_v rfl (by omega)).trans rfl) ((gT (bZ e_v (af e_v ar) rfl (ib hj) rfl)).trans rfl)
  conv=>lhs; unfold cE
  rw [t1];simp only [t2];exact hx
theorem fD {n:Nat} (c:Ch M i n) (hn:n < 1000):ki t [trD t.ah gv M,.int i]=some (.shr (.int (n:Int))):=by
 obtain ⟨b,h⟩:=c.get;obtain ⟨es,l,hx⟩:=qh c [] b h (by rw [Xh]; omega);have w:=jA hx
 have e1:iE t [trD t.ah gv M,.int i]=some (.own (.lst es)):=by
  unfold iE iz;dsimp only;exact fk (dF (pD (gA ar (Z8 _)) (Zb rfl)) (dF ((gT (bZ e_v (af e_v ar) rfl (ib h) rfl)).trans rfl) (dF w (wD rfl))))
 unfold ki j8;refine fk (da (bM (af (cU (af e_v (af e_v ar)) e1 rfl) ar) ?_));show some (D.int (es.length:Int))=_;rw [l,Xh,Nat.zero_add]
end
noncomputable def trG (C:Pz) (g nm ho bx mk wd rw:Mt):Mt:=.n (.o C) [(.inr "given",g),(.inr "names",nm),(.inr "holders",ho),(.inr "boxes",bx),(.inr "marks",mk),(.inr "words",wd),(.inr "rows",rw)]
def kM (g:B8->Mt) (M:My B8):Mt:=.n .d (kv g M)
def bxM (M:My B8):Mt:=kM (λ b=>lM (b.r.map .int)) M
noncomputable def trM (C:Pz) (gv:Int) (M:My B8):Mt:=trG C (.s (.int gv)) (kM (λ b=>.s (.str b.n)) M) (kM (λ b=>.s (hD b.h)) M) (bxM M) (kM (λ _=>.n .d []) M) (kM (λ _=>lM []) M) (kM (λ _=>.s (.tup [])) M)
def faM (M:My B8):Mt:=kM (λ b=>.s (.tup [hD b.h,.str b.n])) M
def Ep (g:B8->Mt) (M:My B8):frz (kM g M)=.dct (kv (λ b=>frz (g b)) M):=by
 unfold kM kv;rw [frz,ui,Zy];rfl
def Eo (d:D):frz (.s d)=d:=by rw [frz]
theorem qo (ns:My D):frz (lM ns)=.lst ns:=by
 unfold lM;rw [frz,oH,Zy];congr 1;exact (Z0 λ d _=>by show frz (.s d)=id d; rw [frz]; rfl).trans (List.map_id _)
def HD:frz (.n .d [])=.dct []:=by rfl
def qm (C:Pz) (gv:Int) (M:My B8):frz (trM C gv M)=trD C gv M:=by
 unfold trM trG bxM;rw [frz];simp only [uj,Zg,Xo,Ep,Eo,qo,HD,strOf];rfl
def BS (M:My B8):frz (bxM M)=.dct (kv (λ b=>.lst (b.r.map .int)) M):=by
 unfold bxM;rw [Ep];simp only [qo]
def yB (M:My B8):frz (faM M)=faD M:=by
 unfold faM faD;rw [Ep];simp only [Eo]
def uV {C:Pz} {g nm ho bx mk wd rw x:Mt}:(trG C g nm ho bx mk wd rw).put [.k (.inr "boxes")] x=trG C g nm ho x mk wd rw:=by rfl
def rA {C:Pz} {g nm ho bx mk wd rw:Mt} {k:Key}:(trG C g nm ho bx mk wd rw).get [.k (.inr "boxes"),.k k]=bx.get [.k k]:=rfl
theorem iX {C:Pz} {g nm ho bx mk wd rw x:Mt} {k:Key}:(trG C g nm ho bx mk wd rw).put [.k (.inr "boxes"),.k k] x=trG C g nm ho (bx.put [.k k] x) mk wd rw:=rfl
theorem qk (g:B8->Mt) (M:My B8) (i:Int):(kM g M).get [.k (.inl i)]=(fd M i).map g:=by
 unfold kM;rw [A0];unfold kv fd
 induction M with
 | nil=>rfl
 | cons b M ih=>
  rw [Zg,List.find?_cons,List.find?_cons]
  by_cases h:b.i=i
  · simp [h]
  ·have:decide ((Sum.inl b.i:Key)=Sum.inl i)=false:=Zl λ z=>h (by injection z)
   rw [Zl h,this];exact ih
theorem wV {C:Pz} {g ho bx mk wd rw mv:Mt} {cs:My (Key×Mt)} {b:Bool} {r:My Sm} {gk:DE} {fv:DEm} {s:Sm} {d:D} {k:Key} (h1:fv (.mu b (trG C g (.n .d cs) ho bx mk wd rw)::r)=some (s,.mu b (trG C g (.n .d cs) ho bx mk wd rw)::r)) (h3:gk (bf (.mu b (trG C g (.n .d cs) ho bx mk wd rw)::r))=some d) (h4:fu d=some k) (h5:toM s=some mv) (h7:cs.length < 100000):gV (jX C "names" (de 0)) gk fv (.mu b (trG C g (.n .d cs) ho bx mk wd rw)::r)=some (.next (.mu b (trG C g (.n .d (kZ cs k mv)) ho bx mk wd rw)::r)):=by
 refine (jF h1 (mI cI rfl) h3 h4 h5 rfl h7).trans ?_
 rfl
theorem lH {C:Pz} {g nm bx mk wd rw mv:Mt} {cs:My (Key×Mt)} {b:Bool} {r:My Sm} {gk:DE} {fv:DEm} {s:Sm} {d:D} {k:Key} (h1:fv (.mu b (trG C g nm (.n .d cs) bx mk wd rw)::r)=some (s,.mu b (trG C g nm (.n .d cs) bx mk wd rw)::r)) (h3:gk (bf (.mu b (trG C g nm (.n .d cs) bx mk wd rw)::r))=some d) (h4:fu d=some k) (h5:toM s=some mv) (h7:cs.length < 100000):gV (jX C "holders" (de 0)) gk fv (.mu b (trG C g nm (.n .d cs) bx mk wd rw)::r)=some (.next (.mu b (trG C g nm (.n .d (kZ cs k mv)) bx mk wd rw)::r)):=by
 refine (jF h1 (mI cI rfl) h3 h4 h5 rfl h7).trans ?_
 rfl
theorem wX {C:Pz} {g nm ho mk wd rw mv:Mt} {cs:My (Key×Mt)} {b:Bool} {r:My Sm} {gk:DE} {fv:DEm} {s:Sm} {d:D} {k:Key} (h1:fv (.mu b (trG C g nm ho (.n .d cs) mk wd rw)::r)=some (s,.mu b (trG C g nm ho (.n .d cs) mk wd rw)::r)) (h3:gk (bf (.mu b (trG C g nm ho (.n .d cs) mk wd rw)::r))=some d) (h4:fu d=some k) (h5:toM s=some mv) (h7:cs.length < 100000):gV (jX C "boxes" (de 0)) gk fv (.mu b (trG C g nm ho (.n .d cs) mk wd rw)::r)=some (.next (.mu b (trG C g nm ho (.n .d (kZ cs k mv)) mk wd rw)::r)):=by
 refine (jF h1 (mI cI rfl) h3 h4 h5 rfl h7).trans ?_
 rfl
theorem wW {C:Pz} {g nm ho bx wd rw mv:Mt} {cs:My (Key×Mt)} {b:Bool} {r:My Sm} {gk:DE} {fv:DEm} {s:Sm} {d:D} {k:Key} (h1:fv (.mu b (trG C g nm ho bx (.n .d cs) wd rw)::r)=some (s,.mu b (trG C g nm ho bx (.n .d cs) wd rw)::r)) (h3:gk (bf (.mu b (trG C g nm ho bx (.n .d cs) wd rw)::r))=some d) (h4:fu d=some k) (h5:toM s=some mv) (h7:cs.length < 100000):gV (jX C "marks" (de 0)) gk fv (.mu b (trG C g nm ho bx (.n .d cs) wd rw)::r)=some (.next (.mu b (trG C g nm ho bx (.n .d (kZ cs k mv)) wd rw)::r)):=by
 refine (jF h1 (mI cI rfl) h3 h4 h5 rfl h7).trans ?_
 rfl
theorem wU {C:Pz} {g nm ho bx mk rw mv:Mt} {cs:My (Key×Mt)} {b:Bool} {r:My Sm} {gk:DE} {fv:DEm} {s:Sm} {d:D} {k:Key} (h1:fv (.mu b (trG C g nm ho bx mk (.n .d cs) rw)::r)=some (s,.mu b (trG C g nm ho bx mk (.n .d cs) rw)::r)) (h3:gk (bf (.mu b (trG C g nm ho bx mk (.n .d cs) rw)::r))=some d) (h4:fu d=some k) (h5:toM s=some mv) (h7:cs.length < 100000):gV (jX C "words" (de 0)) gk fv (.mu b (trG C g nm ho bx mk (.n .d cs) rw)::r)=some (.next (.mu b (trG C g nm ho bx mk (.n .d (kZ cs k mv)) rw)::r)):=by
 refine (jF h1 (mI cI rfl) h3 h4 h5 rfl h7).trans ?_
 rfl
theorem Af {C:Pz} {g nm ho bx mk wd mv:Mt} {cs:My (Key×Mt)} {b:Bool} {r:My Sm} {gk:DE} {fv:DEm} {s:Sm} {d:D} {k:Key} (h1:fv (.mu b (trG C g nm ho bx mk wd (.n .d cs))::r)=some (s,.mu b (trG C g nm ho bx mk wd (.n .d cs))::r)) (h3:gk (bf (.mu b (trG C g nm ho bx mk wd (.n .d cs))::r))=some d) (h4:fu d=some k) (h5:toM s=some mv) (h7:cs.length < 100000):gV (jX C "rows" (de 0)) gk fv (.mu b (trG C g nm ho bx mk wd (.n .d cs))::r)=some (.next (.mu b (trG C g nm ho bx mk wd (.n .d (kZ cs k mv)))::r)):=by
 refine (jF h1 (mI cI rfl) h3 h4 h5 rfl h7).trans ?_
 rfl
theorem yF {C:Pz} {g nm ho bx mk wd rw mv:Mt} {b:Bool} {r:My Sm} {fv:DEm} {s:Sm} (h1:fv (.mu b (trG C g nm ho bx mk wd rw)::r)=some (s,.mu b (trG C g nm ho bx mk wd rw)::r)) (h5:toM s=some mv):wI C "given" (de 0) fv (.mu b (trG C g nm ho bx mk wd rw)::r)=some (.next (.mu b (trG C mv nm ho bx mk wd rw)::r)):=by
 refine (Hc h1 cI h5 rfl (Zb rfl)).trans ?_
 rfl
def Nd (M:My B8):Prop:=(M.map B8.i).Nodup
theorem fd_none {M:My B8} {i:Int}:fd M i=none↔∀ b ∈ M,b.i≠i:=by
 unfold fd;rw [List.find?_eq_none];exact ⟨λ h b hb e=>h b hb (by simp [e]),λ h b hb e=>h b hb (by simpa using e)⟩
theorem sj {M:My B8} (nd:Nd M) {b:B8} (hb:b ∈ M):fd M b.i=some b:=by
 unfold Nd at nd;unfold fd
 induction M with
 | nil=>cases hb
 | cons c M ih=>
  rw [Zg,Zw] at nd;rw [List.find?_cons];rcases Zh.mp hb with rfl | hb
  · simp
  ·have ne:c.i≠b.i:=λ e=>nd.1 (by rw [e]; exact Z9 hb)
   rw [Zl ne];exact ih nd.2 hb
theorem uI {β:Type} (g:B8->β) (M:My B8) (i:Int):((kv g M).any λ c=>decide (c.1=.inl i))=(fd M i).isSome:=by
 unfold kv fd;rw [List.any_map,<- List.isSome_find?];congr 2
 funext b
 show decide ((Sum.inl b.i:Key)=Sum.inl i)=decide (b.i=i);exact Yr.mpr ⟨λ z=>by injection z,λ z=>by rw [z]⟩
def Ag {g:B8->Mt} {M:My B8} {i:Int} {m:Mt} (h:fd M i=none):kZ (kv g M) (.inl i) m=kv g M++[(.inl i,m)]:=by
 unfold kZ;rw [uI,h];rfl
def D7 {β:Type} (g:B8->β) (M:My B8) (b:B8):kv g (M++[b])=kv g M++[(.inl b.i,g b)]:=by
 unfold kv;rw [Zp];rfl
def lI {g:B8->Mt} {M:My B8} {b:B8} (h:fd M b.i=none):kZ (kv g M) (.inl b.i) (g b)=kv g (M++[b]):=by rw [Ag h,D7]
def lX {β:Type} (g:B8->β) (M:My B8):(kv g M).length=M.length:=Zc _
theorem yR (g:B8->Mt) (M:My B8) (i:Int):fP (kv g M) (.inl i)=kv g (M.filter λ b=>decide (b.i≠i)):=by
 unfold fP kv;rw [Xx];congr 2
 funext b
 show decide ((Sum.inl b.i:Key)≠Sum.inl i)=decide (b.i≠i);exact Yr.mpr (not_congr ⟨λ z=>by injection z,λ z=>by rw [z]⟩)
def upR (M:My B8) (i:Int) (r:My Int):My B8:=M.map λ b=>if b.i=i then { b with r:=r } else b
theorem wc {β:Type} (g:B8->β) (M:My B8) (i:Int) (r:My Int) (hg:∀ b:B8,g { b with r:=r }=g b):kv g (upR M i r)=kv g M:=by
 unfold kv upR;rw [Zy];refine Z0 λ b _=>?_
 show ((Sum.inl (if b.i=i then { b with r:=r } else b).i:Key),g (if b.i=i then { b with r:=r } else b))=_;split
 · rw [hg]
 · rfl
theorem pK {M:My B8} {i:Int} {b:B8} {r:My Int} (nd:Nd M) (h:fd M i=some b):(bxM M).put [.k (.inl i)] (lM (r.map .int))=bxM (upR M i r):=by
 have hb:=a7 h;have hi:=fO h;obtain ⟨l1,l2,rfl⟩:=List.append_of_mem hb;have nd':=nd;unfold Nd at nd';rw [Zp,Zg,Yc,Zw] at nd';have n1:∀ c ∈ l1,c.i≠i:=λ c hc e=>nd'.2.2 c.i (Z9 hc) b.i (Zd ..) (by rw [e,hi])
 have n2:∀ c ∈ l2,c.i≠i:=λ c hc e=>nd'.2.1.1 (by rw [hi,<- e]; exact Z9 hc)
 have ix:((kv (λ b=>lM (b.r.map .int)) (l1++b::l2)).findIdx? λ c=>decide (c.1=.inl i))=some l1.length:=by
  unfold kv;rw [List.findIdx?_map,List.findIdx?_append]
  have e1:(l1.findIdx? ((λ c:Key×Mt=>decide (c.1=Sum.inl i)) ∘ λ b=>((.inl b.i:Key),lM (b.r.map .int))))=none:=by
   rw [List.findIdx?_eq_none_iff];intro c hc;exact Zl λ z=>n1 c hc (by injection z)
  rw [e1,List.findIdx?_cons];have e2:((λ c:Key×Mt=>decide (c.1=Sum.inl i)) ∘ λ b:B8=>((.inl b.i:Key),lM (b.r.map .int))) b=true:=Zo (by show (Sum.inl b.i:Key)=Sum.inl i; rw [hi]);rw [e2];simp
 have gx:(kv (λ b=>lM (b.r.map .int)) (l1++b::l2))[l1.length]?=some ((.inl b.i:Key),lM (b.r.map .int)):=by
  unfold kv;rw [List.getElem?_map,List.getElem?_append_right (Zn _),Nat.sub_self];rfl
 show (match (kv (λ b=>lM (b.r.map .int)) (l1++b::l2)).findIdx? (λ c=>decide (c.1=.inl i)) with | none=>Mt.n .d (kv (λ b=>lM (b.r.map .int)) (l1++b::l2)) | some j=>match (kv (λ b=>lM (b.r.map .int)) (l1++b::l2))[j]? with | none=>Mt.n .d (kv (λ b=>lM (b.r.map .int)) (l1++b::l2)) | some c=>.n .d ((kv (λ b=>lM (b.r.map .int)) (l1++b::l2)).set j (c.1,Mt.put c.2 [] (lM (r.map .int)))))=_;simp only [ix,gx];congr 1;unfold kv upR;rw [Zp,Zg,Zp,Zg,Zp,Zg,List.set_append_right _ _ (by rw [Zc]; exact Zn _),Zc,Nat.sub_self];congr 1
 ·rw [Zy]
  refine Z0 λ c hc=>?_
  show _=((Sum.inl (if c.i=i then { c with r:=r } else c).i:Key),lM ((if c.i=i then { c with r:=r } else c).r.map .int));rw [if_neg (n1 c hc)]
 ·show (_,Mt.put (lM (b.r.map .int)) [] (lM (r.map .int)))::_=_
  rw [if_pos hi];congr 1;rw [Zy];refine Z0 λ c hc=>?_
  show _=((Sum.inl (if c.i=i then { c with r:=r } else c).i:Key),lM ((if c.i=i then { c with r:=r } else c).r.map .int));rw [if_neg (n2 c hc)]
section
variable {t:Adr} {gv:Int} {M:My B8} {nm:Str} {h:Px Int}
def lB {C:Pz} {b:Bool} {r:My Sm}:bf (.mu b (trM C gv M)::r)=.shr (trD C gv M)::bf r:=by
 show Sl.shr (frz (trM C gv M))::_=_;rw [qm]
theorem uv (hl:M.length < 1000) (hf:fd M gv=none):iH t [.mu true (trM t.ah gv M),.shr (hD h),.shr (.str nm)]=some (.shr (.int gv),[.mu true (trM t.ah (gv+1) (M++[⟨gv,h,nm,[]⟩])),.no,.no]):=by
 unfold iH iC;refine (fL (τ:=[.mu true (trM t.ah (gv+1) (M++[⟨gv,h,nm,[]⟩])),.shr (hD h),.shr (.str nm),.shr (.int gv)]) ?_).trans rfl;have hz:∀ g:B8->Mt,(kv g M).length < 100000:=λ g=>by rw [lX]; omega
 refine aS (cf (s:=.shr (.int gv)) (v_S ?_ rfl) (Zb rfl) rfl) ?_
 ·show dUn (AE t.ah "given") (aI 0) (bf (.mu true (trM t.ah gv M)::[.shr (hD h),.shr (.str nm),.no]))=_
  rw [lB];exact fV e_v rfl
 refine aS (yF (v_N (aH e_v Ua (aG _ _))) rfl) ?_
 refine aS (wV (v_N e_v) e_v rfl rfl (hz _)) ?_
 refine aS (lH (v_N e_v) e_v rfl rfl (hz _)) ?_
 refine aS (wX (v_O (gA ar (Z8 _)) rfl) e_v rfl rfl (hz _)) ?_
 refine aS (wW rfl e_v rfl rfl (hz _)) ?_
 refine aS (wU (v_O (gA ar (Z8 _)) rfl) e_v rfl rfl (hz _)) ?_
 refine aS (Af (v_N (qy ar (Z8 _))) e_v rfl rfl (hz _)) ?_
 refine (jE (v_N e_v)).trans ?_
 have sn:∀ g:B8->Mt,kZ (kv g M) (.inl gv) (g ⟨gv,h,nm,[]⟩)=kv g (M++[⟨gv,h,nm,[]⟩]):=λ g=>lI (b:=⟨gv,h,nm,[]⟩) hf
 unfold trM bxM kM;rw [<- sn,<- sn,<- sn,<- sn,<- sn,<- sn];rfl
theorem jg {C:Pz} {x:Str} {cs:My (Key×Mt)} {mv:Mt} {b:Bool} {r:My Sm} {fv:DEm} {s:Sm} (h1:fv (.mu b (.n (.o C) cs)::r)=some (s,.mu b (.n (.o C) cs)::r)) (h5:toM s=some mv) (h7:cs.length < 1000):wI C x (de 0) fv (.mu b (.n (.o C) cs)::r)=some (.next (.mu b (.n (.o C) (kZ cs (.inr x) mv))::r)):=(Hc h1 cI h5 rfl h7).trans rfl
theorem r9 (hn:bR nm=true):fj t [.mu true (.n (.o t.ah) []),.shr (.str nm)]=some (.shr .non,[.mu true (trM t.ah 1 [⟨0,none,nm,[]⟩]),.no]):=by
 unfold fj ff;refine (Gn (τ:=[.mu true (trM t.ah 1 [⟨0,none,nm,[]⟩]),.shr (.str nm)]) ?_).trans rfl;refine aS (hG (cU (af e_v ar) (gB hn) rfl)) ?_
 refine aS (jg (v_N Ua) rfl (Zb rfl)) ?_
 refine aS (jg rfl rfl (Zb rfl)) ?_
 refine aS (jg rfl rfl (Zb rfl)) ?_
 refine aS (jg rfl rfl (Zb rfl)) ?_
 refine aS (jg rfl rfl (Zb rfl)) ?_
 refine aS (jg rfl rfl (Zb rfl)) ?_
 refine aS (jg rfl rfl (Zb rfl)) ?_
 have e:=uv (t:=t) (gv:=0) (M:=[]) (nm:=nm) (h:=none) (by decide) rfl;refine p5 (v_M cI rfl rfl (bp (q_N Ua) (bp (q_N e_v) rfl)) rfl e ?_);rfl
end
noncomputable def insI (r:My Int) (p x:Int):My Int:=r.take p.toNat++x::r.drop p.toNat
theorem yq (r:My Int) (p x:Int):Mt.n .l (Jy ((r.map D.int).map λ d=>((.inl 0:Key),Mt.s d)) p.toNat (.s (.int x)))=lM ((insI r p x).map .int):=by
 unfold lM insI Jy;rw [Zp,Zp,Zg,Zg,List.map_take,List.map_take,List.map_drop,List.map_drop]
def HL {M:My B8} {i:Int} {b c:B8} (h:fd M i=some b):fd (M++[c]) i=some b:=by
 unfold fd at *;rw [List.find?_append,h];rfl
theorem BH {M:My B8} {b:B8} (nd:Nd M) (h:fd M b.i=none):Nd (M++[b]):=by
 unfold Nd at *;rw [Zp,Yc];refine ⟨nd,by simp,λ x hx y hy e=>?_⟩;obtain ⟨c,hc,rfl⟩:=Yt.mp hx;have:y=b.i:=by simpa using hy
 exact fd_none.mp h c hc (by rw [e,this])
theorem Ek {i j:Int} (h:i<=j):oGt (.int i) (.int j)=some (.bl false):=by
 show some (D.bl (decide _))=_;rw [Zl (by omega)]
def BM {g:B8->D} (M:My B8):xN [.dct (kv g M)]=some (.int (M.length:Int)):=by
 show some (D.int ((kv g M).length:Nat))=_;rw [lX]
noncomputable def gf (M:My B8) (h:Int) (b:B8) (p gv:Int) (nm:Str):My B8:=upR (M++[⟨gv,some h,nm,[]⟩]) h (insI b.r p gv)
theorem tj {C:Pz} {gv:Int} {M:My B8} {i:Int} {r:My Int}:trM C gv (upR M i r)=trG C (.s (.int gv)) (kM (λ b=>.s (.str b.n)) M) (kM (λ b=>.s (hD b.h)) M) (bxM (upR M i r)) (kM (λ _=>.n .d []) M) (kM (λ _=>lM []) M) (kM (λ _=>.s (.tup [])) M):=by
 unfold trM kM;rw [wc _ _ _ _ (λ _=>rfl),wc _ _ _ _ (λ _=>rfl),wc _ _ _ _ (λ _=>rfl),wc _ _ _ _ (λ _=>rfl),wc _ _ _ _ (λ _=>rfl)]
section
variable {t:Adr} {gv:Int} {M:My B8} {nm:Str} {h p:Int} {b:B8} {dp:Nat}
theorem Bu (nd:Nd M) (hf:fd M gv=none) (hb:fd M h=some b) (p0:0<=p) (p1:p<=(b.r.length:Int)) (hz:b.r.length < 1000) (hn:bR nm=true) (h90:M.length < 90) (ch:Ch M h dp) (h12:dp < 12):cD t [.mu true (trM t.ah gv M),.shr (.int h),.shr (.int p),.shr (.str nm)]=some (.shr (.int gv),[.mu true (trM t.ah (gv+1) (gf M h b p gv nm)),.no,.no,.no]):=by
 unfold cD kg;refine (fL (τ:=[.mu true (trM t.ah (gv+1) (gf M h b p gv nm)),.shr (.int h),.shr (.int p),.shr (.str nm),.shr (.int gv)]) ?_).trans rfl;have sn:∀ {x:Sm},bf [.mu true (trM t.ah gv M),.shr (.int h),.shr (.int p),.shr (.str nm),x]=.shr (trD t.ah gv M)::bf [.shr (.int h),.shr (.int p),.shr (.str nm),x]:=lB
 refine aS (hG (τ:=[.mu true (trM t.ah gv M),.shr (.int h),.shr (.int p),.shr (.str nm),.no]) (by rw [sn]; exact bZ e_v (af e_v ar) rfl (cP hb) rfl)) ?_
 refine aS (hG (by rw [sn]; exact cU (af e_v (af (aH (fV e_v fB) e_v (cu hb)) ar)) (dN p0 p1) rfl)) ?_
 refine aS (hG (by rw [sn]; exact cU (af e_v ar) (gB hn) rfl)) ?_
 refine aS (dU (t_S (by rw [sn]; exact aP (aH (aH (bM (af (fV e_v fN) ar) (BM M)) Ua (aG _ _)) Ua (Ek (by omega))))) rfl) ?_
 refine aS (dU (t_S (by rw [sn]; exact aP (aH (aH (cU (af e_v (af e_v ar)) (fD ch (by omega)) rfl) Ua (aG _ _)) Ua (Ek (by omega))))) rfl) ?_
 have e:=uv (t:=t) (nm:=nm) (h:=some h) (by omega) hf;refine aS (cf (s:=.shr (.int gv)) (v_M cI rfl rfl (bp (q_N e_v) (bp (q_N e_v) rfl)) rfl e rfl) (Zb rfl) rfl) ?_
 have hb1:fd (M++[⟨gv,some h,nm,[]⟩]) h=some b:=HL hb;have nd1:=BH (b:=⟨gv,some h,nm,[]⟩) nd hf
 have hg:bB [.mu true (trM t.ah (gv+1) (M++[⟨gv,some h,nm,[]⟩])),.shr (.int h),.shr (.int p),.shr (.str nm),.shr (.int gv)] 0 [.k (.inr "boxes"),.k (.inl h)]=some (lM (b.r.map .int)):=by
  rw [pW rfl];refine rA.trans ?_
  refine (qk _ _ _).trans ?_
  rw [hb1];rfl
 refine aS (D0 (wa (mI cI rfl) e_v rfl rfl) hg e_v (v_N e_v) rfl hg ⟨p0,by rw [Zc,Zc]; exact p1,by rw [Zc,Zc]; omega⟩) ?_
 rw [kr rfl,yq];refine (jE (v_N e_v)).trans ?_
 have ep:(trM t.ah (gv+1) (M++[⟨gv,some h,nm,[]⟩])).put [.k (.inr "boxes"),.k (.inl h)] (lM ((insI b.r p gv).map .int))=trM t.ah (gv+1) (gf M h b p gv nm):=by
  refine iX.trans ?_
  rw [pK nd1 hb1];unfold gf;rw [tj]
 show some (v8.ret _ (List.set _ 0 (.mu true ((trM t.ah (gv+1) (M++[⟨gv,some h,nm,[]⟩])).put [.k (.inr "boxes"),.k (.inl h)] (lM ((insI b.r p gv).map .int))))))=_;rw [ep];rfl
end
structure MOk (gv:Int) (M:List B8):Prop where
 nd:Nd M
 lt:∀ b ∈ M,0<=b.i/\b.i < gv
 root:∃ b,fd M 0=some b/\b.h=none
 hol:∀ b ∈ M,b.i≠0->∃ j p,b.h=some j/\fd M j=some p/\b.i ∈ p.r
 kid:∀ b ∈ M,∀ c ∈ b.r,∃ d,fd M c=some d/\d.h=some b.i
 rnd:∀ b ∈ M,b.r.Nodup
 ch:∀ b ∈ M,∃ n,Ch M b.i n/\n<=12
inductive Anc (M:List B8) (a:Int):Int->Prop where
 | refl:Anc M a a
 | up {x j:Int} {b:B8} (h:fd M x=some b) (e:b.h=some j) (c:Anc M a j):Anc M a x
inductive Sub (M:List B8):List Int->List Int->Prop where
 | nil:Sub M [] []
 | cons {c:Int} {cs l1 l2:List Int} {b:B8} (h:fd M c=some b) (h1:Sub M b.r l1) (h2:Sub M cs l2):Sub M (c::cs) (c::(l1++l2))
section
variable {gv:Int} {M:My B8}
theorem MOk.h0 (m:MOk gv M) {i j:Int} {b:B8} (hb:fd M i=some b) (hj:b.h=some j):i≠0:=λ e=>by
 obtain ⟨r,r1,r2⟩:=m.root;rw [e,r1] at hb;cases hb;rw [r2] at hj;cases hj
theorem MOk.AL (m:MOk gv M) {i c:Int} {b:B8} (hb:fd M i=some b) (hc:c ∈ b.r):∃ d,fd M c=some d/\d.h=some i:=by
 obtain ⟨d,h1,h2⟩:=m.kid b (a7 hb) c hc;rw [fO hb] at h2;exact ⟨d,h1,h2⟩
def MOk.dp (m:MOk gv M) {i:Int} {b:B8} (hb:fd M i=some b):∃ n,Ch M i n/\n<=12:=by
 have:=m.ch b (a7 hb);rw [fO hb] at this;exact this
theorem Ch.uniq {i:Int} {n:Nat} (h:Ch M i n):∀ {k:Nat},Ch M i k->n=k:=by
 induction h with
 | top h e=>
  intro k h'
  cases h' with
  | top _ _=>rfl
  | up h1 e1 _=>rw [h] at h1; cases h1; rw [e] at e1; cases e1
 | up h e c ih=>
  intro k h'
  cases h' with
  | top h1 e1=>rw [h] at h1; cases h1; rw [e] at e1; cases e1
  | up h1 e1 c1=>
   rw [h] at h1;cases h1;rw [e] at e1;cases e1;rw [ih c1]
theorem Anc.deep {a x:Int} (h:Anc M a x):∀ {n:Nat},Ch M x n->∃ k,Ch M a k/\k<=n/\(k=n->a=x):=by
 induction h with
 | refl=>intro n c; exact ⟨n,c,Zn _,λ _=>rfl⟩
 | up h e c ih=>
  intro n cx
  cases cx with
  | top h1 e1=>rw [h] at h1; cases h1; rw [e] at e1; cases e1
  | up h1 e1 c1=>
   rw [h] at h1;cases h1;rw [e] at e1;cases e1;obtain ⟨k,k1,k2,_⟩:=ih c1;exact ⟨k,k1,by omega,λ e=>by omega⟩
def Anc.trans {a b c:Int} (h1:Anc M a b) (h2:Anc M b c):Anc M a c:=by
 induction h2 with
 | refl=>exact h1
 | up h e _ ih=>exact .up h e ih
theorem Anc.lin {a b x:Int} (h1:Anc M a x) (h2:Anc M b x):Anc M a b\/Anc M b a:=by
 induction h1 with
 | refl=>exact .inr h2
 | @up x j c h e _ ih=>
  cases h2 with
  | refl=>exact .inl (.up h e ‹_›)
  | up h' e' c'=>
   rw [h] at h';cases h';rw [e] at e';cases e';exact ih c'
theorem Sub.app {a b la lb:My Int} (h1:Sub M a la) (h2:Sub M b lb):Sub M (a++b) (la++lb):=by
 induction h1 with
 | nil=>exact h2
 | cons h _ _ ih1 ih2=>
  have:=Sub.cons h ‹_› ih2;rw [List.cons_append,List.cons_append,List.append_assoc];exact this
theorem Sub.inv {c:Int} {cs l:My Int} (h:Sub M (c::cs) l):∃ b l',fd M c=some b/\l=c::l'/\Sub M (b.r++cs) l':=by
 cases h with
 | cons h h1 h2=>exact ⟨_,_,h,rfl,h1.app h2⟩
def Sub.len {s l:My Int} (h:Sub M s l):s.length<=l.length:=by
 induction h with
 | nil=>exact Zn _
 | cons _ _ _ _ ih=>rw [Zu,Zu,Z1]; omega
theorem Sub.roots {s l:My Int} (h:Sub M s l):∀ x ∈ s,x ∈ l:=by
 induction h with
 | nil=>intro x h; cases h
 | cons _ _ _ _ ih=>
  intro x hx;rcases Zh.mp hx with rfl | hx
  · exact Zd ..
  · exact Za _ (Ze _ (ih x hx))
theorem Sub.mem (m:MOk gv M) {s l:My Int} (h:Sub M s l):∀ x ∈ l,∃ c ∈ s,Anc M c x:=by
 induction h with
 | nil=>intro x h; cases h
 | @cons c cs l1 l2 b h h1 h2 ih1 ih2=>
  intro x hx;rcases Zh.mp hx with rfl | hx
  · exact ⟨_,Zd ..,.refl⟩
  ·rcases Zi.mp hx with hx | hx
   ·obtain ⟨d,hd,a⟩:=ih1 x hx
    obtain ⟨e,e1,e2⟩:=m.AL h hd;exact ⟨c,Zd ..,(Anc.up e1 e2 .refl).trans a⟩
   ·obtain ⟨d,hd,a⟩:=ih2 x hx
    exact ⟨d,Za _ hd,a⟩
theorem Sub.in {s l:My Int} (h:Sub M s l):∀ x ∈ l,∃ b,fd M x=some b:=by
 induction h with
 | nil=>intro x h; cases h
 | cons h _ _ ih1 ih2=>
  intro x hx;rcases Zh.mp hx with rfl | hx
  · exact ⟨_,h⟩
  · exact (Zi.mp hx).elim (ih1 x) (ih2 x)
theorem Sub.closed {s l:My Int} (h:Sub M s l):∀ j ∈ l,∀ p,fd M j=some p->∀ c ∈ p.r,c ∈ l:=by
 induction h with
 | nil=>intro j h; cases h
 | @cons c cs l1 l2 b h h1 h2 ih1 ih2=>
  intro j hj p hp x hx;rcases Zh.mp hj with rfl | hj
  ·rw [h] at hp
   cases hp;exact Za _ (Zk _ (h1.roots x hx))
  ·rcases Zi.mp hj with hj | hj
   · exact Za _ (Zk _ (ih1 j hj p hp x hx))
   · exact Za _ (Ze _ (ih2 j hj p hp x hx))
def Apart (M:My B8) (s:My Int):Prop:=s.Pairwise λ c d=>∀ x,¬(Anc M c x/\Anc M d x)
theorem vn (m:MOk gv M) {i:Int} {b:B8} (hb:fd M i=some b):Apart M b.r:=by
 have nd:=m.rnd b (a7 hb)
 have:∀ s:My Int,(∀ c ∈ s,c ∈ b.r)->s.Nodup->Apart M s:=λ s=>by
  induction s with
  | nil=>intro _ _; exact .nil
  | cons c s ih=>
   intro hs nd;rw [Zw] at nd;refine .cons (λ d hd x ⟨a1,a2⟩=>?_) (ih (λ y hy=>hs y (Za _ hy)) nd.2)
   have key:∀ {u v:Int},u ∈ b.r->v ∈ b.r->u≠v->Anc M u v->False:=λ {u v} hu hv ne a=>by
    obtain ⟨n,hn,_⟩:=m.dp hb;obtain ⟨e,e1,e2⟩:=m.AL hb hv;obtain ⟨f,f1,f2⟩:=m.AL hb hu;obtain ⟨k,k1,_,k3⟩:=a.deep (.up e1 e2 hn);exact ne (k3 (k1.uniq (.up f1 f2 hn)))
   have hc:=hs c (Zd ..);have hd':=hs d (Za _ hd);have ne:c≠d:=λ e=>nd.1 (e ▸ hd)
   rcases a1.lin a2 with a | a
   · exact key hc hd' ne a
   · exact key hd' hc (Ne.symm ne) a
 exact this b.r (λ _ h=>h) nd
theorem Sub.nodup (m:MOk gv M) {s l:My Int} (h:Sub M s l):Apart M s->l.Nodup:=by
 induction h with
 | nil=>exact λ _=>.nil
 | @cons c cs l1 l2 b h h1 h2 ih1 ih2=>
  intro ap;have ap':=List.pairwise_cons.mp ap;rw [Zw,Yc];refine ⟨λ hc=>?_,ih1 (vn m h),ih2 ap'.2,λ x hx y hy e=>?_⟩
  ·rcases Zi.mp hc with hc | hc
   ·obtain ⟨d,hd,a⟩:=h1.mem m c hc
    obtain ⟨e,e1,e2⟩:=m.AL h hd;obtain ⟨n,hn,_⟩:=m.dp h;obtain ⟨k,k1,k2,_⟩:=a.deep hn;have:=k1.uniq (.up e1 e2 hn);omega
   ·obtain ⟨d,hd,a⟩:=h2.mem m c hc
    exact ap'.1 d hd c ⟨.refl,a⟩
  ·subst e
   obtain ⟨d,hd,a⟩:=h1.mem m x hx;obtain ⟨e,e1,e2⟩:=m.AL h hd;obtain ⟨d',hd',a'⟩:=h2.mem m x hy;exact ap'.1 d' hd' x ⟨(Anc.up e1 e2 .refl).trans a,a'⟩
theorem Sub.ex (m:MOk gv M):∀ (k:Nat) (cs:My Int),(∀ c ∈ cs,∃ b n,fd M c=some b/\Ch M c n/\13<=k+n)->∃ l,Sub M cs l:=by
 intro k
 induction k with
 | zero=>
  intro cs h
  cases cs with
  | nil=>exact ⟨[],.nil⟩
  | cons c cs=>
   obtain ⟨b,n,hb,hn,hl⟩:=h c (Zd ..);obtain ⟨n',h1,h2⟩:=m.dp hb;have:=hn.uniq h1;omega
 | succ k ih=>
  intro cs
  induction cs with
  | nil=>exact λ _=>⟨[],.nil⟩
  | cons c cs ihc=>
   intro h;obtain ⟨b,n,hb,hn,hl⟩:=h c (Zd ..);obtain ⟨l2,h2⟩:=ihc λ d hd=>h d (Za _ hd)
   obtain ⟨l1,h1⟩:=ih b.r λ d hd=>by
    obtain ⟨e,e1,e2⟩:=m.AL hb hd;exact ⟨e,n+1,e1,.up e1 e2 hn,by omega⟩
   exact ⟨_,.cons hb h1 h2⟩
theorem Sub.of (m:MOk gv M) {i:Int} {b:B8} (hb:fd M i=some b):∃ l,Sub M [i] (i::l)/\Sub M b.r l:=by
 obtain ⟨n,hn,_⟩:=m.dp hb
 obtain ⟨l,h⟩:=Sub.ex m 13 [i] λ c hc=>by
  rw [Zr.mp hc];exact ⟨b,n,hb,hn,by omega⟩
 obtain ⟨b',l',e1,rfl,h'⟩:=h.inv;rw [hb] at e1;cases e1;rw [Zv] at h';exact ⟨l',h,h'⟩
theorem Sub.iff (m:MOk gv M) {i:Int} {l:My Int} (h:Sub M [i] l) {x:Int} {b:B8} (hx:fd M x=some b):x ∈ l↔Anc M i x:=by
 constructor
 ·intro hl
  obtain ⟨c,hc,a⟩:=h.mem m x hl;rw [Zr.mp hc] at a;exact a
 ·intro a
  have:∀ {x:Int},Anc M i x->∀ b,fd M x=some b->x ∈ l:=λ {x} a=>by
   induction a with
   | refl=>exact λ _ _=>h.roots i (Zr.mpr rfl)
   | @up x j b h' e c ih=>
    intro b' hb'
    have ne:b.i≠0:=λ e0=>by
     obtain ⟨r,r1,r2⟩:=m.root;have e1:=fO h';rw [e0] at e1;rw [<- e1,r1] at h';cases h';rw [r2] at e;cases e
    obtain ⟨j',p,q1,q2,q4⟩:=m.hol b (a7 h') ne;rw [e] at q1;cases q1;have:=h.closed j (ih p q2) p q2 b.i q4;rw [fO h'] at this;exact this
  exact this a b hx
theorem qb:∀ (l k:My Int),l.Nodup->(∀ x ∈ l,x ∈ k)->l.length<=k.length
 | [],_,_,_=>Z8 _
 | x::l,k,nd,h=>by
  rw [Zw] at nd;have hx:=h x (Zd ..)
  have:=qb l (k.erase x) nd.2 λ y hy=>by
   have ne:y≠x:=λ e=>nd.1 (e ▸ hy)
   exact (List.mem_erase_of_ne ne).mpr (h y (Za _ hy))
  rw [List.length_erase_of_mem hx] at this;have:0 < k.length:=List.length_pos_of_mem hx;rw [Zu];omega
theorem sub_len {l:My Int} (nd:l.Nodup) (h:∀ x ∈ l,∃ b,fd M x=some b):l.length<=M.length:=by
 have:=qb l (M.map B8.i) nd λ x hx=>by
  obtain ⟨b,hb⟩:=h x hx;rw [<- fO hb];exact Z9 (a7 hb)
 rw [Zc] at this;exact this
end
theorem J2 {τ:My Sl} {i:Nat} {f:DE} {ds es:My D} (h:f τ=some (.lst es)) (q:τ[i]?=some (.own (.lst ds))) (hl:ds.length+es.length<=100000):Ff i f τ=some (.next (τ.set i (.own (.lst (ds++es))))):=by
 unfold Ff;rw [h];rw [q];exact if_pos hl
def HV {τ:My Sl} {f:DE} {ds:My D} (h:f τ=some (.lst ds)):H9 f τ=some (.lst ds.reverse):=by unfold H9; rw [h]; rfl
theorem EB {τ:My Sl} {f g:DE} {a b:My D} (h1:f τ=some (.lst a)) (h2:g τ=some (.lst b)) (h3:a.length+b.length<=100000):EL f g τ=some (.lst (a++b)):=by
 unfold EL;rw [h1,h2];exact if_pos h3
theorem Gi {τ:My Sl} {i j:Nat} {ds:My D} {d:D} (q:τ[j]?=some (.own (.lst (ds++[d])))):va i j τ=some (.next ((τ.set j (.own (.lst ds))).set i (.shr d))):=by
 unfold va;rw [q];show ((ds++[d])[(ds++[d]).length - 1]?).map _=_;rw [Z1,List.length_singleton,Nat.add_sub_cancel,List.getElem?_append_right (Zn _),Nat.sub_self,List.dropLast_concat];rfl
section
variable {t:Adr} {gv:Int} {M:My B8} {c:DT} {gk:DE} {x0 x1:Sl}
theorem pk (hT:∀ (a y:Sl) (ds:My D),ds≠[]->c [x0,x1,a,.own (.lst ds),y]=some true)
  (hF:∀ a y:Sl,c [x0,x1,a,.own (.lst []),y]=some false)
  (hk:∀ (a s:Sl) (k:Int) (b:B8),fd M k=some b->gk [x0,x1,a,s,.shr (.int k)]=some (.lst (b.r.map .int))):∀ (l S acc:My Int) (y:Sl),Sub M S l->acc.length+l.length<=1000->∃ y',cE c (lD (va 4 3) (lD (Cw 2 (aI 4)) (Ff 3 (H9 gk)))) (l.length+1) [x0,x1,.own (.lst (acc.map .int)),.own (.lst (S.reverse.map .int)),y]=some (.next [x0,x1,.own (.lst ((acc++l).map .int)),.own (.lst []),y']):=by
 intro l
 induction l with
 | nil=>
  intro S acc y h hz;cases h;refine ⟨y,?_⟩;unfold cE;rw [show ([]:My Int).reverse.map D.int=[] from rfl,hF,Zv]
 | cons x l ih=>
  intro S acc y h hz
  cases S with
  | nil=>cases h
  | cons k S=>
   obtain ⟨b,l',hb,e,h'⟩:=h.inv;cases e;have hz':acc.length+(l.length+1)<=1000:=hz;have hl:=h'.len;rw [Z1] at hl;obtain ⟨y',w⟩:=ih (b.r++S) (acc++[x]) (.shr (.int x)) h' (by rw [Z1]; show acc.length+1+_<=_; omega);refine ⟨y',?_⟩;have e1:(x::S).reverse.map D.int=S.reverse.map D.int++[.int x]:=by rw [Xj,Zp]; rfl
   have t1:=hT (.own (.lst (acc.map .int))) y ((x::S).reverse.map .int) (by rw [e1]; simp)
   have t2:lD (va 4 3) (lD (Cw 2 (aI 4)) (Ff 3 (H9 gk))) [x0,x1,.own (.lst (acc.map .int)),.own (.lst ((x::S).reverse.map .int)),y]=some (.next [x0,x1,.own (.lst ((acc++[x]).map .int)),.own (.lst ((b.r++S).reverse.map .int)),.shr (.int x)]):=by
    rw [e1];refine dF ((Gi rfl).trans rfl) ?_
    refine dF ((Gj e_v rfl (by rw [Zc]; omega)).trans rfl) ?_
    refine (J2 (HV (hk _ _ x b hb)) rfl (by rw [Zc,List.length_reverse,List.length_reverse,Zc]; omega)).trans ?_
    rw [List.reverse_append,Zp,Zp,<- List.map_reverse];rfl
   show cE c _ (l.length+1+1) _=_
   conv=>lhs; unfold cE
   rw [t1];simp only [t2];rw [w,List.append_assoc];rfl
theorem zH {i:Int} {b:B8} {l:My Int} (hb:fd M i=some b) (h:Sub M b.r l) (hl:l.length<=1000):mG t [trD t.ah gv M,.int i]=some (.own (.lst (l.map .int))):=by
 have hT:∀ (a y:Sl) (ds:My D),ds≠[]->EG 3 [.shr (trD t.ah gv M),.shr (.int i),a,.own (.lst ds),y]=some true:=λ a y ds ne=>by
  cases ds with
  | nil=>exact absurd rfl ne
  | cons d ds=>rfl
 obtain ⟨y',w⟩:=pk hT (λ _ _=>rfl) (gk:=ig t.ah "boxes_of" (b9 t) (aI 0) (aF (aI 4) cN)) (λ a s k b hb=>bZ e_v (af e_v ar) rfl (gE hb) rfl) l b.r [] .no h (by rw [Xh,Nat.zero_add]; exact hl);unfold mG mC;dsimp only;refine fk (dF ((pD (gA ar (Z8 _)) (Zb rfl)).trans rfl) (dF ((pD (HV (bZ e_v (af e_v ar) rfl (gE hb) rfl)) (Zb rfl)).trans rfl) (dF (Eq.trans ?_ (jA w)) (wD rfl))));rw [<- List.map_reverse];rfl
theorem wg {i:Int} {l:My Int} {R:D} (hR:∀ k b,fd M k=some b->d3 R (.int k)=some (.lst (b.r.map .int))) (h:Sub M [i] l) (hl:l.length<=1000):cY t [R,.int i]=some (.own (.lst (l.map .int))):=by
 have hT:∀ (a y:Sl) (ds:My D),ds≠[]->F7 3 (dT (dOp oGt (kX tX (aF (aI 3) cN)) (dC (.int 0)))) [.shr R,.shr (.int i),a,.own (.lst ds),y]=some true:=λ a y ds ne=>by
  cases ds with
  | nil=>exact absurd rfl ne
  | cons d ds=>
   refine JR rfl (aP (aH (bM (af e_v ar) rfl) Ua ?_));show some (D.bl (decide _))=_;rw [Zo (by rw [Zu]; omega)]
 obtain ⟨y',w⟩:=pk hT (λ _ _=>rfl) (gk:=dOp d3 (aI 0) (aI 4)) (λ a s k b hb=>aH e_v e_v (hR k b hb)) l [i] [] .no h (by rw [Xh,Nat.zero_add]; exact hl);unfold cY iB;dsimp only;exact fk (dF ((pD (gA ar (Z8 _)) (Zb rfl)).trans rfl) (dF ((pD (gA (af e_v ar) (Zb rfl)) (Zb rfl)).trans rfl) (dF (jA w) (wD rfl))))
theorem nT {i:Int} {l:My Int} (h:Sub M [i] l) (hl:l.length<=1000):cY t [.dct (kv (λ b=>.lst (b.r.map .int)) M),.int i]=some (.own (.lst (l.map .int))):=wg (λ _ _ hb=>cu hb) h hl
end
theorem JK (M:My B8) (j:Int) (r:My Int):(upR M j r).map B8.i=M.map B8.i:=by
 unfold upR;rw [Zy];refine Z0 λ b _=>?_
 show (if b.i=j then { b with r:=r } else b).i=b.i;split <;> rfl
def nr {M:My B8} (nd:Nd M) (j:Int) (r:My Int):Nd (upR M j r):=by
 unfold Nd;rw [JK];exact nd
theorem eQ (M:My B8) (j:Int) (r:My Int) (x:Int):fd (upR M j r) x=(fd M x).map λ b=>if b.i=j then { b with r:=r } else b:=by
 unfold fd upR;rw [List.find?_map];congr 2
 funext b
 show decide ((if b.i=j then { b with r:=r } else b).i=x)=_;split <;> rfl
def gz (M:My B8) (j:Int) (r:My Int):(upR M j r).length=M.length:=Zc _
theorem wN {β:Type} (f:Int->β) (x:Int):∀ r:My Int,(r.map f).eraseIdx (r.idxOf x)=(r.erase x).map f
 | []=>rfl
 | y::r=>by
  rw [Zg,List.idxOf_cons,List.erase_cons]
  by_cases h:(y == x)=true
  ·rw [if_pos h,h]
   rfl
  ·rw [if_neg h,(Bool.not_eq_true _).mp h]
   show (f y::r.map f).eraseIdx (r.idxOf x+1)=_;rw [List.eraseIdx_cons_succ,wN f x r,Zg]
theorem wO (r:My Int) (x:Int):Mt.n .l (((r.map D.int).map λ d=>((.inl 0:Key),Mt.s d)).eraseIdx (r.idxOf x))=lM ((r.erase x).map .int):=by
 unfold lM;rw [Zy,wN,Zy]
theorem oI (r:My Int):eL (qS ((r.map D.int).map λ d=>((.inl 0:Key),Mt.s d)))=some r:=by
 have:qS ((r.map D.int).map λ d=>((.inl 0:Key),Mt.s d))=r.map .int:=by
  induction r with
  | nil=>rw [Xo,Xo,qS]
  | cons y r ih=>rw [Zg,Zg,qS,frz,ih]
 rw [this];exact ud r
def gp (r:My Int):(r.map D.int).all sca=true:=by
 rw [List.all_map];exact Yq.mpr λ _ _=>rfl
section
variable {gv:Int} {M:My B8}
def oz (r:My Int) (p x:Int):(insI r p x).Perm (x::r):=by
 refine List.perm_middle.trans ?_
 rw [List.take_append_drop]
def l4 {r:My Int} {p x y:Int}:y ∈ insI r p x↔y=x\/y ∈ r:=by
 rw [(oz r p x).mem_iff,Zh]
def MOk.new (m:MOk gv M):fd M gv=none:=fd_none.mpr λ b hb e=>by
 have:=(m.lt b hb).2;omega
theorem si {M:My B8} {n:B8} (h:fd M n.i=none) (x:Int):fd (M++[n]) x=if x=n.i then some n else fd M x:=by
 unfold fd at *;rw [List.find?_append];split
 ·rename_i e
  rw [e,h,List.find?_cons,Zo rfl];rfl
 ·rename_i e
  rw [List.find?_cons,Zl (Ne.symm e)];cases List.find? (λ b=>decide (b.i=x)) M <;> rfl
theorem Ch.mono {M':My B8} (hm:∀ x d,fd M x=some d->∃ d',fd M' x=some d'/\d'.h=d.h) {x:Int} {n:Nat} (c:Ch M x n):Ch M' x n:=by
 induction c with
 | top h e=>
  obtain ⟨d',h1,h2⟩:=hm _ _ h;exact .top h1 (h2.trans e)
 | up h e c ih=>
  obtain ⟨d',h1,h2⟩:=hm _ _ h;exact .up h1 (h2.trans e) ih
theorem je (m:MOk gv M) {h p:Int} {b:B8} {nm:Str} {dp:Nat} (hb:fd M h=some b) (hc:Ch M h dp) (h12:dp < 12):MOk (gv+1) (gf M h b p gv nm):=by
 have hn:=m.new;have hl:0<=h/\h < gv:=by have:=m.lt b (a7 hb); rw [fO hb] at this; exact this
 have nd':Nd (gf M h b p gv nm):=nr (BH m.nd hn) _ _
 have fx:∀ x,fd (gf M h b p gv nm) x=(if x=gv then some ⟨gv,some h,nm,[]⟩ else fd M x).map λ c=>if c.i=h then { c with r:=insI b.r p gv } else c:=λ x=>by
  unfold gf;rw [eQ,si hn]
 have bn:=m.rnd b (a7 hb)
 have gb:gv ∉ b.r:=λ e=>by
  obtain ⟨d,d1,_⟩:=m.kid b (a7 hb) gv e;rw [hn] at d1;cases d1
 have un:∀ c ∈ gf M h b p gv nm,(c.i=gv/\c.h=some h/\c.r=[])\/∃ d,fd M c.i=some d/\d.i=c.i/\d.h=c.h/\((c.i=h/\d=b/\c.r=insI b.r p gv)\/(c.i≠h/\c.r=d.r)):=λ c hc=>by
  have e:=sj nd' hc;rw [fx] at e;split at e
  ·rename_i ei
   have e':(if gv=h then ({ i:=gv,h:=some h,n:=nm,r:=insI b.r p gv }:B8) else ⟨gv,some h,nm,[]⟩)=c:=Zj e;rw [if_neg (by omega)] at e';subst e';exact .inl ⟨rfl,rfl,rfl⟩
  ·cases hd:fd M c.i with
   | none=>rw [hd] at e; cases e
   | some d=>
    rw [hd] at e;have e':(if d.i=h then { d with r:=insI b.r p gv } else d)=c:=Zj e;have di:=fO hd;refine .inr ⟨d,rfl,di,?_⟩;split at e'
    ·rename_i hij
     have ep:d=b:=by
      rw [<- di,hij,hb] at hd;exact (Zj hd).symm
     subst e';subst ep;exact ⟨rfl,.inl ⟨hij,rfl,rfl⟩⟩
    ·rename_i hij
     subst e';exact ⟨rfl,.inr ⟨hij,rfl⟩⟩
 have old:∀ {x:Int} {d:B8},fd M x=some d->fd (gf M h b p gv nm) x=some (if d.i=h then { d with r:=insI b.r p gv } else d):=λ {x d} hd=>by
  have ne:x≠gv:=λ e=>by rw [e,hn] at hd; cases hd
  rw [fx,if_neg ne,hd];rfl
 have oh:∀ d:B8,(if d.i=h then { d with r:=insI b.r p gv } else d).h=d.h:=λ d=>by split <;> rfl
 refine ⟨nd',λ c hc=>?_,?_,λ c hc c0=>?_,λ c hc x hx=>?_,λ c hc=>?_,λ c hx=>?_⟩
 ·rcases un c hc with ⟨e,_⟩ | ⟨d,hd,di,_⟩
  · omega
  ·have:=m.lt d (a7 hd)
   omega
 ·obtain ⟨r,r1,r2⟩:=m.root
  exact ⟨_,old r1,by rw [oh]; exact r2⟩
 ·rcases un c hc with ⟨e,e2,_⟩ | ⟨d,hd,di,dh,_⟩
  ·refine ⟨h,_,e2,old hb,?_⟩
   rw [if_pos (fO hb),e];exact l4.mpr (.inl rfl)
  ·obtain ⟨j',q,q1,q2,q4⟩:=m.hol d (a7 hd) (by rw [di]; exact c0)
   refine ⟨j',_,by rw [<- dh]; exact q1,old q2,?_⟩;split
   ·rename_i hq
    have ep:q=b:=by
     rw [<- fO q2,hq,hb] at q2;exact (Zj q2).symm
    subst ep;rw [<- di];exact l4.mpr (.inr q4)
   ·rw [<- di]
    exact q4
 ·rcases un c hc with ⟨_,_,e⟩ | ⟨d,hd,di,dh,⟨e1,e2,e3⟩ | ⟨e1,e3⟩⟩
  ·rw [e] at hx
   cases hx
  ·rw [e3] at hx
   rcases l4.mp hx with rfl | hx
   ·refine ⟨⟨x,some h,nm,[]⟩,?_,by rw [e1]⟩
    rw [fx,if_pos rfl];show some (if x=h then ({ i:=x,h:=some h,n:=nm,r:=insI b.r p x }:B8) else ⟨x,some h,nm,[]⟩)=_;rw [if_neg (by omega)]
   ·obtain ⟨e,k1,k2⟩:=m.kid b (a7 hb) x hx
    exact ⟨_,old k1,by rw [oh,k2,fO hb,e1]⟩
  ·rw [e3] at hx
   obtain ⟨e,k1,k2⟩:=m.kid d (a7 hd) x hx;exact ⟨_,old k1,by rw [oh,k2,di]⟩
 ·rcases un c hc with ⟨_,_,e⟩ | ⟨d,hd,di,dh,⟨e1,e2,e3⟩ | ⟨e1,e3⟩⟩
  · rw [e]; exact .nil
  ·rw [e3,(oz _ _ _).nodup_iff,Zw]
   exact ⟨gb,bn⟩
  ·rw [e3]
   exact m.rnd d (a7 hd)
 ·have cm:∀ {x:Int} {n:Nat},Ch M x n->Ch (gf M h b p gv nm) x n:=Ch.mono λ x d hd=>⟨_,old hd,oh d⟩
  have hf:=sj nd' hx;rcases un c hx with ⟨e,e2,_⟩ | ⟨d,hd,di,dh,_⟩
  · exact ⟨dp+1,.up hf e2 (cm hc),h12⟩
  ·obtain ⟨n,n1,n2⟩:=m.dp hd
   exact ⟨n,cm n1,n2⟩
end
theorem qd {ys:My Int} {j:Int} (h0:0<=j) (h1:j < ys.length):∃ n ∈ ys,oIx (.lst (ys.map .int)) (.int j)=some (.int n):=by
 obtain ⟨h,e⟩:=qO (xs:=ys.map D.int) h0 (by rw [Zc]; exact h1);rw [List.getElem_map] at e;exact ⟨_,Xp _,e⟩
theorem Eb {ys:My Int} (hn:ys≠[]):∃ n ∈ ys,oIx (.lst (ys.map .int)) (.int (-1))=some (.int n):=by
 refine ⟨ys.getLast hn,List.getLast_mem hn,?_⟩
 conv=>lhs; rw [<- List.dropLast_concat_getLast hn,Zp]
 exact Bb _ _
section
def Ij (M G:My B8):Prop:=∀ x d,fd M x=some d->∃ d',fd G x=some d'/\d'.h=d.h/\d'.n=d.n
def Ij.ch {M G:My B8} (fo:Ij M G) {x:Int} {n:Nat} (c:Ch M x n):Ch G x n:=Ch.mono (λ x d h=>let ⟨d',a,b,_⟩:=fo x d h; ⟨d',a,b⟩) c
variable {t:Adr} {gv:Int} {M G:My B8}
theorem HH (m:MOk gv M) (fo:Ij M G):∀ (L:My B8),(∀ b ∈ L,b ∈ M)->∃ es:My Int,sg (λ d=>dT (dOp oLt (dFn dJ (aF (aI 1) (aF (aI 0) cN))) (dC (.int 12))) [.shr d,.shr (faD G)]) (λ d=>aI 0 [.shr d,.shr (faD G)]) (L.map λ b=>.int b.i)=some (es.map .int)/\(∀ x ∈ es,∃ n,Ch M x n/\n < 12)/\(∀ b ∈ L,b.h=none->b.i ∈ es)/\es.length<=L.length:=by
 intro L
 induction L with
 | nil=>exact λ _=>⟨[],rfl,(λ x h=>nomatch h),(λ b h=>nomatch h),Zn _⟩
 | cons b L ih=>
  intro h;have hm:=h b (Zd ..);obtain ⟨es,e1,e2,e3,e4⟩:=ih λ c hc=>h c (Za _ hc)
  have hb:=sj m.nd hm;obtain ⟨n,hn,_⟩:=m.dp hb;have ec:dT (dOp oLt (dFn dJ (aF (aI 1) (aF (aI 0) cN))) (dC (.int 12))) [.shr (.int b.i),.shr (faD G)]=some (decide ((n:Int) < 12)):=aP (aH (cU (af e_v (af e_v ar)) (ED (fo.ch hn)) rfl) Ua (rT _ _))
  by_cases hl:n < 12
  ·refine ⟨b.i::es,?_,λ x hx=>?_,λ c hc h0=>?_,Nat.succ_le_succ e4⟩
   ·rw [Zg,sg,ec,Zo (by omega),e1]
    rfl
   ·rcases Zh.mp hx with rfl | hx
    · exact ⟨n,hn,hl⟩
    · exact e2 x hx
   ·rcases Zh.mp hc with rfl | hc
    · exact Zd ..
    · exact Za _ (e3 c hc h0)
  ·refine ⟨es,?_,e2,λ c hc h0=>?_,Nat.le_succ_of_le e4⟩
   ·rw [Zg,sg,ec,Zl (by omega),e1]
    rfl
   ·rcases Zh.mp hc with rfl | hc
    ·exfalso
     cases hn with
     | top _ _=>omega
     | up h1 h2 _=>rw [hb] at h1; cases h1; rw [h0] at h2; cases h2
    · exact e3 c hc h0
theorem Ii {x:Int} {r:My Int} {b:B8} (hx:b.i≠x) (h0:b.r=[]) (hn:fd M b.i=none):Mt.n .d (kZ (kv (λ b=>lM (b.r.map .int)) (upR M x r)) (.inl b.i) (lM []))=bxM (upR (M++[b]) x r):=by
 have e:upR (M++[b]) x r=upR M x r++[b]:=by
  unfold upR;rw [Zp];show _++[if b.i=x then _ else _]=_;rw [if_neg hx]
 have:=lI (g:=λ b=>lM (b.r.map .int)) (M:=upR M x r) (by rw [eQ,hn]; rfl);rw [h0] at this;rw [e];unfold bxM kM;rw [<- this];rfl
theorem HM {b:B8} (hn:fd G b.i=none):Mt.n .d (kZ (kv (λ b=>.s (.tup [hD b.h,.str b.n])) G) (.inl b.i) (.s (.tup [hD b.h,.str b.n])))=faM (G++[b]):=by
 unfold faM kM;rw [<- lI hn]
theorem ya (m:MOk gv M) (fo:Ij M G) (gn:fd G gv=none) (gl:G.length < 1000) (h90:M.length < 90) {c w:Int} (w0:0<=w) (w1:w<=900):∃ x b p nm dp,fd M x=some b/\Ch M x dp/\dp < 12/\bR nm=true/\kj t [.mu true (trM t.ah gv M),.mu true (bxM M),.mu true (faM G),.shr (.int gv),.shr (.int c),.shr (.int w)]=some (.shr (.bl true),[.mu true (trM t.ah (gv+1) (gf M x b p gv nm)),.mu true (bxM (gf M x b p gv nm)),.mu true (faM (G++[⟨gv,some x,nm,[]⟩])),.no,.no,.no]):=by
 obtain ⟨es,f1,f2,f3,f4⟩:=HH m fo M λ _ h=>h
 obtain ⟨r0,r1,r2⟩:=m.root
 have ne:es≠[]:=λ e=>by
  have:=f3 r0 (a7 r1) r2;rw [e] at this;cases this
 obtain ⟨q1,e1,q10,q11⟩:=j0 c w0 (by omega);obtain ⟨q2,e2,q20,q21⟩:=j0 c (by omega) (show w+1<=10000 by omega);obtain ⟨nm,e3,hn⟩:=pV c (by omega) (show w+2<=1000 by omega);obtain ⟨xl,ml,el⟩:=Eb ne;have lp:=List.length_pos_iff.mpr ne;obtain ⟨xm,mm,em⟩:=qd (ys:=es) (Xy _ (by omega)) (Xg _ (by omega))
 obtain ⟨x,hx,ex⟩:∃ x ∈ es,x=if q1 % 2=0 then xm else xl:=by
  split
  · exact ⟨xm,mm,rfl⟩
  · exact ⟨xl,ml,rfl⟩
 obtain ⟨dp,ch,h12⟩:=f2 x hx;obtain ⟨b,hb⟩:=ch.get
 have hr:=sub_len (m.rnd b (a7 hb)) λ y hy=>by
  obtain ⟨d,d1,_⟩:=m.kid b (a7 hb) y hy;exact ⟨d,d1⟩
 have p0:0<=q2 % ((b.r.length:Int)+1):=Xy _ (by omega);have p1:q2 % ((b.r.length:Int)+1)<=b.r.length:=by have:=Xg q2 (show 0 < (b.r.length:Int)+1 by omega); omega
 refine ⟨x,b,q2 % ((b.r.length:Int)+1),nm,dp,hb,ch,h12,hn,?_⟩;generalize hpp:q2 % ((b.r.length:Int)+1)=p at *;unfold kj j9;refine (fL (τ:=[.mu true (trM t.ah (gv+1) (gf M x b p gv nm)),.mu true (bxM (gf M x b p gv nm)),.mu true (faM (G++[⟨gv,some x,nm,[]⟩])),.shr (.int gv),.shr (.int c),.shr (.int w),.shr (.lst (es.map .int)),.shr (.int q1),.shr (.int x),.shr (.int p),.shr (.str nm),.shr (.int gv)]) ?_).trans rfl;refine aS (τ':=[.mu true (trM t.ah gv M),.mu true (bxM M),.mu true (faM G),.shr (.int gv),.shr (.int c),.shr (.int w),.shr (.lst (es.map .int)),.no,.no,.no,.no,.no]) ?_ ?_
 ·have ek:(kv (λ b=>lM (b.r.map .int)) M).map (λ p=>kD p.1)=M.map λ b=>.int b.i:=by
   unfold kv;rw [Zy];rfl
  show (if (kv (λ b=>lM (b.r.map .int)) M).length<=100000/\6 < 12 then (sg (λ d=>dT (dOp oLt (dFn dJ (aF (aI 1) (aF (aI 0) cN))) (dC (.int 12))) [.shr d,.shr (frz (faM G))]) (λ d=>aI 0 [.shr d,.shr (frz (faM G))]) ((kv (λ b=>lM (b.r.map .int)) M).map λ p=>kD p.1)).bind (λ es=>if es.all sca=true then some (v8.next [.mu true (trM t.ah gv M),.mu true (bxM M),.mu true (faM G),.shr (.int gv),.shr (.int c),.shr (.int w),.shr (.lst es),.no,.no,.no,.no,.no]) else none) else none)=_;rw [if_pos ⟨by rw [lX]; omega,by omega⟩,yB,ek,f1];exact if_pos (gp _)
 refine aS (cf (v_N (cU (af e_v (af e_v ar)) e1 rfl)) (Zb rfl) rfl) ?_
 refine aS (cf (v_N (aH e_v (Fm Ua rfl) el)) (Zb rfl) rfl) ?_
 refine aS (τ':=[.mu true (trM t.ah gv M),.mu true (bxM M),.mu true (faM G),.shr (.int gv),.shr (.int c),.shr (.int w),.shr (.lst (es.map .int)),.shr (.int q1),.shr (.int x),.no,.no,.no]) ?_ ?_
 ·have et:tS (dT (dOp oEq (dOp oMod (aI 7) (dC (.int 2))) (dC (.int 0)))) [.mu true (trM t.ah gv M),.mu true (bxM M),.mu true (faM G),.shr (.int gv),.shr (.int c),.shr (.int w),.shr (.lst (es.map .int)),.shr (.int q1),.shr (.int xl),.no,.no,.no]=some (decide (q1 % 2=0),[.mu true (trM t.ah gv M),.mu true (bxM M),.mu true (faM G),.shr (.int gv),.shr (.int c),.shr (.int w),.shr (.lst (es.map .int)),.shr (.int q1),.shr (.int xl),.no,.no,.no]):=
   t_S (aP (aH (aH e_v Ua (aQ (by decide))) Ua (bN _ _)))
  by_cases h2:q1 % 2=0
  ·rw [if_pos h2] at ex
   rw [Zo h2] at et;rw [ex];exact mP et ((cf (v_N (aH e_v (aH (aH e_v Ua (dM (by decide) (by decide +kernel))) (bM (af e_v ar) (mR es)) (aQ (by omega))) em)) (Zb rfl) rfl).trans rfl)
  ·rw [if_neg h2] at ex
   rw [Zl h2] at et;rw [ex];exact dU et rfl
 have sn:∀ {r:My Sm},bf (.mu true (trM t.ah gv M)::.mu true (bxM M)::r)=.shr (trD t.ah gv M)::.shr (.dct (kv (λ b=>.lst (b.r.map .int)) M))::bf r:=λ {r}=>by
  rw [lB];show _::Sl.shr (frz (bxM M))::_=_;rw [BS]
 refine aS (cf (v_S (by rw [sn]; exact aH (cU (af e_v (af (aH e_v Ua (aG _ _)) ar)) e2 rfl) (aH (bM (af (aH e_v e_v (cu hb)) ar) (mR _)) Ua (aG _ _)) ((aQ (by omega)).trans (by rw [hpp]))) rfl) (Zb rfl) rfl) ?_
 refine aS (cf (v_N (cU (af e_v (af (aH e_v Ua (aG _ _)) ar)) e3 rfl)) (Zb rfl) rfl) ?_
 have ep:=Bu (t:=t) m.nd m.new hb p0 p1 (by omega) hn h90 ch h12;refine aS (cf (v_M cI rfl rfl (bp (q_N e_v) (bp (q_N e_v) (bp (q_N e_v) rfl))) rfl ep rfl) (Zb rfl) rfl) ?_
 have hg:bB [.mu true (trM t.ah (gv+1) (gf M x b p gv nm)),.mu true (bxM M),.mu true (faM G),.shr (.int gv),.shr (.int c),.shr (.int w),.shr (.lst (es.map .int)),.shr (.int q1),.shr (.int x),.shr (.int p),.shr (.str nm),.shr (.int gv)] 1 [.k (.inl x)]=some (lM (b.r.map .int)):=by
  rw [pW rfl];refine (qk _ _ _).trans ?_
  rw [hb];rfl
 refine aS (D0 (wa cI e_v rfl rfl) hg e_v (v_N e_v) rfl hg ⟨p0,by rw [Zc,Zc]; exact p1,by rw [Zc,Zc]; omega⟩) ?_
 rw [kr rfl,yq];have e4:(bxM M).put ([]++[.k (.inl x)]) (lM ((insI b.r p gv).map .int))=bxM (upR M x (insI b.r p gv)):=pK m.nd hb;rw [e4]
 have xg:gv≠x:=λ e=>by
  have:=(m.lt b (a7 hb)).2;rw [fO hb] at this;omega
 refine aS (τ':=[.mu true (trM t.ah (gv+1) (gf M x b p gv nm)),.mu true (bxM (gf M x b p gv nm)),.mu true (faM G),.shr (.int gv),.shr (.int c),.shr (.int w),.shr (.lst (es.map .int)),.shr (.int q1),.shr (.int x),.shr (.int p),.shr (.str nm),.shr (.int gv)]) ((jF (v_O (gA ar (Z8 _)) rfl) cI e_v rfl rfl rfl (by rw [lX,gz]; omega)).trans ?_) ?_
 ·have:=Ii (r:=insI b.r p gv) (b:=⟨gv,some x,nm,[]⟩) xg rfl m.new
  unfold gf;rw [<- this];rfl
 refine aS (τ':=[.mu true (trM t.ah (gv+1) (gf M x b p gv nm)),.mu true (bxM (gf M x b p gv nm)),.mu true (faM (G++[⟨gv,some x,nm,[]⟩])),.shr (.int gv),.shr (.int c),.shr (.int w),.shr (.lst (es.map .int)),.shr (.int q1),.shr (.int x),.shr (.int p),.shr (.str nm),.shr (.int gv)]) ((jF (v_N (qy (af e_v (af e_v ar)) (Zb rfl))) cI e_v rfl rfl rfl (by rw [lX]; omega)).trans ?_) ?_
 ·have:=HM (b:=⟨gv,some x,nm,[]⟩) gn
  rw [<- this];rfl
 exact jE (v_N (gM (cU (af e_v ar) (nP _) rfl) (aH e_v e_v ((bN _ _).trans (by rw [Zo rfl])))))
end
def upH (M:My B8) (i:Int) (h:Int):My B8:=M.map λ b=>if b.i=i then { b with h:=some h } else b
theorem JL (M:My B8) (j h:Int):(upH M j h).map B8.i=M.map B8.i:=by
 unfold upH;rw [Zy];refine Z0 λ b _=>?_
 show (if b.i=j then { b with h:=some h } else b).i=b.i;split <;> rfl
theorem HK (M:My B8) (j h x:Int):fd (upH M j h) x=(fd M x).map λ b=>if b.i=j then { b with h:=some h } else b:=by
 unfold fd upH;rw [List.find?_map];congr 2
 funext b
 show decide ((if b.i=j then { b with h:=some h } else b).i=x)=_;split <;> rfl
def mvB (M:My B8) (i j h:Int) (rj rh:My Int):My B8:=upH (upR (upR M j rj) h rh) i h
noncomputable def mvF (i j h:Int) (rj rh:My Int) (c:B8):B8:={ c with h:=if c.i=i then some h else c.h,r:=if c.i=h then rh else if c.i=j then rj else c.r }
theorem vz (M:My B8) (i j h:Int) (rj rh:My Int) (x:Int):fd (mvB M i j h rj rh) x=(fd M x).map (mvF i j h rj rh):=by
 unfold mvB;rw [HK,eQ,eQ,Option.map_map,Option.map_map];congr 1
 funext c
 obtain ⟨ci,ch,cn,cr⟩:=c;simp only [Function.comp,mvF]
 by_cases h1:ci=j <;> by_cases h2:ci=h <;> by_cases h3:ci=i <;> simp [h1,h2,h3] <;> (try (split <;> simp_all)) <;> (try (split <;> simp_all))
def L8 {M:My B8} (nd:Nd M) (i j h:Int) (rj rh:My Int):Nd (mvB M i j h rj rh):=by
 unfold Nd mvB;rw [JL];exact nr (nr nd _ _) _ _
section
variable {gv:Int} {M:My B8} {i j h:Int} {b p q:B8} {rj rh:My Int}
theorem Hb (m:MOk gv M) (hb:fd M i=some b) (hj:b.h=some j) (hp:fd M j=some p) (hq:fd M h=some q) (na:¬ Anc M i h)
  {ni nh:Nat} (ci:Ch M i ni) (ch:Ch M h nh) (dp:∀ x n,Anc M i x->Ch M x n->n+nh+1<=12+ni)
  (ej:rj=p.r.erase i) {pl:Int} (eh:rh=insI (q.r.filter λ y=>decide (y≠i)) pl i):MOk gv (mvB M i j h rj rh):=by
 have i0:=m.h0 hb hj;have nd':=L8 m.nd i j h rj rh;have fx:=vz M i j h rj rh;have bi:=fO hb;have pi:=fO hp;have qi:=fO hq;have pn:=m.rnd p (a7 hp);have qn:=m.rnd q (a7 hq);have ih:i≠h:=λ e=>na (by rw [<- e]; exact .refl)
 have un:∀ c ∈ mvB M i j h rj rh,∃ d,fd M c.i=some d/\d.i=c.i/\c=mvF i j h rj rh d:=λ c hc=>by
  have e:=sj nd' hc;rw [fx] at e
  cases hd:fd M c.i with
  | none=>rw [hd] at e; cases e
  | some d=>
   rw [hd] at e;exact ⟨d,rfl,fO hd,(Zj e).symm⟩
 have old:∀ {x:Int} {d:B8},fd M x=some d->fd (mvB M i j h rj rh) x=some (mvF i j h rj rh d):=λ {x d} hd=>by rw [fx,hd]; rfl
 have hh:∀ d:B8,d.i≠i->(mvF i j h rj rh d).h=d.h:=λ d ne=>if_neg ne
 have hi:∀ d:B8,d.i=i->(mvF i j h rj rh d).h=some h:=λ d e=>if_pos e
 have rmem:∀ y,y ∈ rh↔y=i\/(y ∈ q.r/\y≠i):=λ y=>by
  rw [eh,l4,Y4,decide_eq_true_iff]
 have c1:∀ {x:Int} {n:Nat},Ch M x n->¬ Anc M i x->Ch (mvB M i j h rj rh) x n:=λ {x n} c=>by
  induction c with
  | @top x d h1 e1=>
   intro nx;have ne:d.i≠i:=λ e=>nx (by rw [fO h1] at e; rw [e]; exact .refl)
   exact .top (old h1) ((hh d ne).trans e1)
  | @up x y n d h1 e1 c ihc=>
   intro nx;have ne:d.i≠i:=λ e=>nx (by rw [fO h1] at e; rw [e]; exact .refl)
   exact .up (old h1) ((hh d ne).trans e1) (ihc λ a=>nx (.up h1 e1 a))
 have chh:=c1 ch na
 have c2:∀ {x:Int},Anc M i x->∀ d,fd M x=some d->∃ n n',Ch M x n/\Ch (mvB M i j h rj rh) x n'/\n'+ni=n+nh+1:=λ {x} a=>by
  induction a with
  | refl=>intro d hd; exact ⟨ni,nh+1,ci,.up (old hb) (hi b bi) chh,by omega⟩
  | @up x y d h1 e1 c ihc=>
   intro d' _;obtain ⟨nx,x1,_⟩:=m.dp h1
   cases x1 with
   | top h2 e2=>rw [h1] at h2; cases h2; rw [e1] at e2; cases e2
   | up h2 e2 cy=>
    rw [h1] at h2;cases h2;rw [e1] at e2;cases e2;obtain ⟨by',hy⟩:=cy.get;obtain ⟨n,n',k1,k2,k3⟩:=ihc by' hy
    have ne:d.i≠i:=λ e=>by
     rw [fO h1] at e;obtain ⟨k,g1,g2,_⟩:=c.deep cy;have:=g1.uniq ci;rw [e] at h1;have:=ci.uniq (.up h1 e1 cy);omega
    exact ⟨_,n'+1,.up h1 e1 k1,.up (old h1) ((hh d ne).trans e1) k2,by omega⟩
 refine ⟨nd',λ c hc=>?_,?_,λ c hc c0=>?_,λ c hc x hx=>?_,λ c hc=>?_,λ c hc=>?_⟩
 ·obtain ⟨d,hd,di,_⟩:=un c hc
  rw [<- di];exact m.lt d (a7 hd)
 ·obtain ⟨r,r1,r2⟩:=m.root
  exact ⟨_,old r1,(hh r (by rw [fO r1]; exact Ne.symm i0)).trans r2⟩
 ·obtain ⟨d,hd,di,ec⟩:=un c hc
  by_cases e:d.i=i
  ·refine ⟨h,_,by rw [ec]; exact hi d e,old hq,?_⟩
   show c.i ∈ (if q.i=h then rh else if q.i=j then rj else q.r);rw [if_pos qi,<- di,e];exact (rmem i).mpr (.inl rfl)
  ·obtain ⟨j',u,u1,u2,u3⟩:=m.hol d (a7 hd) (by rw [di]; exact c0)
   refine ⟨j',_,by rw [ec]; exact (hh d e).trans u1,old u2,?_⟩;show c.i ∈ (if u.i=h then rh else if u.i=j then rj else u.r);rw [<- di];split
   ·rename_i e2
    have:u=q:=by rw [<- fO u2,e2,hq] at u2; exact (Zj u2).symm
    subst this;exact (rmem d.i).mpr (.inr ⟨u3,e⟩)
   ·split
    ·rename_i e2
     have:u=p:=by rw [<- fO u2,e2,hp] at u2; exact (Zj u2).symm
     subst this;rw [ej];exact (List.mem_erase_of_ne e).mpr u3
    · exact u3
 ·obtain ⟨d,hd,di,ec⟩:=un c hc
  have key:∀ y ∈ d.r,y≠i->∃ e,fd (mvB M i j h rj rh) y=some e/\e.h=some c.i:=λ y hy ne=>by
   obtain ⟨e,e1,e2⟩:=m.kid d (a7 hd) y hy;exact ⟨_,old e1,by rw [hh e (by rw [fO e1]; exact ne),e2,di]⟩
  rw [ec] at hx;have hx':x ∈ (if d.i=h then rh else if d.i=j then rj else d.r):=hx;split at hx'
  ·rename_i e2
   rcases (rmem x).mp hx' with rfl | ⟨h1,h2⟩
   · exact ⟨_,old hb,by rw [hi b bi,<- di,e2]⟩
   ·have:d=q:=by rw [<- di,e2,hq] at hd; exact (Zj hd).symm
    subst this;exact key x h1 h2
  ·split at hx'
   ·rename_i e2
    have:d=p:=by rw [<- di,e2,hp] at hd; exact (Zj hd).symm
    subst this;rw [ej] at hx';have:=pn.mem_erase_iff.mp hx';exact key x this.2 this.1
   ·rename_i e3
    refine key x hx' λ e=>?_
    subst e;obtain ⟨e,e1,e2⟩:=m.kid d (a7 hd) x hx';rw [hb] at e1;cases e1;rw [hj] at e2;exact e3 (Zj e2).symm
 ·obtain ⟨d,hd,di,ec⟩:=un c hc
  rw [ec];show (if d.i=h then rh else if d.i=j then rj else d.r).Nodup;split
  ·rw [eh,(oz _ _ _).nodup_iff,Zw]
   exact ⟨λ e=>by rw [Y4] at e; exact Z3 e.2 rfl,qn.sublist Xs⟩
  ·split
   · rw [ej]; exact pn.erase _
   · exact m.rnd d (a7 hd)
 ·obtain ⟨d,hd,di,ec⟩:=un c hc
  by_cases a:Anc M i c.i
  ·obtain ⟨n,n',k1,k2,k3⟩:=c2 a d hd
   exact ⟨n',k2,by have:=dp _ _ a k1; omega⟩
  ·obtain ⟨n,n1,n2⟩:=m.dp hd
   exact ⟨n,c1 n1 a,n2⟩
end
theorem nW:∀ l:My Int,Fe (l.map .int)=some (l.map V.int)
 | []=>rfl
 | i::l=>by
  show (scD (.int i)).bind (λ v=>(Fe (l.map .int)).map (v::·))=_;rw [nW l];rfl
theorem se (j:Int):∀ l:My Int,inV (.int j) (l.map V.int)=decide (j ∈ l)
 | []=>by simp [inV]
 | k::l=>by
  have ih:=se j l;unfold inV at *;simp only [Zg,Xi,ih,Zh,Bool.decide_or];congr 1;show decide (k=j)=decide (j=k);rw [Yr];omega
theorem ue (j:Int) (l:My Int):Dj (.int j) (.lst (l.map .int))=some (.bl (decide (j ∈ l))):=by
 show (inS (.int j) (l.map .int)).map D.bl=_;unfold inS;rw [nW];show some (D.bl (inV (.int j) _))=_;rw [se]
theorem Dq (j:Int) (l:My Int):oq (.int j) (.lst (l.map .int))=some (.bl (!decide (j ∈ l))):=by
 show (inS (.int j) (l.map .int)).map (λ b=>D.bl !b)=_;unfold inS;rw [nW];show some (D.bl (!inV (.int j) _))=_;rw [se]
theorem tV (n:Nat):∀ l:My Int,vd n (l.map .int)=true
 | []=>by rw [Xo,vd]
 | i::l=>by rw [Zg,vd,tV n l,okD]; rfl
theorem ub:∀ {a c:My Int},a.map D.int=c.map D.int->a=c
 | [],[],_=>rfl
 | [],_::_,h=>by cases h
 | _::_,[],h=>by cases h
 | x::a,y::c,h=>by
  rw [Zg,Zg] at h;injection h with h1 h2
  injection h1 with h1
  rw [h1,ub h2]
theorem uq (a c:My Int):eqO (.lst (a.map .int)) (.lst (c.map .int))=some (decide (a=c)):=by
 show (if okD 9 (.lst (a.map .int))=true/\okD 9 (.lst (c.map .int))=true then some (eqB (.lst (a.map .int)) (.lst (c.map .int))) else none)=_;have o:∀ l:My Int,okD 9 (.lst (l.map .int))=true:=λ l=>by rw [okD]; exact tV 8 l
 rw [if_pos ⟨o a,o c⟩]
 by_cases h:a=c
 · rw [h,uu,Zo rfl]
 · rw [BW (λ e=>h (ub (by injection e))),Zl h]
def yP (a c:My Int):oEq (.lst (a.map .int)) (.lst (c.map .int))=some (.bl (decide (a=c))):=by
 unfold oEq;rw [uq];rfl
def Dr (a c:My Int):oNe (.lst (a.map .int)) (.lst (c.map .int))=some (.bl (!decide (a=c))):=by
 unfold oNe;rw [uq];rfl
theorem sG {τ:My Sl} {it:DI} {c:DT} {g:DE} {cs:My (Str×Nat)} {ds es:My D} (h1:it τ=some ds) (hl:ds.length<=100000) (h2:sg (λ d=>c (.shr d::fQ τ cs)) (λ d=>g (.shr d::fQ τ cs)) ds=some es):md it c g cs τ=some (.lst es):=by
 unfold md;rw [h1];show (if ds.length<=100000 then _ else none)=_;rw [if_pos hl,h2];rfl
theorem um {c:D->Px Bool} {f:Int->Bool}:∀ {l:My Int},(∀ x ∈ l,c (.int x)=some (f x))->sg c (λ d=>some d) (l.map .int)=some ((l.filter f).map .int)
 | [],_=>rfl
 | x::l,h=>by
  rw [Zg,sg,h x (Zd ..),List.filter_cons];have ih:=um (l:=l) λ y hy=>h y (Za _ hy)
  show (if f x=true then (some (D.int x)).bind (λ y=>(sg c (λ d=>some d) (l.map .int)).bind λ xs=>some (y::xs)) else sg c (λ d=>some d) (l.map .int))=_;rw [ih]
  by_cases hx:f x=true
  · rw [if_pos hx,if_pos hx]; rfl
  · rw [if_neg hx,if_neg hx]
inductive Dps (M:List B8):List Int->List Nat->Prop where
 | nil:Dps M [] []
 | cons {x:Int} {n:Nat} {l:List Int} {ns:List Nat} (h:Ch M x n) (r:Dps M l ns):Dps M (x::l) (n::ns)
section
variable {t:Adr} {gv:Int} {M:My B8}
theorem Dps.ex (m:MOk gv M):∀ {l:My Int},(∀ x ∈ l,∃ b,fd M x=some b)->∃ ns,Dps M l ns
 | [],_=>⟨[],.nil⟩
 | x::l,h=>by
  obtain ⟨b,hb⟩:=h x (Zd ..);obtain ⟨n,hn,_⟩:=m.dp hb;obtain ⟨ns,r⟩:=Dps.ex m (l:=l) λ y hy=>h y (Za _ hy)
  exact ⟨_,.cons hn r⟩
theorem Dps.mem {l:My Int} {ns:My Nat} (h:Dps M l ns):∀ x ∈ l,∀ n,Ch M x n->n ∈ ns:=by
 induction h with
 | nil=>intro x h; cases h
 | cons h r ih=>
  intro x hx n hn;rcases Zh.mp hx with rfl | hx
  · rw [hn.uniq h]; exact Zd ..
  · exact Za _ (ih x hx n hn)
theorem Dps.back {l:My Int} {ns:My Nat} (h:Dps M l ns):∀ n ∈ ns,∃ x ∈ l,Ch M x n:=by
 induction h with
 | nil=>intro x h; cases h
 | cons h r ih=>
  intro n hn;rcases Zh.mp hn with rfl | hn
  · exact ⟨_,Zd ..,h⟩
  ·obtain ⟨x,hx,h'⟩:=ih n hn
   exact ⟨x,Za _ hx,h'⟩
theorem Dps.map {l:My Int} {ns:My Nat} (h:Dps M l ns) {g:D->Px D} (hg:∀ x n,Ch M x n->n<=12->g (.int x)=some (.int (n:Int))) (h12:∀ n ∈ ns,n<=12):xY g (l.map .int)=some ((ns.map λ n:Nat=>(n:Int)).map .int):=by
 induction h with
 | nil=>rfl
 | @cons x n l ns h r ih=>
  show (g (.int x)).bind (λ y=>(xY g (l.map .int)).bind λ xs=>some (y::xs))=_;rw [hg x n h (h12 n (Zd ..)),ih λ k hk=>h12 k (Za _ hk)];rfl
def Dps.len {l:My Int} {ns:My Nat} (h:Dps M l ns):ns.length=l.length:=by
 induction h with
 | nil=>rfl
 | cons _ _ ih=>rw [Zu,Zu,ih]
def tpI (ns:My Nat):Int:=mxI (ns.map λ n:Nat=>(n:Int))
def JP {ns:My Nat} {n:Nat} (h:n ∈ ns):(n:Int)<=tpI ns:=G9 (Z9 h)
theorem FN {ns:My Nat} (h:0 < ns.length):∃ n ∈ ns,tpI ns=(n:Int):=by
 have:=DQ (ns:=ns.map λ n:Nat=>(n:Int)) (by rw [Zc]; exact h);obtain ⟨n,hn,e⟩:=Yt.mp this;exact ⟨n,hn,e.symm⟩
theorem BJ {ns:My Nat} (h:0 < ns.length):AD [.lst ((ns.map λ n:Nat=>(n:Int)).map .int)]=some (.int (tpI ns)):=by
 show (eL ((ns.map λ n:Nat=>(n:Int)).map .int)).bind _=_;rw [ud];show (if 0 < (ns.map λ n:Nat=>(n:Int)).length then _ else _)=_;rw [Zc,if_pos h];rfl
end
theorem rC {τ:My Sm} {i:Nat} {b:Bool} {m:Mt} {d:D} (h:τ[i]?=some (.mu b m)) (hf:frz m=d):aI i (bf τ)=some d:=by
 refine aM ?_
 rw [List.getElem?_map,h];show some (Sl.shr (frz m))=_;rw [hf]
theorem Bt {g:B8->Mt} {M:My B8} {i:Int} {m:Mt} {b:B8} (h:fd M i=some b):kZ (kv g M) (.inl i) m=M.map λ c=>((.inl c.i:Key),if c.i=i then m else g c):=by
 unfold kZ;rw [uI,h];unfold kv;rw [Zy];refine Z0 λ c _=>?_
 show (if (Sum.inl c.i:Key)=Sum.inl i then ((Sum.inl c.i:Key),m) else (Sum.inl c.i,g c))=_
 by_cases e:c.i=i
 · rw [if_pos (by rw [e]),if_pos e]
 · rw [if_neg (λ z=>e (by injection z)),if_neg e]
theorem CC {M:My B8} {i:Int} {r:My Int} {b:B8} (h:fd M i=some b):kZ (kv (λ b=>lM (b.r.map .int)) M) (.inl i) (lM (r.map .int))=kv (λ b=>lM (b.r.map .int)) (upR M i r):=by
 rw [Bt h];unfold kv upR;rw [Zy];refine Z0 λ c _=>?_
 show _=((Sum.inl (if c.i=i then { c with r:=r } else c).i:Key),lM ((if c.i=i then { c with r:=r } else c).r.map .int));split <;> rfl
theorem CD {M:My B8} {i h:Int} {b:B8} (hb:fd M i=some b):kZ (kv (λ b=>.s (hD b.h)) M) (.inl i) (.s (.int h))=kv (λ b=>.s (hD b.h)) (upH M i h):=by
 rw [Bt hb];unfold kv upH;rw [Zy];refine Z0 λ c _=>?_
 show _=((Sum.inl (if c.i=i then { c with h:=some h } else c).i:Key),Mt.s (hD (if c.i=i then { c with h:=some h } else c).h));split <;> rfl
theorem we {β:Type} (g:B8->β) (M:My B8) (i h:Int) (hg:∀ b:B8,g { b with h:=some h }=g b):kv g (upH M i h)=kv g M:=by
 unfold kv upH;rw [Zy];refine Z0 λ b _=>?_
 show ((Sum.inl (if b.i=i then { b with h:=some h } else b).i:Key),g (if b.i=i then { b with h:=some h } else b))=_;split
 · rw [hg]
 · rfl
theorem FL {C:Pz} {gv:Int} {M:My B8} {i h:Int}:trM C gv (upH M i h)=trG C (.s (.int gv)) (kM (λ b=>.s (.str b.n)) M) (kM (λ b=>.s (hD b.h)) (upH M i h)) (bxM M) (kM (λ _=>.n .d []) M) (kM (λ _=>lM []) M) (kM (λ _=>.s (.tup [])) M):=by
 unfold trM bxM kM;rw [we (λ b=>Mt.s (.str b.n)) _ _ _ (λ _=>rfl),we (λ b=>lM (b.r.map .int)) _ _ _ (λ _=>rfl),we (λ _=>Mt.n .d []) _ _ _ (λ _=>rfl),we (λ _=>lM []) _ _ _ (λ _=>rfl),we (λ _=>Mt.s (.tup [])) _ _ _ (λ _=>rfl)]
theorem DR {M:My B8} (nd:Nd M) {i h:Int} {b q:B8} {rj:My Int} (hb:fd M i=some b) (hj:b.h=some h) (hq:fd M h=some q):mvB M i h h rj q.r=M:=by
 unfold mvB upH upR;rw [Zy,Zy]
 conv=>rhs; rw [<- List.map_id M]
 refine Z0 λ c hc=>?_
 have hf:=sj nd hc
 have e1:(if (if c.i=h then { c with r:=rj } else c).i=h then { (if c.i=h then { c with r:=rj } else c) with r:=q.r } else (if c.i=h then { c with r:=rj } else c))=c:=by
  by_cases e:c.i=h
  ·rw [e,hq] at hf
   cases hf;rw [if_pos e];rw [if_pos e]
  · rw [if_neg e,if_neg e]
 show (if (if (if c.i=h then { c with r:=rj } else c).i=h then { (if c.i=h then { c with r:=rj } else c) with r:=q.r } else (if c.i=h then { c with r:=rj } else c)).i=i then { (if (if c.i=h then { c with r:=rj } else c).i=h then { (if c.i=h then { c with r:=rj } else c) with r:=q.r } else (if c.i=h then { c with r:=rj } else c)) with h:=some h } else (if (if c.i=h then { c with r:=rj } else c).i=h then { (if c.i=h then { c with r:=rj } else c) with r:=q.r } else (if c.i=h then { c with r:=rj } else c)))=id c;rw [e1]
 by_cases e:c.i=i
 ·rw [e,hb] at hf
  cases hf;rw [if_pos e,<- hj];rfl
 ·rw [if_neg e]
  rfl
section
variable {t:Adr} {gv:Int} {M:My B8} {i j h pl:Int} {b p q:B8} {l:My Int} {ni nh:Nat} {ns:My Nat}
theorem DV (m:MOk gv M) (h90:M.length < 90) (hb:fd M i=some b) (hj:b.h=some j) (hp:fd M j=some p) (hi:i ∈ p.r) (hq:fd M h=some q) (hs:Sub M b.r l) (hn:h ∉ i::l) (hl:l.length < 90)
  (ci:Ch M i ni) (ch:Ch M h nh) (n12:ni<=12/\nh<=12) (ds:Dps M (i::l) ns) (d12:∀ n ∈ ns,n<=12) (hd:(nh:Int)+1+tpI ns - ni<=12) {row:My Int} (er:row=insI (q.r.filter λ y=>decide (y≠i)) pl i)
  (p0:0<=pl) (p1:pl<=((q.r.filter λ y=>decide (y≠i)).length:Int)):ju t [.mu true (trM t.ah gv M),.shr (.int i),.shr (.int h),.shr (.int pl)]=some (.shr (.bl (!decide (row=q.r))),[.mu true (trM t.ah gv (mvB M i j h (p.r.erase i) row)),.no,.no,.no]):=by
 have i0:=m.h0 hb hj
 have hp2:=sub_len (m.rnd p (a7 hp)) λ y hy=>by
  obtain ⟨d,d1,_⟩:=m.kid p (a7 hp) y hy;exact ⟨d,d1⟩
 have hq2:=sub_len (m.rnd q (a7 hq)) λ y hy=>by
  obtain ⟨d,d1,_⟩:=m.kid q (a7 hq) y hy;exact ⟨d,d1⟩
 have hf2:(q.r.filter λ y=>decide (y≠i)).length<=q.r.length:=List.length_filter_le _ _;have hih:h≠i:=λ e=>hn (by rw [e]; exact Zd ..)
 have hnl:h ∉ l:=λ e=>hn (Za _ e)
 have sn:∀ {r:My Sm},bf (.mu true (trM t.ah gv M)::r)=.shr (trD t.ah gv M)::bf r:=lB
 unfold ju fc
 have go:∀ {o:v8},(fK (tG (tS (dT (dOp oEq (aI 5) (dOp d3 (dUn (AE t.ah "boxes") (aI 0)) (aI 2)))))
  (nX (eN (dC (.bl false))))
  jB)
  (fK (u9 (vb (jX t.ah "boxes" (de 0)) (dOp d3 (dUn (AE t.ah "holders") (aI 0)) (aI 1))) (aI 1))
  (fK (gV (jX t.ah "boxes" (de 0)) (aI 2) (eV 5))
  (fK (gV (jX t.ah "holders" (de 0)) (aI 1) (eN (aI 2)))
  (nX (eN (dC (.bl true)))))))) [.mu true (trM t.ah gv M),.shr (.int i),.shr (.int h),.shr (.int pl),.shr (.lst (l.map .int)),.mu false (lM (row.map .int)),.shr (.int (tpI ns))]=some o->(fc t).1 [.mu true (trM t.ah gv M),.shr (.int i),.shr (.int h),.shr (.int pl),.no,.no,.no]=some o:=λ {o} ho=>by
  unfold fc;refine aS (hG (by rw [sn]; exact bZ e_v (af e_v ar) rfl (cP hb) rfl)) ?_
  refine aS (hG (by rw [sn]; exact bZ e_v (af e_v ar) rfl (cP hq) rfl)) ?_
  refine aS (τ':=[.mu true (trM t.ah gv M),.shr (.int i),.shr (.int h),.shr (.int pl),.shr (.lst (l.map .int)),.no,.no]) (cf (v_F (by rw [sn]; exact AW (af e_v (af e_v ar)) (zH hb hs (by omega)) rfl) (gp _)) (Zb rfl) rfl) ?_
  refine aS (dU (t_S (tm (b:=false) (aP (aH e_v Ua ((bN _ _).trans (by rw [Zl i0])))) (λ _=>tm (b:=false) (aP (aH e_v e_v ((bN _ _).trans (by rw [Zl hih])))) (λ _=>aP (aH e_v e_v ((ue h l).trans (by rw [Zl hnl])))) nofun) nofun)) rfl) ?_
  refine aS (τ':=[.mu true (trM t.ah gv M),.shr (.int i),.shr (.int h),.shr (.int pl),.shr (.lst (l.map .int)),.mu false (lM ((q.r.filter λ y=>decide (y≠i)).map .int)),.no]) (cf (v_O (by rw [sn]; exact sG (yr (aH (fV e_v fB) e_v (cu hq))) (by rw [Zc]; omega) (um λ x _=>aP (aH e_v e_v ((g8 _ _).trans (by rw [decide_not]))))) (gp _)) (Zb rfl) rfl) ?_
  refine aS (hG (cU (af e_v (af (rC (b:=false) rfl (qo _)) ar)) (dN p0 p1) rfl)) ?_
  refine aS (τ':=[.mu true (trM t.ah gv M),.shr (.int i),.shr (.int h),.shr (.int pl),.shr (.lst (l.map .int)),.mu false (lM ((q.r.filter λ y=>decide (y≠i)).map .int)),.shr (.int (tpI ns))]) (cf (v_S (by
   rw [sn];refine bM (af (qz (yr (aH (gA (af e_v ar) (Zb rfl)) e_v ?_)) (by rw [Zc]; show l.length+1<=_; omega) (ds.map (λ x n hx hx12=>cU (af e_v (af e_v ar)) (fD hx (by omega)) rfl) d12)) ar) (BJ (by rw [ds.len]; exact Nat.succ_pos _));show (if [D.int i].length+(l.map D.int).length<=100000 then some (D.lst ([D.int i]++l.map .int)) else none)=_;rw [if_pos (by rw [Zc]; show 1+l.length<=_; omega)]
   rfl) rfl) (Zb rfl) rfl) ?_
  refine aS (dU (t_S (by
   rw [sn]
   exact aP (aH (aH (aH (aH (cU (af e_v (af e_v ar)) (fD ch (by omega)) rfl) Ua (aG _ _)) e_v (aG _ _)) (cU (af e_v (af e_v ar)) (fD ci (by omega)) rfl) (gr _ _)) Ua (Ek hd)))) rfl) ?_
  refine aS ((D0 cI rfl e_v (v_N e_v) rfl rfl ⟨p0,by rw [Zc,Zc]; exact p1,by rw [Zc,Zc]; omega⟩).trans ?_) ho;rw [kr rfl,yq,er];rfl
 have eb:d3 (.dct (kv (λ b=>.lst (b.r.map .int)) M)) (.int h)=some (.lst (q.r.map .int)):=cu hq
 have et:tS (dT (dOp oEq (aI 5) (dOp d3 (dUn (AE t.ah "boxes") (aI 0)) (aI 2)))) [.mu true (trM t.ah gv M),.shr (.int i),.shr (.int h),.shr (.int pl),.shr (.lst (l.map .int)),.mu false (lM (row.map .int)),.shr (.int (tpI ns))]=some (decide (row=q.r),[.mu true (trM t.ah gv M),.shr (.int i),.shr (.int h),.shr (.int pl),.shr (.lst (l.map .int)),.mu false (lM (row.map .int)),.shr (.int (tpI ns))]):=
  t_S (aP (aH (rC (b:=false) rfl (qo _)) (aH (fV (rC rfl (qm _ _ _)) fB) e_v eb) (yP _ _)))
 by_cases hr:row=q.r
 ·have hjh:j=h:=by
   have:i ∈ q.r:=by rw [<- hr,er]; exact l4.mpr (.inl rfl)
   obtain ⟨d,d1,d2⟩:=m.AL hq this;rw [hb] at d1;cases d1;rw [hj] at d2;exact Zj d2
  rw [Zo hr] at et ⊢;refine (fL (s:=.shr (.bl false)) (τ:=[.mu true (trM t.ah gv M),.shr (.int i),.shr (.int h),.shr (.int pl),.shr (.lst (l.map .int)),.mu false (lM (row.map .int)),.shr (.int (tpI ns))]) (go ?_)).trans ?_
  ·have:(tG (tS (dT (dOp oEq (aI 5) (dOp d3 (dUn (AE t.ah "boxes") (aI 0)) (aI 2))))) (nX (eN (dC (.bl false)))) jB) [.mu true (trM t.ah gv M),.shr (.int i),.shr (.int h),.shr (.int pl),.shr (.lst (l.map .int)),.mu false (lM (row.map .int)),.shr (.int (tpI ns))]=some (.ret (.shr (.bl false)) [.mu true (trM t.ah gv M),.shr (.int i),.shr (.int h),.shr (.int pl),.shr (.lst (l.map .int)),.mu false (lM (row.map .int)),.shr (.int (tpI ns))]):=mP et (jE (v_N Ua))
   unfold fK;rw [this]
  ·rw [hjh,hr,DR m.nd hb (hjh ▸ hj) hq]
   rfl
 ·rw [Zl hr] at et ⊢
  refine (fL (τ:=[.mu true (trM t.ah gv (mvB M i j h (p.r.erase i) row)),.shr (.int i),.shr (.int h),.shr (.int pl),.shr (.lst (l.map .int)),.no,.shr (.int (tpI ns))]) (go ?_)).trans rfl;refine aS (dU et rfl) ?_
  have hg:bB [.mu true (trM t.ah gv M),.shr (.int i),.shr (.int h),.shr (.int pl),.shr (.lst (l.map .int)),.mu false (lM (row.map .int)),.shr (.int (tpI ns))] 0 [.k (.inr "boxes"),.k (.inl j)]=some (lM (p.r.map .int)):=by
   rw [pW rfl];refine rA.trans ?_
   refine (qk _ _ _).trans ?_
   rw [hp];rfl
  have eh:d3 (.dct (kv (λ b=>hD b.h) M)) (.int i)=some (.int j):=by
   rw [cu hb,hj];rfl
  refine aS (τ':=[.mu true (trM t.ah gv (upR M j (p.r.erase i))),.shr (.int i),.shr (.int h),.shr (.int pl),.shr (.lst (l.map .int)),.mu false (lM (row.map .int)),.shr (.int (tpI ns))]) ((DZ (wa (mI cI rfl) (by rw [sn]; exact aH (fV e_v fH) e_v eh) rfl rfl) e_v hg (oI _) ⟨by omega,hi⟩).trans ?_) ?_
  ·rw [kr rfl,wO]
   have ep:(trM t.ah gv M).put ([]++[.k (.inr "boxes")]++[.k (.inl j)]) (lM ((p.r.erase i).map .int))=trM t.ah gv (upR M j (p.r.erase i)):=by
    refine iX.trans ?_
    rw [pK m.nd hp,tj]
   rw [ep];rfl
  have hq3:∃ q',fd (upR M j (p.r.erase i)) h=some q':=by rw [eQ,hq]; exact ⟨_,rfl⟩
  obtain ⟨q',hq'⟩:=hq3;have hb3:∃ b',fd (upR (upR M j (p.r.erase i)) h row) i=some b':=by rw [eQ,eQ,hb]; exact ⟨_,rfl⟩
  obtain ⟨b',hb'⟩:=hb3;refine aS (τ':=[.mu true (trM t.ah gv (upR (upR M j (p.r.erase i)) h row)),.shr (.int i),.shr (.int h),.shr (.int pl),.shr (.lst (l.map .int)),.no,.shr (.int (tpI ns))]) ?_ ?_
  ·refine (jF (v_V rfl) (mI cI rfl) e_v rfl rfl rfl (by rw [lX,gz]; omega)).trans ?_
   rw [kr rfl,CC hq']
   have:trM t.ah gv (upR (upR M j (p.r.erase i)) h row)=(trM t.ah gv (upR M j (p.r.erase i))).put ([]++[.k (.inr "boxes")]) (.n .d (kv (λ b=>lM (b.r.map .int)) (upR (upR M j (p.r.erase i)) h row))):=by
    rw [tj];exact uV.symm
   rw [this];rfl
  refine aS ?_ (jE (v_N Ua))
  refine (lH (v_N e_v) e_v rfl rfl (by rw [lX,gz,gz]; omega)).trans ?_
  rw [CD hb'];unfold mvB;rw [FL];rfl
end
section
variable {gv:Int} {M:My B8}
theorem Bd {a x:Int} (h:Anc M a x) {r:B8} (r1:fd M x=some r) (r2:r.h=none):a=x:=by
 cases h with
 | refl=>rfl
 | up h1 h2 _=>rw [r1] at h1; cases h1; rw [r2] at h2; cases h2
end
def rm (M:My B8) (l:My Int):My B8:=M.filter λ b=>decide (b.i ∉ l)
def tI (M:My B8):rm M []=M:=by
 unfold rm;rw [Xu];intro b _;simp
theorem nZ (M:My B8) (g:Int) (l:My Int):rm (M.filter λ b=>decide (b.i≠g)) l=rm M (g::l):=by
 unfold rm;rw [List.filter_filter];congr 1
 funext b
 rw [<- Bool.decide_and];exact Yr.mpr (by rw [Zh,not_or]; exact And.comm)
theorem yG (M:My B8) (l:My Int) (x:Int):fd (rm M l) x=if x ∈ l then none else fd M x:=by
 unfold fd rm;rw [List.find?_filter];split
 ·rename_i h
  rw [List.find?_eq_none];intro b _ e;simp at e;exact e.1 (e.2 ▸ h)
 ·rename_i h
  congr 1
  funext b
  refine Yr.mpr ⟨λ e=>by simpa using e.2,λ e=>⟨by simpa [e] using h,by simpa using e⟩⟩
def G4 {M:My B8} (nd:Nd M) (l:My Int):Nd (rm M l):=by
 exact nd.sublist (List.Sublist.map _ Xs)
theorem xc {C:Pz} {g ho bx mk wd rw:Mt} {cs:My (Key×Mt)} {b:Bool} {r:My Sm} {gk:DE} {d:D} {k:Key} (h3:gk (bf (.mu b (trG C g (.n .d cs) ho bx mk wd rw)::r))=some d) (h4:fu d=some k) (h5:(cs.any λ c=>decide (c.1=k))=true):Aq 0 gk C "names" (.mu b (trG C g (.n .d cs) ho bx mk wd rw)::r)=some (.mu b (trG C g (.n .d (fP cs k)) ho bx mk wd rw)::r):=by
 show (if C=C then (gk (bf (.mu b (trG C g (.n .d cs) ho bx mk wd rw)::r))).bind λ d=>(fu d).bind λ k=>if (cs.any λ c=>decide (c.1=k))=true then some (Sm.mu b (trG C g (.n .d (fP cs k)) ho bx mk wd rw)::r) else none else none)=_;rw [if_pos rfl,h3];show (fu d).bind _=_;rw [h4];exact if_pos h5
theorem rK {C:Pz} {g nm bx mk wd rw:Mt} {cs:My (Key×Mt)} {b:Bool} {r:My Sm} {gk:DE} {d:D} {k:Key} (h3:gk (bf (.mu b (trG C g nm (.n .d cs) bx mk wd rw)::r))=some d) (h4:fu d=some k) (h5:(cs.any λ c=>decide (c.1=k))=true):Aq 0 gk C "holders" (.mu b (trG C g nm (.n .d cs) bx mk wd rw)::r)=some (.mu b (trG C g nm (.n .d (fP cs k)) bx mk wd rw)::r):=by
 show (if C=C then (gk (bf (.mu b (trG C g nm (.n .d cs) bx mk wd rw)::r))).bind λ d=>(fu d).bind λ k=>if (cs.any λ c=>decide (c.1=k))=true then some (Sm.mu b (trG C g nm (.n .d (fP cs k)) bx mk wd rw)::r) else none else none)=_;rw [if_pos rfl,h3];show (fu d).bind _=_;rw [h4];exact if_pos h5
theorem xh {C:Pz} {g nm ho mk wd rw:Mt} {cs:My (Key×Mt)} {b:Bool} {r:My Sm} {gk:DE} {d:D} {k:Key} (h3:gk (bf (.mu b (trG C g nm ho (.n .d cs) mk wd rw)::r))=some d) (h4:fu d=some k) (h5:(cs.any λ c=>decide (c.1=k))=true):Aq 0 gk C "boxes" (.mu b (trG C g nm ho (.n .d cs) mk wd rw)::r)=some (.mu b (trG C g nm ho (.n .d (fP cs k)) mk wd rw)::r):=by
 show (if C=C then (gk (bf (.mu b (trG C g nm ho (.n .d cs) mk wd rw)::r))).bind λ d=>(fu d).bind λ k=>if (cs.any λ c=>decide (c.1=k))=true then some (Sm.mu b (trG C g nm ho (.n .d (fP cs k)) mk wd rw)::r) else none else none)=_;rw [if_pos rfl,h3];show (fu d).bind _=_;rw [h4];exact if_pos h5
theorem xf {C:Pz} {g nm ho bx wd rw:Mt} {cs:My (Key×Mt)} {b:Bool} {r:My Sm} {gk:DE} {d:D} {k:Key} (h3:gk (bf (.mu b (trG C g nm ho bx (.n .d cs) wd rw)::r))=some d) (h4:fu d=some k) (h5:(cs.any λ c=>decide (c.1=k))=true):Aq 0 gk C "marks" (.mu b (trG C g nm ho bx (.n .d cs) wd rw)::r)=some (.mu b (trG C g nm ho bx (.n .d (fP cs k)) wd rw)::r):=by
 show (if C=C then (gk (bf (.mu b (trG C g nm ho bx (.n .d cs) wd rw)::r))).bind λ d=>(fu d).bind λ k=>if (cs.any λ c=>decide (c.1=k))=true then some (Sm.mu b (trG C g nm ho bx (.n .d (fP cs k)) wd rw)::r) else none else none)=_;rw [if_pos rfl,h3];show (fu d).bind _=_;rw [h4];exact if_pos h5
theorem xb {C:Pz} {g nm ho bx mk rw:Mt} {cs:My (Key×Mt)} {b:Bool} {r:My Sm} {gk:DE} {d:D} {k:Key} (h3:gk (bf (.mu b (trG C g nm ho bx mk (.n .d cs) rw)::r))=some d) (h4:fu d=some k) (h5:(cs.any λ c=>decide (c.1=k))=true):Aq 0 gk C "words" (.mu b (trG C g nm ho bx mk (.n .d cs) rw)::r)=some (.mu b (trG C g nm ho bx mk (.n .d (fP cs k)) rw)::r):=by
 show (if C=C then (gk (bf (.mu b (trG C g nm ho bx mk (.n .d cs) rw)::r))).bind λ d=>(fu d).bind λ k=>if (cs.any λ c=>decide (c.1=k))=true then some (Sm.mu b (trG C g nm ho bx mk (.n .d (fP cs k)) rw)::r) else none else none)=_;rw [if_pos rfl,h3];show (fu d).bind _=_;rw [h4];exact if_pos h5
theorem Ap {C:Pz} {g nm ho bx mk wd:Mt} {cs:My (Key×Mt)} {b:Bool} {r:My Sm} {gk:DE} {d:D} {k:Key} (h3:gk (bf (.mu b (trG C g nm ho bx mk wd (.n .d cs))::r))=some d) (h4:fu d=some k) (h5:(cs.any λ c=>decide (c.1=k))=true):Aq 0 gk C "rows" (.mu b (trG C g nm ho bx mk wd (.n .d cs))::r)=some (.mu b (trG C g nm ho bx mk wd (.n .d (fP cs k)))::r):=by
 show (if C=C then (gk (bf (.mu b (trG C g nm ho bx mk wd (.n .d cs))::r))).bind λ d=>(fu d).bind λ k=>if (cs.any λ c=>decide (c.1=k))=true then some (Sm.mu b (trG C g nm ho bx mk wd (.n .d (fP cs k)))::r) else none else none)=_;rw [if_pos rfl,h3];show (fu d).bind _=_;rw [h4];exact if_pos h5
theorem AR {j n i:Nat} {g:DGm} {b:DSm} {τ:My Sm} {cs:My (Key×Mt)} (h1:τ[j]?=some (.mu true (.n .l cs))) (h2:cs[i]?=none):j5 j g b (n+1) i τ=some (.next τ):=by
 simp only [j5,h1,h2]
theorem yD {j n i:Nat} {g:DGm} {b:DSm} {τ τ':My Sm} {cs:My (Key×Mt)} {k:Key} {d:D} (h1:τ[j]?=some (.mu true (.n .l cs))) (h2:cs[i]?=some (k,.s d)) (h3:(g d τ).bind b=some (.next τ')):j5 j g b (n+1) i τ=j5 j g b n (i+1) τ':=by
 simp only [j5,h1,h2,h3]
section
variable {t:Adr} {C:Pz} {gv:Int} {M:My B8}
theorem CL {x1 x2 x4:Sm} {g:Int} {b:B8} (h:fd M g=some b):Aa 4 0 C ["names","holders","boxes","marks","words","rows"] (aI 3) [.mu true (trM C gv M),x1,x2,.shr (.int g),x4]=some (.next [.mu true (trM C gv (M.filter λ b=>decide (b.i≠g))),x1,x2,.shr (.int g),.no]):=by
 have a:∀ f:B8->Mt,((kv f M).any λ c=>decide (c.1=.inl g))=true:=λ f=>by rw [uI,h]; rfl
 have e:rJ 0 (aI 3) C ["names","holders","boxes","marks","words","rows"] [.mu true (trM C gv M),x1,x2,.shr (.int g),.no]=some [.mu true (trM C gv (M.filter λ b=>decide (b.i≠g))),x1,x2,.shr (.int g),.no]:=by
  unfold trM bxM kM;simp only [rJ];rw [xc e_v rfl (a _)];simp only [Z4];rw [rK e_v rfl (a _)];simp only [Z4];rw [xh e_v rfl (a _)];simp only [Z4];rw [xf e_v rfl (a _)];simp only [Z4];rw [xb e_v rfl (a _)];simp only [Z4];rw [Ap e_v rfl (a _)];simp only [Z4,yR]
 show (if C=C/\_/\_/\_ then (rJ 0 (aI 3) C ["names","holders","boxes","marks","words","rows"] [.mu true (trM C gv M),x1,x2,.shr (.int g),.no]).map v8.next else none)=_;rw [if_pos ⟨rfl,rfl,Zb rfl,Zb rfl⟩,e];rfl
theorem Mj:∀ (rest pre:My Int) (M:My B8) (x1 y z:Sm),rest.Nodup->(∀ g ∈ rest,∃ b,fd M g=some b)->∃ y' z',j5 2 (gNm 3) (Aa 4 0 C ["names","holders","boxes","marks","words","rows"] (aI 3)) (rest.length+1) pre.length [.mu true (trM C gv M),x1,.mu true (lM ((pre++rest).map .int)),y,z]=some (.next [.mu true (trM C gv (rm M rest)),x1,.mu true (lM ((pre++rest).map .int)),y',z']):=by
 intro rest
 induction rest with
 | nil=>
  intro pre M x1 y z _ _;refine ⟨y,z,?_⟩;rw [tI];exact AR rfl (by rw [List.getElem?_eq_none_iff]; simp)
 | cons g rest ih=>
  intro pre M x1 y z nd h;rw [Zw] at nd;obtain ⟨b,hb⟩:=h g (Zd ..)
  obtain ⟨y',z',w⟩:=ih (pre++[g]) (M.filter λ b=>decide (b.i≠g)) x1 (.shr (.int g)) .no nd.2 λ k hk=>by
   obtain ⟨c,hc⟩:=h k (Za _ hk);have ne:k≠g:=λ e=>nd.1 (e ▸ hk)
   have:=yG M [g] k;rw [<- nZ,tI,if_neg (by simpa using ne),hc] at this;exact ⟨c,this⟩
  refine ⟨y',z',?_⟩;rw [List.append_assoc,nZ,Z1] at w;refine Eq.trans ?_ w;refine yD (k:=.inl 0) (d:=.int g) rfl ?_ ?_
  ·rw [List.getElem?_map,List.getElem?_map,List.getElem?_append_right (Zn _),Nat.sub_self]
   rfl
  · exact CL hb
theorem B1 {i j:Int} {b p:B8} {l:My Int} (m:MOk gv M) (hb:fd M i=some b) (i0:i≠0) (hj:b.h=some j) (hp:fd M j=some p) (hi:i ∈ p.r) (hs:Sub M b.r l) (nd:(i::l).Nodup) (hl:l.length < 1000) (hr:p.r.length<=1000):gc t [.mu true (trM t.ah gv M),.shr (.int i)]=some (.mu false (lM ((i::l).map .int)),[.mu true (trM t.ah gv (rm (upR M j (p.r.erase i)) (i::l))),.no]):=by
 have sn:∀ {x y z:Sm},bf [.mu true (trM t.ah gv M),.shr (.int i),x,y,z]=.shr (trD t.ah gv M)::bf [.shr (.int i),x,y,z]:=lB
 obtain ⟨y',z',w⟩:=Mj (i::l) [] (upR M j (p.r.erase i)) (.shr (.int i)) .no .no nd λ g hg=>by
  rw [eQ];rcases Zh.mp hg with rfl | hg
  · rw [hb]; exact ⟨_,rfl⟩
  ·obtain ⟨c,hc⟩:=hs.in g hg
   rw [hc]; exact ⟨_,rfl⟩
 unfold gc kh;refine (fL (τ:=[.mu true (trM t.ah gv (rm (upR M j (p.r.erase i)) (i::l))),.shr (.int i),.no,y',z']) ?_).trans rfl;refine aS (hG (τ:=[.mu true (trM t.ah gv M),.shr (.int i),.no,.no,.no]) (by rw [sn]; exact bZ e_v (af e_v ar) rfl (cP hb) rfl)) ?_
 refine aS (dU (t_S (aP (aH e_v Ua ((bN _ _).trans (by rw [Zl i0]))))) rfl) ?_
 refine aS (τ':=[.mu true (trM t.ah gv M),.shr (.int i),.mu false (lM ((i::l).map .int)),.no,.no]) (cf (v_O (by rw [sn]; exact EB (gA (af e_v ar) (Zb rfl)) (cU (af e_v (af e_v ar)) (zH hb hs (by omega)) rfl) (by rw [Zc]; show 1+l.length<=_; omega)) (gp _)) (Zb rfl) rfl) ?_
 have hg:bB [.mu true (trM t.ah gv M),.shr (.int i),.mu false (lM ((i::l).map .int)),.no,.no] 0 [.k (.inr "boxes"),.k (.inl j)]=some (lM (p.r.map .int)):=by
  rw [pW rfl];refine rA.trans ?_
  refine (qk _ _ _).trans ?_
  rw [hp];rfl
 have eh:d3 (.dct (kv (λ b=>hD b.h) M)) (.int i)=some (.int j):=by
  rw [cu hb,hj];rfl
 refine aS (DZ (wa (mI cI rfl) (by rw [sn]; exact aH (fV e_v fH) e_v eh) rfl rfl) e_v hg (oI _) ⟨hr,hi⟩) ?_
 rw [kr rfl,wO]
 have ep:(trM t.ah gv M).put [.k (.inr "boxes"),.k (.inl j)] (lM ((p.r.erase i).map .int))=trM t.ah gv (upR M j (p.r.erase i)):=by
  refine iX.trans ?_
  rw [pK m.nd hp,tj]
 have es:(List.set [Sm.mu true (trM t.ah gv M),.shr (.int i),.mu false (lM ((i::l).map .int)),.no,.no] 0 (.mu true ((trM t.ah gv M).put ([]++[.k (.inr "boxes")]++[.k (.inl j)]) (lM ((p.r.erase i).map .int)))))=[Sm.mu true (trM t.ah gv (upR M j (p.r.erase i))),.shr (.int i),.mu false (lM ((i::l).map .int)),.no,.no]:=by
  rw [<- ep];rfl
 rw [es];refine aS (τ':=[.mu true (trM t.ah gv (rm (upR M j (p.r.erase i)) (i::l))),.shr (.int i),.mu false (lM ((i::l).map .int)),y',z']) ?_ ((jE (v_V rfl)).trans rfl)
 show (j5 2 (gNm 3) _ (((((i::l).map D.int).map λ d=>((.inl 0:Key),Mt.s d)).length)+1) 0 [.mu true (trM t.ah gv (upR M j (p.r.erase i))),.shr (.int i),.mu true (lM ((i::l).map .int)),.no,.no]).map (Im 2 false)=_;rw [Zc,Zc];refine (Yo (Option.map (Im 2 false)) w).trans rfl
theorem xV (m:MOk gv M) {i j:Int} {b p:B8} {l:My Int} (hb:fd M i=some b) (hj:b.h=some j) (hp:fd M j=some p) (hs:Sub M [i] l):MOk gv (rm (upR M j (p.r.erase i)) l):=by
 have i0:=m.h0 hb hj;have nd':Nd (rm (upR M j (p.r.erase i)) l):=G4 (nr m.nd _ _) _;have fx:∀ x,fd (rm (upR M j (p.r.erase i)) l) x=if x ∈ l then none else (fd M x).map λ b=>if b.i=j then { b with r:=p.r.erase i } else b:=λ x=>by rw [yG,eQ]
 have il:=hs.roots i (Zr.mpr rfl);have pn:=m.rnd p (a7 hp)
 have un:∀ c ∈ rm (upR M j (p.r.erase i)) l,∃ d,fd M c.i=some d/\c.i ∉ l/\d.i=c.i/\d.h=c.h/\(∀ x ∈ c.r,x ∈ d.r)/\c.r.Nodup/\(c.i=j->c.r=p.r.erase i):=λ c hc=>by
  have e:=sj nd' hc;rw [fx] at e;split at e
  · cases e
  ·rename_i hn
   cases hd:fd M c.i with
   | none=>rw [hd] at e; cases e
   | some d=>
    rw [hd] at e;have e':(if d.i=j then { d with r:=p.r.erase i } else d)=c:=Zj e;have di:=fO hd;have dn:=m.rnd d (a7 hd);refine ⟨d,rfl,hn,di,?_⟩;split at e'
    ·rename_i hij
     have ep:d=p:=by
      rw [<- di,hij,hp] at hd;exact (Zj hd).symm
     subst e';subst ep;exact ⟨rfl,λ x hx=>List.mem_of_mem_erase hx,pn.erase _,λ _=>rfl⟩
    ·rename_i hij
     subst e';exact ⟨rfl,λ x hx=>hx,dn,λ e=>absurd e hij⟩
 have oh:∀ d:B8,(if d.i=j then { d with r:=p.r.erase i } else d).h=d.h:=λ d=>by split <;> rfl
 have chr:∀ {x:Int} {n:Nat},Ch M x n->x ∉ l->Ch (rm (upR M j (p.r.erase i)) l) x n:=λ {x n} c=>by
  induction c with
  | @top x d h e=>exact λ hn=>.top (by rw [fx,if_neg hn,h]; rfl) ((oh d).trans e)
  | @up x y n d h e c ih=>
   intro hn;have d0:d.i≠0:=by rw [fO h]; exact m.h0 h e
   obtain ⟨y',q,q1,q2,q3⟩:=m.hol d (a7 h) d0;rw [e] at q1;cases q1;have yn:y ∉ l:=λ hy=>hn (by rw [<- fO h]; exact hs.closed y hy q q2 d.i q3)
   exact .up (by rw [fx,if_neg hn,h]; rfl) ((oh d).trans e) (ih yn)
 refine ⟨nd',λ c hc=>?_,?_,λ c hc c0=>?_,λ c hc x hx=>?_,λ c hc=>?_,λ c hc=>?_⟩
 ·obtain ⟨d,hd,hn,di,_⟩:=un c hc
  rw [<- di];exact m.lt d (a7 hd)
 ·obtain ⟨r,r1,r2⟩:=m.root
  have n0:(0:Int) ∉ l:=λ h=>i0 (Bd ((hs.iff m r1).mp h) r1 r2)
  rw [fx,if_neg n0,r1];exact ⟨_,rfl,(oh r).trans r2⟩
 ·obtain ⟨d,hd,hn,di,dh,_⟩:=un c hc
  obtain ⟨j',q,q1,q2,q4⟩:=m.hol d (a7 hd) (by rw [di]; exact c0);have jn:j' ∉ l:=λ h=>hn (by rw [<- di]; exact hs.closed j' h q q2 d.i q4)
  refine ⟨j',(if q.i=j then { q with r:=p.r.erase i } else q),by rw [<- dh]; exact q1,by rw [fx,if_neg jn,q2]; rfl,?_⟩;split
  ·rename_i hq
   have ep:q=p:=by
    rw [<- fO q2,hq,hp] at q2;exact (Zj q2).symm
   subst ep;rw [<- di];exact (List.mem_erase_of_ne λ e=>hn (by rw [<- di,e]; exact il)).mpr q4
  ·rw [<- di]
   exact q4
 ·obtain ⟨d,hd,hn,di,dh,sb,cn,cj⟩:=un c hc
  obtain ⟨e,e1,e2⟩:=m.AL hd (sb x hx)
  have xn:x ∉ l:=λ h=>by
   have a:=(hs.iff m e1).mp h
   cases a with
   | refl=>
    rw [hb] at e1;cases e1;rw [hj] at e2;have ej:=(Zj e2).symm;rw [cj ej] at hx;exact pn.not_mem_erase hx
   | up h1 h2 a=>
    rw [e1] at h1;cases h1;rw [e2] at h2;cases h2;exact hn ((hs.iff m hd).mpr a)
  exact ⟨_,by rw [fx,if_neg xn,e1]; rfl,(oh e).trans e2⟩
 ·obtain ⟨d,hd,hn,di,dh,sb,cn,cj⟩:=un c hc
  exact cn
 ·obtain ⟨d,hd,hn,di,_⟩:=un c hc
  obtain ⟨n,h1,h2⟩:=m.ch d (a7 hd);rw [di] at h1;exact ⟨n,chr h1 hn,h2⟩
end
end N11
end
section
namespace N11
open PySem L2
section
variable {P:Program} {w:World} {K:PB} {mg:Str->Px Py} {base:Heap} {t:Adr}
set_option maxHeartbeats 0
def kO (t:Adr):{r:DY // ∀ {P w K mg base},Txt K mg t->GyM P w K mg base 1 t.ah "check" (spY (iQ 2 2 r) K)}:=⟨_,λ T=>oYm ["self","box"] T.kG λ hr nd xp=>
 (b6 (Bg (fE hr.units rfl (aa 1) (bL T.aj T.bq (aa 0))) (b6 (y_raise 0 xp T.xx T.rX)) Bf))⟩
def cX (t:Adr):=iQ 2 2 (kO t).1
def cg (T:Txt K mg t):GyM P w K mg base 1 t.ah "check" (spY (cX t) K):=(kO t).2 T
def jQ (t:Adr):{r:DY // ∀ {P w K mg base},Txt K mg t->Gy P w K mg base 1 "check_place" (spY (iQ 2 2 r) K)}:=⟨_,λ T=>oY ["place","row"] T.jI λ hr nd xp=>
 (b6 (Bg (ba (eU vZ vZ ae (aa 0) (aE fW T.eB (bE (aa 1))))) (b6 (y_raise 2 xp T.xx T.lT)) Bf))⟩
def jP (t:Adr):=iQ 2 2 (jQ t).1
def jw (T:Txt K mg t):Gy P w K mg base 1 "check_place" (spY (jP t) K):=(jQ t).2 T
def kL (t:Adr):{r:DY // ∀ {P w K mg base},Txt K mg t->GyM P w K mg base 2 t.ah "write" (spY (iQ 3 3 r) K)}:=⟨_,λ T=>oYm ["self","box","words"] T.qv λ hr nd xp=>
 (b6 (PSz.y (eA T.aj (cg T) hr xp.pa  (aa 0) (bE (aa 1)))))⟩
def fF (t:Adr):=iQ 3 3 (kL t).1
def pf (T:Txt K mg t):GyM P w K mg base 2 t.ah "write" (spY (fF t) K):=(kL t).2 T
def kN (t:Adr):{r:DY // ∀ {P w K mg base},Txt K mg t->GyM P w K mg base 2 t.ah "dress" (spY (iQ 3 3 r) K)}:=⟨_,λ T=>oYm ["self","box","rows"] T.qx λ hr nd xp=>
 (b6 (PSz.y (eA T.aj (cg T) hr xp.pa  (aa 0) (bE (aa 1)))))⟩
def fG (t:Adr):=iQ 3 3 (kN t).1
def ph (T:Txt K mg t):GyM P w K mg base 2 t.ah "dress" (spY (fG t) K):=(kN t).2 T
def kK (t:Adr):{r:DY // ∀ {P w K mg base},Txt K mg t->Gy P w K mg base 2 "check_name" (spY (iQ 1 1 r) K)}:=⟨_,λ T=>oY ["name"] T.kF λ hr nd xp=>
 (b6 (Bg (ba (bD (ai (pP T) hr (bE (aa 0))))) (b6 (y_raise 3 xp T.xx T.ox)) Bf))⟩
def iw (t:Adr):=iQ 1 1 (kK t).1
def fA (T:Txt K mg t):Gy P w K mg base 2 "check_name" (spY (iw t) K):=(kK t).2 T
def iy (t:Adr):{r:DY // ∀ {P w K mg base},Txt K mg t->GyI P w K mg base 3 t.ah (spY (iQ 2 2 r) K)}:=⟨_,λ T=>oYi ["self","name"] T.ie λ hr nd xp=>
 (b6 (y_call (fA T) hr xp (bE (aa 1))))⟩
def dA (t:Adr):=iQ 2 2 (iy t).1
def lh (T:Txt K mg t):GyI P w K mg base 3 t.ah (spY (dA t) K):=(iy t).2 T
def my (t:Adr):{r:DY // ∀ {P w K mg base},Txt K mg t->GyM P w K mg base 3 t.ah "mark" (spY (iQ 3 3 r) K)}:=⟨_,λ T=>oYm ["self","box","word"] T.sE λ hr nd xp=>
 (eD (bQ (aL T.aj (a9 T) hr (aa 0) (bE (aa 1)))) (PSz.y (eA T.aj (cg T) hr xp.pa  (aa 0) (bE (aa 1))))
 (b6 (y_call (fA T) hr xp (bE (aa 2)))))⟩
def gF (t:Adr):=iQ 3 3 (my t).1
def qW (T:Txt K mg t):GyM P w K mg base 3 t.ah "mark" (spY (gF t) K):=(my t).2 T
def mz (t:Adr):{r:DY // ∀ {P w K mg base},Txt K mg t->GyM P w K mg base 3 t.ah "bare" (spY (iQ 3 3 r) K)}:=⟨_,λ T=>oYm ["self","box","word"] T.sF λ hr nd xp=>
 (eD (bQ (aL T.aj (a9 T) hr (aa 0) (bE (aa 1)))) (PSz.y (eA T.aj (cg T) hr xp.pa  (aa 0) (bE (aa 1))))
 (b6 (y_call (fA T) hr xp (bE (aa 2)))))⟩
def gG (t:Adr):=iQ 3 3 (mz t).1
def qY (T:Txt K mg t):GyM P w K mg base 3 t.ah "bare" (spY (gG t) K):=(mz t).2 T
def nK (t:Adr):{r:DY // ∀ {P w K mg base},Txt K mg t->GyM P w K mg base 4 t.ah "cut" (spY (iQ 5 2 r) K)}:=⟨_,λ T=>oYm ["self","box","gone","one","store"] T.nC λ hr nd xp=>
 (eD (bQ (aL T.aj (a9 T) hr (aa 0) (bE (aa 1)))) (PSz.y (eA T.aj (cg T) hr xp.pa  (aa 0) (bE (aa 1))))
 (b6 (Bg (cA (aa 1) (sV T.p7)) (b6 (y_raise 1 xp T.xx T.k8)) Bf)))⟩
def f9 (t:Adr):=iQ 5 2 (nK t).1
def uN (T:Txt K mg t):GyM P w K mg base 4 t.ah "cut" (spY (f9 t) K):=(nK t).2 T
def nJ (t:Adr):{r:DY // ∀ {P w K mg base},Txt K mg t->GyM P w K mg base 5 t.ah "put" (spY (iQ 5 4 r) K)}:=⟨_,λ T=>oYm ["self","holder","place","name","box"] T.nB λ hr nd xp=>
 (eD (bQ (aL T.aj (a9 T) hr (aa 0) (bE (aa 1)))) (PSz.y (eA T.aj (cg T) hr xp.pa  (aa 0) (bE (aa 1))))
 (eD (bQ (ai (dZ T) hr (cb (aa 2) (bu hr.units (λ _ _=>rfl) (bL T.aj T.aR (aa 0)) (aa 1))))) (y_call (jw T) hr xp (cb (aa 2) (bu hr.units (λ _ _=>rfl) (bL T.aj T.aR (aa 0)) (aa 1))))
 (eD (bQ (ai (gY T) hr (bE (aa 3)))) (y_call (fA T) hr xp (bE (aa 3)))
 (eD (bc (me (bo (aE zg T.eB (bE (bL T.aj T.bq (aa 0)))) ae) (sV T.fC)) (av eX) aN) (Bg (me (bo (aE zg T.eB (bE (bL T.aj T.bq (aa 0)))) ae) (sV T.fC)) (b6 (y_raise 4 xp T.xx T.hU)) Bf)
 (b6 (Bg (me (bo (ai (cS T) hr (cb (aa 0) (aa 1))) ae) (sV T.eJ)) (b6 (y_raise 4 xp T.xx T.hU)) Bf))))))⟩
def ee (t:Adr):=iQ 5 4 (nJ t).1
def uM (T:Txt K mg t):GyM P w K mg base 5 t.ah "put" (spY (ee t) K):=(nJ t).2 T
def mw (t:Adr):{r:DY // ∀ {P w K mg base},Txt K mg t->GyM P w K mg base 5 t.ah "move" (spY (iQ 7 4 r) K)}:=⟨_,λ T=>oYm ["self","box","holder","place","under","row","lowest"] T.l8 λ hr nd xp=>
 (eD (bQ (aL T.aj (a9 T) hr (aa 0) (bE (aa 1)))) (PSz.y (eA T.aj (cg T) hr xp.pa  (aa 0) (bE (aa 1))))
 (eD (bQ (aL T.aj (a9 T) hr (aa 0) (bE (aa 2)))) (PSz.y (eA T.aj (cg T) hr xp.pa  (aa 0) (bE (aa 2))))
 (nO (qT 4 nd (ai (lP T) hr (cb (aa 0) (aa 1))))
 (eD (bc (aU (br (cA (aa 1) (sV T.p7)) (br (cA (aa 2) (aa 1)) (bg (zo (aa 2) (aa 4)))))) (av eX) aN) (Bg (aU (br (cA (aa 1) (sV T.p7)) (br (cA (aa 2) (aa 1)) (bg (zo (aa 2) (aa 4)))))) (b6 (y_raise 1 xp T.xx T.k8)) Bf)
 (nO (kH 5 nd (ckN [("box",1)]) (hi:=iu (bu hr.units (λ _ _=>rfl) (bL T.aj T.aR (aa 0)) (aa 2))) (hcd:=(λ _ _ _ _=>(d5 (aa 0) (aa 1)))) (he:=(λ _ _ _ _=>(aa 0))))
 (eD (bQ (ai (dZ T) hr (cb (aa 3) (aa 5)))) (y_call (jw T) hr xp (cb (aa 3) (aa 5)))
 (nO (qT 6 nd (aE (B3 rfl) T.Fw (bE (bh (ip (ckN [("self",0)]) (iu (bo (bh (bK (bE (aa 1)))) (aa 4))) (λ _ _ _ _=>(ai (cS T) hr (cb (aa 1) (aa 0)))))))))
 (b6 (Bg (me (vV (bo (bo (ai (cS T) hr (cb (aa 0) (aa 2))) ae) (aa 6)) (ai (cS T) hr (cb (aa 0) (aa 1)))) (sV T.eJ)) (b6 (y_raise 4 xp T.xx T.hU)) Bf)))))))))⟩
def eY (t:Adr):=iQ 7 4 (mw t).1
def qV (T:Txt K mg t):GyM P w K mg base 5 t.ah "move" (spY (eY t) K):=(mw t).2 T
end
end N11
end
section
namespace N11
open PySem L2
abbrev exs (t:Adr):My Pz:=[t.dz,t.d6,t.cH,t.dw,t.bU]
noncomputable def kQ (t:Adr) (C:Pz):My Bool:=[C == t.dz,C == t.d6,C == t.cH,C == t.dw,C == t.bU,true]
def yM (t:Adr) (m:Str) (g:DA) (R:Adr->My D->Px Pz):DY:=qZ t.ah m (aI 0) g (R t)
def yK (k:Int):DY->DY->DY:=yIf (dT (dOp oEq (aI 1) (dC (.int k))))
def pI (t:Adr):DY:=yK 0 (yM t "put" (aF (aI 3) (aF (aI 4) (aF (aI 5) cN))) ee) (yK 1 (yM t "cut" (aF (aI 2) cN) f9) (yK 2 (yM t "move" (aF (aI 2) (aF (aI 3) (aF (aI 4) cN))) eY)
 (yK 3 (yM t "mark" (aF (aI 2) (aF (aI 5) cN)) gF) (yK 4 (yM t "bare" (aF (aI 2) (aF (aI 5) cN)) gG) (yK 5 (yM t "write" (aF (aI 2) (aF (Fp (aF (dC (.str "word")) cN)) cN)) fF)
 (yK 6 (yM t "dress" (aF (aI 2) (aF (zP (aF (zP (aF (dC (.str "gap")) (aF (zP (aF (dC (.str "start")) cN)) (aF (dC (.bl true)) cN)))) cN)) cN)) fG) (zQ t.ah (aF (aI 5) cN) (dA t))))))))
def fh (t:Adr) (ds:My D):Px Sl:=(iQ 8 6 (pI t) ds).bind λ C=>if C ∈ exs t then some (.own (.lst ((kQ t C).map .bl))) else none
theorem isi (hz:X.mg "isinstance"=none) (hm:X.mg c=some (.ref C)) (hy:X.N[6]?=some y:=by rfl) (hK:X.K=K:=by rfl) (g1:Gl X "isinstance":=by rfl) (g2:Gl X c:=by rfl) (hd:Dg c:=by decide) (hv:Vis X.env.scope y:=by exact .inl rfl) (d1:Dg y:=by decide) (d2:Dc y:=by decide) (h1:Se X (.Name y p2) [.Name c p3]:=by rfl) (h2:Sb X p4 [.Name c p3]:=by rfl) (h3:Se X (.Name c p3) []:=by rfl):PE X (.Call (.Name "isinstance" p1) [.Name y p2,.Name c p3] [] p4) (λ σ H Q=>∃ (a D:Pz) (b:Bool),σ[6]?=some (some (.ref a))/\H a=some (.ext (uL a D))/\yL K D=true/\PySem.W.kitOne K (.ref D) (.ref C)=some b/\Q (.bl b) H):=
 (k6 (Ht hK) g1 hz (by decide +kernel) (a8 (fU hy hv d1 d2) (a8 (jY g2 hm (show RelV (.ref C) (.ref C) from rfl) hd) du h3) h1) (by decide) (by decide) h1 h2).imp λ σ H Q ⟨a,D,b,e,h⟩=>⟨_,e,_,_,_,_,rfl,.inr ⟨_,rfl⟩,h⟩
section
variable {P:Program} {w:World} {K:PB} {mg:Str->Px Py} {base:Heap} {t:Adr}
set_option maxHeartbeats 0
theorem bV (T:Txt K mg t):Go P w K mg base 6 "_law_said" (spF (fh t) K):=by
 obtain ⟨a0,d0,F,m0,bi⟩:=T.so;have nd:(["_law_tree","_law_deed","_law_box","_law_holder","_law_place","_law_word_here","e","_law_told"]:My Str).Nodup:=by decide +kernel
 have ok:∀ {ds sl},fh t ds=some sl->∃ C,ds.length=6/\pI t (dk 8 ds)=some C/\C ∈ exs t/\sl=.own (.lst ((kQ t C).map .bl)):=λ {ds sl} e=>by
  obtain ⟨C,e1,e2⟩:=Ub e;unfold iQ at e1;split at e1
  · rename_i hl
    split at e2
    · cases e2; exact ⟨C,hl,e1,‹_›,rfl⟩
    · cases e2
  · cases e1
 refine ⟨⟨a0,d0,_,m0,F.kp,bi,F.ok (N:=["_law_tree","_law_deed","_law_box","_law_holder","_law_place","_law_word_here","e","_law_told"]) ⟨rfl,rfl,rfl,by decide +kernel,rfl,by decide +kernel,by decide +kernel⟩ (λ vs H Q E h=>?_) λ cdv A outer s H vs Q E hr h=>?_⟩⟩
 ·obtain ⟨Hs,ds,sl,sm,r,e,_⟩:=h
  obtain ⟨C,hl,_⟩:=ok e;exact r.length.trans hl
 obtain ⟨Hs,ds,sl,sm,r,e,kk⟩:=h;obtain ⟨C,hl,e1,hC,rfl⟩:=ok e;have x:=uo T.xx hC
 obtain ⟨v0,v1,v2,v3,v4,v5,rfl⟩:∃ v0 v1 v2 v3 v4 v5,vs=[v0,v1,v2,v3,v4,v5]:=by
  match vs,r.length.trans hl with
  | [a,b,c,d,e,f],_=>exact ⟨a,b,c,d,e,f,rfl⟩
 refine ⟨_,dm (Gw (tb:=λ EX=>rzS K EX (pI t)) (λ pn E EX hx=>(eu (r:=pI t) (Cb (cA (aa 1) ae) (eu (eA T.aj (uM T) hr hx (aa 0) (oX (aa 3) (aa 4) (aa 5))))
    (eu (Cb (cA (aa 1) ae) (eu (eA T.aj (uN T) hr hx (aa 0) (bE (aa 2))))
    (eu (Cb (cA (aa 1) ae) (eu (eA T.aj (qV T) hr hx (aa 0) (oX (aa 2) (aa 3) (aa 4))))
    (eu (Cb (cA (aa 1) ae) (eu (eA T.aj (qW T) hr hx (aa 0) (cb (aa 2) (aa 5))))
    (eu (Cb (cA (aa 1) ae) (eu (eA T.aj (qY T) hr hx (aa 0) (cb (aa 2) (aa 5))))
    (eu (Cb (cA (aa 1) ae) (eu (eA T.aj (pf T) hr hx (aa 0) (cb (aa 2) (bh (bK (bE cQ))))))
    (eu (Cb (cA (aa 1) ae) (eu (eA T.aj (ph T) hr hx (aa 0) (cb (aa 2) (gD (bE (gD (oX cQ (gD (bE cQ)) bC)))))))
    (eu (Fx (lh T) hr hx T.p6 (bE (aa 5)))))))))))))))))).out)
  (J9 (i:=6) nd rfl rfl rfl T.kB (λ ea=>by
    apply dm
    · exact mK (tP (k6 (vJ (K:=K) rfl) rfl T.be (by decide +kernel) (a8 (pv 6) (a8 (xq (a8 (jY rfl T.kA (show RelV (.ref t.cW) (.ref t.cW) from rfl)) (a8 (jY rfl T.t8 (show RelV (.ref t.iP) (.ref t.iP) from rfl)) (a8 (jY rfl T.t7 (show RelV (.ref t.iO) (.ref t.iO) from rfl)) (a8 (jY rfl T.p8 (show RelV (.ref t.f7) (.ref t.f7) from rfl)) du))))) du)))) (cR tQ) gX
    ·apply dm
     · exact pL (i:=7) nd rfl (Or.inl rfl) (xr (a8 (isi (K:=K) T.be T.rX) (a8 (isi (K:=K) T.be T.k8) (a8 (isi (K:=K) T.be T.lT) (a8 (isi (K:=K) T.be T.ox) du)))))
     ·apply cR
      exact iR (CU xG (pv 7) (xr (a8 (isi (K:=K) T.be T.hU) (a8 (k6 (Ht (K:=K) rfl) rfl T.be (by decide +kernel) (a8 (pv 6) (a8 (xw rfl T.pe (by decide +kernel) (show RelV (.ty "ValueError") (.type "ValueError") from rfl)) du))) du))))) GC) gX rfl rfl) (cR tQ),?_⟩
 refine ⟨H,Hs,dk 8 ds,[],C,?_,sm,e1,λ H1 g ea=>⟨true,x.m,Ef ⟨_,rfl,λ hn=>?_⟩⟩⟩
 ·unfold L2.start dk
  rw [r.length];exact gS _ r
 refine ⟨_,rfl,Zb rfl,λ p hp=>⟨ea,C,p,[t.cW,t.iP,t.iO,t.f7],false,rfl,ay,(by rw [au (dG ay hp)]; exact ay),x.o,x.n,?_⟩⟩;have a0:=aC (o:=.ext (uL ea C)) hn;have a1:=aC (o:=.tup ([t.cW,t.iP,t.iO,t.f7].map V.ref)) hp;have he:=a1 _ _ ay;have i0:=λ d h=>x.i d h
 refine ⟨false,rfl,Eg ?_⟩;refine ⟨ea,C,_,rfl,he,x.o,x.i _ (by simp),ea,C,_,rfl,he,x.o,x.i _ (by simp),ea,C,_,rfl,he,x.o,x.i _ (by simp),ea,C,_,rfl,he,x.o,x.i _ (by simp),Zb rfl,λ p2 h2=>?_⟩;have a2:=aC (o:=.lst [.bl (C == t.dz),.bl (C == t.d6),.bl (C == t.cH),.bl (C == t.dw)]) h2;have he2:=a2 _ _ he;refine ⟨_,rfl,ea,C,_,rfl,he2,x.o,x.i _ (by simp),_,rfl,ea,C,_,_,rfl,.inl ⟨_,rfl⟩,he2,x.o,x.v,Zb rfl,λ p3 h3=>?_⟩;have a3:=aC (o:=.lst [.bl (C == t.bU),.bl true]) h3;refine ⟨p2,p3,_,_,rfl,rfl,a3 _ _ ay,ay,Zb rfl,λ p4 h4=>?_⟩;have g4:=g.trans (a0.trans (a1.trans (a2.trans a3)));have g5:=g4.trans (aC h4 (.lst [.bl (C == t.dz),.bl (C == t.d6),.bl (C == t.cH),.bl (C == t.dw),.bl (C == t.bU),.bl true]));exact kk _ Hs _ ⟨.refl _,sm.trans g5,g5,λ _ h _=>h⟩ ⟨p4,rfl,.lst ay ((sm.trans g4).free h4) (.cons (.bl _) (.cons (.bl _) (.cons (.bl _) (.cons (.bl _) (.cons (.bl _) (.cons (.bl _) .nil)))))),g4.free h4⟩
end
section
variable {τ τ':My Sl} {tt:DT} {a b r1 r2:DY} {d:DS} {C:Pz} {o:Px Pz} {f:DE} {g:DA} {R:My D->Px Pz}
def gP (h:r (dk n ds)=o) (hl:ds.length=m:=by rfl):iQ n m r ds=o:=(if_pos hl).trans h
theorem yI (h:tt τ=some c) (h1:c=true->a τ=o) (h2:c=false->b τ=o):yIf tt a b τ=o:=by
 unfold yIf;rw [h]
 cases c with
 | true=>exact h1 rfl
 | false=>exact h2 rfl
def yT (h:d τ=some (.next τ')) (h2:a τ'=o):yTl d a τ=o:=by unfold yTl; rw [h]; exact h2
def yB1 (h:r1 τ=some C):uO d r1 r2 τ=some C:=by unfold uO; rw [h]
def yB2 (h:r1 τ=none) (h1:d τ=some (.next τ')) (h2:r2 τ'=o):uO d r1 r2 τ=o:=by unfold uO; rw [h]; exact yT h1 h2
def yCl (h:g τ=some ds) (h2:R ds=o):zR g R τ=o:=by unfold zR; rw [h]; exact h2
def yMk (h:g τ=some ds) (h2:R (.obj C []::ds)=o):zQ C g R τ=o:=by unfold zQ; rw [h]; exact h2
theorem yMt (h:f τ=some (.obj C fs)) (h0:fs.lookup m=none) (h1:g τ=some ds) (h2:R (.obj C fs::ds)=o):qZ C m f g R τ=o:=by
 unfold qZ;rw [h];dsimp only;rw [if_pos ⟨rfl,h0⟩,h1];exact h2
end
section
variable {t:Adr} {gv:Int} {M:My B8} {i h p:Int} {w:Str}
theorem N1 (g:B8->D) (M:My B8) (i:Int):jd (.int i) (.dct (kv g M))=some (.bl (!(fd M i).isSome)):=by
 show some (D.bl (!(jv (kv g M) (.inl i)).isSome))=_;rw [mZ];cases fd M i <;> rfl
theorem pj (o:Px Pz) (h1:fd M i=none->o=some t.dz) (h2:∀ b,fd M i=some b->o=none):cX t [trD t.ah gv M,.int i]=o:=by
 refine gP (yI (aP (aH e_v (fV e_v fN) (N1 _ M i))) (λ e=>?_) (λ e=>?_))
 ·cases q:fd M i with
  | none=>exact (h1 q).symm
  | some b=>rw [q] at e; cases e
 ·cases q:fd M i with
  | none=>rw [q] at e; cases e
  | some b=>exact (h2 b q).symm
def xc0 (e:fd M i=none):cX t [trD t.ah gv M,.int i]=some t.dz:=pj _ (λ _=>rfl) λ b q=>by rw [e] at q; cases q
def xc1 (e:fd M i=some b):cX t [trD t.ah gv M,.int i]=none:=pj _ (λ q=>by rw [e] at q; cases q) λ _ _=>rfl
def plB (p:Int) (r:My Int):Bool:=decide (0<=p)&&decide (p<=(r.length:Int))
theorem tf (p:Int) (r:My Int):jP t [.int p,.lst (r.map .int)]=if plB p r=true then none else some t.cH:=by
 refine gP (yI (gQ (b:=plB p r) (aP (gM (aH Ua e_v rfl) (aH e_v (bM (af e_v ar) (mR r)) rfl)))) (λ e=>?_) (λ e=>?_))
 · rw [Bool.not_eq_true'] at e; rw [e]; rfl
 · rw [Bool.not_eq_false'] at e; rw [e]; rfl
theorem v9 (hw:w.length<=100):iw t [.str w]=if bR w=true then none else some t.dw:=by
 refine gP (yI (gQ (aP (cU (af e_v ar) (qg w hw) rfl))) (λ e=>?_) (λ e=>?_))
 · rw [Bool.not_eq_true'] at e; rw [e]; rfl
 · rw [Bool.not_eq_false'] at e; rw [e]; rfl
def Bw (h:plB p r=true):0<=p/\p<=(r.length:Int):=by
 unfold plB at h;rw [Z7] at h;exact ⟨Z3 h.1,Z3 h.2⟩
def HC (i j:Int):oGt (.int i) (.int j)=some (.bl (decide (j < i))):=rfl
def FA (e:fd M h=none):ee t [trD t.ah gv M,.int h,.int p,.str w]=some t.dz:=gP (yB1 (yMt e_v rfl (af e_v ar) (xc0 e)))
theorem Fb (e:fd M h=some b) (hw:w.length<=100) (hM:M.length<=1000) (c:Ch M h dp) (hd:dp < 1000):ee t [trD t.ah gv M,.int h,.int p,.str w]=if plB p b.r=false then some t.cH else if bR w=false then some t.dw else if (90:Int) < M.length+1 then some t.bU else if (12:Int) < dp+1 then some t.bU else none:=by
 refine gP (yB2 (yMt e_v rfl (af e_v ar) (xc1 e)) (gU (bZ e_v (af e_v ar) rfl (cP e) rfl)) ?_)
 cases q:plB p b.r with
 | false=>
  rw [if_pos rfl];exact yB1 (yCl (af e_v (af (aH (fV e_v fB) e_v (cu e)) ar)) ((tf p b.r).trans (by rw [q]; rfl)))
 | true=>
 rw [if_neg (by simp)];obtain ⟨p0,p1⟩:=Bw q;refine yB2 (yCl (af e_v (af (aH (fV e_v fB) e_v (cu e)) ar)) ((tf p b.r).trans (by rw [q]; rfl))) (gU (cU (af e_v (af (aH (fV e_v fB) e_v (cu e)) ar)) (dN p0 p1) rfl)) ?_
 cases qn:bR w with
 | false=>
  rw [if_pos rfl];exact yB1 (yCl (af e_v ar) ((v9 hw).trans (by rw [qn]; rfl)))
 | true=>
 rw [if_neg (by simp)];refine yB2 (yCl (af e_v ar) ((v9 hw).trans (by rw [qn]; rfl))) (gU (cU (af e_v ar) (gB qn) rfl)) ?_
 have len:dT (dOp oGt (dOp kU (kX xN (aF (dUn (AE t.ah "names") (aI 0)) cN)) (dC (.int 1))) (dC (.int 90))) [.shr (trD t.ah gv M),.shr (.int h),.shr (.int p),.shr (.str w),.no]=some (decide ((90:Int) < M.length+1)):=aP (aH (aH (bM (af (fV e_v fN) ar) (BM M)) Ua (aG _ _)) Ua rfl)
 by_cases q1:(90:Int) < M.length+1
 ·rw [if_pos q1]
  rw [Zo q1] at len;exact yB1 (yI len (λ _=>rfl) nofun)
 ·rw [if_neg q1]
  rw [Zl q1] at len;refine yB2 (yI len nofun λ _=>rfl) (wF len nofun λ _=>rfl) ?_
  refine yI (aP (aH (aH (cU (af e_v (af e_v ar)) (fD c hd) rfl) Ua (aG _ _)) Ua rfl)) (λ z=>?_) (λ z=>?_)
  · rw [if_pos (Z3 z)]; rfl
  · rw [if_neg (Yh z)]; rfl
def JJ (e:fd M i=none):f9 t [trD t.ah gv M,.int i]=some t.dz:=gP (yB1 (yMt e_v rfl (af e_v ar) (xc0 e)))
theorem JI (e:fd M 0=some b):f9 t [trD t.ah gv M,.int 0]=some t.d6:=
 gP (yB2 (yMt e_v rfl (af e_v ar) (xc1 e)) (gU (bZ e_v (af e_v ar) rfl (cP e) rfl)) (yI (c:=true) (aP (aH e_v Ua ((bN _ _).trans rfl))) (λ _=>rfl) nofun))
theorem xnm (X:Adr->My D->Px Pz) (hX:X=gF\/X=gG) (hw:w.length<=100):(fd M i=none->X t [trD t.ah gv M,.int i,.str w]=some t.dz)/\∀ b,fd M i=some b->bR w=false->X t [trD t.ah gv M,.int i,.str w]=some t.dw:=by
 rcases hX with rfl | rfl
 · exact ⟨λ e=>gP (yB1 (yMt e_v rfl (af e_v ar) (xc0 e))),λ b e n=>gP (yB2 (yMt e_v rfl (af e_v ar) (xc1 e)) (gU (bZ e_v (af e_v ar) rfl (cP e) rfl)) (yCl (af e_v ar) ((v9 hw).trans (by rw [n]; rfl))))⟩
 · exact ⟨λ e=>gP (yB1 (yMt e_v rfl (af e_v ar) (xc0 e))),λ b e n=>gP (yB2 (yMt e_v rfl (af e_v ar) (xc1 e)) (gU (bZ e_v (af e_v ar) rfl (cP e) rfl)) (yCl (af e_v ar) ((v9 hw).trans (by rw [n]; rfl))))⟩
def xwr (e:fd M i=none):fF t [trD t.ah gv M,.int i,d]=some t.dz:=gP (r:=qZ t.ah "check" (aI 0) (aF (aI 1) cN) (cX t)) (yMt e_v rfl (af e_v ar) (xc0 e))
def xdr (e:fd M i=none):fG t [trD t.ah gv M,.int i,d]=some t.dz:=gP (r:=qZ t.ah "check" (aI 0) (aF (aI 1) cN) (cX t)) (yMt e_v rfl (af e_v ar) (xc0 e))
theorem xin (hw:w.length<=100) (n:bR w=false):dA t [d,.str w]=some t.dw:=gP (r:=zR (aF (aI 1) cN) (iw t)) (yCl (af e_v ar) ((v9 hw).trans (by rw [n]; rfl)))
theorem Bh (e:fd M i=none\/fd M h=none):eY t [trD t.ah gv M,.int i,.int h,.int p]=some t.dz:=by
 cases q:fd M i with
 | none=>exact gP (yB1 (yMt e_v rfl (af e_v ar) (xc0 q)))
 | some b=>
  rcases e with e | e
  · rw [q] at e; cases e
  · exact gP (yB2 (yMt e_v rfl (af e_v ar) (xc1 q)) (gU (bZ e_v (af e_v ar) rfl (cP q) rfl)) (yB1 (yMt e_v rfl (af e_v ar) (xc0 e))))
theorem FE (eb:fd M i=some b) (eq:fd M h=some q) (hs:Sub M b.r l) (hl:l.length<=1000) (hq:q.r.length<=1000) (ci:Ch M i ni) (ch:Ch M h nh) (n12:ni<=12/\nh<=12) (ds:Dps M (i::l) ns) (d12:∀ n ∈ ns,n<=12):eY t [trD t.ah gv M,.int i,.int h,.int p]=if i=0\/h ∈ i::l then some t.d6 else if plB p (q.r.filter λ y=>decide (y≠i))=false then some t.cH else if (12:Int) < nh+1+tpI ns - ni then some t.bU else none:=by
 refine gP (yB2 (yMt e_v rfl (af e_v ar) (xc1 eb)) (gU (bZ e_v (af e_v ar) rfl (cP eb) rfl)) (yB2 (yMt e_v rfl (af e_v ar) (xc1 eq)) (gU (bZ e_v (af e_v ar) rfl (cP eq) rfl)) ?_));refine yT (gT (cU (af e_v (af e_v ar)) (zH eb hs hl) rfl)) ?_
 have rt:∀ {a b:Sl},dOr (dT (dOp oEq (aI 1) (dC (.int 0)))) (dOr (dT (dOp oEq (aI 2) (aI 1))) (dT (dOp Dj (aI 2) (aI 4)))) [.shr (trD t.ah gv M),.shr (.int i),.shr (.int h),.shr (.int p),.shr (.lst (l.map .int)),a,b]=some (decide (i=0\/h ∈ i::l)):=λ {a b}=>by
  refine tm (aP (aH e_v Ua (bN _ _))) (λ z=>?_) (λ z=>?_)
  ·have i0:=Yh z
   refine tm (aP (aH e_v e_v (bN _ _))) (λ z=>?_) (λ z=>?_)
   ·have hi:=Yh z
    refine (aP (aH e_v e_v (ue h l))).trans ?_
    congr 1;rw [Yr,Zh];exact ⟨λ z=>.inr (.inr z),λ z=>z.elim (λ z=>absurd z i0) λ z=>z.elim (λ z=>absurd z hi) id⟩
   · rw [Zo (.inr (by rw [Z3 z]; exact Zd ..))]
  · rw [Zo (.inl (Z3 z))]
 by_cases z:i=0\/h ∈ i::l
 ·rw [if_pos z]
  refine yB1 (yI (c:=true) (rt.trans (by rw [Zo z])) (λ _=>rfl) nofun)
 rw [if_neg z];have rf:=λ {a b:Sl}=>(rt (a:=a) (b:=b)).trans (by rw [Zl z])
 refine yB2 (yI rf nofun λ _=>rfl) (wF rf nofun λ _=>rfl) ?_
 refine yT (gT (sG (yr (aH (fV e_v fB) e_v (cu eq))) (by rw [Zc]; omega) (um (f:=λ y=>decide (y≠i)) λ x _=>aP (aH e_v e_v ((g8 _ _).trans (by rw [decide_not])))))) ?_
 cases qp:plB p (q.r.filter λ y=>decide (y≠i)) with
 | false=>
  rw [if_pos rfl];exact yB1 (yCl (af e_v (af e_v ar)) ((tf p _).trans (by rw [qp]; rfl)))
 | true=>
 rw [if_neg (by simp)];obtain ⟨p0,p1⟩:=Bw qp;refine yB2 (yCl (af e_v (af e_v ar)) ((tf p _).trans (by rw [qp]; rfl))) (gU (cU (af e_v (af e_v ar)) (dN p0 p1) rfl)) ?_
 refine yT (gT (d:=.int (tpI ns)) ?_) ?_
 ·refine bM (af (qz (yr (aH (gA (af e_v ar) (Zb rfl)) e_v ?_)) (by rw [Zc]; show l.length+1<=_; omega) (ds.map (λ x n hx hx12=>cU (af e_v (af e_v ar)) (fD hx (by omega)) rfl) d12)) ar) (BJ (by rw [ds.len]; exact Nat.succ_pos _))
  show (if [D.int i].length+(l.map D.int).length<=100000 then some (D.lst ([D.int i]++l.map .int)) else none)=_;rw [if_pos (by rw [Zc]; show 1+l.length<=_; omega)];rfl
 refine yI (aP (aH (aH (aH (aH (cU (af e_v (af e_v ar)) (fD ch (by omega)) rfl) Ua (aG _ _)) e_v (aG _ _)) (cU (af e_v (af e_v ar)) (fD ci (by omega)) rfl) (gr _ _)) Ua rfl)) (λ z=>?_) (λ z=>?_)
 · rw [if_pos (Z3 z)]; rfl
 · rw [if_neg (Yh z)]; rfl
end
section
variable {τ:My Sl} {f g:DT} {P Q:Prop} [Decidable P] [Decidable Q]
theorem rB (h1:f τ=some (decide P)) (h2:¬P->g τ=some (decide Q)):dOr f g τ=some (decide (P\/Q)):=by
 by_cases p:P
 ·rw [Zo (.inl p)]
  exact tm h1 (λ z=>absurd p (Yh z)) λ _=>rfl
 ·rw [Yr.mpr (or_iff_right p)]
  exact tm h1 (λ _=>h2 p) λ z=>absurd (Z3 z) p
theorem pw (h1:f τ=some (decide P)) (h2:P->g τ=some (decide Q)):B0 f g τ=some (decide (P/\Q)):=by
 by_cases p:P
 ·rw [Yr.mpr (and_iff_right p)]
  exact FP h1 (λ _=>h2 p) λ z=>absurd p (Yh z)
 ·rw [Zl λ z=>p z.1]
  exact FP h1 (λ z=>absurd (Z3 z) p) λ _=>rfl
end
def Hu (j:Int) (l:My Int):Dj (.int j) (.tup (l.map .int))=some (.bl (decide (j ∈ l))):=ue j l
def Gg (h:f τ=some (.ret s)):lD f g τ=some (.ret s):=by unfold lD; rw [h]
theorem D4 (c:Nat):decide (c ∈ LET.cps.toList)=lower c:=by
 have e:LET.cps.toList=List.range' 97 26:=by decide +kernel
 unfold lower;rw [e,<- Bool.decide_and,Yr,List.mem_range'_1];omega
def Dl (c:Nat):jc (.str ⟨#[c]⟩) (.str LET)=some (.bl (!lower c)):=by
 show some (D.bl (!occ LET ⟨#[c]⟩))=_;unfold occ;rw [StrLaws.found_one,D4]
theorem qj (x:Sl):∀ (cs:My Nat) (s:Sl),∃ s',v7 (λ d τ=>(gN 1 d τ).bind (sIf (dT (dOp jc (aI 1) (dC (.str LET)))) (zO (dC (.bl false))) kR)) (cs.map λ c=>.str ⟨#[c]⟩) [x,s]=some (if cs.all lower=true then .next [x,s'] else .ret (.shr (.bl false)))
 | [],s=>⟨s,rfl⟩
 | c::cs,s=>by
  obtain ⟨s',e⟩:=qj x cs (.shr (.str ⟨#[c]⟩));have tq:dT (dOp jc (aI 1) (dC (.str LET))) [x,.shr (.str ⟨#[c]⟩)]=some (!lower c):=aP (Ud rfl (Dl c));refine ⟨s',?_⟩;rw [Zg,Xv,v7];show (match sIf (dT (dOp jc (aI 1) (dC (.str LET)))) (zO (dC (.bl false))) kR [x,.shr (.str ⟨#[c]⟩)] with | some (.next τ')=>_ | some (.cnt τ')=>_ | some (.brk τ')=>_ | r=>r)=_
  cases q:lower c with
  | true=>
   rw [q] at tq;rw [show sIf (dT (dOp jc (aI 1) (dC (.str LET)))) (zO (dC (.bl false))) kR [x,.shr (.str ⟨#[c]⟩)]=some (.next [x,.shr (.str ⟨#[c]⟩)]) from wF tq nofun λ _=>rfl,Bool.true_and];exact e
  | false=>
   rw [q] at tq;rw [show sIf (dT (dOp jc (aI 1) (dC (.str LET)))) (zO (dC (.bl false))) kR [x,.shr (.str ⟨#[c]⟩)]=some (.ret (.shr (.bl false))) from wF tq (λ _=>da Ua) nofun];rfl
theorem El (hw:w.length<=100):jt [.str w]=some (.shr (.bl (bR w))):=by
 obtain ⟨s',e⟩:=qj (.shr (.str w)) w.cps.toList .no
 have hl:tX [.str w]=some (.int (w.length:Int)):=by
  show (if w.length<=100000 then _ else none)=_;rw [if_pos (by omega)]
 unfold bR
 cases q:w.cps.toList.all lower with
 | true=>
  rw [q,if_pos rfl] at e;rw [Bool.and_true];exact fk (dF (Cs (Eh e_v) e) (da (gM (aH Ua (bM (af e_v ar) hl) rfl) (aH (bM (af e_v ar) hl) Ua rfl))))
 | false=>
  rw [q,if_neg nofun] at e;rw [Bool.and_false];refine fk ?_
  exact Gg (Cs (Eh e_v) e)
section
variable {t:Adr} {gv:Int} {M:My B8} {k i h p:Int} {w:Str} {l:My Int} {q:B8}
abbrev lF (M:My B8):D:=.dct (kv (λ b=>.lst (b.r.map .int)) M)
def kT (k i:Int) (r:My Int):My Int:=r.filter λ y=>decide (k=0\/y≠i)
noncomputable def Fn (M:My B8) (l:My Int) (q:B8) (k i h p:Int) (w:Str):Int:=
 if ((1<=k/\k<=6)/\(fd M i).isSome=false)\/((k=0\/k=2)/\(fd M h).isSome=false) then 0 else if (k=1/\i=0)\/(k=2/\(i=0\/h ∈ l)) then 1
 else if (k=0\/k=2)/\plB p (kT k i q.r)=false then 2 else if k ∈ [0,3,4,7]/\bR w=false then 3 else -1
theorem HY (hl:(fd M i).isSome=true->Sub M [i] l/\l.length<=1000) (hq:(fd M h).isSome=true->fd M h=some q/\q.r.length<=1000) (hw:w.length<=100):nM t [lF M,.int k,.int i,.int h,.int p,.str w]=some (.shr (.int (Fn M l q k i h p w))):=by
 have kq:∀ {τ:My Sl} (n:Nat) (a j:Int),τ[n]?=some (.shr (.int a))->dT (dOp oEq (aI n) (dC (.int j))) τ=some (decide (a=j)):=λ n a j e=>aP (aH (aM e) Ua (bN _ _))
 have ni:∀ {τ:My Sl} (n:Nat) (a:Int),τ[0]?=some (.shr (lF M))->τ[n]?=some (.shr (.int a))->dT (dOp jd (aI n) (aI 0)) τ=some (decide ((fd M a).isSome=false)):=λ n a e0 e=>aP ((aH (aM e) (aM e0) (N1 _ M a)).trans (by cases (fd M a).isSome <;> rfl))
 unfold Fn;refine fk (z7 (rB (pw ((aP (gM (aH Ua e_v rfl) (aH e_v Ua rfl))).trans (by rw [<- Bool.decide_and])) λ _=>ni 2 i rfl rfl) λ _=>pw (rB (kq 1 k 0 rfl) λ _=>kq 1 k 2 rfl) λ _=>ni 3 h rfl rfl) (λ z=>?_) λ z=>?_)
 ·rw [if_pos (Z3 z)]
  exact da Ua
 have z:=Yh z;rw [if_neg z]
 have zi:(1<=k/\k<=6)->(fd M i).isSome=true:=λ a=>by
  cases q:(fd M i).isSome with
  | true=>rfl
  | false=>exact absurd (.inl ⟨a,q⟩) z
 have zh:(k=0\/k=2)->(fd M h).isSome=true:=λ a=>by
  cases q:(fd M h).isSome with
  | true=>rfl
  | false=>exact absurd (.inr ⟨a,q⟩) z
 refine z7 (b:=decide ((k=1/\i=0)\/(k=2/\(i=0\/h ∈ l)))) (rB (pw (kq 1 k 1 rfl) λ _=>kq 2 i 0 rfl) λ _=>pw (kq 1 k 2 rfl) λ k2=>rB (kq 2 i 0 rfl) λ _=>?_) (λ z=>?_) λ z=>?_
 ·obtain ⟨s,n⟩:=hl (zi (by omega))
  exact aP (aH e_v (cU (af e_v (af e_v ar)) (nT s n) rfl) (ue h l))
 ·rw [if_pos (Z3 z)]
  exact da Ua
 rw [if_neg (Yh z)]
 have fin:∀ {x:Sl},lD (sIf (B0 (dT (dOp Dj (aI 1) (zP (aF (dC (.int 0)) (aF (dC (.int 3)) (aF (dC (.int 4)) (aF (dC (.int 7)) cN))))))) (A2 (dT (dFn jt (aF (aI 5) cN))))) (zO (dC (.int 3))) kR) (zO (dUn GX (dC (.int 1)))) [.shr (lF M),.shr (.int k),.shr (.int i),.shr (.int h),.shr (.int p),.shr (.str w),x]=some (.ret (.shr (.int (if k ∈ [0,3,4,7]/\bR w=false then 3 else -1)))):=λ {x}=>by
  refine z7 (b:=decide (k ∈ [0,3,4,7]/\bR w=false)) (pw (aP ((aH e_v (qy (af Ua (af Ua (af Ua (af Ua ar)))) (Zb rfl)) (Hu k [0,3,4,7])))) λ _=>(gQ (aP (cU (af e_v ar) (El hw) rfl))).trans (by cases bR w <;> rfl)) (λ z=>?_) λ z=>?_
  ·rw [if_pos (Z3 z)]
   exact da Ua
  ·rw [if_neg (Yh z)]
   exact da (Fm Ua rfl)
 by_cases kk:k=0\/k=2
 ·obtain ⟨eq,nq⟩:=hq (zh kk)
  have tk:∀ {x:Sl},dOr (dT (dOp oEq (aI 1) (dC (.int 0)))) (dT (dOp oEq (aI 1) (dC (.int 2)))) [.shr (lF M),.shr (.int k),.shr (.int i),.shr (.int h),.shr (.int p),.shr (.str w),x]=some true:=λ {x}=>(rB (kq 1 k 0 rfl) λ _=>kq 1 k 2 rfl).trans (by rw [Zo kk])
  have st:vY 6 (md (JA (dOp d3 (aI 0) (aI 3))) (dOr (dT (dOp oEq (aI 1) (dC (.int 0)))) (dT (dOp oNe (aI 0) (aI 2)))) (aI 0) [("_law_deed",1),("_law_box",2)]) [.shr (lF M),.shr (.int k),.shr (.int i),.shr (.int h),.shr (.int p),.shr (.str w),.no]=some (.next [.shr (lF M),.shr (.int k),.shr (.int i),.shr (.int h),.shr (.int p),.shr (.str w),.shr (.lst ((kT k i q.r).map .int))]):=
   gT (sG (yr (aH e_v e_v (cu eq))) (by rw [Zc]; omega) (um λ x _=>rB (kq 1 k 0 rfl) λ _=>(aP (aH e_v e_v (g8 _ _))).trans (by rw [decide_not])))
  have tp:A2 (dT (sL (dOp oLe (dC (.int 0)) (aI 4)) (dOp oLe (aI 4) (kX tX (aF (aI 6) cN))))) [.shr (lF M),.shr (.int k),.shr (.int i),.shr (.int h),.shr (.int p),.shr (.str w),.shr (.lst ((kT k i q.r).map .int))]=some (!plB p (kT k i q.r)):=gQ (aP (gM (aH Ua e_v rfl) (aH e_v (bM (af e_v ar) (mR (kT k i q.r))) rfl)))
  cases qp:plB p (kT k i q.r) with
  | false=>
   rw [if_pos ⟨kk,rfl⟩];rw [qp] at tp;exact tF tk (dF st (wF tp (λ _=>da Ua) nofun))
  | true=>
   rw [if_neg λ z=>nomatch z.2];rw [qp] at tp;exact dF (wF tk (λ _=>dF st (wF tp nofun λ _=>rfl)) nofun) fin
 ·rw [if_neg λ z=>kk z.1]
  exact m5 ((rB (kq 1 k 0 rfl) λ _=>kq 1 k 2 rfl).trans (by rw [Zl kk])) fin
def z6 (t:Adr) (tr:D) (k i h p:Int) (w:Str):Px Pz:=
 if k=0 then ee t [tr,.int h,.int p,.str w] else if k=1 then f9 t [tr,.int i] else if k=2 then eY t [tr,.int i,.int h,.int p] else if k=3 then gF t [tr,.int i,.str w] else if k=4 then gG t [tr,.int i,.str w]
 else if k=5 then fF t [tr,.int i,.lst [.str "word"]] else if k=6 then fG t [tr,.int i,.tup [.tup [.str "gap",.tup [.str "start"],.bl true]]] else dA t [.obj t.ah [],.str w]
theorem Ge:iQ 8 6 (pI t) [trD t.ah gv M,.int k,.int i,.int h,.int p,.str w]=z6 t (trD t.ah gv M) k i h p w:=by
 have key:∀ (j:Int) {a b:DY} {o1 o2:Px Pz},a (dk 8 [trD t.ah gv M,.int k,.int i,.int h,.int p,.str w])=o1->b (dk 8 [trD t.ah gv M,.int k,.int i,.int h,.int p,.str w])=o2->yK j a b (dk 8 [trD t.ah gv M,.int k,.int i,.int h,.int p,.str w])=if k=j then o1 else o2:=λ j a b o1 o2 h1 h2=>by
  refine yI (aP (aH e_v Ua (bN _ _))) (λ z=>?_) λ z=>?_
  · rw [if_pos (Z3 z)]; exact h1
  · rw [if_neg (Yh z)]; exact h2
 have l1:∀ {τ:My Sl},Fp (aF (dC (.str "word")) cN) τ=some (.lst [.str "word"]):=gA (af Ua ar) (Zb rfl)
 have l2:∀ {τ:My Sl},zP (aF (zP (aF (dC (.str "gap")) (aF (zP (aF (dC (.str "start")) cN)) (aF (dC (.bl true)) cN)))) cN) τ=some (.tup [.tup [.str "gap",.tup [.str "start"],.bl true]]):=qy (af (qy (af Ua (af (qy (af Ua ar) (Zb rfl)) (af Ua ar))) (Zb rfl)) ar) (Zb rfl)
 exact gP (key 0 (yMt e_v rfl (af e_v (af e_v (af e_v ar))) rfl) (key 1 (yMt e_v rfl (af e_v ar) rfl) (key 2 (yMt e_v rfl (af e_v (af e_v (af e_v ar))) rfl) (key 3 (yMt e_v rfl (af e_v (af e_v ar)) rfl) (key 4 (yMt e_v rfl (af e_v (af e_v ar)) rfl) (key 5 (yMt e_v rfl (af e_v (af l1 ar)) rfl) (key 6 (yMt e_v rfl (af e_v (af l2 ar)) rfl) (yMk (af e_v ar) rfl))))))))
theorem wC {n:Nat} {C:Pz} (e:z6 t (trD t.ah gv M) k i h p w=some C) (hn:(exs t)[n]?=some C):fh t [trD t.ah gv M,.int k,.int i,.int h,.int p,.str w]=some (.own (.lst ((kQ t C).map .bl))):=by
 unfold fh;rw [Ge,e];exact if_pos (List.mem_of_getElem? hn)
theorem xH (hx:(exs t).Nodup) {n:Nat} {C:Pz} (hn:(exs t)[n]?=some C):jr [.lst ((kQ t C).map .bl),.int n]=some (.shr (.bl true)):=by
 have n5:=(List.getElem?_eq_some_iff.mp hn).1
 have tb:kQ t C=(List.range 6).map λ j=>j == n||j == 5:=by
  simp only [Zw,Zh,Yw,or_false,not_or] at hx;obtain ⟨⟨a1,a2,a3,a4⟩,⟨b1,b2,b3⟩,⟨c1,c2⟩,d1,_⟩:=hx;have ne:∀ {a b:Pz},a≠b->(a == b)=false:=λ h=>Yz.mpr h
  match n,n5 with
  | 0,_=>cases hn; simp [kQ,ne a1,ne a2,ne a3,ne a4]; rfl
  | 1,_=>cases hn; simp [kQ,ne (Ne.symm a1),ne b1,ne b2,ne b3]; rfl
  | 2,_=>cases hn; simp [kQ,ne (Ne.symm a2),ne (Ne.symm b1),ne c1,ne c2]; rfl
  | 3,_=>cases hn; simp [kQ,ne (Ne.symm a3),ne (Ne.symm b2),ne (Ne.symm c1),ne d1]; rfl
  | 4,_=>cases hn; simp [kQ,ne (Ne.symm a4),ne (Ne.symm b3),ne (Ne.symm c2),ne (Ne.symm d1)]; rfl
 have el:∀ k:Int,Ia (dOp oEq (aI 0) (aI 1)) (dOp oEq (aI 0) (dC (.int 5))) [.shr (.int k),.shr (.int n)]=some (.bl (decide (k=n)||decide (k=5))):=λ k=>HW (aH e_v e_v (bN _ _)) (aH e_v Ua (bN _ _))
 have mp:xY (λ d=>Ia (dOp oEq (aI 0) (aI 1)) (dOp oEq (aI 0) (dC (.int 5))) [.shr d,.shr (.int n)]) (nY 0 6)=some ((kQ t C).map .bl):=by
  rw [tb,show nY 0 6=[.int 0,.int 1,.int 2,.int 3,.int 4,.int 5] from rfl]
  match n,n5 with
  | 0,_=>rfl
  | 1,_=>rfl
  | 2,_=>rfl
  | 3,_=>rfl
  | 4,_=>rfl
 refine fk (da (aH e_v (qz (vt (af Ua ar) (by decide)) (by decide) mp) ?_));have ok:okL 9 (.lst ((kQ t C).map .bl))=true:=rfl;exact (if_pos ⟨ok,ok⟩).trans (Yo (λ b=>some (D.bl b)) (rO 9 _ ok).2.2)
def MOk.rl (m:MOk gv M) (e:fd M h=some q):q.r.length<=M.length:=sub_len (m.rnd q (a7 e)) λ y hy=>by
 obtain ⟨d,d1,_⟩:=m.kid q (a7 e) y hy;exact ⟨d,d1⟩
def Sub.ll (m:MOk gv M) (e:fd M i=some b) (hs:Sub M [i] (i::l)):(i::l).length<=M.length:=sub_len (hs.nodup m (.cons nofun .nil)) λ x hx=>hs.in x hx
theorem AY (m:MOk gv M) (hM:M.length<=90) (k0:0<=k) (k7:k<=7) (hl:(fd M i).isSome=true->Sub M [i] l) (hq:(fd M h).isSome=true->fd M h=some q) (hw:w.length<=100) (d0:0<=Fn M l q k i h p w):∃ (n:Nat) (C:Pz),Fn M l q k i h p w=n/\(exs t)[n]?=some C/\z6 t (trD t.ah gv M) k i h p w=some C:=by
 have no:∀ {j:Int},(fd M j).isSome=false->fd M j=none:=λ {j} e=>by simpa using e
 unfold Fn at d0 ⊢;split
 ·rename_i z
  refine ⟨0,_,rfl,rfl,?_⟩;rcases z with ⟨⟨a,b⟩,e⟩ | ⟨a,e⟩
  ·have e:=no e
   have:k=1\/k=2\/k=3\/k=4\/k=5\/k=6:=by omega
   rcases this with rfl | rfl | rfl | rfl | rfl | rfl
   · exact JJ e
   · exact Bh (.inl e)
   · exact (xnm _ (.inl rfl) hw).1 e
   · exact (xnm _ (.inr rfl) hw).1 e
   · exact xwr e
   · exact xdr e
  ·have e:=no e
   rcases a with rfl | rfl
   · exact FA e
   · exact Bh (.inr e)
 rename_i z
 have zi:(1<=k/\k<=6)->∃ b,fd M i=some b:=λ a=>by
  cases e:fd M i with
  | some b=>exact ⟨b,rfl⟩
  | none=>exact absurd (.inl ⟨a,by rw [e]; rfl⟩) z
 have zh:(k=0\/k=2)->fd M h=some q:=λ a=>hq (by
  cases e:fd M h with
  | some b=>rfl
  | none=>exact absurd (.inr ⟨a,by rw [e]; rfl⟩) z)
 have mv:k=2->∃ nh ni ns l',l=i::l'/\z6 t (trD t.ah gv M) k i h p w=if i=0\/h ∈ l then some t.d6 else if plB p (q.r.filter λ y=>decide (y≠i))=false then some t.cH else if (12:Int) < (nh:Nat)+1+tpI ns - (ni:Nat) then some t.bU else none:=λ e2=>by
  obtain ⟨b,eb⟩:=zi (by omega);have eq:=zh (.inr e2);have hs:=hl (by rw [eb]; rfl);obtain ⟨b',l',e1,rfl,hs'⟩:=hs.inv;rw [eb] at e1;cases e1;rw [Zv] at hs';have ll:=Sub.ll m eb hs;obtain ⟨ni,ci,n1⟩:=m.dp eb;obtain ⟨nh,ch,n2⟩:=m.dp eq;obtain ⟨ns,ds⟩:=Dps.ex m λ x hx=>hs.in x hx
  refine ⟨nh,ni,ns,l',rfl,?_⟩;subst e2
  exact FE eb eq hs' (by rw [Zu] at ll; omega) (Z6 (m.rl eq) (by omega)) ci ch ⟨n1,n2⟩ ds λ n hn=>by
   obtain ⟨x,hx,cx⟩:=ds.back n hn;obtain ⟨bx,ex⟩:=hs.in x hx;obtain ⟨n',c',hn'⟩:=m.dp ex;rw [cx.uniq c'];exact hn'
 split
 ·rename_i z1
  refine ⟨1,_,rfl,rfl,?_⟩;rcases z1 with ⟨rfl,rfl⟩ | ⟨a,b⟩
  ·obtain ⟨b,eb⟩:=zi (by omega)
   exact JI eb
  ·obtain ⟨nh,ni,ns,l',rfl,e⟩:=mv a
   rw [e,if_pos b]
 rename_i z1;split
 ·rename_i z2
  refine ⟨2,_,rfl,rfl,?_⟩;rcases z2 with ⟨rfl | rfl,e⟩
  ·have eq:=zh (.inl rfl)
   obtain ⟨dp,c,hd⟩:=m.dp eq;have:kT 0 i q.r=q.r:=by unfold kT; rw [Xu]; intro a _; simp
   rw [this] at e;exact (Fb eq hw (by omega) c (by omega)).trans (if_pos e)
  ·obtain ⟨nh,ni,ns,l',rfl,e'⟩:=mv rfl
   have:kT 2 i q.r=q.r.filter λ y=>decide (y≠i):=by unfold kT; congr 1; funext y; rw [Yr]; simp
   rw [this] at e;rw [e',if_neg (λ b=>z1 (.inr ⟨rfl,b⟩)),if_pos e]
 rename_i z2;split
 ·rename_i z3
  refine ⟨3,_,rfl,rfl,?_⟩;obtain ⟨hk,nw⟩:=z3;simp only [Zh,Yw,or_false] at hk;rcases hk with rfl | rfl | rfl | rfl
  ·have eq:=zh (.inl rfl)
   obtain ⟨dp,c,hd⟩:=m.dp eq;have:kT 0 i q.r=q.r:=by unfold kT; rw [Xu]; intro a _; simp
   have pl:plB p q.r≠false:=λ e=>z2 ⟨.inl rfl,by rw [this]; exact e⟩
   exact (Fb eq hw (by omega) c (by omega)).trans (by rw [if_neg pl,if_pos nw])
  ·obtain ⟨b,eb⟩:=zi (by omega)
   exact (xnm _ (.inl rfl) hw).2 b eb nw
  ·obtain ⟨b,eb⟩:=zi (by omega)
   exact (xnm _ (.inr rfl) hw).2 b eb nw
  · exact xin hw nw
 ·rename_i z3
  rw [if_neg z,if_neg z1,if_neg z2,if_neg z3] at d0;omega
end
section
variable {τ:My Sl} {c:DT} {f g:DS} {b:Bool} (P:Sl->Prop)
theorem rE (h:c τ=some b) (h1:∃ s,P s/\f τ=some (.ret s)) (h2:∃ s,P s/\g τ=some (.ret s)):∃ s,P s/\lD (sIf c f kR) g τ=some (.ret s):=by
 cases b with
 | true=>obtain ⟨s,p,e⟩:=h1; exact ⟨s,p,tF h e⟩
 | false=>obtain ⟨s,p,e⟩:=h2; exact ⟨s,p,m5 h e⟩
def m6 (h:f τ=some (.next τ')) (h1:∃ s,P s/\g τ'=some (.ret s)):∃ s,P s/\lD f g τ=some (.ret s):=by
 obtain ⟨s,p,e⟩:=h1;exact ⟨s,p,dF h e⟩
end
def CK:dOp Iw (dC (.int 10)) (dC (.int 29)) τ=some (.int (10 ^ 29)):=by rfl
theorem ye (e:τ[n]?=some (.shr (lF M))):zd (aI n) τ=some (.lst ((M.map B8.i).map .int)):=by
 unfold zd;rw [aM e];show some (D.lst ((kv _ M).map _))=_;unfold kv;rw [Zy,Zy];rfl
def vf {r n:Int} (h:0 < n):0<=r % n/\r % n < n:=⟨Xy _ (by omega),Xg _ h⟩
theorem t4 {M:My B8} {gv c w:Int} (g0:0 < gv) (hM:M≠[]) (w0:0<=w) (w1:w<=10000):∃ x:Int,jS [lF M,.int gv,.int c,.int w]=some (.shr (.int x)):=by
 obtain ⟨r,er,r0,r1⟩:=j0 c w0 w1;have tq:∀ {τ:My Sl} (j:Int),τ[4]?=some (.shr (.int r))->dT (dOp oEq (dOp oMod (aI 4) (dC (.int 8))) (dC (.int j))) τ=some (decide (r % 8=j)):=λ j e=>aP (aH (aH (aM e) Ua (aQ (by decide))) Ua (bN _ _))
 have dq:∀ {τ:My Sl},τ[4]?=some (.shr (.int r))->dOp oDiv (aI 4) (dC (.int 8)) τ=some (.int (r / 8)):=λ e=>aH (aM e) Ua (dM (by decide) (by decide +kernel))
 have hl:0 < ((M.map B8.i).length:Int):=by rw [Zc]; have:=List.length_pos_iff.mpr hM; omega
 have key:∃ s,(∃ x:Int,s=.shr (.int x))/\gJ.1 (dk 6 [lF M,.int gv,.int c,.int w])=some (.ret s):=by
  refine m6 _ (gT (cU (af e_v (af e_v ar)) er rfl)) (m6 _ (gT (ye rfl)) ?_);refine rE _ (tq 0 rfl) ⟨_,⟨_,rfl⟩,da e_v⟩ (rE _ (tq 1 rfl) ⟨_,⟨_,rfl⟩,da (aH (dq rfl) e_v (aQ g0))⟩ (rE _ (tq 2 rfl) ?_ (rE _ (tq 3 rfl) ⟨_,⟨_,rfl⟩,da Ua⟩ ?_)))
  ·obtain ⟨m0,m1⟩:=vf (n:=3) (by decide)
   obtain ⟨x,_,ex⟩:=qd (ys:=[-1 - c % 10 ^ 29,gv+c % 10 ^ 29,-1]) m0 m1;exact ⟨_,⟨x,rfl⟩,da (aH (gA (af (aH (Fm Ua rfl) (aH e_v CK (aQ (by decide))) (gr _ _)) (af (aH e_v (aH e_v CK (aQ (by decide))) (aG _ _)) (af (Fm Ua rfl) ar))) (Zb rfl)) (aH (dq rfl) Ua (aQ (by decide))) ex)⟩
  ·obtain ⟨m0,m1⟩:=vf (r:=r / 8) hl
   obtain ⟨x,_,ex⟩:=qd m0 m1;exact ⟨_,⟨x,rfl⟩,da (aH e_v (aH (dq rfl) (bM (af e_v ar) (mR _)) (aQ hl)) ex)⟩
 obtain ⟨_,⟨x,rfl⟩,e⟩:=key;exact ⟨x,fk e⟩
def tY (h:x.length+y.length<=100000):kU (.str x) (.str y)=some (.str (x++y)):=if_pos h
def len_app (x y:Str):(x++y).length=x.length+y.length:=by
 show (x.cps++y.cps).size=_;rw [Array.size_append];rfl
theorem EA (h1:f τ=some (.str z)) (h2:l τ=some lo) (h3:u τ=some hi) (h4:z.length<=100000):MF f l u τ=some (.str (Txt.slice z lo hi)):=by
 unfold MF;rw [h1];rw [h2];rw [h3];exact if_pos h4
def ou (h:bR x=true):1<=x.length/\x.length<=8:=by
 unfold bR at h;rw [Z7,Z7,decide_eq_true_eq,decide_eq_true_eq] at h;omega
def Hi (h:x.length<=100000):tX [.str x]=some (.int (x.length:Int)):=if_pos h
theorem O4 (h:x.length<=100000) (h0:0<=j) (h1:j < x.length):∃ z:Str,oIx (.str x) (.int j)=some (.str z)/\z.length=1:=by
 obtain ⟨h',e⟩:=qO h0 (by rw [Xr]; exact h1);refine ⟨⟨#[x.cps.toList[j.toNat]]⟩,?_,rfl⟩;show (if x.length<=100000 then (atI x.cps.toList j).map _ else none)=_;rw [if_pos h,e];rfl
theorem FF {c w:Int} (w0:0<=w) (w1:w<=900):∃ z:Str,mH [.int c,.int w]=some (.shr (.str z))/\z.length<=100:=by
 obtain ⟨r,er,r0,r1⟩:=j0 c w0 (by omega);obtain ⟨z,ez,nz⟩:=pV c (w:=w+1) (by omega) (by omega);obtain ⟨z1,z2⟩:=ou nz;have tq:∀ {τ:My Sl} (a j:Int),0 < a->τ[3]?=some (.shr (.int r))->dT (dOp oEq (dOp oMod (aI 3) (dC (.int a))) (dC (.int j))) τ=some (decide (r % a=j)):=λ a j h e=>aP (aH (aH (aM e) Ua (aQ h)) Ua (bN _ _))
 have key:∃ s,(∃ z:Str,s=.shr (.str z)/\z.length<=100)/\gI.1 (dk 6 [.int c,.int w])=some (.ret s):=by
  unfold gI;dsimp only;refine m6 _ (gT Ua) (m6 _ (gT (cU (af (aM rfl) (af (aM rfl) ar)) er rfl)) (m6 _ (gT (cU (af (aM rfl) (af (Ud rfl (aG _ _)) ar)) ez rfl)) ?_));refine rE _ (tq 4 0 (by decide) rfl) ?_ (rE _ (tq 4 1 (by decide) rfl) ?_ (rE _ (tq 8 2 (by decide) rfl) ⟨_,⟨_,rfl,by decide +kernel⟩,da Ua⟩ ⟨_,⟨_,rfl,by omega⟩,da (aM rfl)⟩))
  ·refine m6 _ (gT (aH (Ud rfl (dM (by decide) (by decide +kernel))) (aH (bM (af (aM rfl) ar) (Hi (by omega))) Ua (aG _ _)) (aQ (by omega)))) ?_
   generalize ho:(" !\"#$&'()*+,-./0123456789:;<=>?@ABCDEFGHIJKLMNOPQRSTUVWXYZ[\\]^_`{|}~\n\t":Str)=o;have lo:o.length=70:=by rw [<- ho]; decide +kernel
   obtain ⟨m0,m1⟩:=vf (n:=(o.length:Int)) (by omega);obtain ⟨y,ey,ly⟩:=O4 (by omega) m0 m1;have l1:=Xq z none (some (r / 4 % (z.length+1)));have l2:=Xq z (some (r / 4 % (z.length+1))) none;refine ⟨_,⟨_,rfl,?_⟩,da (aH (aH (EA (aM rfl) Iu (m8 (aM rfl)) (by omega)) (aH (aM rfl) (aH (Ud rfl (dM (by decide) (by decide +kernel))) (bM (af (aM rfl) ar) (Hi (by omega))) (aQ (by omega))) ey) (tY (by omega))) (EA (aM rfl) (m8 (aM rfl)) Iu (by omega)) (tY (by rw [len_app]; omega)))⟩;rw [len_app,len_app];omega
  ·have em:Dh (.str z) (.int 9)=some (.str (Fg z 9)):=if_pos ⟨⟨z1,by omega⟩,by decide,by decide⟩
   have lr:=tK z 9;have l1:=Xq (Fg z 9) none (some (9+r / 4 % 3));exact ⟨_,⟨_,rfl,by omega⟩,da (EA (Ud rfl em) Iu (m8 (aH Ua (aH (Ud rfl (dM (by decide) (by decide +kernel))) Ua (aQ (by decide))) (aG _ _))) (by omega))⟩
 obtain ⟨_,⟨z,rfl,hz⟩,e⟩:=key;exact ⟨z,fk e,hz⟩
end N11
end
section
namespace N11
open PySem L2 PySem.W PyProof.Rows
section
variable {K:PB} {H:Hp} {σ:My (Px V)}
theorem Gs (st:StR K H H H σ τ []) (e:f τ=some d) (k:∀ v H',cc H H'->Rp K H' v d->Q v H'):rdE K f σ H Q:=
 ⟨H,H,τ,[],d,st,.refl H,e,λ v _ H' g r=>k v H' g.hh (r.same g.sh)⟩
def pH (st:StR K H H H σ τ []) (e:f τ=some d) (k:∀ H',cc H H'->Q d H'):rdT K f σ H Q:=
 ⟨H,H,τ,[],d,st,.refl H,e,λ _ H' g=>k H' g.hh⟩
theorem F9 (r:Rps K H vs ds) (e:F ds=some (.shr d)) (k:∀ v H',cc H H'->Rp K H' v d->Q v H'):spF F K vs H Q E:=
 ⟨H,ds,_,.refl H,r,e,λ v _ H' g q=>k v H' g.hh (Rp.same g.sh (q))⟩
end
abbrev J8:R2:=λ x y H Q=>∃ b c,x=.bl b/\y=.bl c/\Q (.bl (!(b == c))) H
def He:Stmt->My Stmt
 | .For _ _ b _ _=>b
 | _=>[]
def nds:(["_law_tree","_law_rows","_law_facts","_law_box","_law_holder","_law_name_here"]:My Str).Nodup:=by decide +kernel
abbrev F8:My Stmt:=He ((bP (Uc 34)).getD 0 (.Pass ⟨0,0,0,0⟩))
def wu (K:PB) (t:Adr):TS:=
 (FU (Ip (Cm (zV 2) (zV 3)) (NY K 2 (En (oB 4) (En (oB 5) NZ))))
 (FU (Fd (tOr (Cg (tOp J8 (rdE K (ig t.ah "stands" (cz t) (aI 0) (aF (aI 3) cN))) (tC (.bl true)))) (MT (tB (zW (spF dB K) [] E0 (uW (Cj t.ah "boxes_of" (spF (b9 t) K) [] E0 (zV 0) (uW (zV 3) Io)) (uW (Cm (zV 1) (zV 3)) Io))))))
 (Fc (tC (.bl false)))
 wy)
 (FU (Fd (rdT K (dOr (A2 (dT (kX Kw (aF (ig t.ah "name_of" (bY t) (aI 0) (aF (aI 3) cN)) (aF (dC (.ty "str")) cN))))) (dT (dOp oNe (ig t.ah "name_of" (bY t) (aI 0) (aF (aI 3) cN)) (aI 5)))))
 (Fc (tC (.bl false)))
 wy)
 (Fd (rdT K (dT (dOp Kx (aI 4) (dC .non))))
 (Fd (rdT K (dT (dOp mO (ig t.ah "holder_of" (aX t) (aI 0) (aF (aI 3) cN)) (dC .non))))
 (Fc (tC (.bl false)))
 wy)
 (Fd (rdT K (dOr (A2 (dT (dFn fI (aF (ig t.ah "holder_of" (aX t) (aI 0) (aF (aI 3) cN)) cN)))) (dT (dOp oNe (ig t.ah "holder_of" (aX t) (aI 0) (aF (aI 3) cN)) (aI 4)))))
 (Fc (tC (.bl false)))
 wy)))))
def FT (H:Hp) (K:PB) (t:Adr):TS:=
 (FU (FR H (MU (Hw (zV 1)) (oB 3) (wu K t)))
 (Fc (tC (.bl true))))
section
variable {P:Program} {w:World} {K:PB} {mg:Str->Px Py} {base:Heap} {t:Adr} {a0:Pz} {cdv:Py} {A:Around} {outer:My Env} {s:PD} {H:Hp} {E:XK}
abbrev XS (P:Program) (w:World) (K:PB) (mg:Str->Px Py) (base:Heap) (a0:Pz) (cdv:Py) (A:Around) (outer:My Env) (s:PD) (H:Hp) (E:XK):Cx:=(qB CX0 P w K mg base ["_law_tree","_law_rows","_law_facts","_law_box","_law_holder","_law_name_here"] "_law_stood" (aD (Uc 34)) a0 cdv A outer s H E).nox
theorem Al (T:Txt K mg t) (hr:dD 2 (A.deeper (envOfC "_law_stood" (aD (Uc 34)) s.heap.objs.size a0 cdv))):PSs (XS P w K mg base a0 cdv A outer s H E) F8 (wu K t):=by
 obtain ⟨f1,d1,p1,m1,k1,b1,o1⟩:=(lQ T).go;obtain ⟨f2,d2,p2,m2,b2,o2⟩:=(bG (P:=P) (w:=w) (base:=base) T).go
 exact (dm (Gz (oi (ia hr) (pv 2) (pv 3) (λ _ _=>rfl)) (By rfl (og (jb nds rfl (Or.inl rfl)) (og (jb nds rfl (Or.inl rfl)) xo))))
  (dm (mK (PW.pt (pw_or (rH xC (Bx.out (aL T.aj (gq T) hr (aa 0) (bE (aa 3)))) rN (pT _)) (pw_or1 (wY (tP (lL o1 (hr.mono (by decide)) rfl m1 k1 b1 .nil oj (a8 (rM (pv 0) T.aj m2 o2 (hr.mono (by decide)) b2 .nil oj (a8 (pv 3) du)) (a8 (oi (ia hr) (pv 1) (pv 3) (λ _ _=>rfl)) du))))))))
  (cR (iR rN))
  gX)
  (dm (mK (Bx.out (aU (br (ba (bD (aE zj T.be (cb (aL T.aj (iT T) hr (aa 0) (bE (aa 3))) (mq T.Fv))))) (bg (bT (Fh hr.units) (aL T.aj (iT T) hr (aa 0) (bE (aa 3))) (aa 5))))))
  (cR (iR rN))
  gX)
  (cR (mK (Bx.out (bT Kp (aa 4) iN))
  (cR (mK (Bx.out (bT BE (aL T.aj (bA T) hr (aa 0) (bE (aa 3))) iN))
  (cR (iR rN))
  gX))
  (cR (mK (Bx.out (aU (br (ba (bD (ai (gZ T) hr (bE (aL T.aj (bA T) hr (aa 0) (bE (aa 3))))))) (bg (bT (Fh hr.units) (aL T.aj (bA T) hr (aa 0) (bE (aa 3))) (aa 4))))))
  (cR (iR rN))
  gX)))))))
theorem Ak (T:Txt K mg t) (hr:dD 2 (A.deeper (envOfC "_law_stood" (aD (Uc 34)) s.heap.objs.size a0 cdv))):PSs (XS P w K mg base a0 cdv A outer s H E) (bP (Uc 34)) (FT H K t):=
  (dm (w6 (m7 PassesOwn.never rfl (xk (pv 1)) (jb nds rfl (Or.inl rfl))
      (Al T hr)))
      (cR (iR rN)))
end
noncomputable def Me:My Str:=["stands","boxes_of","name_of","holder_of"]
structure St1 (t:Adr) (fs:List (Str×D)) (fa:D) (i:Int) (nm:Str) (hd:D) (r:List Int):Prop where
 len:r.length < 1000
 fact:d3 fa (.int i)=some (.tup [hd,.str nm])
 hol:hd=.non\/∃ j,hd=.int j
 st:cz t [.obj t.ah fs,.int i]=some (.shr (.bl true))
 bx:b9 t [.obj t.ah fs,.int i]=some (.own (.lst (r.map .int)))
 nam:bY t [.obj t.ah fs,.int i]=some (.shr (.str nm))
 hof:aX t [.obj t.ah fs,.int i]=some (.shr hd)
structure MO (t:Adr) (mt mf:Mt) (cs:List (Key×Mt)):Prop where
 ob:∃ fs,frz mt=.obj t.ah fs/\(∀ m ∈ Me,fs.lookup m=none)/\∀ c ∈ cs,∃ i nm hd r,c=(.inl i,lM (r.map .int))/\St1 t fs (frz mf) i nm hd r
open Classical in
def dR (t:Adr) (as:My Sm):Px D:=if ∃ mt cs mf,as=[.mu true mt,.mu true (.n .d cs),.mu true mf]/\MO t mt mf cs then some (.bl true) else none
def zZ {t:Adr} {mt mf:Mt} {cs:My (Key×Mt)} (h:MO t mt mf cs):dR t [.mu true mt,.mu true (.n .d cs),.mu true mf]=some (.bl true):=if_pos ⟨_,_,_,rfl,h⟩
section
variable {K:PB} {t:Adr} {H:Hp} {a dx lr lf al:Pz} {fv:My (Str×V)} {fs:My (Str×D)} {kvs:My (Key×V)} {fa:D} {E:Ends} {i:Int} {nm:Str} {hd:D} {r:My Int} {ob:Obj}
theorem z5 (ht:H a=some (.ins t.ah dx fv)) (rt:Rp K H (.ref a) (.obj t.ah fs)) (rf:RpF K H fv fs) (hm:∀ m ∈ Me,fs.lookup m=none) (rfa:Rp K H (.ref lf) fa) (hr:H lr=some (.frz ob (.dK kvs))) (hv:d8 kvs (.inl i)=some (.ref al)) (hal:H al=some (.lst (r.map .int))) (S:St1 t fs fa i nm hd r)
  (k:∀ H' o4 o5,cc H H'->E.nx [some (.ref a),some (.ref lr),some (.ref lf),some (.int i),o4,o5] H'):wu K t E [some (.ref a),some (.ref lr),some (.ref lf),some (.int i),o4,o5] H:=by
 obtain ⟨kf,df,hf,rk⟩:∃ kf df,Rd H lf (.dK kf)/\RpK K H kf df/\jv df (.inl i)=some (.tup [hd,.str nm]):=by
  have e:=S.fact
  cases rfa with
  | dct h rk=>exact ⟨_,_,.inl h,rk,e⟩
  | dfz h rk=>exact ⟨_,_,h,rk,e⟩
  | _=>cases e
 obtain ⟨rk,ek⟩:=rk;obtain ⟨vq,ev,rq⟩:=(rk.val).1 _ ek
 cases rq with
 | @tup q xs _ hq rx=>
 cases rx with
 | @cons v4 _ _ _ r4 rx=>
 cases rx with
 | @cons v5 _ _ _ r5 rx=>
 cases rx;cases r5;refine ⟨_,rfl,_,rfl,lf,.ref q,rfl,.inl ⟨kf,.inl i,hf,rfl,ev.symm⟩,q,[v4,.str nm],rfl,hq,rfl,_,_,rfl,_,_,rfl,rfl,?_⟩
 have st:∀ {H':Hp},cc H H'->StR K H' H' H' [some (.ref a),some (.ref lr),some (.ref lf),some (.int i),some v4,some (.str nm)] [.shr (.obj t.ah fs),.no,.no,.shr (.int i),.shr hd,.shr (.str nm)] []:=
  λ g=>.shr (rt.same g) (.no (.no (.shr (.int _) (.shr (r4.same g) (.shr (.str _) .nil)))))
 refine Gs (st (.refl H)) (bZ e_v (af e_v ar) (hm "stands" (by decide)) S.st rfl) λ v H1 g1 rv=>?_
 cases rv;refine ⟨true,true,rfl,rfl,false,rfl,vo rfl ?_⟩;refine ⟨_,rfl,a,dx,fv,rfl,g1 _ _ ht,rf.AI (hm "boxes_of" (by decide)),_,rfl,?_⟩;refine ⟨H1,[.obj t.ah fs,.int i],_,.refl H1,.cons (rt.same g1) (.cons (.int _) .nil),S.bx,λ v Hs2 H2 g2 rv=>?_⟩;obtain ⟨x,rfl,ow,hx⟩:=rv;have s2:=g1.trans g2.hh
 cases ow with
 | lst hxx _ rr=>
 refine ⟨_,rfl,_,rfl,lr,.ref al,rfl,.inl ⟨kvs,.inl i,.inr ⟨ob,s2 _ _ hr⟩,rfl,hv.symm⟩,?_⟩;refine F9 (E:=E0) (.cons (.lst hxx (rr.same g2.sh)) (.cons (.lst (s2 _ _ hal) (Rps.ints _)) .nil)) (rD r S.len) λ v H3 g3 rv=>?_
 cases rv;have s3:=s2.trans g3;refine ⟨true,rfl,vo rfl ?_⟩;have en:∀ {τ:My Sl},τ[0]?=some (.shr (.obj t.ah fs))->τ[3]?=some (.shr (.int i))->ig t.ah "name_of" (bY t) (aI 0) (aF (aI 3) cN) τ=some (.str nm):=λ h0 h3=>bZ (aM h0) (af (aM h3) ar) (hm "name_of" (by decide)) S.nam rfl
 have eh:∀ {τ:My Sl},τ[0]?=some (.shr (.obj t.ah fs))->τ[3]?=some (.shr (.int i))->ig t.ah "holder_of" (aX t) (aI 0) (aF (aI 3) cN) τ=some hd:=λ h0 h3=>bZ (aM h0) (af (aM h3) ar) (hm "holder_of" (by decide)) S.hof rfl
 have es:oNe (.str nm) (.str nm)=some (.bl false):=by rw [xM,Zo rfl]; rfl
 refine pH (st s3) (tm (gQ (aP (bM (af (en rfl rfl) (af Ua ar)) rfl))) (λ _=>aP (aH (en rfl rfl) e_v es)) nofun) λ H4 g4=>vo rfl ?_
 have s4:=s3.trans g4;rcases S.hol with hh | ⟨j,hh⟩
 ·subst hh
  refine pH (st s4) (aP (aH e_v Ua rfl)) λ H5 g5=>Mn rfl ?_
  exact pH (st (s4.trans g5)) (aP (aH (eh rfl rfl) Ua rfl)) λ H6 g6=>vo rfl (k H6 _ _ ((s4.trans g5).trans g6))
 ·subst hh
  refine pH (st s4) (aP (aH e_v Ua rfl)) λ H5 g5=>vo rfl ?_
  have ej:oNe (.int j) (.int j)=some (.bl false):=by rw [g8,Zo rfl]; rfl
  exact pH (st (s4.trans g5)) (tm (b:=false) (gQ (b:=true) (aP (cU (af (eh rfl rfl) ar) (nP _) rfl))) (λ _=>aP (aH (eh rfl rfl) e_v ej)) nofun) λ H6 g6=>vo rfl (k H6 _ _ ((s4.trans g5).trans g6))
end
section
variable {P:Program} {w:World} {K:PB} {mg:Str->Px Py} {base:Heap} {t:Adr}
set_option maxHeartbeats 0
theorem pR (T:Txt K mg t):Go P w K mg base 3 "_law_stood" (spP (dR t) K):=by
 obtain ⟨a0,d0,F,m0,bi⟩:=T.qu
 have key:∀ {as:My Sm} {d:D},dR t as=some d->∃ mt cs mf,as=[.mu true mt,.mu true (.n .d cs),.mu true mf]/\MO t mt mf cs/\d=.bl true:=λ {as d} e=>by
  unfold dR at e;split at e
  ·rename_i h
   obtain ⟨mt,cs,mf,h1,h2⟩:=h;exact ⟨mt,cs,mf,h1,h2,(Zj e).symm⟩
  · cases e
 refine ⟨⟨a0,d0,_,m0,F.kp,bi,F.ok (N:=["_law_tree","_law_rows","_law_facts","_law_box","_law_holder","_law_name_here"]) ⟨rfl,rfl,rfl,by decide +kernel,rfl,by decide +kernel,by decide +kernel⟩ (λ vs H Q E h=>?_) λ cdv A outer s H vs Q E hr h=>?_⟩⟩
 ·obtain ⟨Hs,fp,as,d,sm,st,e,_⟩:=h
  obtain ⟨mt,cs,mf,rfl,_⟩:=key e;have:=st.len;rw [Zc] at this;exact this
 obtain ⟨Hs,fp,as,d,sm,st,e,k⟩:=h;obtain ⟨mt,cs,mf,rfl,ok,rfl⟩:=key e;obtain ⟨fs,efs,hm,hall⟩:=ok.ob;refine ⟨_,Ak T hr,?_⟩;have l3:vs.length=3:=by have:=st.len; rw [Zc] at this; exact this
 match vs,l3,st,k with
 | [v1,v2,v3],_,st,k=>
 cases st with
 | @mu _ _ _ _ _ _ _ f1 fr1 od1 p1 z1 j1 st=>
 cases st with
 | @mu _ _ _ _ _ _ _ f2 fr2 od2 p2 z2 j2 st=>
 cases st with
 | @mu _ _ _ _ _ _ _ f3 fr3 od3 p3 z3 j3 st=>
 obtain ⟨a,q1,rfl⟩:=p1 rfl;obtain ⟨lr,q2,rfl⟩:=p2 rfl;obtain ⟨lf,q3,rfl⟩:=p3 rfl;obtain ⟨lr',dx,ts,u,e1,rfl,rfl,hu,hl,nh,ku,nd,rr⟩:=od2.inv;cases e1;rw [vm hl] at hu;refine ⟨_,rfl,lr,ts.map Kd.kv,rfl,hu,λ ob=>?_⟩;have n1:∀ c ∈ f1,c≠lr:=λ c hc e=>j1 c hc (Zk _ (by rw [e]; exact Zd ..))
 have n3:∀ c ∈ f3,c≠lr:=λ c hc e=>j2 lr (Zd ..) (Zk _ (by rw [<- e]; exact hc))
 have n2:∀ c ∈ ts,∀ b ∈ c.fp,b≠lr:=λ c hc b hb e=>(Zw.mp nd).1 (Yk.mpr ⟨c,hc,by rw [<- e]; exact hb⟩)
 generalize hH1:upd H lr (.frz ob (.dK (ts.map Kd.kv)))=H1;have hne:∀ c,c≠lr->H1 c=H c:=λ c h=>by rw [<- hH1,au h]
 have h1d:H1 lr=some (.frz ob (.dK (ts.map Kd.kv))):=by rw [<- hH1]; exact ay
 have sm1:cc Hs H1:=λ c o q=>by rw [hne c λ e=>by rw [e,nh] at q; cases q]; exact sm c o q
 have mv:∀ {fq:My Pz} {v:V} {m:Mt},Od K Hs H fq v m->(∀ c ∈ fq,c≠lr)->Od K Hs H1 fq v m:=λ o n=>o.mv (.refl _) λ c hc=>⟨(o.live c hc).1,hne c (n c hc)⟩
 have rt:Rp K H1 (.ref a) (.obj t.ah fs):=by rw [<- efs]; exact (mv od1 n1).rp sm1
 have rfa:=(mv od3 n3).rp sm1
 obtain ⟨dxa,fv,hta,rfv⟩:∃ dxa fv,H1 a=some (.ins t.ah dxa fv)/\RpF K H1 fv fs:=by
  cases rt with
  | obj h r=>exact ⟨_,_,h,r⟩
 refine ⟨λ i m σ H'=>i+m=ts.length/\cc H1 H'/\∃ o3 o4 o5,σ=[some (.ref a),some (.ref lr),some (.ref lf),o3,o4,o5],⟨ts.length,by omega,.refl _,_,_,_,rfl⟩,?_⟩
 rintro i m σ H2 ⟨hmm,g2,o3,o4,o5,rfl⟩
 have h2d:=g2 _ _ h1d
 by_cases hi:i < ts.length
 ·refine .inr ⟨⟨h2d,by rw [Zc]; exact hi⟩,λ σ' H'=>cc H1 H'/\∃ o3 o4 o5,σ'=[some (.ref a),some (.ref lr),some (.ref lf),o3,o4,o5],λ σ' H' h=>⟨m - 1,by omega,by omega,h.1,h.2⟩,?_⟩
  rintro v H3 ⟨rfl,ky,wv,hk,rfl⟩
  have hb:=List.getElem?_eq_getElem hi;have hc:=Xp hi;generalize ts[i]=c at hb hc;rw [List.getElem?_map,hb] at hk;have ek:=(Prod.mk.inj (Zj hk)).1;obtain ⟨ii,nm,hd,r,ec,S⟩:=hall c.km (Z9 hc);obtain ⟨ec1,ec2⟩:=Prod.mk.inj ec;have ek2:=ek.symm.trans ec1;subst ek2;have odc:=mv (rr c hc) (n2 c hc);have ecm:=ec2;rw [ecm] at odc;have rpc:=odc.rp sm1;rw [qo] at rpc
  obtain ⟨al,eal,hal⟩:∃ al,c.v=.ref al/\H1 al=some (.lst (r.map .int)):=by
   generalize c.v=cv at rpc
   cases rpc with
   | lst h rx=>exact ⟨_,rfl,by rw [h,Rps.h9 rx]⟩
  have hvv:d8 (ts.map Kd.kv) (.inl ii)=some (.ref al):=by
   have:d8 (ts.map Kd.kv) c.k=some c.v:=by
    obtain ⟨l1,l2,rfl⟩:=List.append_of_mem hc;rw [Zp,Zg];refine jU λ y hy e=>?_
    obtain ⟨z,hz,rfl⟩:=Yt.mp hy;have ku':((l1++c::l2).map Kd.k).Nodup:=ku;rw [Zp,Zg,Yc] at ku';exact ku'.2.2 z.k (Z9 hz) c.k (Zd ..) e
   rw [ek,eal] at this;exact this
  exact z5 (g2 _ _ hta) (rt.same g2) (rfv.same g2) hm (rfa.same g2) h2d hvv (g2 _ _ hal) S λ H4 o4 o5 g4=>⟨g2.trans g4,_,_,_,rfl⟩
 ·refine .inl ⟨⟨h2d,by rw [Zc]; omega⟩,lr,ob,ts.map Kd.kv,h2d,(λ o' u' z=>by rw [hu] at z; cases z),?_⟩
  refine k (.bl true) _ (λ c o q=>?_) (.bl true)
  by_cases e:c=lr
  ·subst e
   rw [hu] at q;cases q;exact ay
  ·rw [au e]
   exact g2 _ _ (by rw [hne c e]; exact q)
end
end N11
end
section
namespace N11
open PySem L2
section
variable {P:Program} {w:World} {K:PB} {mg:Str->Px Py} {base:Heap} {t:Adr}
set_option maxHeartbeats 0
def fb (t:Adr):gOM (gFM 7 "_law_refusing" 20 1) t:=⟨_,λ T=>oM ["_law_script","_law_name_here","_law_tree","_law_rows","_law_facts","_law_coming","_law_k","_law_lost","_law_one","_law_cell_here","_law_deed","_law_box","_law_holder","_law_under_here","_law_size","_law_some","_law_place","_law_word_here","_law_due_here","_law_told"] T.l7 λ hr nd=>
 (ag (aB 1 nd (he:=aq (aV (ai (eG T) hr (cb (ai (a5 T) hr (cb (aa 0) ae)) ae))))) (ag (aB 2 nd (he:=mn (eI T) hr T.p6 (ak (aY (aa 1)) aZ))) (ag (aB 3 nd (he:=aq (zB (kc:=.inl 0) xt (qF (bK cO))))) (ag (aB 4 nd (he:=aq (zB (kc:=.inl 0) xt (aV (gD (cb iN (aa 1))))))) (ag (aB 5 nd (he:=aq (aV (bo ae (cB (ai (a5 T) hr (cb (aa 0) ae)) ae))))) (ag (fX (kI T.gR (cb ae (aa 5))) (cJ 6 nd) (aw (aW (zt (zp (ir (m9 T) hr (ak (jL (aA 2)) (ak (jL (aA 3)) (ak (jL (aA 4)) (ak (aY (aa 6)) (ak (aY (ai (a5 T) hr (cb (aa 0) (bo (aa 6) ae)))) (ak (aY (aa 6)) aZ))))))))) (aw (aO (aq (aV bC)))) aK))) (ag (aW (bJ (aU (eT (me (aa 5) ae) (dI (me (cB (b8 (ai (a5 T) hr (cb (aa 0) ae)) ae) ae) ae))))) (ag (aB 7 nd (he:=aq (aV (bo ae (cB (ai (bF T) hr (cb (ai (a5 T) hr (cb (aa 0) ae)) ae)) (vV (aa 5) ae)))))) (ag (mh (jJ (ia hr) (λ _ _=>rfl) (aA 3) (cG (bu hr.units (λ _ _=>rfl) (aa 4) (aa 7)) ae)) (aa 7)) (ag (vN (jM (g7 T) hr (cb (aa 3) (aa 7))) (cJ 8 nd) (aw (zw ⟨rfl,rfl,rfl,rfl⟩ (aA 3) (aa 8)))) (aw (fY (b7 T.aj (nc T) hr (aA 2) (ak (aY (aa 7)) aZ))))))) aK) (ag (fX (vT T.qU (bE (bo (bh (EU (aa 0) (f6 ae) (f6 ae))) (bh (bK (bE (ai (a5 T) hr (cb (aa 0) ae)))))))) (zC (n:=2) (mo (cJ 6 nd) (mo (cJ 9 nd) vU))) (ag (aB 10 nd (he:=aq (aV (cB (ai (bF T) hr (cb (aa 9) (bo ae (aa 6)))) ae)))) (ag (aB 11 nd (he:=aq (iq (ai (jC T) hr (az (aa 3) (oX (aa 5) (aa 9) (bo ae (aa 6)))))))) (ag (aB 12 nd (he:=aq (iq (ai (jC T) hr (az (aa 3) (oX (aa 5) (aa 9) (bo ae (aa 6)))))))) (ag (aW (bJ (aU (eT (zu hr.units rfl (aa 11) (aa 3)) (dI (cA (cB (ai (bF T) hr (cb (aa 9) (bo ae (aa 6)))) ae) ae))))) (ag (aB 13 nd (he:=aq (uE (jM (g7 T) hr (cb (aa 3) (aa 11)))))) (aw (aB 12 nd (he:=aq (aV (cG (aa 13) (cB (ai (bF T) hr (cb (aa 9) (bo ae (aa 6)))) (aE fW T.eB (bE (aa 13)))))))))) aK) (ag (aB 14 nd (he:=aq (iq (aE fW T.eB (bE (zE hr.units (aa 3) (aa 12) (bh (bK cO)))))))) (ag (aB 15 nd (he:=aq (uE (bK (oX (cB (ai (bF T) hr (cb (aa 9) (bo ae (aa 6)))) (bo (aa 14) ae)) (bo (aa 14) ae) (vV (qH ae) (cB (aa 9) (EZ ae ae)))))))) (ag (aB 16 nd (he:=aq (aV (cG (aa 15) (cB (ai (bF T) hr (cb (aa 9) (bo ae (aa 6)))) ae))))) (ag (aB 17 nd (he:=aq (aV (ai (rP T) hr (cb (aa 9) (bo ae (aa 6))))))) (ag (aB 18 nd (he:=aq (iq (ai (ve T) hr (az (aa 3) (az (aa 10) (az (aa 11) (oX (aa 12) (aa 16) (aa 17))))))))) (aw (aW (bJ (Ih (aa 18) ae)) (ag (aB 19 nd (he:=aq (uE (jM (bV T) hr (az (aa 2) (az (aa 10) (az (aa 11) (oX (aa 12) (aa 16) (aa 17))))))))) (aw (aW (bJ (ba (bD (ai (bW T) hr (cb (aa 19) (aa 18)))))) (aw (aO (aq (aV bC)))) aK))) aK)))))))))))) (aw (aO (uF (aq (vQ (pR T) hr (ak (jL (aA 2)) (ak (jL (aA 3)) (ak (jL (aA 4)) aZ))))) (A7 (ir (m9 T) hr (ak (jL (aA 2)) (ak (jL (aA 3)) (ak (jL (aA 4)) (ak (aY (aa 5)) (ak (aY (ai (a5 T) hr (cb (aa 0) ae))) (ak (aY ae) aZ)))))))))))))))))))⟩
def iG (t:Adr):=kS 20 1 (fb t).1
def lR (T:Txt K mg t):Go P w K mg base 7 "_law_refusing" (spM (iG t) K):=(fb t).2 T
def fR (t:Adr):gOM (gFM 7 "_law_deepest" 8 1) t:=⟨_,λ T=>oM ["_law_script","_law_name_here","_law_tree","_law_k","_law_tall","_law_more","_law_goal","_law_coming"] T.mU λ hr nd=>
 (ag (aB 1 nd (he:=aq (aV (ai (eG T) hr (cb (ai (a5 T) hr (cb (aa 0) ae)) ae))))) (ag (aB 2 nd (he:=mn (eI T) hr T.p6 (ak (aY (aa 1)) aZ))) (ag (fX (cV T.gR (bE ae)) (cJ 3 nd) (aw (aW (jK (Fh hr.units) (b7 T.aj (cT T) hr (aA 2) (ak (aY (aa 3)) (ak (aY ae) (ak (aY (aa 1)) aZ)))) (bo (aa 3) ae)) (aw (aO (aq (aV bC)))) aK))) (ag (aW (bJ (aU (br (ba (bD (ai (bW T) hr (cb (ai (bV T) hr (az (aa 2) (az ae (az ae (oX ae ae (aa 1)))))) ae)))) (bg (ba (bD (ai (bW T) hr (cb (ai (bV T) hr (az (aa 2) (az ae (az ae (oX ae ae cQ))))) ae)))))))) (aw (aO (aq (aV bC)))) aK) (ag (aB 4 nd (he:=aq (aV (cB (ai (a5 T) hr (cb (aa 0) ae)) ae)))) (ag (fY (b7 T.aj (cT T) hr (aA 2) (ak (aY ae) (ak (aY ae) (ak (aY (aa 1)) aZ))))) (ag (fX (cV T.gR (bE (aa 4))) (cJ 3 nd) (aw (fY (b7 T.aj (cT T) hr (aA 2) (ak (aY (bo ae (aa 3))) (ak (aY ae) (ak (aY (aa 1)) aZ))))))) (ag (aB 5 nd (he:=aq (aV (sU MJ T.Fy (bE (jN (Pj (aa 4) ae) (iM (E3 (cB (b8 (ai (a5 T) hr (cb (aa 0) ae)) ae) ae) ae)))))))) (ag (aW (bJ (cA (aa 5) ae)) (aw (fY (b7 T.aj (cT T) hr (aA 2) (ak (aY ae) (ak (aY (cB (b8 (ai (a5 T) hr (cb (aa 0) ae)) ae) ae)) (ak (aY (aa 1)) aZ)))))) aK) (ag (aB 6 nd (he:=aq (aV (bo ae (cB (ai (a5 T) hr (cb (aa 0) ae)) ae))))) (ag (aW (bJ (me (bo (bo (aa 6) ae) (aa 4)) ae)) (ag (aW (bJ (ba (bD (ai (bW T) hr (cb (ai (bV T) hr (az (aa 2) (az ae (az ae (oX (aa 6) ae (aa 1)))))) ae))))) (aw (aO (aq (aV bC)))) aK) (ag (aW (bJ (ba (bD (ai (bW T) hr (cb (ai (bV T) hr (az (aa 2) (az ae (az ae (oX (aa 6) ae (aa 1)))))) ae))))) (aw (aO (aq (aV bC)))) aK) (aw (aO (aq (iq (jN (E3 (aL T.aj (bG T) hr (aa 2) (bE ae)) (bh (bK (cb ae ae)))) (jN (E1 ae (aL T.aj (bG T) hr (aa 2) (bE (aa 6)))) (iM (E3 (aL T.aj (bA T) hr (aa 2) (bE ae)) ae)))))))))) aK) (ag (aW (zq (jK xK (b7 T.aj (rS T) hr (aA 2) (ak (aY ae) (ak (aY (aa 6)) (ak (aY ae) aZ)))) bC) (br (d5 (cG (aL T.aj (bG T) hr (aa 2) (bE (aa 6))) ae) ae) (bg (d5 (aL T.aj (bG T) hr (aa 2) (bE ae)) (bh (bK (bE ae))))))) (aw (aO (aq (aV bC)))) aK) (ag (aW (bJ (cA (bo (bo (aa 6) ae) (aa 4)) ae)) (aw (aO (aq (iq (ai (bW T) hr (cb (ai (bV T) hr (az (aa 2) (az ae (az ae (oX (bo ae (aa 4)) ae (aa 1)))))) ae)))))) aK) (ag (aB 7 nd (he:=aq (aV (bo (bo ae (aa 4)) (aa 5))))) (aw (aO (uF (A8 (Ks hr.units) (b7 T.aj (cT T) hr (aA 2) (ak (aY (bo ae (aa 4))) (ak (aY ae) (ak (aY (aa 1)) aZ)))) (aa 7)) (aq (iq (iM (E3 (aL T.aj (bA T) hr (aa 2) (bE (aa 7))) (bo ae (aa 4)))))))))))))))))))))))⟩
def iW (t:Adr):=kS 8 1 (fR t).1
def mM (T:Txt K mg t):Go P w K mg base 7 "_law_deepest" (spM (iW t) K):=(fR t).2 T
def iU (t:Adr):gOM (gFM 7 "_law_fullest" 7 1) t:=⟨_,λ T=>oM ["_law_script","_law_name_here","_law_tree","_law_number_here","_law_holder","_law_gone","_law_k"] T.mT λ hr nd=>
 (ag (aB 1 nd (he:=aq (aV (ai (eG T) hr (cb (ai (a5 T) hr (cb (aa 0) ae)) ae))))) (ag (aB 2 nd (he:=mn (eI T) hr T.p6 (ak (aY (aa 1)) aZ))) (ag (fX (kI T.gR (cb ae ae)) (cJ 3 nd) (aw (aW (jK (Fh hr.units) (b7 T.aj (cT T) hr (aA 2) (ak (aY (b8 (vV (aa 3) ae) ae)) (ak (aY ae) (ak (aY (aa 1)) aZ)))) (aa 3)) (aw (aO (aq (aV bC)))) aK))) (ag (aB 4 nd (he:=aq (aV (cB (ai (a5 T) hr (cb (aa 0) ae)) ae)))) (ag (aW (bJ (ba (bD (ai (bW T) hr (cb (ai (bV T) hr (az (aa 2) (az ae (az ae (oX (aa 4) ae (aa 1)))))) ae))))) (aw (aO (aq (aV bC)))) aK) (ag (aW (bJ (aU (br (ba (bD (ai (bW T) hr (cb (ai (bV T) hr (az (aa 2) (az ae (az ae (oX (aa 4) ae (aa 1)))))) ae)))) (bg (ba (bD (ai (bW T) hr (cb (ai (bV T) hr (az (aa 2) (az ae (az ae (oX ae ae cQ))))) ae)))))))) (aw (aO (aq (aV bC)))) aK) (ag (aB 5 nd (he:=EV (b7 T.aj (nc T) hr (aA 2) (ak (aY (bo ae (cB (ai (a5 T) hr (cb (aa 0) ae)) ae))) aZ)))) (ag (fX (cV T.gR (bE (aE fW T.eB (bE (aa 5))))) (cJ 6 nd) (aw (aW (jK (Fh hr.units) (b7 T.aj (cT T) hr (aA 2) (ak (aY ae) (ak (aY ae) (ak (aY (aa 1)) aZ)))) (bo ae (aa 6))) (aw (aO (aq (aV bC)))) aK))) (ag (aW (bJ (aU (br (bT xK (aL T.aj (gq T) hr (aa 2) (bE (Ph 5))) bC) (bg (bT xK (aL T.aj (gq T) hr (aa 2) (bE (bo ae (aE fW T.eB (bE (aa 5)))))) bC))))) (aw (aO (aq (aV bC)))) aK) (aw (aO (aq (iq (ai (bW T) hr (cb (ai (bV T) hr (az (aa 2) (az ae (az ae (oX ae ae (aa 1)))))) ae)))))))))))))))⟩
def iV (t:Adr):=kS 7 1 (iU t).1
def mL (T:Txt K mg t):Go P w K mg base 7 "_law_fullest" (spM (iV t) K):=(iU t).2 T
def E8 (t:Adr):{G:DSm // ∀ {P w K mg base a d},Txt K mg t->Fun K "law" "law" (Uc 45) a d->gO P w K mg base CX0 8 a d ["_law_script"] (spM (kS 2 1 G) K)}:=⟨_,λ T F=>oLM ["_law_script","_law_draw"] F λ hr nd=>
 (ag (aW (bJ (aU (br (d5 (sV T.fC) ae) (bg (d5 (sV T.eJ) ae))))) (aw (aO (aq (aV bC)))) aK) (ag (aB 1 nd (he:=aq (aV (cB (ai (bF T) hr (cb (ai (a5 T) hr (cb (aa 0) ae)) ae)) ae)))) (ag (aW (bJ (cA (aa 1) ae)) (aw (aO (ir (mM T) hr (ak (aY (aa 0)) aZ)))) aK) (ag (aW (bJ (cA (aa 1) ae)) (aw (aO (ir (mL T) hr (ak (aY (aa 0)) aZ)))) aK) (aw (aO (ir (lR T) hr (ak (aY (aa 0)) aZ))))))))⟩
def Ik (t:Adr):=kS 2 1 (E8 t).1
end
section
variable {t:Adr} {gv:Int} {M:My B8} {h p:Int} {nm:Str} {b:B8}
theorem nA (m:MOk gv M) (hb:fd M h=some b) (x:Int):fd (gf M h b p gv nm) x=if x=gv then some ⟨gv,some h,nm,[]⟩ else (fd M x).map λ c=>if c.i=h then { c with r:=insI b.r p gv } else c:=by
 have ne:gv≠h:=λ e=>by rw [<- e,m.new] at hb; cases hb
 unfold gf;rw [eQ,si m.new];split
 ·show some (if gv=h then _ else _)=_
  rw [if_neg ne]
 · rfl
theorem fM (m:MOk gv M) (hb:fd M h=some b) (hd:fd M x=some d):∃ d',fd (gf M h b p gv nm) x=some d'/\d'.h=d.h/\d'.r=if x=h then insI b.r p gv else d.r:=by
 have ne:x≠gv:=λ e=>by rw [e,m.new] at hd; cases hd
 have ei:=fO hd;refine ⟨_,by rw [nA m hb,if_neg ne,hd]; rfl,?_⟩;dsimp only;rw [ei];split <;> exact ⟨rfl,rfl⟩
def cL (m:MOk gv M) (hb:fd M h=some b):fd (gf M h b p gv nm) gv=some ⟨gv,some h,nm,[]⟩:=by rw [nA m hb,if_pos rfl]
def eE (m:MOk gv M) (hb:fd M h=some b) (c:Ch M x n):Ch (gf M h b p gv nm) x n:=Ch.mono (λ x d hd=>let ⟨d',a,b,_⟩:=fM m hb hd; ⟨d',a,b⟩) c
def ja:(gf M h b p gv nm).length=M.length+1:=by
 unfold gf;rw [gz,Z1];rfl
def MOk.zer (m:MOk gv M):∃ b,fd M 0=some b/\Ch M 0 0:=by
 obtain ⟨b,e,e2⟩:=m.root;exact ⟨b,e,.top e e2⟩
theorem Mg (nm:Str):MOk 1 [⟨0,none,nm,[]⟩]:=by
 refine ⟨?_,λ b hb=>?_,⟨_,rfl,rfl⟩,λ b hb h0=>?_,λ b hb c hc=>?_,λ b hb=>?_,λ b hb=>?_⟩
 ·unfold Nd
  simp
 ·rw [Zr.mp hb]
  exact ⟨Y7 _,by show (0:Int) < 1; omega⟩
 ·rw [Zr.mp hb] at h0
  exact absurd rfl h0
 ·rw [Zr.mp hb] at hc
  exact nomatch hc
 ·rw [Zr.mp hb]
  exact .nil
 ·rw [Zr.mp hb]
  exact ⟨0,.top rfl rfl,by omega⟩
abbrev tau (t:Adr) (s0:Sm) (nm:Str) (gv:Int) (M:My B8) (r:My Sm):My Sm:=s0::.shr (.str nm)::.mu false (trM t.ah gv M)::r
variable {s0:Sm} {r:My Sm}
def gm:aI 2 (bf (tau t s0 nm gv M r))=some (trD t.ah gv M):=rC rfl (qm _ _ _)
theorem Gv (m:MOk gv M) (hb:fd M h=some b) (p0:0<=p) (p1:p<=(b.r.length:Int)) (hn:bR nm=true) (h90:M.length < 90) (ch:Ch M h dp) (h12:dp < 12) (ha:fa (er (tau t s0 nm gv M r))=some (.int h)) (hp:fp (er (tau t s0 nm gv M r))=some (.int p)):eM t.ah "put" (cD t) (de 2) (ck (qN fa) (ck (qN fp) (ck (qN (aI 1)) mX))) (tau t s0 nm gv M r)=some (.shr (.int gv),tau t s0 nm (gv+1) (gf M h b p gv nm) r):=
 v_M cI rfl rfl (bp (q_N ha) (bp (q_N hp) (bp (q_N e_v) rfl))) rfl (Bu m.nd m.new hb p0 p1 (by have:=m.rl hb; omega) hn h90 ch h12) rfl
theorem soE (hx:(exs t).Nodup) {f1 f2 f3 f4 f5:DE} {k i h p:Int} {w:Str} {n:Nat} {C:Pz} (e1:f1 (bf (tau t s0 nm gv M r))=some (.int k)) (e2:f2 (bf (tau t s0 nm gv M r))=some (.int i)) (e3:f3 (bf (tau t s0 nm gv M r))=some (.int h)) (e4:f4 (bf (tau t s0 nm gv M r))=some (.int p)) (e5:f5 (bf (tau t s0 nm gv M r))=some (.str w)) (hn:(exs t)[n]?=some C) (hs:z6 t (trD t.ah gv M) k i h p w=some C):dFn jr (aF (dFn (fh t) (aF (aI 2) (aF f1 (aF f2 (aF f3 (aF f4 (aF f5 cN))))))) (aF (dC (.int n)) cN)) (bf (tau t s0 nm gv M r))=some (.bl true):=
 cU (af (cU (af gm (af e1 (af e2 (af e3 (af e4 (af e5 ar)))))) (wC hs hn) rfl) (af Ua ar)) (xH hx hn) rfl
def Jz (h:f (bf τ)=some (.bl true)) (h2:B τ=some o):tG (tS (A2 (dT f))) A B τ=some o:=dU (t_S (gQ (aP h))) h2
theorem ET {o:D->D->Px D} {f:DEm} {g:DE} {τ τ':My Sm} {a b d:D} (h1:f τ=some (.shr a,τ')) (h2:sca a=true) (h3:g (bf τ')=some b) (h4:o a b=some d) (h5:sca d=true):AX o f g τ=some (.shr d,τ'):=by
 unfold AX;rw [h1];show (if sca a=true then _ else none)=_;rw [if_pos h2,h3];show (o a b).bind _=_;rw [h4];exact if_pos h5
def ne_self (i:Int):oNe (.int i) (.int i)=some (.bl false):=by rw [g8,Zo rfl]; rfl
theorem rG {fa fp g:DE} {dp:Nat} {A:DSm} (m:MOk gv M) (hb:fd M h=some b) (p0:0<=p) (p1:p<=(b.r.length:Int)) (hn:bR nm=true) (h90:M.length < 90) (ch:Ch M h dp) (h12:dp < 12) (ha:fa (er (tau t s0 nm gv M r))=some (.int h)) (hp:fp (er (tau t s0 nm gv M r))=some (.int p)) (hg:g (bf (tau t s0 nm (gv+1) (gf M h b p gv nm) r))=some (.int gv)):tG (tE (AX oNe (eM t.ah "put" (cD t) (de 2) (ck (qN fa) (ck (qN fp) (ck (qN (aI 1)) mX)))) g)) A jB (tau t s0 nm gv M r)=some (.next (tau t s0 nm (gv+1) (gf M h b p gv nm) r)):=
 dU (t_E (ET (Gv m hb p0 p1 hn h90 ch h12 ha hp) rfl hg (ne_self gv) rfl)) rfl
theorem jH {b:D->DSm} {ds:My D} {τ:My Sm} (P:Nat->My Sm->Prop) (h0:P 0 τ) (hs:∀ j d τ,ds[j]?=some d->P j τ->∃ τ2,b d τ=some (.next τ2)/\P (j+1) τ2):∃ τ',L2.forM b ds τ=some (.next τ')/\P ds.length τ':=by
 induction ds generalizing τ P with
 | nil=>exact ⟨τ,rfl,h0⟩
 | cons d ds ih=>
  obtain ⟨τ2,e1,p1⟩:=hs 0 d τ rfl h0;obtain ⟨τ',e2,p2⟩:=ih (λ j=>P (j+1)) p1 λ j d τ hd=>hs (j+1) d τ hd
  refine ⟨τ',?_,p2⟩;unfold L2.forM;rw [e1];exact e2
def Gf:z6 t tr 0 i h p w=ee t [tr,.int h,.int p,.str w]:=if_pos rfl
theorem uh (m:MOk gv M) (hb:fd M h=some b) (hM:M.length=90) (hn:bR nm=true):z6 t (trD t.ah gv M) 0 i h 0 nm=some t.bU:=by
 obtain ⟨n,c,h12⟩:=m.dp hb;have nl:=ou hn;rw [Gf,Fb hb (by omega) (by omega) c (by omega),if_neg (by unfold plB; simp),if_neg (by rw [hn]; exact nofun),if_pos (by omega)]
end
theorem Bs (nd:L.Nodup) (nN:Nd N) (h:∀ x ∈ L,∃ b,fd N x=some b):(rm N L).length+L.length=N.length:=by
 have a:=qb ((rm N L).map B8.i++L) (N.map B8.i) (Yc.mpr ⟨G4 nN L,nd,λ a ha b hb e=>?_⟩) λ x hx=>?_
 ·have b:=qb (N.map B8.i) ((rm N L).map B8.i++L) nN λ x hx=>by
   obtain ⟨c,hc,rfl⟩:=Yt.mp hx
   by_cases z:c.i ∈ L
   · exact Ze _ z
   · exact Zk _ (Z9 (Y4.mpr ⟨hc,Zo z⟩))
  rw [Z1,Zc,Zc] at a b;omega
 ·obtain ⟨c,hc,rfl⟩:=Yt.mp ha
  exact Z3 (Y4.mp hc).2 (by rw [e]; exact hb)
 ·rcases Zi.mp hx with hx | hx
  ·obtain ⟨c,hc,rfl⟩:=Yt.mp hx
   exact Z9 (Y4.mp hc).1
  ·obtain ⟨c,hc⟩:=h x hx
   exact Yt.mpr ⟨c,a7 hc,fO hc⟩
structure FI (n:Nat) (gv:Int) (M:List B8):Prop where
 m:MOk gv M
 g:gv=n+1
 l:M.length=n+1
 a:∀ x:Int,0<=x->x < gv->∃ b,fd M x=some b/\(x≠0->b.h=some ((x - 1) / 3))/\∃ d,Ch M x d/\(2:Int) ^ d<=x+1
theorem HJ (f:FI n gv M) (hn:n < 89):∃ b d,fd M (n / 3)=some b/\Ch M (n / 3) d/\d < 12/\FI (n+1) (gv+1) (gf M (n / 3) b 0 gv nm):=by
 have hg:=f.g;obtain ⟨b,hb,_,d,hc,hd⟩:=f.a (n / 3) (by omega) (by omega)
 have d12:d < 7:=by
  refine Nat.lt_of_not_le λ z=>?_
  have:(2:Int) ^ 7<=2 ^ d:=by exact_mod_cast Nat.pow_le_pow_right (by decide) z
  omega
 refine ⟨b,d,hb,hc,by omega,je f.m hb hc (by omega),by omega,by rw [ja,f.l],λ x x0 x1=>?_⟩
 by_cases e:x=gv
 ·subst e
  refine ⟨_,cL f.m hb,λ _=>by show some _=some _; rw [hg]; congr 2; omega,d+1,.up (cL f.m hb) rfl (eE f.m hb hc),?_⟩;rw [Int.pow_succ];omega
 ·obtain ⟨c,c1,c2,k,c3,c4⟩:=f.a x x0 (by omega)
  obtain ⟨c',e1,e2,_⟩:=fM f.m hb c1;exact ⟨c',e1,λ z=>by rw [e2]; exact c2 z,k,eE f.m hb c3,c4⟩
theorem HI (f:FI n gv M) (hb:fd M x=some b):b.r.length<=3:=by
 have:=qb b.r [3 * x+1,3 * x+2,3 * x+3] (f.m.rnd b (a7 hb)) λ c hc=>by
  obtain ⟨d,d1,d2⟩:=f.m.AL hb hc;have lt:=f.m.lt d (a7 d1);rw [fO d1] at lt;obtain ⟨d',e1,e2,_⟩:=f.a c lt.1 lt.2;rw [d1] at e1;cases e1;have c0:=f.m.h0 d1 d2;have:=e2 c0;rw [d2] at this;have:=Zj this;simp only [Zh,Yw,or_false];omega
 exact this
theorem BQ (h:ga τ=some [.int i,.int j]) (h1:-(2 ^ 62)<=i/\i < 2 ^ 62/\-(2 ^ 62)<=j/\j < 2 ^ 62):yt ga τ=some (nY i (j - i).toNat):=by unfold yt; rw [h]; exact if_pos h1
section
variable {t:Adr}
def pE (h1:it (er τ)=some ds) (h2:L2.forM (λ d τ=>(g d τ).bind b) ds τ=o):Ab it g b τ=o:=by
 unfold Ab;rw [h1];exact h2
theorem N4 {f:DEm} {τ τ':My Sm} {r:My Int} (h:f τ=some (.mu false (lM (r.map .int)),τ')):eFz f τ=some (.shr (.lst (r.map .int)),τ'):=by
 unfold eFz;rw [h];show (if (qS _).all sca=true then some (Sm.shr (.lst (qS _)),τ') else none)=_
 have e:qS ((r.map D.int).map λ d=>((.inl 0:Key),Mt.s d))=r.map .int:=by
  rw [oH,Zy,Zy];exact Z0 λ d _=>Eo _
 rw [e,if_pos (gp r)]
theorem vy (hx:(exs t).Nodup) (ns:My Int):iV t [.shr (scr ns)]=some (.shr (.bl true),[.no]):=by
 obtain ⟨c1,e1⟩:=ij ns (k:=1) (by omega);obtain ⟨c2,e2⟩:=ij ns (k:=2) (by omega);obtain ⟨c3,e3⟩:=ij ns (k:=3) (by omega);obtain ⟨nm,en,hn⟩:=pV c1 (w:=9) (by omega) (by omega)
 obtain ⟨τ1,f1,gv,M,x3,FM,rfl⟩:=jH (b:=λ d τ=>(gNm 3 d τ).bind (tG (tE (AX oNe (eM t.ah "put" (cD t) (de 2) (ck (qN (dOp oDiv (dOp Fi (aI 3) (dC (.int 1))) (dC (.int 3)))) (ck (qN (dC (.int 0))) (ck (qN (aI 1)) mX)))) (aI 3))) (nX (eN (dC (.bl false)))) jB)) (ds:=nY 1 89) (λ j τ=>∃ gv M x3,FI j gv M/\τ=tau t (.shr (scr ns)) nm gv M [x3,.no,.no,.no])
  ⟨_, _,_,⟨Mg nm,rfl,rfl,λ x x0 x1=>by
    have:x=0:=by omega
    subst this
    exact ⟨_,rfl,λ z=>absurd rfl z,0,.top rfl rfl,by decide⟩⟩,rfl⟩ λ j d τ hd ⟨gv,M,x3,FM,eτ⟩=>by
    subst eτ;obtain ⟨rfl,hj⟩:=i9 hd;obtain ⟨b,d,hb,hc,d12,F2⟩:=HJ FM hj;have hg:=FM.g;have hl:=FM.l;refine ⟨_,rG FM.m hb (Y7 _) (by omega) hn (by omega) hc d12 ((aH (Ud rfl (gr _ _)) Ua (dM (by decide) (by decide +kernel))).trans ?_) Ua ((aM rfl).trans ?_),_,_,_,F2,rfl⟩
    ·congr 2
     omega
    ·congr 2
     omega
 rw [iZ] at FM;have hg:=FM.g;have hl:=FM.l;subst hg;have m:=FM.m;obtain ⟨h0,h1⟩:=vf (n:=90) (by decide);obtain ⟨i0,i1⟩:=vf (r:=c3) (n:=89) (by decide);obtain ⟨b,hb,_⟩:=FM.a (c2 % 90) h0 h1;generalize hi:1+c3 % 89=i;obtain ⟨bi,hbi,_⟩:=FM.a i (by omega) (by omega);obtain ⟨j,p,q1,q2,q3⟩:=m.hol bi (a7 hbi) (by rw [fO hbi]; omega);rw [fO hbi] at q3;obtain ⟨l,hs,hs'⟩:=Sub.of m hbi;have nd:=hs.nodup m (.cons nofun .nil);have ll:=Sub.ll m hbi hs;rw [Zu] at ll;have pl:=m.rl q2;have ec:=B1 (t:=t) m hbi (by omega) q1 q2 q3 hs' nd (by omega) (by omega);have m1:=xV m hbi q1 q2 hs
 have ln:=Bs nd (nr m.nd j (p.r.erase i)) λ x hx=>by
  obtain ⟨c,hc⟩:=hs.in x hx;exact ⟨_,by rw [eQ,hc]; rfl⟩
 rw [gz,Zu] at ln;have fi:fd (rm (upR M j (p.r.erase i)) (i::l)) i=none:=by rw [yG,if_pos (Zd ..)]
 generalize rm (upR M j (p.r.erase i)) (i::l)=M1 at ec m1 ln fi
 obtain ⟨τ2,f2,M2,x6,m2,l2,fi2,la2,rfl⟩:=jH (b:=λ d τ=>(gNm 6 d τ).bind (tG (tE (AX oNe (eM t.ah "put" (cD t) (de 2) (ck (qN (dC (.int 0))) (ck (qN (dC (.int 0))) (ck (qN (aI 1)) mX)))) (dOp kU (dC (.int 90)) (aI 6)))) (nX (eN (dC (.bl false)))) jB)) (ds:=nY 0 (l.length+1))
  (λ k τ=>∃ M' x6,MOk (90+k) M'/\M'.length+(l.length+1)=90+k/\fd M' i=none/\(0 < k->∃ b,fd M' (89+k)=some b)/\τ=tau t (.shr (scr ns)) nm (90+k) M' [x3,.shr (.int (c2 % 90)),.shr (.lst ((i::l).map .int)),x6])
  ⟨M1,.no,(by simpa using m1),by omega,fi,λ z=>absurd z (by omega),rfl⟩ λ k d τ hd ⟨M',x6,mm,lm,fm,_,eτ⟩=>by
    subst eτ;obtain ⟨rfl,hk⟩:=i9 hd;obtain ⟨b0,hb0,c0⟩:=mm.zer;refine ⟨_,rG mm hb0 (Y7 _) (by omega) hn (by omega) c0 (by decide) Ua Ua ((aH Ua (aM rfl) (aG _ _)).trans (by rw [Int.zero_add])),_,_,(je mm hb0 c0 (by decide)),by rw [ja]; omega,by rw [nA mm hb0,if_neg (by omega),fm]; rfl,λ _=>⟨_,(by rw [show (89:Int)+((k+1:Nat):Int)=90+k by omega]; exact cL mm hb0)⟩,rfl⟩
 rw [iZ] at m2 l2 la2 f2;have nl:=ou hn;refine (fL (τ:=tau t (.shr (scr ns)) nm (90+((l.length+1:Nat):Int)) M2 [x3,.shr (.int (c2 % 90)),.shr (.lst ((i::l).map .int)),x6]) ?_).trans rfl;refine aS (cf (v_N (cU (af (cU (af (aM rfl) (af Ua ar)) e1 rfl) (af Ua ar)) en rfl)) (Zb rfl) rfl) ?_
 refine aS (cf (v_K (bp (q_N (aM rfl)) rfl) rfl (r9 hn) rfl) (Zb rfl) rfl) ?_
 refine aS (pE (BQ (af Ua (af Ua ar)) (by decide)) f1) ?_
 refine aS (cf (v_N (aH (cU (af (aM rfl) (af Ua ar)) e2 rfl) Ua (aQ (by decide)))) (Zb rfl) rfl) ?_
 refine aS (Jz (soE hx Ua Ua (aM rfl) Ua (aM rfl) rfl (uh m hb hl hn)) rfl) ?_
 refine aS (dU (t_S (tm (gQ (aP (soE hx Ua Ua (aM rfl) Ua (aM rfl) rfl ?_))) (λ _=>gQ (aP (soE hx Ua Ua Ua Ua Ua rfl (Gf.trans (FA m.new))))) nofun)) rfl) ?_
 ·obtain ⟨dp,c,h12⟩:=m.dp hb
  rw [Gf,Fb hb (by omega) (by omega) c (by omega),if_pos];have:=HI FM hb;unfold plB;rw [Zl (show ¬ (4:Int)<=(b.r.length:Int) by omega),Bool.and_false]
 have ei:∀ {τ:My Sl},τ[0]?=some (.shr (scr ns))->dOp kU (dC (.int 1)) (dOp oMod (dFn cw (aF (aI 0) (aF (dC (.int 3)) cN))) (dC (.int 89))) τ=some (.int i):=λ e=>hi ▸ aH Ua (aH (cU (af (aM e) (af Ua ar)) e3 rfl) Ua (aQ (by decide))) (aG _ _)
 refine aS (cf (N4 (v_M cI rfl rfl (bp (q_N (ei rfl)) rfl) rfl ec rfl)) (Zb rfl) rfl) ?_
 have lg:∀ {τ:My Sl},τ[5]?=some (.shr (.lst ((i::l).map .int)))->kX tX (aF (aI 5) cN) τ=some (.int ((l.length+1:Nat):Int)):=λ e=>bM (af (aM e) ar) (mR (i::l))
 refine aS (pE ((vt (af (lg rfl) ar) (by omega)).trans (by rw [Int.toNat_natCast])) f2) ?_
 obtain ⟨bz,hz⟩:=la2 (by omega);refine aS (dU (t_S (tm (aP (aH (bZ gm (af (Ud rfl (Bc (D.int i) (l.map D.int))) ar) rfl (uY fi2) rfl) Ua rfl)) (λ _=>aP (aH (bZ gm (af (aH Ua (lg rfl) (aG _ _)) ar) rfl (pB hz) rfl) Ua rfl)) nofun)) rfl) ?_
 obtain ⟨b0,hb0,_⟩:=m2.zer;exact jE (v_S (soE hx Ua Ua Ua Ua (aM rfl) rfl (uh m2 hb0 (by omega) hn)) rfl)
end
section
variable {gv:Int} {M:My B8} {nm:Str}
structure D1 (n:Nat) (gv:Int) (M:List B8):Prop where
 m:MOk gv M
 g:gv=n+1
 l:M.length=n+1
 a:∀ x:Nat,x<=n->∃ b,fd M x=some b/\Ch M x x/\b.r=(if x=n then [] else [(x:Int)+1])/\(0 < x->b.h=some ((x:Int) - 1))
theorem Ib (d:D1 n gv M) (hn:n < 12):∃ b,fd M n=some b/\b.r=[]/\Ch M n n/\D1 (n+1) (gv+1) (gf M n b 0 gv nm):=by
 obtain ⟨b,hb,hc,hr,_⟩:=d.a n (Zn _);rw [if_pos rfl] at hr;have hg:=d.g;refine ⟨b,hb,hr,hc,je d.m hb hc hn,by omega,by rw [ja,d.l],λ x hx=>?_⟩
 by_cases e:x=n+1
 ·have:(x:Int)=gv:=by omega
  rw [this,if_pos e];refine ⟨_,cL d.m hb,?_,rfl,λ _=>by show some (n:Int)=_; congr 1; omega⟩;rw [e];exact .up (cL d.m hb) rfl (eE d.m hb hc)
 ·obtain ⟨c,c1,c2,c3,c4⟩:=d.a x (by omega)
  obtain ⟨c',e1,e2,e3⟩:=fM (p:=0) (nm:=nm) d.m hb c1;refine ⟨c',e1,eE d.m hb c2,?_,λ z=>by rw [e2]; exact c4 z⟩;rw [e3,if_neg e]
  by_cases z:x=n
  ·rw [if_pos (by omega),hr]
   show [gv]=_;congr 1;omega
  · rw [if_neg (by omega),c3,if_neg z]
noncomputable def loR (x:Nat):My Int:=if x=0 then [1,13] else if x=12 then [] else [(x:Int)+1]
structure Lo (M:List B8):Prop where
 a:∀ x:Nat,x<=12->∃ b,fd M x=some b/\Ch M x x/\b.r=loR x/\(0 < x->b.h=some ((x:Int) - 1))
theorem BL (o:Lo M) (m:MOk gv M) (hb:fd M h=some b) (h13:13<=h):Lo (gf M h b p gv nm):=⟨λ x hx=>by
 obtain ⟨c,c1,c2,c3,c4⟩:=o.a x hx;obtain ⟨c',e1,e2,e3⟩:=fM (p:=p) (nm:=nm) m hb c1;rw [if_neg (by omega)] at e3
 exact ⟨c',e1,eE m hb c2,e3.trans c3,λ z=>e2.trans (c4 z)⟩⟩
structure EI (a:Nat) (gv:Int) (M:List B8):Prop where
 m:MOk gv M
 lo:Lo M
 hi:∀ k:Nat,k<=a->∃ b,fd M (13+k)=some b/\Ch M (13+k) (k+1)/\b.h=some (if k=0 then (0:Int) else 12+(k:Int))/\(k=0->0 < a->1<=b.r.length)
 up:∀ (x:Int) (b:B8),13<=x->fd M x=some b->(∃ n,Ch M x n/\n<=a+1)/\(x≠13->∃ j,b.h=some j/\13<=j)
theorem ei0 (d:D1 12 gv M):∃ b,fd M 0=some b/\b.r.length=1/\EI 0 (gv+1) (gf M 0 b 1 gv nm):=by
 have hg:=d.g;obtain ⟨b,hb,hc,hr,_⟩:=d.a 0 (by omega);refine ⟨b,hb,by rw [hr]; rfl,?_⟩;have m1:=je (p:=1) (nm:=nm) d.m hb hc (by decide);have e13:gv=13:=by omega
 subst e13;refine ⟨m1,⟨λ x hx=>?_⟩,λ k hk=>?_,λ x c hx hc'=>?_⟩
 ·obtain ⟨c,c1,c2,c3,c4⟩:=d.a x hx
  obtain ⟨c',e1,e2,e3⟩:=fM (p:=1) (nm:=nm) d.m hb c1;refine ⟨c',e1,eE d.m hb c2,?_,λ z=>e2.trans (c4 z)⟩;rw [e3];unfold loR
  by_cases z:x=0
  ·rw [if_pos (by omega),if_pos z,hr]
   rfl
  · rw [if_neg (by omega),if_neg z,c3]
 ·have:k=0:=by omega
  subst this;exact ⟨_,cL d.m hb,.up (cL d.m hb) rfl (eE d.m hb hc),rfl,λ _ z=>absurd z (by decide)⟩
 ·have lt:=m1.lt c (a7 hc')
  rw [fO hc'] at lt;have:x=13:=by omega
  subst this;exact ⟨⟨1,.up (cL d.m hb) rfl (eE d.m hb hc),Zn _⟩,λ z=>absurd rfl z⟩
theorem MB (e:EI a gv M) (hg:gv=14+a) (h12:a < 11):∃ b,fd M (13+a)=some b/\Ch M (13+a) (a+1)/\EI (a+1) (gv+1) (gf M (13+a) b 0 gv nm):=by
 obtain ⟨b,hb,hc,hh,_⟩:=e.hi a (Zn _);refine ⟨b,hb,hc,je e.m hb hc (by omega),BL e.lo e.m hb (by omega),λ k hk=>?_,λ x c hx hc'=>?_⟩
 ·by_cases z:k=a+1
  ·have:(13:Int)+k=gv:=by omega
   rw [this];refine ⟨_,cL e.m hb,?_,by rw [if_neg (by omega)]; show some _=some _; congr 1; omega,λ z'=>by omega⟩;rw [z];exact .up (cL e.m hb) rfl (eE e.m hb hc)
  ·obtain ⟨c,c1,c2,c3,c4⟩:=e.hi k (by omega)
   obtain ⟨c',e1,e2,e3⟩:=fM (p:=0) (nm:=nm) e.m hb c1;refine ⟨c',e1,eE e.m hb c2,e2.trans c3,λ k0 _=>?_⟩;rw [e3];split
   · exact Nat.succ_le_succ (Z8 _)
   · exact c4 k0 (by omega)
 ·by_cases z:x=gv
  ·subst z
   rw [cL e.m hb] at hc';cases hc';exact ⟨⟨_,.up (cL e.m hb) rfl (eE e.m hb hc),by omega⟩,λ _=>⟨_,rfl,by omega⟩⟩
  ·cases hd:fd M x with
   | none=>rw [nA e.m hb,if_neg z,hd] at hc'; cases hc'
   | some d=>
    obtain ⟨c',e1,e2,_⟩:=fM (p:=0) (nm:=nm) e.m hb hd;rw [e1] at hc';cases hc';obtain ⟨⟨n,c1,c2⟩,c3⟩:=e.up x d hx hd;exact ⟨⟨n,eE e.m hb c1,by omega⟩,λ z=>by rw [e2]; exact c3 z⟩
theorem Ey (e:EI a gv M) (ha:0 < a) (hg:13<=gv):∃ b,fd M 13=some b/\Ch M 13 1/\1<=b.r.length/\EI a (gv+1) (gf M 13 b p gv nm):=by
 obtain ⟨b,hb,hc,hh,hr⟩:=e.hi 0 (Z8 _)
 replace hb:fd M 13=some b:=hb
 replace hc:Ch M 13 1:=hc
 refine ⟨b,hb,hc,hr rfl ha,je e.m hb hc (by decide),BL e.lo e.m hb (by decide),λ k hk=>?_,λ x c hx hc'=>?_⟩
 ·obtain ⟨c,c1,c2,c3,c4⟩:=e.hi k hk
  obtain ⟨c',e1,e2,e3⟩:=fM (p:=p) (nm:=nm) e.m hb c1;refine ⟨c',e1,eE e.m hb c2,e2.trans c3,λ k0 _=>?_⟩;rw [e3];split
  ·unfold insI
   rw [Z1,Zu];omega
  · exact c4 k0 ha
 ·by_cases z:x=gv
  ·subst z
   rw [cL e.m hb] at hc';cases hc';exact ⟨⟨_,.up (cL e.m hb) rfl (eE e.m hb hc),by omega⟩,λ _=>⟨_,rfl,by omega⟩⟩
  ·cases hd:fd M x with
   | none=>rw [nA e.m hb,if_neg z,hd] at hc'; cases hc'
   | some d=>
    obtain ⟨c',e1,e2,_⟩:=fM (p:=p) (nm:=nm) e.m hb hd;rw [e1] at hc';cases hc';obtain ⟨⟨n,c1,c2⟩,c3⟩:=e.up x d hx hd;exact ⟨⟨n,eE e.m hb c1,c2⟩,λ z=>by rw [e2]; exact c3 z⟩
theorem Ez (e:EI a gv M) (h:Anc M 13 x):0<=x->13<=x:=by
 induction h with
 | refl=>exact λ _=>Y7 _
 | @up x j b h eh c ih=>
  intro x0;refine Int.not_lt.mp λ z=>?_
  obtain ⟨c',e1,_,_,e4⟩:=e.lo.a x.toNat (by omega);rw [Int.toNat_of_nonneg x0] at e1 e4;rw [h] at e1;cases e1;have xp:=e.m.h0 h eh;have:=e4 (by omega);rw [eh] at this;have:=Zj this;have:=ih (by omega);omega
theorem uw (e:EI a gv M):∀ k:Nat,k<=a->Anc M 13 (13+k)
 | 0,_=>.refl
 | k+1,hk=>by
  obtain ⟨b,b1,_,b3,_⟩:=e.hi (k+1) hk;refine .up b1 b3 ?_
  rw [if_neg (by omega)];have:=uw e k (by omega);rw [show (12:Int)+((k+1:Nat):Int)=13+k by omega];exact this
theorem HU (e:EI a gv M) (ha:a < 12) (hM:M.length < 90):∃ b l ns,fd M 13=some b/\b.h=some 0/\Ch M 13 1/\Sub M b.r l/\l.length < 90/\Dps M (13::l) ns/\tpI ns=a+1/\(∀ n ∈ ns,n<=12)/\(∀ g:Int,0<=g->g<=12->g ∉ 13::l)/\∀ x n,Anc M 13 x->Ch M x n->n<=a+1:=by
 obtain ⟨b,hb,hc,hh,_⟩:=e.hi 0 (Z8 _)
 replace hb:fd M 13=some b:=hb
 obtain ⟨l,hs,hs'⟩:=Sub.of e.m hb;have ll:=Sub.ll e.m hb hs;rw [Zu] at ll;obtain ⟨ns,ds⟩:=Dps.ex e.m (l:=13::l) λ x hx=>hs.in x hx
 have up:∀ x n,Anc M 13 x->Ch M x n->n<=a+1:=λ x n an c=>by
  obtain ⟨bx,ex⟩:=c.get;have x0:=(e.m.lt bx (a7 ex)).1;rw [fO ex] at x0;obtain ⟨⟨n',c',h'⟩,_⟩:=e.up x bx (Ez e an x0) ex;rw [c.uniq c'];exact h'
 have mem:∀ x ∈ 13::l,Anc M 13 x:=λ x hx=>by
  obtain ⟨bx,ex⟩:=hs.in x hx;exact (hs.iff e.m ex).mp hx
 have bnd:∀ n ∈ ns,n<=a+1:=λ n hn=>by
  obtain ⟨x,hx,c⟩:=ds.back n hn;exact up x n (mem x hx) c
 refine ⟨b,l,ns,hb,hh,hc,hs',by omega,ds,?_,λ n hn=>by have:=bnd n hn; omega,λ g g0 g12 hg=>?_,up⟩
 ·obtain ⟨n,hn,en⟩:=FN (ns:=ns) (by rw [ds.len]; exact Nat.succ_pos _)
  have h1:=bnd n hn;obtain ⟨bk,k1,k2,_⟩:=e.hi a (Zn _);have h2:=JP (ds.mem (13+a) ((hs.iff e.m k1).mpr (uw e a (Zn _))) _ k2);omega
 ·have:=Ez e (mem g hg) g0
  omega
end
section
variable {t:Adr} {gv:Int} {M:My B8} {nm:Str}
theorem MI {a:Nat} (e:EI a gv M) {g:Nat} (g0:0 < g) (g12:g<=12) (rj rh:My Int):∀ k:Nat,k<=a->Ch (mvB M 13 0 g rj rh) (13+k) (g+1+k):=by
 have nh:∀ c:B8,c.i≠13->(mvF 13 0 g rj rh c).h=c.h:=λ c h=>if_neg h
 have low:∀ x:Nat,x<=12->Ch (mvB M 13 0 g rj rh) x x:=λ x=>by
  induction x with
  | zero=>
   intro _;obtain ⟨r,r1,r2⟩:=e.m.root;exact .top (by rw [vz]; show (fd M 0).map _=_; rw [r1]; rfl) ((nh r (by rw [fO r1]; decide)).trans r2)
  | succ x ih=>
   intro hx;obtain ⟨b,b1,_,_,b4⟩:=e.lo.a (x+1) hx;refine .up (by rw [vz,b1]; rfl) ((nh b (by rw [fO b1]; omega)).trans (by rw [b4 (by omega)]; congr 1; omega)) (ih (by omega))
 intro k
 induction k with
 | zero=>
  intro _;obtain ⟨b,b1,_⟩:=e.hi 0 (Z8 _);exact .up (by rw [vz,b1]; rfl) (if_pos (fO b1)) (low g g12)
 | succ k ih=>
  intro hk;obtain ⟨b,b1,_,b3,_⟩:=e.hi (k+1) hk;refine .up (by rw [vz,b1]; rfl) ((nh b (by rw [fO b1]; omega)).trans (by rw [b3,if_neg (by omega)]; congr 1; omega)) (ih (by omega))
theorem D3 (g0:0 < g):(loR g).length<=1/\(13:Int) ∉ loR g:=by
 unfold loR;rw [if_neg (by omega)];split
 · exact ⟨Z8 _,nofun⟩
 · exact ⟨Zn _,λ z=>by rw [Zr] at z; omega⟩
theorem JS (h:f τ=some (false,τ')) (h2:g (bf τ')=some b):JU f g τ=some (b,τ'):=by
 unfold JU;rw [h];show (if false=true then some (true,τ') else (g (bf τ')).map λ b=>(b,τ'))=_;rw [if_neg nofun,h2];rfl
def Bi (h:f τ=some (.shr (.bl true),τ')) (h2:g τ'=o):EC f g τ=o:=by
 unfold EC;rw [h];exact h2
def zX (h:f τ=some (.ret s τ')):fK f g τ=some (.ret s τ'):=by unfold fK; rw [h]
def nameA:bR "A"=false:=by rfl
def eq_self (i:Int):oEq (.int i) (.int i)=some (.bl true):=by rw [bN,Zo rfl]
theorem vF (hx:(exs t).Nodup) (ns:My Int):iW t [.shr (scr ns)]=some (.shr (.bl true),[.no]):=by
 obtain ⟨c1,e1⟩:=ij ns (k:=1) (by omega);obtain ⟨c2,e2⟩:=ij ns (k:=2) (by omega);obtain ⟨c3,e3⟩:=ij ns (k:=3) (by omega);obtain ⟨nm,en,hn⟩:=pV c1 (w:=9) (by omega) (by omega);have nl:=ou hn
 obtain ⟨τ1,f1,gv1,M1,x3,d1,rfl⟩:=jH (b:=λ d τ=>(gNm 3 d τ).bind (tG (tE (AX oNe (eM t.ah "put" (cD t) (de 2) (ck (qN (aI 3)) (ck (qN (dC (.int 0))) (ck (qN (aI 1)) mX)))) (dOp kU (aI 3) (dC (.int 1))))) (nX (eN (dC (.bl false)))) jB)) (λ j τ=>∃ gv M x3,D1 j gv M/\τ=tau t (.shr (scr ns)) nm gv M [x3,.no,.no,.no,.no])
  ⟨_,_,_,⟨Mg nm,rfl,rfl,λ x hx=>by
    have:x=0:=by omega
    subst this
    exact ⟨_,rfl,.top rfl rfl,rfl,λ z=>absurd z (by decide)⟩⟩,rfl⟩ λ j d τ hd ⟨gv,M,x3,dd,eτ⟩=>by
    subst eτ;obtain ⟨rfl,hj⟩:=i9 hd;obtain ⟨b,hb,hr,hc,d2⟩:=Ib dd hj;have hg:=dd.g;have hl:=dd.l;refine ⟨_,rG dd.m hb (Y7 _) (by omega) hn (by omega) hc hj ((aM rfl).trans (by rw [Int.zero_add])) Ua ((Ud rfl (aG _ _)).trans ?_),_,_,_,d2,rfl⟩;congr 2;omega
 rw [iZ] at d1;have g13:=d1.g;have l13:=d1.l;subst g13;obtain ⟨b12,hb12,hc12,_⟩:=d1.a 12 (Zn _)
 replace hb12:fd M1 12=some b12:=hb12
 replace hc12:Ch M1 12 12:=hc12
 have put12:∀ (w:Str),w.length<=100->z6 t (trD t.ah 13 M1) 0 0 12 0 w=if bR w=false then some t.dw else some t.bU:=λ w hw=>by
  rw [Gf,Fb hb12 hw (by omega) hc12 (by decide),if_neg (by unfold plB; simp)];split
  · rfl
  · rw [if_neg (by omega),if_pos (by decide)]
 obtain ⟨a0,a1⟩:=vf (r:=c2) (n:=12) (by decide);obtain ⟨a,ha⟩:∃ a:Nat,c2 % 12=a:=⟨(c2 % 12).toNat,by omega⟩
 obtain ⟨b0,hb0,lb0,ei⟩:=ei0 (nm:=nm) d1;obtain ⟨_,hc0⟩:=d1.m.zer
 obtain ⟨τ2,f2,gv2,M2,y3,E2,g2,l2,rfl⟩:=jH (b:=λ d τ=>(gNm 3 d τ).bind (lE (eM t.ah "put" (cD t) (de 2) (ck (qN (dOp kU (dC (.int 13)) (aI 3))) (ck (qN (dC (.int 0))) (ck (qN (aI 1)) mX)))))) (ds:=nY 0 a) (λ k τ=>∃ gv M x3,EI k gv M/\gv=14+k/\M.length=14+k/\τ=tau t (.shr (scr ns)) nm gv M [x3,.shr (.int a),.no,.no,.no])
  ⟨_,_,_,ei,rfl,by rw [ja,l13],rfl⟩ λ k d τ hd ⟨gv,M,x3,E,hg,hl,eτ⟩=>by
    subst eτ;obtain ⟨rfl,hk⟩:=i9 hd;obtain ⟨b,hb,hc,E'⟩:=MB (nm:=nm) E hg (by omega);refine ⟨_,p5 (Gv E.m hb (Y7 _) (by omega) hn (by omega) hc (by omega) ((aH Ua (aM rfl) (aG _ _)).trans (by rw [Int.zero_add])) Ua),_,_,_,E',by omega,by rw [ja]; omega,rfl⟩
 rw [iZ] at E2 g2 l2;generalize hmb:(decide ((0:Int) < a)&&decide (c2 / 12 % 2=1))=mb
 obtain ⟨gv,M,E,hg,hl,s8⟩:∃ gv M,EI a gv M/\gv=14+a+(if mb then 1 else 0)/\M.length<=30/\tG (tS (dT (dOp oEq (aI 5) (dC (.int 1))))) (lE (eM t.ah "put" (cD t) (de 2) (ck (qN (dC (.int 13))) (ck (qN (dOp oMod (dOp oDiv (dFn cw (aF (aI 0) (aF (dC (.int 3)) cN))) (dC (.int 12))) (dC (.int 2)))) (ck (qN (aI 1)) mX))))) jB (tau t (.shr (scr ns)) nm gv2 M2 [y3,.shr (.int a),.shr (.int (if mb then 1 else 0)),.no,.no])=some (.next (tau t (.shr (scr ns)) nm gv M [y3,.shr (.int a),.shr (.int (if mb then 1 else 0)),.no,.no])):=by
  cases mb with
  | false=>exact ⟨_,_,E2,by rw [g2]; rfl,by omega,dU (t_S (aP (Ud rfl (bN 0 1)))) rfl⟩
  | true=>
    have pa:0 < a:=by
     rw [Z7] at hmb;have:=Z3 hmb.1;omega
    obtain ⟨p0,p1⟩:=vf (n:=2) (by decide);obtain ⟨b,hb,hc,lb,E'⟩:=Ey (nm:=nm) E2 pa (by omega);exact ⟨_,_,E',by rw [g2]; rfl,by rw [ja]; omega,mP (t_S (aP (Ud rfl (eq_self 1)))) (p5 (Gv E2.m hb p0 (by omega) hn (by omega) hc (by decide) Ua (aH (aH (cU (af (aM rfl) (af Ua ar)) e3 rfl) Ua (dM (by decide) (by decide +kernel))) Ua (aQ (by decide)))))⟩
 obtain ⟨i0,i1⟩:=vf (r:=c3) (n:=12) (by decide);obtain ⟨g,hgg⟩:∃ g:Nat,1+c3 % 12=g:=⟨(1+c3 % 12).toNat,by omega⟩
 obtain ⟨q,hq,hcg,hqr,_⟩:=E.lo.a g (by omega);obtain ⟨lq,nq⟩:=D3 (g:=g) (by omega);rw [<- hqr] at lq nq;obtain ⟨b,l,nn,hb,hbh,hcb,hs,ll,ds,tp,n12,out,dpt⟩:=HU E (by omega) (by omega);obtain ⟨r0,hr0,_,hrr,_⟩:=E.lo.a 0 (by omega)
 replace hr0:fd M 0=some r0:=hr0
 replace hrr:r0.r=[1,13]:=hrr
 have fq:(q.r.filter λ y=>decide (y≠13))=q.r:=Xu.mpr λ y hy=>Zo λ z=>nq (z ▸ hy)
 have mvX:∀ (p:Int) (w:Str),z6 t (trD t.ah gv M) 2 13 g p w=if plB p q.r=false then some t.cH else if (12:Int) < g+1+(a+1) - 1 then some t.bU else none:=λ p w=>by
  have:=FE (t:=t) (gv:=gv) (p:=p) hb hq hs (by omega) (by omega) hcb hcg ⟨by decide,by omega⟩ ds n12;rw [if_neg (λ z=>z.elim (by decide) (out g (by omega) (by omega))),fq,tp] at this;exact this
 have ta:∀ {τ:My Sm},τ=tau t (.shr (scr ns)) nm gv M [y3,.shr (.int a),.shr (.int (if mb then 1 else 0)),.shr (.int g),.no]->dOp kU (dOp kU (aI 6) (dC (.int 1))) (aI 4) (bf τ)=some (.int ((g:Int)+1+a)):=λ e=>by
  subst e;exact aH (Ud rfl (aG _ _)) (aM rfl) (aG _ _)
 have go:∃ x2 xs,(fR t).1 ([Sm.shr (scr ns)]++List.replicate (8 - [Sm.shr (scr ns)].length) .no)=some (.ret (.shr (.bl true)) (.shr (scr ns)::x2::xs)):=by
  have seq:∀ {f h:DSm} {τ τ':My Sm},f τ=some (.next τ')->(∃ x2 xs,h τ'=some (.ret (.shr (.bl true)) (.shr (scr ns)::x2::xs)))->∃ x2 xs,fK f h τ=some (.ret (.shr (.bl true)) (.shr (scr ns)::x2::xs)):=λ h1 ⟨x2,xs,h2⟩=>⟨x2,xs,aS h1 h2⟩
  refine seq (cf (v_N (cU (af (cU (af (aM rfl) (af Ua ar)) e1 rfl) (af Ua ar)) en rfl)) (Zb rfl) rfl) ?_
  refine seq (cf (v_K (bp (q_N (aM rfl)) rfl) rfl (r9 hn) rfl) (Zb rfl) rfl) ?_
  refine seq (pE (vt (af Ua ar) (by decide)) f1) ?_
  refine seq (dU (t_S (tm (gQ (aP (soE hx Ua Ua Ua Ua (aM rfl) rfl ((put12 nm (by omega)).trans (by rw [hn]; rfl))))) (λ _=>gQ (aP (soE hx Ua Ua Ua Ua Ua rfl ((put12 "A" (by decide +kernel)).trans (by rw [nameA]; rfl))))) nofun)) rfl) ?_
  refine seq (τ':=tau t (.shr (scr ns)) nm 13 M1 [x3,.shr (.int a),.no,.no,.no]) ((cf (v_N (aH (cU (af (aM rfl) (af Ua ar)) e2 rfl) Ua (aQ (by decide)))) (Zb rfl) rfl).trans (by rw [ha]; rfl)) ?_
  refine seq (p5 (Gv d1.m hb0 (by decide) (by rw [lb0]; decide) hn (by omega) hc0.2 (by decide) Ua Ua)) ?_
  refine seq (pE ((vt (af (aM rfl) ar) (by omega)).trans (by rw [Int.toNat_natCast])) f2) ?_
  refine seq (τ':=tau t (.shr (scr ns)) nm gv2 M2 [y3,.shr (.int a),.shr (.int (if mb then 1 else 0)),.no,.no]) ((cf (v_N (bM (af (gM (Ud rfl rfl) (aH (aH (aH (cU (af (aM rfl) (af Ua ar)) e2 rfl) Ua (dM (by decide) (by decide +kernel))) Ua (aQ (by decide))) Ua (bN _ _))) ar) rfl)) (Zb rfl) rfl).trans (by rw [hmb]; rfl)) ?_
  refine seq s8 ?_
  refine seq (τ':=tau t (.shr (scr ns)) nm gv M [y3,.shr (.int a),.shr (.int (if mb then 1 else 0)),.shr (.int g),.no]) ((cf (v_N (aH Ua (aH (cU (af (aM rfl) (af Ua ar)) e3 rfl) Ua (aQ (by decide))) (aG _ _))) (Zb rfl) rfl).trans (by rw [hgg]; rfl)) ?_
  by_cases big:(12:Int) < (g:Int)+1+a
  · refine ⟨_,_,(zX (mP (t_S (aP (aH (ta rfl) Ua (by show some (D.bl (decide _))=_; rw [Zo big])))) (aS (Jz (soE hx (n:=4) Ua Ua (aM rfl) Ua (aM rfl) rfl ((mvX 0 nm).trans (by rw [if_neg (by unfold plB; simp),if_pos (by omega)]))) rfl) (aS (Jz (soE hx (n:=2) Ua Ua (aM rfl) Ua (aM rfl) rfl ((mvX 2 nm).trans (by rw [if_pos (by unfold plB; rw [Zl (show ¬ (2:Int)<=(q.r.length:Int) by omega),Bool.and_false])]))) rfl) (jE (v_S ?_ rfl))))))⟩
    exact gM (b:=true) (aH (bZ gm (af Ua ar) rfl (gE hr0) rfl) (gA (af Ua (af Ua ar)) (Zb rfl)) (by rw [hrr]; exact (yP [1,13] [1,13]).trans (by rw [Zo rfl]))) (gM (b:=true) (aH Ua (bZ gm (af (aM rfl) ar) rfl (gE hq) rfl) ((Dq 13 q.r).trans (by rw [Zl nq]; rfl))) (aH (bZ gm (af Ua ar) rfl (ib hb) rfl) Ua (by rw [hbh]; exact eq_self 0)))
  · have an:¬ Anc M 13 g:=λ z=>by have:=Ez E z (by omega); omega
    have er:13::q.r=insI (q.r.filter λ y=>decide (y≠13)) 0 13:=by rw [fq]; rfl
    have mv:=DV (t:=t) E.m (by omega) hb hbh hr0 (by rw [hrr]; simp) hq hs (out g (by omega) (by omega)) ll hcb hcg ⟨by decide,by omega⟩ ds n12 (by rw [tp]; omega) er (Y7 _) (by omega);have m':=Hb E.m hb hbh hr0 hq an hcb hcg (λ x n ax cx=>by have:=dpt x n ax cx; omega) rfl er;have ch:=MI E (g:=g) (by omega) (by omega) (r0.r.erase 13) (13::q.r) a (Zn _);have ne:¬ (13::q.r=q.r):=λ z=>by have:=Yo List.length z; simp at this
    rw [Zl ne] at mv;have fx:=vz M 13 0 g (r0.r.erase 13) (13::q.r);have lM:(mvB M 13 0 g (r0.r.erase 13) (13::q.r)).length=M.length:=by unfold mvB upH; rw [Zc,gz,gz]
    generalize hM':mvB M 13 0 g (r0.r.erase 13) (13::q.r)=M' at mv m' ch fx lM;have fg:fd M' g=some (mvF 13 0 g (r0.r.erase 13) (13::q.r) q):=by rw [fx,hq]; rfl
    have f0:fd M' 0=some (mvF 13 0 g (r0.r.erase 13) (13::q.r) r0):=by rw [fx,hr0]; rfl
    have rg:(mvF 13 0 g (r0.r.erase 13) (13::q.r) q).r=13::q.r:=if_pos (fO hq)
    have r00:(mvF 13 0 g (r0.r.erase 13) (13::q.r) r0).r=[1]:=by
     show (if r0.i=(g:Int) then _ else if r0.i=0 then _ else _)=_;rw [fO hr0,if_neg (by omega),if_pos rfl,hrr];rfl
    obtain ⟨bt,ht,_⟩:=E.hi a (Zn _);have ht':fd M' (13+a)=some (mvF 13 0 g (r0.r.erase 13) (13::q.r) bt):=by rw [fx,ht]; rfl
    refine seq (dU (t_S (aP (aH (ta rfl) Ua (by show some (D.bl (decide _))=_; rw [Zl big])))) rfl) ?_
    refine seq (dU (JS (t_E (ET (v_M (i:=2) cI rfl rfl (bp (q_N Ua) (bp (q_N (aM rfl)) (bp (q_N Ua) rfl))) rfl mv rfl) rfl Ua rfl rfl)) (tm (aP (aH (aH (bZ gm (af (aM rfl) ar) rfl (gE fg) rfl) Ua (by rw [rg]; exact Bc (D.int 13) _)) Ua (ne_self 13))) (λ _=>aP (aH (bZ gm (af Ua ar) rfl (gE f0) rfl) (gA (af Ua ar) (Zb rfl)) (by rw [r00]; exact (Dr [1] [1]).trans (by rw [Zo rfl]; rfl)))) nofun)) rfl) ?_
    have ta':dOp kU (dOp kU (aI 6) (dC (.int 1))) (aI 4) (bf (tau t (.shr (scr ns)) nm gv M' [y3,.shr (.int a),.shr (.int (if mb then 1 else 0)),.shr (.int g),.no]))=some (.int ((g:Int)+1+a)):=aH (Ud rfl (aG _ _)) (aM rfl) (aG _ _)
    by_cases eq:(g:Int)+1+a=12
    ·refine ⟨_,_,zX (mP (t_S (aP (aH ta' Ua ((bN _ _).trans (by rw [Zo eq]))))) (jE (v_S (soE hx (n:=4) (C:=t.bU) Ua Ua (aH Ua (aM rfl) (aG _ _)) Ua (aM rfl) rfl ?_) rfl)))⟩
     rw [Gf,Fb ht' (by omega) (by omega) ch (by omega),if_neg (by unfold plB; simp),if_neg (by rw [hn]; exact nofun),if_neg (by omega),if_pos (by omega)]
    ·refine seq (dU (t_S (aP (aH ta' Ua ((bN _ _).trans (by rw [Zl eq]))))) rfl) ?_
     refine seq (τ':=tau t (.shr (scr ns)) nm gv M' [y3,.shr (.int a),.shr (.int (if mb then 1 else 0)),.shr (.int g),.shr (.int gv)]) ((cf (v_N (aH (aH Ua (aM rfl) (aG _ _)) (aM rfl) (aG _ _))) (Zb rfl) rfl).trans (by rw [hg]; rfl)) ?_
     refine ⟨_,_,jE (Bi (ET (Gv m' ht' (Y7 _) (by omega) hn (by omega) ch (by omega) (aH Ua (aM rfl) (aG _ _)) Ua) rfl (aM rfl) (eq_self gv) rfl) (v_S (aH (bZ gm (af (aM rfl) ar) rfl (ib (cL m' ht')) rfl) (aH Ua (aM rfl) (aG _ _)) (eq_self _)) rfl))⟩
 obtain ⟨x2,xs,e⟩:=go;exact (fL e).trans rfl
end
theorem Sub.mono (h:Sub M s l):(∀ x ∈ l,∀ b,fd M x=some b->∃ b',fd N x=some b'/\b'.r=b.r)->Sub N s l:=by
 induction h with
 | nil=>exact λ _=>.nil
 | @cons c cs l1 l2 b h h1 h2 ih1 ih2=>
  intro k;obtain ⟨b',e1,e2⟩:=k c (Zd ..) b h;exact .cons e1 (by rw [e2]; exact ih1 λ x hx=>k x (Za _ (Zk _ hx))) (ih2 λ x hx=>k x (Za _ (Ze _ hx)))
structure RI (gv:Int) (M G:List B8):Prop where
 m:MOk gv M
 fo:Ij M G
 gb:∀ g ∈ G,g.i < gv
 gl:(G.length:Int)<=gv
 lm:(M.length:Int)<=gv
section
variable {t:Adr} {gv:Int} {M G:My B8}
def RI.gn (l:RI gv M G):fd G gv=none:=fd_none.mpr λ b hb e=>by
 have:=l.gb b hb;omega
theorem Gp {x p:Int} {b:B8} {nn:Str} {dp:Nat} (l:RI gv M G) (hb:fd M x=some b) (hc:Ch M x dp) (h12:dp < 12):RI (gv+1) (gf M x b p gv nn) (G++[⟨gv,some x,nn,[]⟩]):=by
 have lm:=l.lm;have gl:=l.gl;have oh:∀ c:B8,(if c.i=x then { c with r:=insI b.r p gv } else c).h=c.h/\(if c.i=x then { c with r:=insI b.r p gv } else c).n=c.n:=λ c=>by split <;> exact ⟨rfl,rfl⟩
 refine ⟨je l.m hb hc h12,λ y d hy=>?_,λ g hg=>?_,by rw [Z1]; show ((G.length+1:Nat):Int)<=_; omega,by rw [ja]; omega⟩
 ·rw [nA l.m hb] at hy
  rw [si l.gn]
  by_cases e:y=gv
  ·rw [if_pos e] at hy ⊢
   exact ⟨_,hy,rfl,rfl⟩
  ·rw [if_neg e] at hy ⊢
   obtain ⟨c,hc,rfl⟩:=Zm hy;obtain ⟨g,h1,h2,h3⟩:=l.fo y c hc;exact ⟨g,h1,h2.trans (oh c).1.symm,h3.trans (oh c).2.symm⟩
 ·rcases Zi.mp hg with hg | hg
  · have:=l.gb g hg; omega
  · rw [Zr.mp hg]; show gv < gv+1; omega
theorem Gq (l:RI gv M G) (hb:fd M i=some b) (hj:b.h=some jj) (hp:fd M jj=some p) (hs:Sub M [i] l') (nd:l'.Nodup):RI gv (rm (upR M jj (p.r.erase i)) l') G:=by
 have lm:=l.lm;have oh:∀ c:B8,(if c.i=jj then { c with r:=p.r.erase i } else c).h=c.h/\(if c.i=jj then { c with r:=p.r.erase i } else c).n=c.n:=λ c=>by split <;> exact ⟨rfl,rfl⟩
 have ln:=Bs nd (nr l.m.nd jj (p.r.erase i)) λ x hx=>by
  obtain ⟨c,hc⟩:=hs.in x hx;exact ⟨_,by rw [eQ,hc]; rfl⟩
 rw [gz] at ln;refine ⟨xV l.m hb hj hp hs,λ y d hy=>?_,l.gb,l.gl,by omega⟩;rw [yG,eQ] at hy;split at hy
 · cases hy
 ·obtain ⟨c,hc,rfl⟩:=Zm hy
  obtain ⟨g,h1,h2,h3⟩:=l.fo y c hc;exact ⟨g,h1,h2.trans (oh c).1.symm,h3.trans (oh c).2.symm⟩
abbrev sR (t:Adr) (ns:My Int) (nm:Str) (gv:Int) (M R G:My B8) (cm:Int) (xs:My Sm):My Sm:=.shr (scr ns)::.shr (.str nm)::.mu false (trM t.ah gv M)::.mu false (bxM R)::.mu false (faM G)::.shr (.int cm)::xs
variable {ns:My Int} {nm:Str} {R:My B8} {cm:Int}
theorem uz:∀ (L:My Int) (R:My B8) (x8:Sm),L.Nodup->(∀ g ∈ L,∃ b,fd R g=some b)->∃ y,L2.forM (λ d τ=>(gNm 8 d τ).bind (pG (de 3) (aI 8))) (L.map .int) (sR t ns nm gv M R G cm (x6::x7::x8::xs))=some (.next (sR t ns nm gv M (rm R L) G cm (x6::x7::y::xs)))
 | [],R,x8,_,_=>⟨x8,by rw [tI]; rfl⟩
 | g::L,R,x8,nd,h=>by
  rw [Zw] at nd;obtain ⟨b,hb⟩:=h g (Zd ..)
  obtain ⟨y,e⟩:=uz (x6:=x6) (x7:=x7) (xs:=xs) L (R.filter λ b=>decide (b.i≠g)) (.shr (.int g)) nd.2 λ k hk=>by
   obtain ⟨c,hc⟩:=h k (Za _ hk);have ne:k≠g:=λ e=>nd.1 (e ▸ hk)
   have:=yG R [g] k;rw [<- nZ,tI,if_neg (by simpa using ne),hc] at this;exact ⟨c,this⟩
  rw [nZ] at e;refine ⟨y,?_⟩
  have st:(gNm 8 (.int g) (sR t ns nm gv M R G cm (x6::x7::x8::xs))).bind (pG (de 3) (aI 8))=some (.next (sR t ns nm gv M (R.filter λ b=>decide (b.i≠g)) G cm (x6::x7::.shr (.int g)::xs))):=by
   show pG (de 3) (aI 8) (sR t ns nm gv M R G cm (x6::x7::.shr (.int g)::xs))=_;refine (Mi cI (aM rfl) rfl rfl (by rw [uI,hb]; rfl)).trans ?_
   rw [kr rfl,yR];rfl
  unfold L2.forM;rw [Zg];dsimp only;rw [st];exact e
def gW:aI 3 (bf (sR t ns nm gv M R G cm xs))=some (lF R):=rC rfl (BS R)
def JO:aI 2 (bf (sR t ns nm gv M R G cm xs))=some (trD t.ah gv M):=rC rfl (qm _ _ _)
theorem D2 (l:RI gv M G) (h90:M.length < 90) (hb:fd M i=some b) (i0:i≠0):∃ M' y8,RI gv M' G/\fK (u9 (vb (de 3) (dOp oIx (dOp d3 (aI 4) (aI 7)) (dC (.int 0)))) (aI 7)) (fK (Ac (EK (cY t) (aF (aI 3) (aF (aI 7) cN))) (gNm 8) (pG (de 3) (aI 8))) (lE (eM t.ah "cut" (gc t) (de 2) (ck (qN (aI 7)) mX)))) (sR t ns nm gv M M G cm (x6::.shr (.int i)::x8::xs))=some (.next (sR t ns nm gv M' M' G cm (x6::.shr (.int i)::y8::xs))):=by
 have m:=l.m;obtain ⟨jj,p,hjj,hp,pi⟩:=m.hol b (a7 hb) (by rw [fO hb]; exact i0);rw [fO hb] at pi;obtain ⟨l',hs,hs'⟩:=Sub.of m hb;have nd:=hs.nodup m (.cons nofun .nil);have ll:=Sub.ll m hb hs;rw [Zu] at ll;have pl:=m.rl hp;obtain ⟨ni,ci,_⟩:=m.dp hb
 obtain ⟨nj,cj,enj⟩:∃ nj,Ch M jj nj/\ni=nj+1:=by
  cases ci with
  | top h e=>rw [hb] at h; cases h; rw [hjj] at e; cases e
  | up h e c=>rw [hb] at h; cases h; rw [hjj] at e; cases e; exact ⟨_,c,rfl⟩
 have jn:jj ∉ i::l':=λ h=>by
  obtain ⟨k,c1,c2,_⟩:=((hs.iff m hp).mp h).deep cj;have:=c1.uniq ci;omega
 have hs1:Sub (upR M jj (p.r.erase i)) [i] (i::l'):=hs.mono λ x hx c hc=>by
  refine ⟨_,by rw [eQ,hc]; rfl,?_⟩;show (if c.i=jj then { c with r:=p.r.erase i } else c).r=c.r;rw [if_neg λ e=>jn (by rw [<- e,fO hc]; exact hx)]
 have ec:=B1 (t:=t) m hb i0 hjj hp pi hs' nd (by omega) (by omega);obtain ⟨g,hg,gh,gn⟩:=l.fo i b hb;have ef:d3 (faD G) (.int i)=some (.tup [.int jj,.str b.n]):=(cu hg).trans (by rw [gh,gn,hjj]; rfl)
 obtain ⟨y,el⟩:=uz (t:=t) (i::l') (upR M jj (p.r.erase i)) x8 nd λ x hx=>by
  obtain ⟨c,hc⟩:=hs.in x hx;exact ⟨_,by rw [eQ,hc]; rfl⟩
 refine ⟨_,y,Gq l hb hjj hp hs nd,?_⟩
 have hg3:bB (sR t ns nm gv M M G cm (x6::.shr (.int i)::x8::xs)) 3 ([]++[.k (.inl jj)])=some (lM (p.r.map .int)):=by
  rw [pW rfl];refine (qk _ _ _).trans ?_
  rw [hp];rfl
 refine aS (τ':=sR t ns nm gv M (upR M jj (p.r.erase i)) G cm (x6::.shr (.int i)::x8::xs)) ((DZ (wa cI (aH (aH (rC rfl (yB G)) e_v ef) Ua (pS _ _)) rfl rfl) e_v hg3 (oI _) ⟨by omega,pi⟩).trans ?_) ?_
 ·rw [kr rfl,wO]
  exact Yo (λ z=>some (v8.next (List.set _ 3 (Sm.mu false z)))) (pK m.nd hp)
 refine aS (τ':=sR t ns nm gv M (rm (upR M jj (p.r.erase i)) (i::l')) G cm (x6::.shr (.int i)::y::xs)) ?_ (p5 (v_M cI rfl rfl (bp (q_N e_v) rfl) rfl ec rfl))
 unfold Ac;rw [AW (af gW (af e_v ar)) (nT hs1 (by rw [Zu]; omega)) rfl];show (if ((i::l').map D.int).all sca=true then _ else none)=_;rw [if_pos (gp _)];exact el
end
section
variable {t:Adr} {gv:Int} {M G:My B8} {ns:My Int} {nm:Str}
theorem nx {f h:DSm} {τ τ':My Sm} {Q:My Sm->Prop} (h1:f τ=some (.next τ')) (h2:∃ τ2,h τ'=some (.next τ2)/\Q τ2):∃ τ2,fK f h τ=some (.next τ2)/\Q τ2:=by
 obtain ⟨τ2,e,q⟩:=h2;exact ⟨τ2,aS h1 e,q⟩
theorem nxE {f h:DSm} {τ:My Sm} {Q:My Sm->Prop} (Q1:My Sm->Prop) (h1:∃ τ',f τ=some (.next τ')/\Q1 τ') (h2:∀ τ',Q1 τ'->∃ τ2,h τ'=some (.next τ2)/\Q τ2):∃ τ2,fK f h τ=some (.next τ2)/\Q τ2:=by
 obtain ⟨τ',e,q⟩:=h1;exact nx e (h2 τ' q)
theorem sq (h1:f τ=some (.next τ')) (h2:∃ xs,h τ'=some (.ret (.shr (.bl true)) (s0::xs))):∃ xs,fK f h τ=some (.ret (.shr (.bl true)) (s0::xs)):=by
 obtain ⟨xs,e⟩:=h2;exact ⟨xs,aS h1 e⟩
theorem sqL (P:Nat->My Sm->Prop) (h1:it (er τ)=some ds) (h0:P 0 τ) (hs:∀ j d τ,ds[j]?=some d->P j τ->∃ τ2,(g d τ).bind b=some (.next τ2)/\P (j+1) τ2) (h2:∀ τ',P ds.length τ'->∃ xs,h τ'=some (.ret (.shr (.bl true)) (s0::xs))):∃ xs,fK (Ab it g b) h τ=some (.ret (.shr (.bl true)) (s0::xs)):=by
 obtain ⟨τ',e,p⟩:=jH P h0 hs;exact sq (pE h1 e) (h2 τ' p)
def Hv (h:f τ=some (.lst as)):yu (aF f cN) τ=some (mW as):=by
 unfold yu;rw [af h ar];rfl
theorem AV {cs:My Int} {j:Nat} {d:D} (h:(mW (cs.map .int))[j]?=some d):∃ c:Int,d=.tup [.int (j:Int),.int c]/\cs[j]?=some c:=by
 unfold mW at h;rw [List.getElem?_mapIdx,List.getElem?_map] at h;obtain ⟨d',hd',rfl⟩:=Zm h;obtain ⟨c,hc,rfl⟩:=Zm hd';exact ⟨c,rfl,hc⟩
theorem Gb (ns:My Int):∃ cs:My Int,oSl (scr ns) (some 12) (some 20)=some (.lst (cs.map .int))/\cs.length<=8:=by
 refine ⟨(ns.drop (HT.sIx ns.length 0 (some 12))).take (HT.sIx ns.length ns.length (some 20) - HT.sIx ns.length 0 (some 12)),?_,?_⟩
 ·show some (D.lst (cutD (ns.map .int) _ _))=_
  unfold cutD;rw [Zc,<- List.map_drop,<- List.map_take]
 ·have e1:=HT.wH ns.length 0 12
  have e2:=HT.wH ns.length ns.length 20;rw [show ((12:Nat):Int)=12 from rfl] at e1;rw [show ((20:Nat):Int)=20 from rfl] at e2;rw [e1,e2,Xn,List.length_drop];omega
inductive Inv (t:Adr) (ns:List Int) (nm:Str) (gv:Int) (M G:List B8):Nat->List Sm->Prop where
 | mk (x6 x7 x8 x9 x10 x11 x12 x13 x14 x15 x16 x17 x18 x19:Sm):Inv t ns nm gv M G j (sR t ns nm gv M M G gv [x6,x7,x8,x9,x10,x11,x12,x13,x14,x15,x16,x17,x18,x19])
theorem zY (l:RI gv M G) (h90:M.length < 90):dR t [.mu true (trM t.ah gv M),.mu true (bxM M),.mu true (faM G)]=some (.bl true):=by
 refine zZ ⟨⟨trF gv M,qm _ _ _,λ m hm=>?_,λ c hc=>?_⟩⟩
 ·simp only [Me,Zh,Yw,or_false] at hm
  rcases hm with rfl | rfl | rfl | rfl <;> rfl
 ·obtain ⟨b,hb,rfl⟩:=Yt.mp hc
  have hf:=sj l.m.nd hb;obtain ⟨g,hg,gh,gn⟩:=l.fo b.i b hf;refine ⟨b.i,b.n,hD b.h,b.r,rfl,by have:=l.m.rl hf; omega,?_,?_,pB hf,gE hf,Ds hf,ib hf⟩
  ·rw [yB]
   exact (cu hg).trans (by rw [gh,gn])
  ·cases b.h with
   | none=>exact .inl rfl
   | some j=>exact .inr ⟨j,rfl⟩
theorem rF (hx:(exs t).Nodup) (ns:My Int):iG t [.shr (scr ns)]=some (.shr (.bl true),[.no]):=by
 obtain ⟨c0,e0⟩:=ij ns (k:=0) (by omega);obtain ⟨c1,e1⟩:=ij ns (k:=1) (by omega);obtain ⟨c2,e2⟩:=ij ns (k:=2) (by omega);obtain ⟨nm,en,hn⟩:=pV c1 (w:=9) (by omega) (by omega);obtain ⟨cs,ecs,lcs⟩:=Gb ns;obtain ⟨a0,a1⟩:=vf (r:=c1) (n:=10) (by decide);generalize hcm:1+c1 % 10=cm
 suffices go:∃ xs,(fb t).1 ([Sm.shr (scr ns)]++List.replicate (20 - [Sm.shr (scr ns)].length) .no)=some (.ret (.shr (.bl true)) (.shr (scr ns)::xs)) by
  obtain ⟨xs,e⟩:=go;exact (fL e).trans rfl
 refine sq (cf (v_N (cU (af (cU (af e_v (af Ua ar)) e1 rfl) (af Ua ar)) en rfl)) (Zb rfl) rfl) ?_
 refine sq (cf (v_K (bp (q_N e_v) rfl) rfl (r9 hn) rfl) (Zb rfl) rfl) ?_
 refine sq (cf (MR (v_O (gA ar (Z8 _)) rfl) rfl) (Zb rfl) rfl) ?_
 refine sq (cf (MR (v_N (qy (af Ua (af e_v ar)) (Zb rfl))) rfl) (Zb rfl) rfl) ?_
 refine sq (τ':=sR t ns nm 1 [⟨0,none,nm,[]⟩] [⟨0,none,nm,[]⟩] [⟨0,none,nm,[]⟩] cm [.no,.no,.no,.no,.no,.no,.no,.no,.no,.no,.no,.no,.no,.no]) ((cf (v_N (aH Ua (aH (cU (af e_v (af Ua ar)) e1 rfl) Ua (aQ (by decide))) (aG _ _))) (Zb rfl) rfl).trans (by rw [hcm]; rfl)) ?_
 have r0:RI 1 [⟨0,none,nm,[]⟩] [⟨0,none,nm,[]⟩]:=⟨Mg nm,λ x d h=>⟨d,h,rfl,rfl⟩,λ g hg=>by rw [Zr.mp hg]; exact Int.one_pos,Y7 _,Y7 _⟩
 refine sqL (λ j τ=>∃ M G x6,RI (1+j) M G/\(∀ x:Int,0<=x->x < 1+j->∃ b,fd M x=some b)/\τ=sR t ns nm (1+j) M M G cm [x6,.no,.no,.no,.no,.no,.no,.no,.no,.no,.no,.no,.no,.no]) (BQ (i:=1) (j:=cm) (af Ua (af e_v ar)) (by omega)) ⟨[⟨0,none,nm,[]⟩],[⟨0,none,nm,[]⟩],.no,(by simpa using r0),λ x x0 x1=>⟨⟨0,none,nm,[]⟩,by rw [show x=0 by omega]; rfl⟩,rfl⟩ (λ j d τ hd ⟨M,G,x6,l,al,eτ⟩=>?_) λ τ ⟨M,G,x6,l,al,eτ⟩=>?_
 ·subst eτ
  obtain ⟨rfl,hj⟩:=i9 hd;obtain ⟨c,ec⟩:=ij ns (k:=1+(j:Int)+1) (by omega);have lm:=l.lm;have gl:=l.gl;obtain ⟨x,bb,p,nn,dp,hb,ch,h12,hnn,e⟩:=ya (t:=t) (c:=c) (w:=1+(j:Int)) l.m l.fo l.gn (by omega) (by omega) (by omega) (by omega);have l2:=Gp (p:=p) (nn:=nn) l hb ch h12;rw [show (1:Int)+j+1=1+((j+1:Nat):Int) by omega] at l2 e;refine ⟨sR t ns nm (1+((j+1:Nat):Int)) (gf M x bb p (1+j) nn) (gf M x bb p (1+j) nn) (G++[⟨1+j,some x,nn,[]⟩]) cm [.shr (.int (1+j)),.no,.no,.no,.no,.no,.no,.no,.no,.no,.no,.no,.no,.no],dU (N7 (t_E (v_C (bp (q_X cI rfl) (bp (q_X cI rfl) (bp (q_X cI rfl) (bp (q_N e_v) (bp (q_N (cU (af e_v (af (aH e_v Ua (aG _ _)) ar)) ec rfl)) (bp (q_N e_v) rfl)))))) rfl e rfl))) rfl,_,_,_,l2,λ y y0 y1=>?_,rfl⟩
  by_cases ey:y=1+j
  ·rw [ey]
   exact ⟨_,cL l.m hb⟩
  ·obtain ⟨c',hc'⟩:=al y y0 (by omega)
   obtain ⟨d',hd',_⟩:=fM (p:=p) l.m hb hc';exact ⟨d',hd'⟩
 rw [iZ,show (1:Int)+((cm - 1).toNat:Int)=cm by omega] at l eτ al
 subst eτ;have lm:=l.lm
 obtain ⟨M',y7,y8,l',s7⟩:∃ M' y7 y8,RI cm M' G/\tG (tS (B0 (dT (dOp oGt (aI 5) (dC (.int 2)))) (dT (dOp oGt (dOp oMod (dOp oDiv (dFn cw (aF (aI 0) (aF (dC (.int 1)) cN))) (dC (.int 10))) (dC (.int 3))) (dC (.int 0))))))
   (fK (u7 7 (eN (dOp kU (dC (.int 1)) (dOp oMod (dFn cZ (aF (dFn cw (aF (aI 0) (aF (dC (.int 2)) cN))) (aF (dC (.int 7)) cN))) (dOp Fi (aI 5) (dC (.int 1)))))))
   (fK (u9 (vb (de 3) (dOp oIx (dOp d3 (aI 4) (aI 7)) (dC (.int 0)))) (aI 7)) (fK (Ac (EK (cY t) (aF (aI 3) (aF (aI 7) cN))) (gNm 8) (pG (de 3) (aI 8))) (lE (eM t.ah "cut" (gc t) (de 2) (ck (qN (aI 7)) mX)))))) jB
   (sR t ns nm cm M M G cm [x6,.no,.no,.no,.no,.no,.no,.no,.no,.no,.no,.no,.no,.no])=some (.next (sR t ns nm cm M' M' G cm [x6,y7,y8,.no,.no,.no,.no,.no,.no,.no,.no,.no,.no,.no])):=by
  have tq:=tw (f:=dT (dOp oGt (aI 5) (dC (.int 2)))) (g:=dT (dOp oGt (dOp oMod (dOp oDiv (dFn cw (aF (aI 0) (aF (dC (.int 1)) cN))) (dC (.int 10))) (dC (.int 3))) (dC (.int 0)))) (τ:=bf (sR t ns nm cm M M G cm [x6,.no,.no,.no,.no,.no,.no,.no,.no,.no,.no,.no,.no,.no])) (aP (aH e_v Ua (HC _ _))) (aP (aH (aH (aH (cU (af e_v (af Ua ar)) e1 rfl) Ua (dM (by decide) (by decide +kernel))) Ua (aQ (by decide))) Ua (HC _ _)))
  by_cases c3:2 < cm
  ·generalize decide (0 < c1 / 10 % 3)=bb at tq
   rw [Zo c3,Bool.true_and] at tq
   cases bb with
   | false=>exact ⟨M,_,_,l,dU (t_S tq) rfl⟩
   | true=>
    obtain ⟨r,er,r0,r1⟩:=j0 c2 (w:=7) (by decide) (by decide);obtain ⟨m0,m1⟩:=vf (r:=r) (n:=cm - 1) (by omega);obtain ⟨b,hb⟩:=al (1+r % (cm - 1)) (by omega) (by omega);obtain ⟨M',y8,l',e⟩:=D2 (t:=t) l (by omega) hb (by omega);exact ⟨M',_,y8,l',mP (t_S tq) (aS (cf (v_N (aH Ua (aH (cU (af (cU (af e_v (af Ua ar)) e2 rfl) (af Ua ar)) er rfl) (aH e_v Ua (gr _ _)) (aQ (by omega))) (aG _ _))) (Zb rfl) rfl) e)⟩
  ·rw [Zl c3,Bool.false_and] at tq
   exact ⟨M,_,_,l,dU (t_S tq) rfl⟩
 refine sq s7 ?_
 have lm':=l'.lm;have gl':=l'.gl
 have eds:dOp kU (dSl (aI 0) (dP (dC (.int 12))) (dP (dC (.int 20)))) (Fp (aF (dFn cw (aF (aI 0) (aF (dC (.int 0)) cN))) cN)) (er (sR t ns nm cm M' M' G cm [x6,y7,y8,.no,.no,.no,.no,.no,.no,.no,.no,.no,.no,.no]))=some (.lst ((cs++[c0]).map .int)):=by
  refine aH (N0 e_v (m8 Ua) (m8 Ua) ecs) (gA (af (cU (af e_v (af Ua ar)) e0 rfl) ar) (Zb rfl)) ?_
  rw [Zp];refine if_pos ?_
  rw [Zc];show cs.length+1<=_;omega
 refine sqL (Inv t ns nm cm M' G) (Hv eds) (.mk ..) (λ j d τ hd iv=>?_) λ τ iv=>?_
 ·cases iv with | mk x6 x7 x8 x9 x10 x11 x12 x13 x14 x15 x16 x17 x18 x19=>
  obtain ⟨c,rfl,hc⟩:=AV hd;have hj:=(List.getElem?_eq_some_iff.mp hc).1;rw [Z1] at hj
  replace hj:j < cs.length+1:=hj
  have m:=l'.m
  have mne:M'≠[]:=λ z=>by
   obtain ⟨b,hb,_⟩:=m.root;rw [z] at hb;cases hb
  obtain ⟨k,ek,k0,k1⟩:=j0 c (w:=20+(j:Int)) (by omega) (by omega);obtain ⟨r5,er5,_,_⟩:=j0 c (w:=50+(j:Int)) (by omega) (by omega);obtain ⟨r6,er6,_,_⟩:=j0 c (w:=60+(j:Int)) (by omega) (by omega);obtain ⟨r7,er7,_,_⟩:=j0 c (w:=70+(j:Int)) (by omega) (by omega);obtain ⟨r8,er8,_,_⟩:=j0 c (w:=80+(j:Int)) (by omega) (by omega);obtain ⟨i,ei⟩:=t4 (gv:=cm) (c:=c) (w:=30+(j:Int)) (by omega) mne (by omega) (by omega);obtain ⟨h0,eh0⟩:=t4 (gv:=cm) (c:=c) (w:=40+(j:Int)) (by omega) mne (by omega) (by omega);obtain ⟨w,ew,hw⟩:=FF (c:=c) (w:=90+(j:Int)) (by omega) (by omega);obtain ⟨q0,q1⟩:=vf (r:=k) (n:=8) (by decide);have mx:∀ {τ:My Sl} {n r:Int},τ[9]?=some (.shr (.int c))->τ[6]?=some (.shr (.int j))->cZ [.int c,.int (n+j)]=some (.shr (.int r))->dFn cZ (aF (aI 9) (aF (dOp kU (dC (.int n)) (aI 6)) cN)) τ=some (.int r):=λ e9 e6 h=>cU (af (aM e9) (af (aH Ua (aM e6) (aG _ _)) ar)) h rfl
  refine nx (cf (v_N (aH (mx rfl rfl ek) Ua (aQ (by decide)))) (Zb rfl) rfl) ?_
  refine nx (cf (v_S (cU (af gW (af e_v (af e_v (af (aH Ua e_v (aG _ _)) ar)))) ei rfl) rfl) (Zb rfl) rfl) ?_
  refine nx (cf (v_S (cU (af gW (af e_v (af e_v (af (aH Ua e_v (aG _ _)) ar)))) eh0 rfl) rfl) (Zb rfl) rfl) ?_
  refine nxE (λ τ=>∃ (h:Int) (y13:Sm),τ=sR t ns nm cm M' M' G cm [.shr (.int j),x7,x8,.shr (.int c),.shr (.int (k % 8)),.shr (.int i),.shr (.int h),y13,x14,x15,x16,x17,x18,x19]) ?_ λ τ ⟨h,y13,eτ⟩=>?_
  ·have t5:dT (dOp oEq (dOp oMod (dFn cZ (aF (aI 9) (aF (dOp kU (dC (.int 50)) (aI 6)) cN))) (dC (.int 3))) (dC (.int 0))) (bf (sR t ns nm cm M' M' G cm [.shr (.int j),x7,x8,.shr (.int c),.shr (.int (k % 8)),.shr (.int i),.shr (.int h0),x13,x14,x15,x16,x17,x18,x19]))=some (decide (r5 % 3=0)):=aP (aH (aH (mx rfl rfl er5) Ua (aQ (by decide))) Ua (bN _ _))
   cases hi:fd M' i with
   | none=>exact ⟨_,dU (t_S (tw (aP (aH e_v gW (yW hi))) t5)) rfl,_,_,rfl⟩
   | some b=>
    have ti:=tw (aP (aH (aM (i:=11) rfl) gW (BY hi))) t5;generalize decide (r5 % 3=0)=z at ti
    cases z with
    | false=>exact ⟨_,dU (t_S ti) rfl,_,_,rfl⟩
    | true=>
     obtain ⟨l,hs,_⟩:=Sub.of m hi;have ll:=Sub.ll m hi hs;obtain ⟨m0,m1⟩:=vf (r:=r6) (n:=((i::l).length:Int)) (by rw [Zu]; omega);obtain ⟨h,_,eh⟩:=qd m0 m1;exact ⟨_,mP (t_S ti) (aS (cf (v_F (AW (af gW (af e_v ar)) (nT hs (by omega)) rfl) (gp _)) (Zb rfl) rfl) (cf (v_N (aH e_v (aH (mx rfl rfl er6) (bM (af e_v ar) (mR (i::l))) (aQ (by rw [Zu]; omega))) eh)) (Zb rfl) rfl)),_,_,rfl⟩
  subst eτ
  obtain ⟨sz,esz⟩:∃ sz:My Int,(jv (kv (λ b=>.lst (b.r.map .int)) M') (.inl h)).getD (.lst [])=.lst (sz.map .int):=by
   rw [mZ]
   cases fd M' h with
   | none=>exact ⟨[],rfl⟩
   | some b=>exact ⟨b.r,rfl⟩
  have s1:(0:Int) < (sz.length:Int)+1:=by omega
  refine nx (cf (v_S (bM (af ((BX gW e_v (gA ar (Z8 _)) rfl).trans (Yo some esz)) ar) (mR sz)) rfl) (Zb rfl) rfl) ?_
  refine nx (cf (v_F (gA (af (aH (mx rfl rfl er7) (aH e_v Ua (aG _ _)) (aQ s1)) (af (aH e_v Ua (aG _ _)) (af (aH (Fm Ua rfl) (aH e_v CK (aQ (by decide))) (gr _ _)) ar))) (Zb rfl)) rfl) (Zb rfl) rfl) ?_
  obtain ⟨m0,m1⟩:=vf (r:=r8) (n:=3) (by decide);obtain ⟨p,_,ep⟩:=qd (ys:=[r7 % (sz.length+1),sz.length+1,-1 - c % 10 ^ 29]) m0 m1;refine nx (cf (v_N (aH e_v (aH (mx rfl rfl er8) Ua (aQ (by decide))) ep)) (Zb rfl) rfl) ?_
  refine nx (cf (v_N (cU (af e_v (af (aH Ua e_v (aG _ _)) ar)) ew rfl)) (Zb rfl) rfl) ?_
  obtain ⟨l,hl⟩:∃ l,(fd M' i).isSome=true->Sub M' [i] l/\l.length<=1000:=by
   cases e:fd M' i with
   | none=>exact ⟨[],nofun⟩
   | some b=>
    obtain ⟨l,hs,_⟩:=Sub.of m e;have ll:=Sub.ll m e hs;exact ⟨i::l,λ _=>⟨hs,by omega⟩⟩
  obtain ⟨q,hq⟩:∃ q,(fd M' h).isSome=true->fd M' h=some q/\q.r.length<=1000:=by
   cases e:fd M' h with
   | none=>exact ⟨⟨0,none,nm,[]⟩,nofun⟩
   | some b=>
    have:=m.rl e;exact ⟨b,λ _=>⟨rfl,by omega⟩⟩
  have ed:=HY (t:=t) (k:=k % 8) (p:=p) (w:=w) hl hq hw;have sd:=AY (t:=t) (k:=k % 8) (p:=p) (w:=w) m (by omega) q0 (by omega) (λ z=>(hl z).1) (λ z=>(hq z).1) hw;generalize Fn M' l q (k % 8) i h p w=due at ed sd;refine nx (cf (v_S (cU (af gW (af e_v (af e_v (af e_v (af e_v (af e_v ar)))))) ed rfl) rfl) (Zb rfl) rfl) ?_
  by_cases d0:0<=due
  ·obtain ⟨n,C,rfl,hn,hs⟩:=sd d0
   exact ⟨_,mP (t_S (aP (aH e_v Ua (by show some (D.bl (decide _))=_; rw [Zo d0])))) (aS (cf (v_F (AW (af JO (af e_v (af e_v (af e_v (af e_v (af e_v ar)))))) (wC hs hn) rfl) rfl) (Zb rfl) rfl) (Jz (cU (af e_v (af e_v ar)) (xH hx hn) rfl) rfl)),.mk ..⟩
  · exact ⟨_,dU (t_S (aP (aH e_v Ua (by show some (D.bl (decide _))=_; rw [Zl d0])))) rfl,.mk ..⟩
 ·cases iv
  obtain ⟨x,bb,p,nn,dp,hb,ch,h12,hnn,e⟩:=ya (t:=t) (c:=c2) (w:=5) l'.m l'.fo l'.gn (by omega) (by omega) (by omega) (by omega);exact ⟨_,jE (Bi (v_P (bp (q_X cI rfl) (bp (q_X cI rfl) (bp (q_X cI rfl) rfl))) rfl (zY l' (by omega)) rfl) (v_C (bp (q_X cI rfl) (bp (q_X cI rfl) (bp (q_X cI rfl) (bp (q_N e_v) (bp (q_N (cU (af e_v (af Ua ar)) e2 rfl)) (bp (q_N Ua) rfl)))))) rfl e rfl))⟩
end
theorem Hj {t:Adr} (hx:(exs t).Nodup) (ns:My Int):Ik t [.shr (scr ns)]=some (.shr (.bl true),[.no]):=by
 obtain ⟨c0,e0⟩:=ij ns (k:=0) (by omega);obtain ⟨r,er,_,_⟩:=j0 c0 (w:=1) (by decide) (by decide);have tq:∀ {x:Sm} (j:Int),dT (dOp oEq (aI 1) (dC (.int j))) (bf [.shr (scr ns),.shr (.int (r % 4))])=some (decide (r % 4=j)):=λ {x} j=>aP (Ud rfl (bN _ _))
 unfold Ik E8;dsimp only;refine (fL (s:=.shr (.bl true)) (τ:=[.shr (scr ns),.shr (.int (r % 4))]) ?_).trans rfl;refine aS (dU (t_S (FO (b:=false) (c:=false) (aP (aH Ua Ua (ne_self 90))) (aP (aH Ua Ua (ne_self 12))))) rfl) ?_
 refine aS (τ':=[.shr (scr ns),.shr (.int (r % 4))]) (cf (v_N (aH (cU (af (cU (af (aM rfl) (af Ua ar)) e0 rfl) (af Ua ar)) er rfl) Ua (aQ (by decide)))) (Zb rfl) rfl) ?_
 by_cases h2:r % 4=2
 · exact zX (mP (t_S ((tq (x:=.no) 2).trans (by rw [Zo h2]))) (jE (v_C (as:=[.v (scr ns)]) (bp (q_N (aM rfl)) rfl) rfl (vF hx ns) rfl)))
 refine aS (dU (t_S ((tq (x:=.no) 2).trans (by rw [Zl h2]))) rfl) ?_
 by_cases h3:r % 4=3
 · exact zX (mP (t_S ((tq (x:=.no) 3).trans (by rw [Zo h3]))) (jE (v_C (as:=[.v (scr ns)]) (bp (q_N (aM rfl)) rfl) rfl (vy hx ns) rfl)))
 refine aS (dU (t_S ((tq (x:=.no) 3).trans (by rw [Zl h3]))) rfl) ?_
 exact jE (v_C (as:=[.v (scr ns)]) (bp (q_N (aM rfl)) rfl) rfl (rF hx ns) rfl)
section
variable {P:Program} {w:World} {K:PB} {mg:Str->Px Py} {base:Heap} {t:Adr}
def Bm (K:PB):Sp:=λ vs H Q _=>∃ (a:Pz) (ns:My Int),vs=[.ref a]/\SqL K H a (ns.map V.int)/\ns.length<=63/\∀ H',Q (.bl true) H'
theorem C8 {a d} (T:Txt K mg t) (F:Fun K "law" "law" (Uc 45) a d):gO P w K mg base CX0 8 a d ["_law_script"] (Bm K):=by
 refine ((E8 t).2 T F).imp λ vs H Q E h=>?_
 obtain ⟨a,ns,rfl,hS,h63,k⟩:=h
 have hx:(exs t).Nodup:=by
  have e:=T.xx;unfold yN at e;rw [Z7] at e;exact Z3 e.1
 refine ⟨H,[],[.shr (scr ns)],.shr (.bl true),[.no],(λ _ _ h=>h),?_,Hj hx ns,λ v Hs' H' fp' g st=>?_⟩
 · exact .shr (.fz hS (Rps.ints ns)) .nil
 ·cases st with
  | shr r _=>
   cases r;exact k _
end
end N11
end
namespace N11
open PySem L2
theorem uS {P:My Py->Prop} {n:Nat} (k:∀ x us,us.length=n->P (x::us)) (us:My Py) (h:us.length=n+1):P us:=by
 cases us with
 | nil=>cases h
 | cons x us=>exact k x us (Nat.succ.inj h)
def u0 {P:My Py->Prop} (k:P []) (us:My Py) (h:us.length=0):P us:=by
 cases us with
 | nil=>exact k
 | cons=>cases h
def u1 {P:My Py->Prop} (k:∀ x0,P [x0]) (us:My Py) (h:us.length=1):P us:=uS (λ x=>u0 (P:=λ us=>P (x::us)) (k x)) us h
def u2 {P:My Py->Prop} (k:∀ x0 x1,P [x0,x1]) (us:My Py) (h:us.length=2):P us:=uS (λ x=>u1 (P:=λ us=>P (x::us)) (k x)) us h
def u3 {P:My Py->Prop} (k:∀ x0 x1 x2,P [x0,x1,x2]) (us:My Py) (h:us.length=3):P us:=uS (λ x=>u2 (P:=λ us=>P (x::us)) (k x)) us h
def u4 {P:My Py->Prop} (k:∀ x0 x1 x2 x3,P [x0,x1,x2,x3]) (us:My Py) (h:us.length=4):P us:=uS (λ x=>u3 (P:=λ us=>P (x::us)) (k x)) us h
def u5 {P:My Py->Prop} (k:∀ x0 x1 x2 x3 x4,P [x0,x1,x2,x3,x4]) (us:My Py) (h:us.length=5):P us:=uS (λ x=>u4 (P:=λ us=>P (x::us)) (k x)) us h
def u6 {P:My Py->Prop} (k:∀ x0 x1 x2 x3 x4 x5,P [x0,x1,x2,x3,x4,x5]) (us:My Py) (h:us.length=6):P us:=uS (λ x=>u5 (P:=λ us=>P (x::us)) (k x)) us h
def FJ {K:PB} {mg:Str->Px Py} {c0 c1 c2 c3 c4 c5 c6 c7 c8 c9 c10:Pz} (h:Txt K mg ⟨c0,c1,c2,c3,c4,c5,c6,c7,c8,c9,c10⟩):∃ t,Txt K mg t:=⟨_,h⟩
end N11
open PySem PySem.W PyProof.Rows
set_option maxRecDepth 100000 in
set_option maxHeartbeats 0 in
theorem PySem.Challenge.cw_stylehouse_k11_refused_holds : PySem.Challenge.rw_stylehouse_k11_refused.Holds := by
 refine PySem.W.holds_law HD11.Hy fun said=>?_
 refine HD11.HB said ?hw (by rfl) (by rfl) (by rfl) ?hc
 case hw=>w_witness2
 k_fill
 refine L2.zT (fun P=>rfl) ?_
 refine L2.zS (l:=PySem.Challenge.rw_stylehouse_k11_refused) (n:=63) (k:=8) (x:="_law_script") (CX:=L2.CX0) (sp:=N11.Bm) rfl (by decide) rfl ⟨rfl,by decide,by decide⟩ (fun w h Y=>Y) ?F ?S ?C
 case F=>
  intro w mg fa h KX G hmg
  have T:∃ t,N11.Txt (L2.KOf KX) mg t:=by
   dsimp only [L2.KOf]
   refine' N11.FJ ?h
   case h=>
   constructor
   case p6=>exact PySem.W.mg_of KX G (by k_is)
   case kB=>exact PySem.W.mg_of KX G (by k_is)
   case kA=>exact PySem.W.mg_of KX G (by k_is)
   case rX=>exact PySem.W.mg_of KX G (by k_is)
   case k8=>exact PySem.W.mg_of KX G (by k_is)
   case lT=>exact PySem.W.mg_of KX G (by k_is)
   case ox=>exact PySem.W.mg_of KX G (by k_is)
   case hU=>exact PySem.W.mg_of KX G (by k_is)
   case t8=>exact PySem.W.mg_of KX G (by k_is)
   case t7=>exact PySem.W.mg_of KX G (by k_is)
   case p8=>exact PySem.W.mg_of KX G (by k_is)
   exact ⟨by k_is,by k_is,by k_is,by k_is⟩
   iterate 7 ((show W.findIn _ _ _=_; k_is))
   iterate 7 (exact L2.Fn0.df ⟨_,_,_,_,_,_,_,_,_,by k_is,by k_is,by k_is,by k_is⟩ KX G fun _ _ _ _ _ _=>N11.u1 fun _=>rfl)
   exact L2.Ml ⟨_,_,_,_,_,_,_,_,_,by k_is,by k_is,by k_is,by k_is⟩ KX G (fun _ _ _ _ _ _ s v=>.of_eq rfl)
   iterate 12 (exact L2.Fn0.df ⟨_,_,_,_,_,_,_,_,_,by k_is,by k_is,by k_is,by k_is⟩ KX G fun _ _ _ _ _ _=>N11.u2 fun _ _=>rfl)
   exact L2.Fn0.df ⟨_,_,_,_,_,_,_,_,_,by k_is,by k_is,by k_is,by k_is⟩ KX G fun _ _ _ _ _ _=>N11.u3 fun _ _ _=>rfl
   exact L2.Fn0.df ⟨_,_,_,_,_,_,_,_,_,by k_is,by k_is,by k_is,by k_is⟩ KX G fun _ _ _ _ _ _=>N11.u4 fun _ _ _ _=>rfl
   iterate 3 (exact L2.Fn0.df ⟨_,_,_,_,_,_,_,_,_,by k_is,by k_is,by k_is,by k_is⟩ KX G fun _ _ _ _ _ _=>N11.u6 fun _ _ _ _ _ _=>rfl)
   exact L2.Mp (by k_is) (by k_is) (by k_is) (by k_is) (by k_is) (by k_is) (by k_is) fun _ _ _ _ _ _=>N11.u2 fun _ _=>rfl
   iterate 6 (exact L2.DW (by k_is) (by k_is) (by k_is) (by k_is) (by k_is) fun _ _ _ _ _ _=>N11.u2 fun _ _=>rfl)
   iterate 5 (exact L2.DW (by k_is) (by k_is) (by k_is) (by k_is) (by k_is) fun _ _ _ _ _ _=>N11.u3 fun _ _ _=>rfl)
   iterate 2 (exact L2.DW (by k_is) (by k_is) (by k_is) (by k_is) (by k_is) fun _ _ _ _ _ _=>N11.u4 fun _ _ _ _=>rfl)
   iterate 12 (exact PySem.W.mg_none_of KX G (by k_is))
   iterate 4 (exact ⟨_,PySem.W.mg_of KX G (by k_is)⟩)
   kernel_rfl
  obtain ⟨t,T⟩:=T
  obtain ⟨a,d,Fl,ml,bl⟩:=T.MA
  have e0:=hmg.symm.trans ml
  cases e0
  exact ⟨d,bl,fun base kb nb=>N11.C8 T Fl⟩
 case S=>exact fun K H a ns hl hO hS=>⟨a,ns,rfl,hS,hl,fun _=>rfl⟩
 case C=>exact fun H s e s' z=>z
