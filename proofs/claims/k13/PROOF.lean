import PyProof.Rows.All
import Wide.All
import OpenK.AllK
import Wide.FinOn
import Lean
import PyProof.EqAt
import PyProof.EqKinds
import PyProof.TupleCall
import PyProof.ZipIter
import PyProof.Rows.ZipGen
import PyProof.EnumIter
import PyProof.EnumFor
import PyProof.EnumMake
import PyProof.EnumStmt
import PyProof.SliceStr2
import PyProof.StrBlockI
import PyProof.MinMaxWalk
import PyProof.Rows.CallKwBuiltin
import PyProof.Rows.Range3
import KE.KRevIter
import PyProof.AttrMissHeap
import KE.KDictOf
import PyProof.FactsAll.range_2
import PyProof.P3Eq
import PyProof.DictWalks
import PyProof.Rows.SeqMore2
import PyProof.Rows.SortStr
import PySem.Challenge.RW_stylehouse_k13_gathered
set_option Elab.async false
set_option linter.all false
set_option maxRecDepth 100000
theorem Zj {α:Type _} {a b:α} (h:some a=some b):a=b:=Option.some.inj h
theorem Zb {a b:Nat} (h:Nat.ble a b=true):a<=b:=Nat.le_of_ble_eq_true h
theorem Zf:false≠true:=Bool.false_ne_true
theorem Zm {α:Type _} {β:Type _} {f:α->β} {x:Option α} {b:β} (h:x.map f=some b):∃ a,x=some a/\f a=b:=Option.map_eq_some_iff.mp h
def Za:=@List.length_map
def Zc:=@List.mem_append_right
def Zd:=@List.mem_cons_of_mem
def Ze:=@List.mem_cons_self
def Zg:=@List.map_cons
def Zh:=@List.mem_cons
def Zi:=@List.mem_append
def Zk:=@Nat.le_refl
def Zl:=@PySem.wpAny_bind
def Zn:=@List.mem_append_left
def Zo:=@List.mem_singleton
def Zp:=@List.map_append
def Zq:=@decide_eq_false
def Zr:=@PySem.Heap.lt_size
def Zs:=@List.size_toArray
def Zt:=@List.map_congr_left
def Zu:=@decide_eq_true
def Zv:=@List.length_cons
def Zw:=@List.map_map
def Zx:=@PySem.wpAny_pure
def Zy:=@List.nodup_cons
def Zz:=@Nat.ne_of_lt
def Z0:=@Nat.lt_of_lt_of_le
def Z1:=@List.append_nil
def Z2:=@List.mem_map
def Z3:=@List.length_append
def Z4:=@PySem.mem_of_lookup
def Z5:=@Nat.le_trans
def Z6:=@PySem.W.Fast.te14364793385576792824
def Z7:=@congrArg
def Z8:=@Bool.and_eq_true
def Z9:=@PySem.wpAny_mono
def Yb:=@Nat.zero_le
def Yc:=@List.mem_map_of_mem
def Yd:=@List.not_mem_nil
def Ye:=@List.length_set
def Yg:=@List.flatMap_cons
def Yh:=@beq_eq_false_iff_ne
def Yi:=@PySem.wpAny_truthy_bool
def Yj:=@List.nodup_append
def Yk:=@Nat.le_of_lt
def Yl:=@PySem.W.kia_one
def Ym:=@List.flatMap_append
def Yn:=@PySem.F.plainAttrs_list
def Yo:=@PySem.wpAny_Call_Name_kw
def Yp:=@Nat.lt_irrefl
def Yq:=@List.lookup_cons
def Yr:=@List.mem_flatMap
def Ys:=@Option.bind_some
def Yt:=@PySem.W.Fast.te10110043849684766642
def Yu:=@Int.emod_nonneg
def Yv:=@Int.emod_lt_of_pos
def Yw:=@List.all_eq_true
def Yy:=@PyProof.Rows.callWith_type1
def Yz:=@Bool.not_eq_true'
def Y0:=@List.length_nil
def Y1:=@List.drop_eq_getElem_cons
def Y2:=@List.getElem_mem
def Y3:=@PySem.Heap.size_push
def Y4:=@Classical.choose_spec
def Y5:=@List.length_filter_le
def Y6:=@PySem.wpAny_passesOwn
def Y7:=@PySem.wpAny_newObj_type
def Y8:=@Option.isSome_iff_exists
def Y9:=@Array.length_toList
def Xa:=@List.replicate_succ
def Xb:=@Nat.lt_succ_self
def Xc:=@List.mem_filterMap
def Xd:=@PySem.W.callWith_K
def Xe:=@List.mem_filter
def Xf:=@Bool.eq_iff_iff
def Xg:=@Option.map_some
def Xh:=@List.any_cons
def Xi:=@List.reverse_cons
def Xj:=@of_decide_eq_true
def Xk:=@PySem.Calls.Name_function_global
def Xm:=@PySem.wpAny_newFunctionEnv
def Xn:=@PySem.lookup_relabel_local
def Xo:=@PySem.codeAny_mono
def Xp:=@List.length_take
def Xq:=@List.map_nil
def Xr:=@List.drop_length
def Xs:=@Nat.sub_self
def Xu:=@List.filterMap_cons
def Xv:=@List.of_mem_zip
def Xw:=@PySem.sizeLine_eq
section
namespace L2
open PySem PySem.Spec PyProof.Rows
abbrev Key:=Sum Int Str
def mi:Key->Value->Bool
 | .inl k,v=>Value.isInt k v
 | .inr x,v=>Value.isStrOf x v
def Ll (w:World):Key->Int
 | .inl k=>hashInt k
 | .inr x=>hashStr w x
theorem aU:∀ {k:Key} {v:Value},mi k v=true->(∃ i t,k=Sum.inl i/\v=Value.int i t)\/(∃ x t,k=Sum.inr x/\v=Value.str x t)
 | .inl i,v,h=>by
  obtain ⟨t,e⟩:=Value.isInt_shape (k:=i) (v:=v) h;exact .inl ⟨i,t,rfl,e⟩
 | .inr x,v,h=>by
  obtain ⟨t,e⟩:=Value.isStrOf_shape (x:=x) (v:=v) h;exact .inr ⟨x,t,rfl,e⟩
theorem vf (i:Int) (t:Tok):mi (.inl i) (.int i t)=true:=by simp [mi,Value.isInt]
theorem ve (x:Str) (t:Tok):mi (.inr x) (.str x t)=true:=by simp [mi,Value.isStrOf]
theorem Eg (a b:Int):decide ((Sum.inl a:Key)=Sum.inl b)=(a == b):=by
 by_cases e:a=b
 · subst e; simp
 ·have h:¬ (Sum.inl a:Key)=Sum.inl b:=λ q=>e (Sum.inl.inj q)
  rw [Zq h];exact (Yh.mpr e).symm
theorem Ed (a b:Str):decide ((Sum.inr a:Key)=Sum.inr b)=decide (a=b):=by
 by_cases e:a=b
 · subst e; simp
 ·have h:¬ (Sum.inr a:Key)=Sum.inr b:=λ q=>e (Sum.inr.inj q)
  rw [Zq h,Zq e]
theorem Ef (a:Int) (b:Str):decide ((Sum.inl a:Key)=Sum.inr b)=false:=Zq (λ q=>nomatch q)
theorem Ee (a:Str) (b:Int):decide ((Sum.inr a:Key)=Sum.inl b)=false:=Zq (λ q=>nomatch q)
def bf (prog:Program) (w:World):PySem.KeyKind prog w Key where
 is:=mi
 hash:=Ll w
 inj:=λ v a b ha hb=>by
  rcases aU ha with ⟨i,t,rfl,rfl⟩ | ⟨x,t,rfl,rfl⟩
  ·rcases aU hb with ⟨j,u,rfl,e⟩ | ⟨y,u,rfl,e⟩
   · injection e with e1 _; rw [e1]
   · exact nomatch e
  ·rcases aU hb with ⟨j,u,rfl,e⟩ | ⟨y,u,rfl,e⟩
   · exact nomatch e
   · injection e with e1 _; rw [e1]
 byValue:=λ k v h=>by
  rcases aU h with ⟨i,t,rfl,rfl⟩ | ⟨x,t,rfl,rfl⟩ <;> rfl
 pyHash:=λ hv h=>by
  rcases aU hv with ⟨i,t,rfl,rfl⟩ | ⟨x,t,rfl,rfl⟩
  · exact wpAny_pyHash_int h
  · exact wpAny_pyHash_str h
 eqBool:=λ hu hv h=>by
  rcases aU hu with ⟨i,t,rfl,rfl⟩ | ⟨x,t,rfl,rfl⟩
  ·rcases aU hv with ⟨j,u,rfl,rfl⟩ | ⟨y,u,rfl,rfl⟩
   · rw [Eg] at h; exact wpAny_eqBool_int h
   · rw [Ef] at h; exact SeqAt.EqAt.int_str i t y u _ _ _ _ h
  ·rcases aU hv with ⟨j,u,rfl,rfl⟩ | ⟨y,u,rfl,rfl⟩
   · rw [Ee] at h; exact SeqAt.EqAt.str_int x t j u _ _ _ _ h
   · rw [Ed] at h; exact wpAny_eqBool_str h
 «strs»:=λ k x t v h=>by
  rcases aU h with ⟨i,u,rfl,e⟩ | ⟨y,u,rfl,e⟩
  · exact nomatch e
  ·injection e with e1 _
   subst e1;cases v <;> rfl
theorem pE (prog:Program) (w:World) (i:Int) (t:Tok):(bf prog w).is (.inl i) (.int i t)=true:=vf i t
theorem pw (prog:Program) (w:World) (x:Str) (t:Tok):(bf prog w).is (.inr x) (.str x t)=true:=ve x t
end L2
namespace L2
open PySem PySem.Spec PyProof.Rows
inductive V where
 | non | bl (b:Bool) | int (i:Int) | str (x:Str) | byt (b:Array UInt8) | flt (b:UInt64) | ref (a:Addr) | ty (n:String)
 deriving DecidableEq
def RelV:V->Value->Prop
 | .non,u=>u=Value.none
 | .bl b,u=>u=Value.bool b
 | .int i,u=>∃ t,u=Value.int i t
 | .str x,u=>∃ t,u=Value.str x t
 | .byt b,u=>∃ t,u=Value.bytes b t
 | .flt b,u=>∃ t,u=Value.float b t
 | .ref a,u=>u=Value.ref a
 | .ty n,u=>u=Value.type n
abbrev a7:List V->List Value->Prop:=Paired RelV
theorem a7.length (r:a7 xs us):xs.length=us.length:=Paired.length r
theorem a7.get:∀ {xs:List V} {us:List Value} {i:Nat} {x:V},a7 xs us->xs[i]?=some x->∃ u,us[i]?=some u/\RelV x u
 | _,_,_,_,.nil,e=>by simp at e
 | _,_,0,_,.cons r _,e=>by simp at e; subst e; exact ⟨_,rfl,r⟩
 | _,_,i+1,x,.cons _ t,e=>by
  obtain ⟨u,h1,h2⟩:=a7.get (i:=i) (x:=x) t (by simpa using e);exact ⟨u,by simpa using h1,h2⟩
theorem a7.append:∀ {xs ys:List V} {us ws:List Value},a7 xs us->a7 ys ws->a7 (xs++ys) (us++ws)
 | _,_,_,_,.nil,s=>s
 | _,_,_,_,.cons r t,s=>.cons r (a7.append t s)
theorem a7.take:∀ {xs:List V} {us:List Value} (n:Nat),a7 xs us->a7 (xs.take n) (us.take n)
 | _,_,0,_=>.nil
 | _,_,_+1,.nil=>.nil
 | _,_,n+1,.cons r t=>.cons r (a7.take n t)
theorem a7.drop:∀ {xs:List V} {us:List Value} (n:Nat),a7 xs us->a7 (xs.drop n) (us.drop n)
 | _,_,0,r=>r
 | _,_,_+1,.nil=>.nil
 | _,_,n+1,.cons _ t=>a7.drop n t
def oJ:Option V->Option Value->Prop
 | some v,some u=>RelV v u
 | none,none=>True
 | _,_=>False
def KV {κ:Type}:List (κ×V)->List (κ×Value)->Prop:=Paired λ (p:κ×V) (q:κ×Value)=>p.1=q.1/\RelV p.2 q.2
def kV:Key->V
 | .inl i=>.int i
 | .inr x=>.str x
inductive HO where
 | lst (xs:List V)
 | tup (xs:List V)
 | dK (kvs:List (Key×V)) | dT (kvs:List (List Key×V))
 | set (S:Int->Bool) (n:Nat)
 | ins (C dx:Addr) (fs:List (Str×V))
 | own (x:Addr)
 | xd (fs:List (Str×V))
 | met (f x:Addr)
 | rng (lo hi:Int)
 | frz (o:Obj) (u:HO)
 | tbl (ps:Array Value)
 | ext (φ:Heap->Prop)
abbrev Hp:=Addr->Option HO
def upd (H:Hp) (a:Addr) (o:HO):Hp:=λ b=>if b=a then some o else H b
theorem ai:upd H a o a=some o:=by unfold upd; rw [if_pos rfl]
theorem af (h:b≠a):upd H a o b=H b:=by unfold upd; rw [if_neg h]
theorem Il {H:Hp} {a b:Addr} {o u:HO} (h:H a=some o) (h':H b=some u) (d:o≠u):a≠b:=by
 intro e; subst e; rw [h] at h'; exact d (Zj h')
theorem cU {H:Hp} {a b:Addr} {o:HO} (h:H a=some o) (h':H b=none):a≠b:=by
 intro e; subst e; rw [h] at h'; cases h'
section
variable (P:Program) (w:World)
def bT (H:Hp) (h:Heap) (a:Addr):HO->Prop
 | .lst xs=>xs.length<=sizeLine/\∃ (its:List Value) (n:Nat),a7 xs its/\h.get? a=some { cls:=.type "list",data:=.seq its.toArray n }
 | .tup xs=>xs.length<=sizeLine/\∃ its:List Value,a7 xs its/\IsTup h a its.toArray
 | .dK kvs=>kvs.length<=sizeLine/\(a == sysModules)=false/\∃ vs,KV kvs vs/\h.DictOf (bf P w) a vs
 | .dT kvs=>kvs.length<=sizeLine/\(a == sysModules)=false/\∃ xs:List (List Key×Addr×Value),
  Paired (λ (p:List Key×V) (q:List Key×Addr×Value)=>p.1=q.1/\H q.2.1=some (.tup (p.1.map kV))/\RelV p.2 q.2.2) kvs xs /\
  ∃ o es ep,h.get? a=some o/\o.ExactDict/\o.data=.dict es ep/\es.toList=xs.map (entryOfKey (tupleKind (bf P w)))/\(xs.map (·.1)).Nodup
 | .set S n=>h.SetOf (intKind P w) a S n
 | .ins C dx fs=>H dx=some (.own a)/\fs.length<=1000/\dx≠a/\h.get? a=some (PySem.W.instObj C dx) /\
  ∃ mA,h.Ns1 dx mA/\(∀ f,oJ (fs.lookup f) (mA f))/\PySem.Within mA (fs.map (·.1))
 | .own _=>∃ o,h.get? a=some o
 | .xd fs=>∃ mA,h.Ns1 a mA/\∀ f,oJ (fs.lookup f) (mA f)
 | .rng lo hi=>∃ t u v,h.get? a=some { cls:=.type "range",data:=.fields #[.int lo t,.int hi u,.int 1 v] }
 | .frz o u=>h.get? a=some o/\bT H h a u
 | .tbl ps=>h.get? a=some { cls:=.none,data:=.fields ps }
 | .met f x=>h.get? a=some (PySem.W.methodObj (.ref f) (.ref x))
 | .ext φ=>φ h/\(∃ o,h.get? a=some o)/\∀ h1 h2:Heap,φ h1->(∀ o,h1.get? a=some o->h2.get? a=some o)->φ h2
def HOk (H:Hp) (h:Heap):Prop:=∀ a o,H a=some o->bT P w H h a o
end
section
variable {P:Program} {w:World} {H H':Hp} {h h':Heap} {a:Addr} {o:HO}
theorem bT.lt (x:bT P w H h a o):a < h.objs.size:=by
 cases o with
 | lst xs=>obtain ⟨_,_,_,_,e⟩:=x; exact Zr e
 | tup xs=>obtain ⟨_,_,_,p⟩:=x; exact p.lt
 | dK kvs=>obtain ⟨_,_,_,_,o,_,_,e,_⟩:=x; exact Zr e
 | dT kvs=>obtain ⟨_,_,_,_,o,_,_,e,_⟩:=x; exact Zr e
 | set S n=>obtain ⟨o,_,_,_,e,_⟩:=x; exact Zr e
 | ins C dx fs=>obtain ⟨_,_,_,e,_⟩:=x; exact Zr e
 | own y=>obtain ⟨_,e⟩:=x; exact Zr e
 | xd fs=>obtain ⟨_,⟨_,_,_,e,_⟩,_⟩:=x; exact Zr e
 | rng lo hi=>obtain ⟨_,_,_,e⟩:=x; exact Zr e
 | frz ob u=>obtain ⟨e,_⟩:=x; exact Zr e
 | tbl ps=>exact Zr (show h.get? a=some _ from x)
 | met f y=>exact Zr (show h.get? a=some _ from x)
 | ext φ=>obtain ⟨_,⟨_,e⟩,_⟩:=x; exact Zr e
theorem Paired.Iu {α β:Type} {F G:α->β->Prop}:∀ {l₁:List α} {l₂:List β},Paired F l₁ l₂->(∀ a b,F a b->G a b)->Paired G l₁ l₂
 | _,_,.nil,_=>.nil
 | _,_,.cons r t,f=>.cons (f _ _ r) (Paired.Iu t f)
theorem bT.oT (x:bT P w H h a o) (k:∀ b u,(b=a\/H b=some (.own a))->h.get? b=some u->h'.get? b=some u)
  (ho:∀ b,H b=some (.own a)->H' b=some (.own a)) (ht:∀ b xs,H b=some (.tup xs)->H' b=some (.tup xs)):bT P w H' h' a o:=by
 induction o with
 | lst xs=>obtain ⟨z,its,n,r,e⟩:=x; exact ⟨z,its,n,r,k _ _ (.inl rfl) e⟩
 | tup xs=>obtain ⟨z,its,r,ob,e,c⟩:=x; exact ⟨z,its,r,ob,k _ _ (.inl rfl) e,c⟩
 | dK kvs=>obtain ⟨z,y,vs,r,ob,es,ep,e,c⟩:=x; exact ⟨z,y,vs,r,ob,es,ep,k _ _ (.inl rfl) e,c⟩
 | dT kvs =>
  obtain ⟨z,y,xs,r,ob,es,ep,e,c⟩:=x;exact ⟨z,y,xs,Paired.Iu r λ p q z=>⟨z.1,ht _ _ z.2.1,z.2.2⟩,ob,es,ep,k _ _ (.inl rfl) e,c⟩
 | set S n=>obtain ⟨ob,es,ep,t,e,c⟩:=x; exact ⟨ob,es,ep,t,k _ _ (.inl rfl) e,c⟩
 | ins C dx fs =>
  obtain ⟨d,z,ne,e,mA,⟨od,es,ep,e2,c⟩,r⟩:=x;exact ⟨ho _ d,z,ne,k _ _ (.inl rfl) e,mA,⟨od,es,ep,k _ _ (.inr d) e2,c⟩,r⟩
 | own y=>obtain ⟨ob,e⟩:=x; exact ⟨ob,k _ _ (.inl rfl) e⟩
 | xd fs=>obtain ⟨mA,⟨od,es,ep,e,c⟩,r⟩:=x; exact ⟨mA,⟨od,es,ep,k _ _ (.inl rfl) e,c⟩,r⟩
 | rng lo hi=>obtain ⟨t,u,v,e⟩:=x; exact ⟨t,u,v,k _ _ (.inl rfl) e⟩
 | frz ob u ih=>obtain ⟨e,q⟩:=x; exact ⟨k _ _ (.inl rfl) e,ih q⟩
 | tbl ps =>
  have e:h.get? a=some { cls:=.none,data:=.fields ps }:=x;show h'.get? a=some { cls:=.none,data:=.fields ps };exact k a _ (.inl rfl) e
 | met f y =>
  have e:h.get? a=some (PySem.W.methodObj (.ref f) (.ref y)):=x;show h'.get? a=some (PySem.W.methodObj (.ref f) (.ref y));exact k a _ (.inl rfl) e
 | ext φ=>obtain ⟨p,⟨o,e⟩,st⟩:=x; exact ⟨st _ _ p λ o q=>k _ _ (.inl rfl) q,⟨o,k _ _ (.inl rfl) e⟩,st⟩
theorem HOk.lt (x:HOk P w H h) (e:H a=some o):a < h.objs.size:=(x a o e).lt
theorem HOk.fresh (x:HOk P w H h) (e:h.objs.size<=a):H a=none:=by
 cases q:H a with
 | none=>rfl
 | some u=>exact absurd (Z0 (x.lt q) e) (Yp _)
theorem HOk.kept (x:HOk P w H h) (k:∀ b u,h.get? b=some u->h'.get? b=some u):HOk P w H h':=λ a o e =>
 (x a o e).oT (λ b u _ q=>k b u q) (λ _ q=>q) λ _ _ q=>q
theorem HOk.laid (x:HOk P w H h) (k:∀ b u,h.get? b=some u->h'.get? b=some u) (hp:h.objs.size<=a) (new:bT P w (upd H a o) h' a o):HOk P w (upd H a o) h':=λ b u e=>by
 have hn:=x.fresh hp
 by_cases hb:b=a
 · subst hb; rw [ai] at e; cases e; exact new
 ·rw [af hb] at e
  exact (x b u e).oT (λ c v _ q=>k c v q) (λ c q=>by rw [af (cU q hn)]; exact q) λ c xs q=>by rw [af (cU q hn)]; exact q
end
def Rd (H:Hp) (a:Addr) (u:HO):Prop:=H a=some u\/∃ o,H a=some (.frz o u)
theorem Rd.ok (r:Rd H a u) (x:HOk P w H h):bT P w H h a u:=by
 rcases r with r | ⟨o,r⟩
 · exact x a u r
 ·obtain ⟨_,q⟩:=x a _ r
  exact q
def Mut:Option HO->Prop
 | some (.lst _)=>True
 | some (.dK _)=>True
 | some (.dT _)=>True
 | some (.set _ _)=>True
 | some (.ins _ _ _)=>True
 | some (.ext _)=>True
 | _=>False
section
variable {P:Program} {w:World} {H:Hp} {h h':Heap} {x e:Addr} {o':HO}
theorem HOk.write (ok:HOk P w H h) (mu:Mut (H x)) (he:e=x\/H e=some (.own x)) (k:∀ b u,b≠e->h.get? b=some u->h'.get? b=some u) (heo:∃ u,h'.get? e=some u)
  (new:bT P w (upd H x o') h' x o'):HOk P w (upd H x o') h':=λ b u q=>by
 have nown:∀ c y,H c=some (.own y)->c≠x:=λ c y r z=>by subst z; rw [r] at mu; exact mu
 have ntup:∀ c xs,H c=some (.tup xs)->c≠x:=λ c xs r z=>by subst z; rw [r] at mu; exact mu
 by_cases hb:b=x
 · subst hb; rw [ai] at q; cases q; exact new
 ·rw [af hb] at q
  by_cases hbe:b=e
  ·have q':H b=some (.own x):=by
    rcases he with z | z
    · exact absurd (hbe.trans z) hb
    · rw [hbe]; exact z
   rw [q] at q'; cases q'
   obtain ⟨v,hv⟩:=heo;exact ⟨v,by rw [hbe]; exact hv⟩
  ·refine (ok b u q).oT (λ c v hc r=>k c v ?_ r) (λ c r=>by rw [af (nown c b r)]; exact r) λ c xs r=>by rw [af (ntup c xs r)]; exact r
   rcases hc with rfl | hc
   · exact hbe
   ·rintro rfl
    rcases he with z | z
    · exact nown c b hc z
    · rw [hc] at z; cases z; exact hb rfl
end
structure Un (fs ex:List Addr) (H H':Hp) (h h':Heap):Prop where
 keep:∀ b o,h.get? b=some o->H b=none->b ∉ fs->b ∉ ex->h'.get? b=some o
 slot:∀ b o,h.get? b=some o->H b=none->b ∈ fs->b ∉ ex->∃ sl,h'.get? b=some { o with slots:=sl }
 free:∀ b o,h.get? b=some o->H b=none->b ∉ ex->H' b=none
 there:∀ b o,h.get? b=some o->b ∉ ex->∃ o',h'.get? b=some o'
 mK:∀ b xs,H b=some (.tup xs)->H' b=some (.tup xs)
 mr:∀ b o u,H b=some (.frz o u)->H' b=some (.frz o u)
 lR:∀ b ps,H b=some (.tbl ps)->∃ more,H' b=some (.tbl (ps++more))
section
variable {fs fs' ex ex':List Addr} {H H1 H2:Hp} {h h1 h2 h':Heap} {a x e:Addr} {o:HO}
theorem Un.any (u:Un fs ex H H1 h h1) (q:h.get? b=some ob) (n:H b=none) (hx:b ∉ ex):∃ sl,h1.get? b=some { ob with slots:=sl }:=by
 by_cases hb:b ∈ fs
 · exact u.slot b ob q n hb hx
 · exact ⟨ob.slots,u.keep b ob q n hb hx⟩
theorem Un.kept (k:∀ b u,h.get? b=some u->h'.get? b=some u):Un fs ex H H h h' :=
 ⟨λ b ob q _ _ _=>k b ob q,λ b ob q _ _ _=>⟨ob.slots,k b ob q⟩,λ _ _ _ n _=>n,λ b ob q _=>⟨ob,k b ob q⟩,λ _ _ q=>q,λ _ _ _ q=>q,λ _ ps q=>⟨#[],by rw [q]; simp⟩⟩
theorem Un.refl:Un fs ex H H h h:=Un.kept λ _ _ q=>q
theorem Un.laid (k:∀ b u,h.get? b=some u->h'.get? b=some u) (hp:h.objs.size<=a) (hn:H a=none):Un fs ex H (upd H a o) h h' where
 keep:=λ b u q _ _ _=>k b u q
 slot:=λ b u q _ _ _=>⟨u.slots,k b u q⟩
 free:=λ b u q n _=>by rw [af (Zz (Z0 (Zr q) hp))]; exact n
 there:=λ b u q _=>⟨u,k b u q⟩
 mK:=λ b xs q=>by rw [af (cU q hn)]; exact q
 mr:=λ b u xs q=>by rw [af (cU q hn)]; exact q
 lR:=λ b ps q=>⟨#[],by rw [af (cU q hn),q]; simp⟩
theorem Un.write (mu:Mut (H x)) (he:e=x\/H e=some (.own x)) (k:∀ b u,b≠e->h.get? b=some u->h'.get? b=some u) (heo:∃ u,h'.get? e=some u):Un fs ex H (upd H x o) h h':=by
 have hx:∀ b,H b=none->b≠x:=λ b n z=>by subst z; rw [n] at mu; exact mu
 have hb:∀ b,H b=none->b≠e:=λ b n z=>by
  subst z;rcases he with r | r
  · exact hx b n r
  · rw [n] at r; cases r
 have hm:∀ b u,H b=some u->¬ Mut (some u)->b≠x:=λ b u q nm z=>by subst z; rw [q] at mu; exact nm mu
 refine ⟨λ b u q n _ _=>k b u (hb b n) q,λ b u q n _ _=>⟨u.slots,k b u (hb b n) q⟩,λ b u q n _=>by rw [af (hx b n)]; exact n,λ b u q _=>?_,
  λ b xs q=>by rw [af (hm b _ q λ z=>z)]; exact q,λ b u xs q=>by rw [af (hm b _ q λ z=>z)]; exact q,λ b ps q=>⟨#[],by rw [af (hm b _ q λ z=>z),q]; simp⟩⟩
 by_cases hbe:b=e
 · subst hbe; exact heo
 · exact ⟨u,k b u hbe q⟩
end
def trk (h:Heap) (H:Hp):List Addr:=(List.range h.objs.size).filter λ a=>(H a).isSome
def yj (h:Heap) (H:Hp):Heap:=PySem.W.hideAll h (trk h H)
theorem vt (h:Heap) (H:Hp):(yj h H).objs.size=h.objs.size:=PySem.W.hideAll_size _ _
theorem yi (e:h.get? b=some o) (n:H b=none):(yj h H).get? b=some o :=
 PySem.W.hideAll_get _ e λ hm=>by
  have q:(H b).isSome=true:=(Xe.mp hm).2;rw [n] at q; simp at q
theorem AY (e:(yj h H).get? b=some o):h.get? b=some o/\H b=none:=by
 have e':h.get? b=some o:=PySem.W.of_hideAll (trk h H) e;refine ⟨e',?_⟩
 cases q:H b with
 | none=>rfl
 | some x =>
  have hm:b ∈ trk h H:=Xe.mpr ⟨List.mem_range.mpr (Zr e'),by simp [q]⟩;have z:(yj h H).get? b=none:=PySem.W.hideAll_none (trk h H) hm;rw [z] at e; cases e
end L2
namespace L2
open PySem PySem.Spec PyProof.Rows
structure Mod (K:W.Frag) (mg:Str->Option Value) (base:Heap):Prop where
 kin:K.In base
 glob:base.Ns mainGlobals mg
 blt:∃ mb,base.Ns builtinsNs mb/\∀ x:Str,x≠"__name__"->mb x=bootBuiltins x
 nolimit:base.NoLimit
structure Cx where
 prog:Program
 w:World
 K:W.Frag
 mg:Str->Option Value
 base:Heap
 A:Around
 N:List Str
 s₀:Shared
 H₀:Hp
 env:Env
 outer:List Env
 stack:List Env
 ex:List Addr
 fn:Str->Bool
 calm:Bool
 pn:List (Addr×Obj)
 xe:Value->Shared->Prop
def frs (l:List Env):List Addr:=l.filterMap (·.frame)
abbrev Cx.fs (X:Cx):List Addr:=frs X.outer
def Vis (sc:Scope) (x:Str):Prop:=sc.names.lookup x=some .local\/sc.names.lookup x=some .cell\/sc.names.lookup x=some .free
def Loc (sc:Scope) (x:Str):Prop:=sc.names.lookup x=some .local\/sc.names.lookup x=some .cell
def Look (env:Env) (h:Heap) (m:Str->Option Value) (x:Str) (u:Value):Prop :=
 (env.kindOf x=some .local/\m x=some u)\/((env.kindOf x=some .cell\/env.kindOf x=some .free)/\∃ c,env.cells.lookup x=some c/\h.IsCell c (some u))
structure Cx.Ok (X:Cx):Prop where
 mod:Mod X.K X.mg X.base
 kind:X.env.scope.kind=.function
 glob:X.env.globals=mainGlobals
 blt:X.env.builtins=builtinsNs
 above:X.s₀.heap.objs.size<=X.env.locals
 inj:∀ x y c,X.env.cells.lookup x=some c->X.env.cells.lookup y=some c->x=y
 has:∀ x,(X.env.kindOf x=some .cell\/X.env.kindOf x=some .free)->∃ c,X.env.cells.lookup x=some c
 cab:∀ x c,X.fn x=true->X.env.cells.lookup x=some c->X.s₀.heap.objs.size<=c
 hd:X.calm=true->X.A.handled=none
 frames:X.A.frames=some X.stack
 stk:X.stack=X.outer\/(X.stack=X.env::X.outer/\X.env.frame=some X.env.locals)
 exf:∀ b ∈ X.ex,b≠X.env.locals/\∀ x c,X.env.cells.lookup x=some c->c≠b
 bs:∀ b o,X.base.get? b=some o->X.s₀.heap.get? b=some o/\X.H₀ b=none
 bsz:X.base.objs.size<=X.s₀.heap.objs.size
 A3:∀ b o,X.base.get? b=some o->b ∉ X.ex
 Cq:∀ b ∈ X.ex,b ∉ X.fs
 mM:X.s₀.heap.FunFrames X.base X.outer
 frf:∀ b ∈ X.fs,X.H₀ b=none
structure Inv (X:Cx) (pins:List (Addr×Obj)) (σ:List (Option V)) (H:Hp) (s:Shared):Prop where
 ok:X.Ok
 os:s.os=X.s₀.os
 bare:AllBare s.gens
 base:Un X.fs X.ex X.H₀ H X.s₀.heap s.heap
 loc:∃ m,s.heap.Ns X.env.locals m/\∀ (i:Nat) (x:Str) (v:V),X.N[i]?=some x->σ[i]?=some (some v)->Vis X.env.scope x->∃ u,RelV v u/\Look X.env s.heap m x u
 cell:∀ x c,X.env.cells.lookup x=some c->∃ v,s.heap.IsCell c v
 free:H X.env.locals=none
 dS:∀ x c,X.env.cells.lookup x=some c->H c=none
 pin:∀ p ∈ X.pn++pins,s.heap.get? p.1=some p.2/\H p.1=none/\p.1≠X.env.locals/\p.1 ∉ X.fs/\∀ v,p.2.data≠.cell v
 hok:HOk X.prog X.w H s.heap
 len:σ.length=X.N.length
section
variable {X:Cx} {pins:List (Addr×Obj)} {σ:List (Option V)} {H H':Hp} {s:Shared} {h':Heap}
theorem Cx.Ok.K4 (ok:X.Ok) (e:X.base.get? b=some o):b ∉ X.fs:=λ hb=>by
 have:=(ok.mM.mem hb).1;rw [e] at this; cases this
theorem Inv.bs (I:Inv X pins σ H s):∀ b o,X.base.get? b=some o->s.heap.get? b=some o/\H b=none:=λ b o e =>
 ⟨I.base.keep b o (I.ok.bs b o e).1 (I.ok.bs b o e).2 (I.ok.K4 e) (I.ok.A3 b o e),I.base.free b o (I.ok.bs b o e).1 (I.ok.bs b o e).2 (I.ok.A3 b o e)⟩
theorem Inv.bk (I:Inv X pins σ H s):∀ b o,X.base.get? b=some o->s.heap.get? b=some o:=λ b o e=>(I.bs b o e).1
theorem Inv.mod (I:Inv X pins σ H s):Mod X.K X.mg X.base:=I.ok.mod
theorem Inv.kIn (I:Inv X pins σ H s):X.K.In s.heap:=I.ok.mod.kin.keeps I.bk
theorem Inv.lt (I:Inv X pins σ H s):X.env.locals < s.heap.objs.size:=let ⟨_,hn,_⟩:=I.loc; hn.lt
theorem Inv.sz (I:Inv X pins σ H s):X.s₀.heap.objs.size<=s.heap.objs.size:=Z5 I.ok.above (Yk I.lt)
theorem Inv.K3 (I:Inv X pins σ H s) (h:s.heap.objs.size<=a):a ∉ X.fs:=λ hb=>by
 obtain ⟨_,o,ho,_⟩:=I.ok.mM.mem hb;exact absurd (Z0 (Zr ho) (Z5 I.sz h)) (Yp _)
theorem Inv.cne (I:Inv X pins σ H s):∀ x c,X.env.cells.lookup x=some c->c≠X.env.locals:=λ x c e z=>by
 obtain ⟨v,o,ho,hd⟩:=I.cell x c e;obtain ⟨m,⟨o',es,ep,ho',hd',_⟩,_⟩:=I.loc;rw [z,ho'] at ho; cases ho; rw [hd'] at hd; cases hd
theorem Inv.mM (I:Inv X pins σ H s):s.heap.FunFrames X.base X.outer:=by
 have all:∀ (l:List Env),(∀ b ∈ frs l,b ∈ X.fs)->X.s₀.heap.FunFrames X.base l->s.heap.FunFrames X.base l:=by
  intro l
  induction l with
  | nil=>intro _ _; trivial
  | cons env r ih =>
   intro hs hl;obtain ⟨hk,⟨L,o,hf,hn,ho,hd⟩,hr⟩:=hl;have hL:L ∈ X.fs:=hs L (by unfold frs; rw [Xu,hf]; exact Ze);obtain ⟨sl,e⟩:=I.base.slot L o ho (I.ok.frf L hL) hL λ z=>I.ok.Cq L z hL
   exact ⟨hk,⟨L,_,hf,hn,e,hd⟩,ih (λ b hb=>hs b (by unfold frs; rw [Xu,hf]; exact Zd _ hb)) hr⟩
 exact all X.outer (λ _ hb=>hb) I.ok.mM
theorem Inv.stack (I:Inv X pins σ H s):s.heap.FunFrames X.base X.stack:=by
 rcases I.ok.stk with e | ⟨e,hf⟩
 · rw [e]; exact I.mM
 ·rw [e]
  obtain ⟨m,hn,_⟩:=I.loc;refine .cons (by rw [I.ok.kind]; decide) hf hn ?_ I.mM;exact Heap.get?_none_of_le (Z5 I.ok.bsz I.ok.above)
theorem Inv.dF (I:Inv X pins σ H s):∀ b ∈ frs X.stack,b ∈ X.env.locals::X.fs:=λ b hb=>by
 rcases I.ok.stk with e | ⟨e,hf⟩
 · rw [e] at hb; exact Zd _ hb
 ·rw [e] at hb
  unfold frs at hb;rw [Xu,hf] at hb;exact hb
theorem Inv.iz (I:Inv X pins σ H s):∀ b ∈ frs X.stack,H b=none:=λ b hb=>by
 rcases Zh.mp (I.dF b hb) with e | hb
 · rw [e]; exact I.free
 ·obtain ⟨_,o,ho,_⟩:=I.ok.mM.mem hb
  exact I.base.free b o ho (I.ok.frf b hb) λ z=>I.ok.Cq b z hb
theorem Inv.step {g':Array GenState} {t':Nat} {d':Drawn} {ch:List Addr} (I:Inv X pins σ H s)
  (hch:∀ b ∈ ch,(b ∈ X.ex\/X.s₀.heap.objs.size<=b)/\b≠X.env.locals/\(∀ x c,X.env.cells.lookup x=some c->c≠b)/\∀ p ∈ X.pn++pins,p.1≠b)
  (keep:∀ b o,b≠X.env.locals->b ∉ X.fs->b ∉ ch->s.heap.get? b=some o->H b=none->h'.get? b=some o)
  (slot:∀ b o,b≠X.env.locals->b ∈ X.fs->b ∉ ch->s.heap.get? b=some o->H b=none->∃ sl,h'.get? b=some { o with slots:=sl }) (free:∀ b o,b ∉ ch->s.heap.get? b=some o->H b=none->H' b=none)
  (there:∀ b o,b ∉ ch->s.heap.get? b=some o->∃ o',h'.get? b=some o')
  (mK:∀ b xs,H b=some (.tup xs)->H' b=some (.tup xs)) (mr:∀ b o u,H b=some (.frz o u)->H' b=some (.frz o u)) (lR:∀ b ps,H b=some (.tbl ps)->∃ more,H' b=some (.tbl (ps++more)))
  (ns:∀ m,s.heap.Ns X.env.locals m->h'.Ns X.env.locals m) (hok:HOk X.prog X.w H' h') (hg:AllBare g') :
  Inv X pins σ H' { s with heap:=h',gens:=g',drawn:=d',toks:=t' }:=by
 have neL:∀ b o,X.s₀.heap.get? b=some o->b≠X.env.locals:=λ b o e=>Zz (Z0 (Zr e) I.ok.above)
 have neC:∀ b o,X.s₀.heap.get? b=some o->b ∉ X.ex->b ∉ ch:=λ b o e hx hb=>by
  rcases (hch b hb).1 with z | z
  · exact hx z
  · exact absurd (Z0 (Zr e) z) (Yp _)
 have cellK:∀ x c,X.env.cells.lookup x=some c->∀ v,s.heap.IsCell c v->h'.IsCell c v:=λ x c e v ⟨o,ho,hd⟩=>by
  have nch:c ∉ ch:=λ z=>(hch c z).2.2.1 x c e rfl
  by_cases hc:c ∈ X.fs
  ·obtain ⟨sl,q⟩:=slot c o (I.cne x c e) hc nch ho (I.dS x c e)
   exact ⟨_,q,hd⟩
  · exact ⟨o,keep c o (I.cne x c e) hc nch ho (I.dS x c e),hd⟩
 refine ⟨I.ok,I.os,hg,⟨λ b o e n hb hx=>?_,λ b o e n hb hx=>?_,λ b o e n hx=>?_,λ b o e hx=>?_,λ b xs e=>mK b xs (I.base.mK b xs e),λ b o xs e=>mr b o xs (I.base.mr b o xs e),λ b ps e=>?_⟩,?_,λ x c e=>?_,?_,λ x c e=>?_,λ p hp=>?_,hok,I.len⟩
 · exact keep b o (neL b o e) hb (neC b o e hx) (I.base.keep b o e n hb hx) (I.base.free b o e n hx)
 ·obtain ⟨sl,e1⟩:=I.base.slot b o e n hb hx
  obtain ⟨sl',e2⟩:=slot b _ (neL b o e) hb (neC b o e hx) e1 (I.base.free b o e n hx);exact ⟨sl',e2⟩
 ·obtain ⟨o',e1⟩:=I.base.there b o e hx
  exact free b o' (neC b o e hx) e1 (I.base.free b o e n hx)
 ·obtain ⟨o',e1⟩:=I.base.there b o e hx
  exact there b o' (neC b o e hx) e1
 ·obtain ⟨m1,e1⟩:=I.base.lR b ps e
  obtain ⟨m2,e2⟩:=lR b _ e1;exact ⟨m1++m2,by rw [e2,Array.append_assoc]⟩
 ·obtain ⟨m,hn,hl⟩:=I.loc
  refine ⟨m,ns m hn,λ i x v e1 e2 e3=>?_⟩;obtain ⟨u,r,l⟩:=hl i x v e1 e2 e3;refine ⟨u,r,?_⟩;rcases l with l | ⟨k,c,e,z⟩
  · exact .inl l
  · exact .inr ⟨k,c,e,cellK x c e _ z⟩
 ·obtain ⟨v,z⟩:=I.cell x c e
  exact ⟨v,cellK x c e v z⟩
 ·obtain ⟨m,⟨o,_,_,ho,_⟩,_⟩:=I.loc
  exact free _ o (λ z=>(hch _ z).2.1 rfl) ho I.free
 ·obtain ⟨v,o,ho,hd⟩:=I.cell x c e
  exact free c o (λ z=>(hch c z).2.2.1 x c e rfl) ho (I.dS x c e)
 ·obtain ⟨e,n,ne,nf,d⟩:=I.pin p hp
  have nch:p.1 ∉ ch:=λ z=>(hch p.1 z).2.2.2 p hp rfl
  exact ⟨keep p.1 p.2 ne nf nch e n,free p.1 p.2 nch e n,ne,nf,d⟩
theorem Inv.un {t':Nat} (I:Inv X pins σ H s) (u:Un X.fs [] H H' s.heap h') (hok:HOk X.prog X.w H' h'):Inv X pins σ H' { s with heap:=h',toks:=t' }:=by
 obtain ⟨m,⟨o,es,ep,ho,r⟩,_⟩:=id I.loc;obtain ⟨sl,hL⟩:=u.any ho I.free (by simp)
 exact I.step (g':=s.gens) (d':=s.drawn) (ch:=[]) (λ _ z=>nomatch z) (λ b o _ hb _ e n=>u.keep b o e n hb (by simp)) (λ b o _ hb _ e n=>u.slot b o e n hb (by simp)) (λ b o _ e n=>u.free b o e n (by simp)) (λ b o _ e=>u.there b o e (by simp)) u.mK u.mr u.lR (λ m' hm=>by
  obtain ⟨o',es',ep',ho',r'⟩:=hm;rw [ho] at ho'; cases ho'
  exact ⟨_,es',ep',hL,r'⟩) hok I.bare
theorem Inv.call {g':Array GenState} {t':Nat} {d':Drawn} {ch:List Addr} (I:Inv X pins σ H s) (u:Un (frs X.stack) ch H H' s.heap h') (hok:HOk X.prog X.w H' h') (hg:AllBare g')
  (hch:∀ b ∈ ch,(b ∈ X.ex\/X.s₀.heap.objs.size<=b)/\b≠X.env.locals/\(∀ x c,X.env.cells.lookup x=some c->c≠b)/\∀ p ∈ X.pn++pins,p.1≠b) :
  Inv X pins σ H' { s with heap:=h',gens:=g',drawn:=d',toks:=t' }:=by
 obtain ⟨m,⟨o,es,ep,ho,r⟩,_⟩:=id I.loc;obtain ⟨sl,hL⟩:=u.any ho I.free λ z=>(hch _ z).2.1 rfl
 exact I.step (ch:=ch) hch (λ b o hL hb hc e n=>u.keep b o e n (λ z=>(Zh.mp (I.dF b z)).elim hL hb) hc) (λ b o _ _ hc e n=>u.any e n hc) (λ b o hc e n=>u.free b o e n hc) (λ b o hc e=>u.there b o e hc) u.mK u.mr u.lR (λ m' hm=>by
  obtain ⟨o',es',ep',ho',r'⟩:=hm;rw [ho] at ho'; cases ho'
  exact ⟨_,es',ep',hL,r'⟩) hok hg
theorem Inv.turned {t':Nat} {it:Addr} (I:Inv X pins σ H s) (k:∀ b o,b≠it->s.heap.get? b=some o->h'.get? b=some o) (hn:H it=none) (hL:it≠X.env.locals)
  (h1:it ∈ X.ex\/X.s₀.heap.objs.size<=it) (h2:∀ x c,X.env.cells.lookup x=some c->c≠it) (h3:∀ p ∈ X.pn++pins,p.1≠it):Inv X pins σ H { s with heap:=h',toks:=t' }:=by
 have nit:∀ b u,H b=some u->b≠it:=λ b u e z=>by rw [z,hn] at e; cases e
 refine I.step (g':=s.gens) (d':=s.drawn) (ch:=[it]) (λ b hb=>?_) (λ b o _ _ hc e _=>k b o (λ z=>hc (by simp [z])) e) (λ b o _ _ hc e _=>⟨o.slots,k b o (λ z=>hc (by simp [z])) e⟩) (λ _ _ _ _ n=>n)
  (λ b o hc e=>⟨o,k b o (λ z=>hc (by simp [z])) e⟩) (λ _ _ e=>e) (λ _ _ _ e=>e) (λ b ps e=>⟨#[],by rw [e]; simp⟩) (λ m hm=>?_) (λ b u e=>?_) I.bare
 ·have e:b=it:=by simpa using hb
  subst e;exact ⟨h1,hL,h2,h3⟩
 ·obtain ⟨o,es,ep,ho,r⟩:=hm
  exact ⟨o,es,ep,k _ o (Ne.symm hL) ho,r⟩
 ·refine (I.hok b u e).oT (λ c v hc q=>k c v ?_ q) (λ _ q=>q) λ _ _ q=>q
  rcases hc with z | z
  · rw [z]; exact nit b u e
  · exact nit c _ z
theorem Inv.tok (I:Inv X pins σ H s) (t:Nat):Inv X pins σ H { s with toks:=t }:=I.un (h':=s.heap) (t':=t) Un.refl I.hok
theorem Inv.kept (I:Inv X pins σ H s) (k:∀ b u,s.heap.get? b=some u->h'.get? b=some u):Inv X pins σ H { s with heap:=h',toks:=t' }:=I.un (Un.kept k) (I.hok.kept k)
theorem Inv.laid (I:Inv X pins σ H s) (k:∀ b u,s.heap.get? b=some u->h'.get? b=some u) (hp:s.heap.objs.size<=a) (new:bT X.prog X.w (upd H a o) h' a o) :
 Inv X pins σ (upd H a o) { s with heap:=h',toks:=t' }:=I.un (Un.laid k hp (I.hok.fresh hp)) (I.hok.laid k hp new)
theorem Inv.write (I:Inv X pins σ H s) (mu:Mut (H x)) (he:e=x\/H e=some (.own x)) (k:∀ b u,b≠e->s.heap.get? b=some u->h'.get? b=some u) (heo:∃ u,h'.get? e=some u)
 (new:bT X.prog X.w (upd H x o) h' x o):Inv X pins σ (upd H x o) { s with heap:=h',toks:=t' }:=I.un (Un.write mu he k heo) (I.hok.write mu he k heo new)
theorem Inv.gn (I:Inv X pins σ H s) (h:∀ p ∈ pins',s.heap.get? p.1=some p.2/\H p.1=none/\p.1≠X.env.locals/\p.1 ∉ X.fs/\∀ v,p.2.data≠.cell v):Inv X pins' σ H s :=
 ⟨I.ok,I.os,I.bare,I.base,I.loc,I.cell,I.free,I.dS,λ p hp=>(Zi.mp hp).elim (λ z=>I.pin p (Zn _ z)) (h p),I.hok,I.len⟩
theorem qw {N:List Str} (hN:N.Nodup) {i j:Nat} {x:Str} (a:N[i]?=some x) (b:N[j]?=some x):i=j:=by
 obtain ⟨h1,e1⟩:=List.getElem?_eq_some_iff.mp a;obtain ⟨h2,e2⟩:=List.getElem?_eq_some_iff.mp b;exact (List.getElem_inj hN).mp (e1.trans e2.symm)
theorem mT {M:Model} {A:Around} {E:Value->Shared->Prop} {i:Nat} {x:Str} {v:V} {u:Value} {Q:Unit->Shared->Prop} (I:Inv X pins σ H s) (hN:X.N.Nodup) (hi:X.N[i]?=some x) (hx:Loc X.env.scope x) (r:RelV v u)
  (h:∀ s',Inv X pins (σ.set i (some v)) H s'->(∃ a,Heap.SameBut a s.heap s'.heap/\(a=X.env.locals\/X.env.cells.lookup x=some a))->Q () s') (hf:X.fn x=true\/X.env.scope.names.lookup x=some .local:=by first | exact .inl rfl | exact .inr rfl | assumption):wpAny M A (storeName X.env x u) Q E s:=by
 obtain ⟨m,hn,hl⟩:=id I.loc;have hcls:(X.env.scope.kind == .class||(X.env.scope.kind == .module&&X.env.locals != X.env.globals))=false:=by rw [I.ok.kind]; rfl
 have hiσ:i < σ.length:=by rw [I.len]; exact (List.getElem?_eq_some_iff.mp hi).1
 have cne:=I.cne
 have tracked:∀ {a:Addr} {h':Heap},(∃ o,s.heap.get? a=some o/\H a=none)->Heap.SameBut a s.heap h'->HOk X.prog X.w H h':=λ {a h'} ha hs b ob e=>by
  obtain ⟨_,_,hfree⟩:=ha;refine (I.hok b ob e).oT (λ c w' hc q=>(hs.2 c ?_).trans q) (λ _ q=>q) λ _ _ q=>q
  rintro rfl
  rcases hc with rfl | hc
  · rw [hfree] at e; cases e
  · rw [hfree] at hc; cases hc
 rcases hx with hk | hk
 ·refine wpAny_storeName_local hk hn (λ h' hn' hs=>?_) hcls
  obtain ⟨oL,_,_,hoL,_⟩:=id hn;refine h _ ⟨I.ok,I.os,I.bare,⟨λ b o e n hb hx=>?_,λ b o e n hb hx=>?_,I.base.free,λ b o e hx=>?_,I.base.mK,I.base.mr,I.base.lR⟩,⟨_,hn',λ j y v' e1 e2 e3=>?_⟩,λ y c e=>?_,I.free,I.dS,λ p hp=>?_,tracked ⟨oL,hoL,I.free⟩ hs,by simpa using I.len⟩ ⟨_,hs,.inl rfl⟩
  · exact (hs.2 b (Zz (Z0 (Zr e) I.ok.above))).trans (I.base.keep b o e n hb hx)
  ·obtain ⟨sl,e1⟩:=I.base.slot b o e n hb hx
   exact ⟨sl,(hs.2 b (Zz (Z0 (Zr e) I.ok.above))).trans e1⟩
  ·obtain ⟨o',e1⟩:=I.base.there b o e hx
   exact ⟨o',(hs.2 b (Zz (Z0 (Zr e) I.ok.above))).trans e1⟩
  ·by_cases hj:j=i
   ·subst hj
    rw [hi] at e1; cases e1
    rw [List.getElem?_set_self hiσ] at e2;cases e2;exact ⟨u,r,.inl ⟨hk,by simp⟩⟩
   ·rw [List.getElem?_set_ne (Ne.symm hj)] at e2
    obtain ⟨u',r',q⟩:=hl j y v' e1 e2 e3;refine ⟨u',r',?_⟩;rcases q with ⟨k,e⟩ | ⟨k,c,e,z⟩
    ·refine .inl ⟨k,?_⟩
     have:y≠x:=λ e=>hj (qw hN e1 (e ▸ hi))
     simp [this,e]
    · exact .inr ⟨k,c,e,z.sameBut hs (cne y c e)⟩
  ·obtain ⟨w',z⟩:=I.cell y c e
   exact ⟨w',z.sameBut hs (cne y c e)⟩
  ·obtain ⟨e,n,ne,nf,d⟩:=I.pin p hp
   exact ⟨(hs.2 p.1 ne).trans e,n,ne,nf,d⟩
 ·have hfn:X.fn x=true:=by
   rcases hf with z | z
   · exact z
   · rw [z] at hk; cases hk
  obtain ⟨c,hc⟩:=I.ok.has x (.inl hk);obtain ⟨w',z⟩:=I.cell x c hc;refine wpAny_storeName_cell I.ok.kind hk hc z (λ h' hc' hs=>?_);obtain ⟨oc,hoc,hocd⟩:=id z;refine h { s with heap:=h' } ⟨I.ok,I.os,I.bare,⟨λ b o e n hb hx=>?_,λ b o e n hb hx=>?_,I.base.free,λ b o e hx=>?_,I.base.mK,I.base.mr,I.base.lR⟩,⟨m,hn.sameBut hs (Ne.symm (cne x c hc)),λ j y v' e1 e2 e3=>?_⟩,λ y c' e=>?_,I.free,I.dS,λ p hp=>?_,tracked ⟨oc,hoc,I.dS x c hc⟩ hs,by simpa using I.len⟩ ⟨c,hs,.inr hc⟩
  · exact (hs.2 b (Zz (Z0 (Zr e) (I.ok.cab x c hfn hc)))).trans (I.base.keep b o e n hb hx)
  ·obtain ⟨sl,e1⟩:=I.base.slot b o e n hb hx
   exact ⟨sl,(hs.2 b (Zz (Z0 (Zr e) (I.ok.cab x c hfn hc)))).trans e1⟩
  ·obtain ⟨o',e1⟩:=I.base.there b o e hx
   exact ⟨o',(hs.2 b (Zz (Z0 (Zr e) (I.ok.cab x c hfn hc)))).trans e1⟩
  ·by_cases hj:j=i
   ·subst hj
    rw [hi] at e1; cases e1
    rw [List.getElem?_set_self hiσ] at e2;cases e2;exact ⟨u,r,.inr ⟨.inl hk,c,hc,hc'⟩⟩
   ·rw [List.getElem?_set_ne (Ne.symm hj)] at e2
    obtain ⟨u',r',q⟩:=hl j y v' e1 e2 e3;refine ⟨u',r',?_⟩;rcases q with q | ⟨k,c',e,z'⟩
    · exact .inl q
    ·refine .inr ⟨k,c',e,z'.sameBut hs ?_⟩
     rintro rfl
     exact hj (qw hN e1 (I.ok.inj _ _ _ e hc ▸ hi))
  ·by_cases hcc:c'=c
   · subst hcc; exact ⟨_,hc'⟩
   ·obtain ⟨w2,z2⟩:=I.cell y c' e
    exact ⟨w2,z2.sameBut hs hcc⟩
  ·obtain ⟨e,n,ne,nf,d⟩:=I.pin p hp
   refine ⟨(hs.2 p.1 ?_).trans e,n,ne,nf,d⟩;intro q;rw [q,hoc] at e;have q':oc=p.2:=Zj e;exact d w' (by rw [<- q']; exact hocd)
theorem qd (I:Inv X pins σ H s) (hN:X.N.Nodup) (hi:X.N[i]?=some x) (hx:Loc X.env.scope x) (r:RelV v u)
  (h:∀ s',Inv X pins (σ.set i (some v)) H s'->Q () s') (hf:X.fn x=true\/X.env.scope.names.lookup x=some .local:=by first | exact .inl rfl | exact .inr rfl | assumption):wpAny M A (storeName X.env x u) Q E s :=
 mT I hN hi hx r (λ s' I' _=>h s' I') hf
theorem Inv.yA (I:Inv X pins σ H s) (ho:s'.os=s.os) (u:Un (frs X.stack) ch H H' s.heap s'.heap) (hok:HOk X.prog X.w H' s'.heap) (hg:AllBare s'.gens)
  (hch:∀ b ∈ ch,(b ∈ X.ex\/X.s₀.heap.objs.size<=b)/\b≠X.env.locals/\(∀ x c,X.env.cells.lookup x=some c->c≠b)/\∀ p ∈ X.pn++pins,p.1≠b):Inv X pins σ H' s':=by
 obtain ⟨h',g',d',t',o'⟩:=s';have e:o'=s.os:=ho;subst e;exact I.call (g':=g') (t':=t') (d':=d') u hok hg hch
end
abbrev XK:=Value->Option Addr->Hp->Prop
abbrev St:=List (Option V)
abbrev VK:=V->Hp->Prop
abbrev TE:=St->Hp->VK->Prop
abbrev TT:=St->Hp->(Bool->Hp->Prop)->Prop
abbrev TA:=St->Hp->(List V->Hp->Prop)->Prop
structure Ends where
 nx:St->Hp->Prop
 rt:VK
 bk:St->Hp->Prop:=λ _ _=>False
 ct:St->Hp->Prop:=λ _ _=>False
abbrev TS:=Ends->St->Hp->Prop
def EP (X:Cx) (pins:List (Addr×Obj)) (σ:St) (Q:VK) (u:Value) (s':Shared):Prop:=∃ v H',Inv X pins σ H' s'/\RelV v u/\Q v H'
def TP (X:Cx) (pins:List (Addr×Obj)) (σ:St) (Q:Bool->Hp->Prop) (b:Bool) (s':Shared):Prop:=∃ H',Inv X pins σ H' s'/\Q b H'
def AP (X:Cx) (pins:List (Addr×Obj)) (σ:St) (Q:List V->Hp->Prop) (us:List Value) (s':Shared):Prop:=∃ vs H',Inv X pins σ H' s'/\a7 vs us/\Q vs H'
def SP (X:Cx) (pins:List (Addr×Obj)) (D:Ends) (f:Flow) (s':Shared):Prop :=
 match f with
 | .next=>∃ σ' H',Inv X pins σ' H' s'/\D.nx σ' H'
 | .brk=>∃ σ' H',Inv X pins σ' H' s'/\D.bk σ' H'
 | .cont=>∃ σ' H',Inv X pins σ' H' s'/\D.ct σ' H'
 | .ret u=>∃ v σ' H',Inv X pins σ' H' s'/\RelV v u/\D.rt v H'
def PE (X:Cx) (e:Expr) (t:TE):Prop :=
 ∀ (pins:List (Addr×Obj)) (s:Shared) (σ:St) (H:Hp) (Q:VK),Inv X pins σ H s->t σ H Q->wpAny (model X.prog X.w) X.A (eval e X.env) (EP X pins σ Q) X.xe s
def PT (X:Cx) (e:Expr) (t:TT):Prop :=
 ∀ (pins:List (Addr×Obj)) (s:Shared) (σ:St) (H:Hp) (Q:Bool->Hp->Prop),Inv X pins σ H s->t σ H Q->wpAny (model X.prog X.w) X.A (isTrue e X.env (eval e X.env)) (TP X pins σ Q) X.xe s
def PW (X:Cx) (e:Expr) (t:TT):Prop :=
 ∀ (whole:Sem Value) (pins:List (Addr×Obj)) (s:Shared) (σ:St) (H:Hp) (Q:Bool->Hp->Prop),Inv X pins σ H s->t σ H Q->wpAny (model X.prog X.w) X.A (isTrue e X.env whole) (TP X pins σ Q) X.xe s
theorem PW.pt (h:PW X e t):PT X e t:=h _
def PA (X:Cx) (es:List Expr) (t:TA):Prop :=
 ∀ (pos:Pos) (pins:List (Addr×Obj)) (s:Shared) (σ:St) (H:Hp) (Q:List V->Hp->Prop),Inv X pins σ H s->t σ H Q->wpAny (model X.prog X.w) X.A (spliced (backTo pos (starEach es X.env))) (AP X pins σ Q) X.xe s
def PS (X:Cx) (st:Stmt) (t:TS):Prop :=
 ∀ (pins:List (Addr×Obj)) (s:Shared) (σ:St) (H:Hp) (D:Ends),Inv X pins σ H s->t D σ H->wpAny (model X.prog X.w) X.A (exec st X.env) (SP X pins D) X.xe s
def PSs (X:Cx) (st:List Stmt) (t:TS):Prop :=
 ∀ (pins:List (Addr×Obj)) (s:Shared) (σ:St) (H:Hp) (D:Ends),Inv X pins σ H s->t D σ H->wpAny (model X.prog X.w) X.A (execs st X.env) (SP X pins D) X.xe s
theorem thn {α:Type} {t:Sem α} {Q Q':α->Shared->Prop} (h:wpAny M A t Q E s) (hQ:∀ a s,Q a s->Q' a s):wpAny M A t Q' E s:=Z9 h hQ λ _ _ x=>x
end L2
namespace L2
open PySem PySem.Spec PyProof.Rows
section
variable {X:Cx}
def oS (i:Nat):TE:=λ σ H Q=>∃ v,σ[i]?=some (some v)/\Q v H
def tC (v:V):TE:=λ _ H Q=>Q v H
theorem dH (hN:X.N[i]?=some x) (hv:Vis X.env.scope x) (hd:(x == ("__debug__":Str))=false:=by decide) (hcd:(x == ("__classdict__":Str))=false:=by decide):PE X (.Name x pos) (oS i):=by
 intro pins s σ H Q I h;obtain ⟨v,e,h⟩:=h;obtain ⟨m,hn,hl⟩:=I.loc;obtain ⟨u,r,l⟩:=hl i x v hN e hv;have fin:EP X pins σ Q u s:=⟨v,H,I,r,h⟩
 rcases l with ⟨hk,hm⟩ | ⟨hk,c,hc,hcell⟩
 · exact wpAny_Name (wpAny_loadName_local I.ok.kind hk hn hm fin) hd
 ·rcases hk with hk | hk
  · exact wpAny_Name (wpAny_loadName_cell I.ok.kind hk hc hcell fin) hd
  · exact wpAny_Name (wpAny_loadName_free I.ok.kind hk hc hcell fin hcd) hd
theorem m5 {i j pos}:PE X (.Constant (.int i) j pos) (tC (.int i)):=λ _ _ _ H _ I h=>wpAny_Constant_int ⟨.int i,H,I.tok _,⟨_,rfl⟩,h⟩
theorem rR {b j pos}:PE X (.Constant (.bool b) j pos) (tC (.bl b)):=λ _ _ _ H _ I h=>Constant_bool ⟨.bl b,H,I,rfl,h⟩
theorem Dv {j pos}:PE X (.Constant .none j pos) (tC .non):=λ _ _ _ H _ I h=>Constant_none ⟨.non,H,I,rfl,h⟩
theorem zg {x j pos}:PE X (.Constant (.str x) j pos) (tC (.str x)):=λ _ _ _ H _ I h=>Calls.Constant_str ⟨.str x,H,I.tok _,⟨_,rfl⟩,h⟩
def Gl (X:Cx) (x:Str):Prop:=X.env.kindOf x=some .globalImplicit
theorem iI (I:Inv X pins σ H s) (hg:Gl X x) (hm:X.mg x=some u) (h:Q u s)
  (hd:(x == ("__debug__":Str))=false:=by decide):wpAny (model X.prog X.w) X.A (eval (.Name x pos) X.env) Q E s :=
 Xk I.ok.kind hg (Calls.loadGlobal_global (by rw [I.ok.glob]; exact I.mod.glob.keeps I.bk) hm h) hd
theorem jW (I:Inv X pins σ H s) (hg:Gl X x) (hm:X.mg x=none) (hv:bootBuiltins x=some u) (h:Q u s)
  (hn:x≠"__name__":=by decide) (hd:(x == ("__debug__":Str))=false:=by decide):wpAny (model X.prog X.w) X.A (eval (.Name x pos) X.env) Q E s:=by
 obtain ⟨mb,h1,h2⟩:=I.mod.blt;exact Xk I.ok.kind hg (Calls.loadGlobal_builtin (by rw [I.ok.glob]; exact I.mod.glob.keeps I.bk) hm (by rw [I.ok.blt]; exact h1.keeps I.bk) ((h2 x hn).trans hv) h) hd
theorem AJ (hg:Gl X x) (hm:X.mg x=some u) (r:RelV v u) (hd:(x == ("__debug__":Str))=false:=by decide):PE X (.Name x pos) (tC v) :=
 λ _ _ _ H _ I h=>iI I hg hm ⟨v,H,I,r,h⟩ hd
theorem AO (hg:Gl X x) (hm:X.mg x=none) (hv:bootBuiltins x=some u) (r:RelV v u) (hn:x≠"__name__":=by decide) (hd:(x == ("__debug__":Str))=false:=by decide):PE X (.Name x pos) (tC v) :=
 λ _ _ _ H _ I h=>jW I hg hm hv ⟨v,H,I,r,h⟩ hn hd
variable {a b:Expr} {ta tb:TE} {pos:Pos}
def PC (X:Cx) (op:CmpOp) (a b:Expr) (t:TE):Prop :=
  ∀ (pins:List (Addr×Obj)) (s:Shared) (σ:St) (H:Hp) (Q:VK),Inv X pins σ H s->t σ H Q ->
    wpAny (model X.prog X.w) X.A (eval a X.env) (λ v s₁=>wpAny (model X.prog X.w) X.A (eval b X.env) (λ u s₂=>wpAny (model X.prog X.w) X.A (compareOp op v u) (EP X pins σ Q) X.xe s₂) X.xe s₁) X.xe s
def tB (t:TE):TT:=λ σ H Q=>t σ H λ x H1=>∃ c,x=.bl c/\Q c H1
theorem uj (h:PC X op a b t) (h1:behindInMarks op b=false:=by first | exact nobehind _ (by decide) (by decide) | rfl):PT X (.Compare a [op] [b] pos) (tB t):=by
 intro pins s σ H Q I hw;refine wpAny_isTrue_Compare1 (thn (h pins s σ H _ I hw) λ v s1 h1=>thn h1 λ u s2 h2=>thn h2 λ c s3 ⟨x,H1,I1,r1,q1⟩=>?_) h1;obtain ⟨d,rfl,q⟩:=q1;cases r1;exact Yi ⟨H1,I1,q⟩
theorem qk (h:PE X e t) (he:∀ whole,isTrue e X.env whole=(do let v <- whole; standAt e.pos; holding [v] (truthy v)):=by intro _; rfl):PT X e (tB t):=by
 intro pins s σ H Q I hw;refine isTrue_plain (thn (h pins s σ H _ I hw) λ v s1 ⟨x,H1,I1,r1,q1⟩=>?_) (he _);obtain ⟨d,rfl,q⟩:=q1;cases r1;exact Yi ⟨H1,I1,q⟩
variable {tA tB':TT} {rest:List Expr}
def Ko (t u:TT):TT:=λ σ H Q=>t σ H λ c H1=>if c=true then u σ H1 Q else Q false H1
def tOr (t u:TT):TT:=λ σ H Q=>t σ H λ c H1=>if c=true then Q true H1 else u σ H1 Q
def Ki (t:TT):TT:=λ σ H Q=>t σ H λ c H1=>Q (!c) H1
theorem pw_and1 (ha:PT X a tA):PW X (.BoolOp .And [a] pos) tA:=by
 intro wh pins s σ H Q I h;refine isTrue_and (thn (ha pins s σ H Q I h) λ c s1 e=>?_)
 cases c with
 | true=>exact isTrue_and_nil e
 | false=>exact e
theorem pw_or1 (ha:PT X a tA):PW X (.BoolOp .Or [a] pos) tA:=by
 intro wh pins s σ H Q I h;refine isTrue_or (thn (ha pins s σ H Q I h) λ c s1 e=>?_)
 cases c with
 | false=>exact isTrue_or_nil e
 | true=>exact e
theorem pw_and (ha:PT X a tA) (hb:PW X (.BoolOp .And (b::rest) pos) tB'):PW X (.BoolOp .And (a::b::rest) pos) (Ko tA tB'):=by
 intro wh pins s σ H Q I h;refine isTrue_and (thn (ha pins s σ H _ I h) λ c s1 ⟨H1,I1,q1⟩=>?_)
 cases c with
 | true=>exact hb wh pins s1 σ H1 Q I1 q1
 | false=>exact ⟨H1,I1,q1⟩
theorem pw_or (ha:PT X a tA) (hb:PW X (.BoolOp .Or (b::rest) pos) tB'):PW X (.BoolOp .Or (a::b::rest) pos) (tOr tA tB'):=by
 intro wh pins s σ H Q I h;refine isTrue_or (thn (ha pins s σ H _ I h) λ c s1 ⟨H1,I1,q1⟩=>?_)
 cases c with
 | true=>exact ⟨H1,I1,q1⟩
 | false=>exact hb wh pins s1 σ H1 Q I1 q1
theorem zb (ha:PT X a tA):PT X (.UnaryOp .Not a pos) (Ki tA):=by
 intro pins s σ H Q I h;exact isTrue_not (ha pins s σ H (λ c H1=>Q (!c) H1) I h)
def Gv (ta tb:TE):TE:=λ σ H Q=>ta σ H λ x H1=>∃ c,x=.bl c/\if c=true then tb σ H1 Q else Q (.bl false) H1
def Kh (ta tb:TE):TE:=λ σ H Q=>ta σ H λ x H1=>∃ c,x=.bl c/\if c=true then Q (.bl true) H1 else tb σ H1 Q
def Gn (ta:TE):TE:=λ σ H Q=>ta σ H λ x H1=>∃ c,x=.bl c/\Q (.bl (!c)) H1
theorem zi {op} (h:PE X a t):PE X (.BoolOp op [a] pos) t:=λ pins s σ H Q I hw=>BoolOp_one (h pins s σ H Q I hw)
theorem zj (ha:PE X a ta) (hb:PE X (.BoolOp .And (b::rest) pos) tb):PE X (.BoolOp .And (a::b::rest) pos) (Gv ta tb):=by
 intro pins s σ H Q I h;refine BoolOp_and (thn (ha pins s σ H _ I h) λ v s1 ⟨x,H1,I1,r1,q1⟩=>?_);obtain ⟨c,rfl,q1⟩:=q1;cases r1;refine Yi ?_
 cases c with
 | true=>exact hb pins s1 σ H1 Q I1 q1
 | false=>exact ⟨.bl false,H1,I1,rfl,q1⟩
theorem GL (ha:PE X a ta) (hb:PE X (.BoolOp .Or (b::rest) pos) tb):PE X (.BoolOp .Or (a::b::rest) pos) (Kh ta tb):=by
 intro pins s σ H Q I h;refine BoolOp_or (thn (ha pins s σ H _ I h) λ v s1 ⟨x,H1,I1,r1,q1⟩=>?_);obtain ⟨c,rfl,q1⟩:=q1;cases r1;refine Yi ?_
 cases c with
 | false=>exact hb pins s1 σ H1 Q I1 q1
 | true=>exact ⟨.bl true,H1,I1,rfl,q1⟩
theorem Du (ha:PE X a ta):PE X (.UnaryOp .Not a pos) (Gn ta):=by
 intro pins s σ H Q I h;refine UnaryOp_ (thn (ha pins s σ H _ I h) λ v s1 ⟨x,H1,I1,r1,q1⟩=>?_);obtain ⟨c,rfl,q1⟩:=q1;cases r1;exact not_of (Yi ⟨.bl (!c),H1,I1,rfl,q1⟩)
end
end L2
namespace L2
open PySem PySem.Spec PyProof.Rows
def SqL (K:W.Frag) (H:Hp) (a:Addr) (xs:List V):Prop :=
 Rd H a (.lst xs) \/
  ∃ (o:Obj) (its:Array Value) (n:Nat),K.lookup a=some o/\o.cls=.type "list"/\o.dict=none/\o.data=.seq its n/\its.size<=sizeLine/\a7 xs its.toList
def SqT (K:W.Frag) (H:Hp) (a:Addr) (xs:List V):Prop :=
 Rd H a (.tup xs) \/
  ∃ (o:Obj) (its:Array Value) (n:Nat),K.lookup a=some o/\o.cls=.type "tuple"/\o.data=.seq its n/\its.size<=sizeLine/\a7 xs its.toList
def LB:Value->Option V
 | .none=>some .non
 | .bool b=>some (.bl b)
 | .int i _=>some (.int i)
 | .str x _=>some (.str x)
 | .bytes b _=>some (.byt b)
 | .float b _=>some (.flt b)
 | .ref a=>some (.ref a)
 | .type n=>some (.ty n)
 | _=>none
theorem RelV.abs (r:RelV x u):LB u=some x:=by
 cases x with
 | non=>cases r; rfl
 | bl _=>cases r; rfl
 | int _=>obtain ⟨t,rfl⟩:=r; rfl
 | str _=>obtain ⟨t,rfl⟩:=r; rfl
 | byt _=>obtain ⟨t,rfl⟩:=r; rfl
 | flt _=>obtain ⟨t,rfl⟩:=r; rfl
 | ref _=>cases r; rfl
 | ty _=>cases r; rfl
theorem RelV.inj (r:RelV x u) (q:RelV y u):x=y:=Zj (r.abs.symm.trans q.abs)
theorem a7.inj:∀ {xs ys:List V} {us:List Value},a7 xs us->a7 ys us->xs=ys
 | _,_,_,.nil,.nil=>rfl
 | _,_,_,.cons r t,.cons r' t'=>by rw [r.inj r',a7.inj t t']
section
variable {X:Cx} {pins:List (Addr×Obj)} {σ:St} {H:Hp} {s:Shared} {a:Addr} {xs ys:List V}
theorem SqL.of {K:W.Frag} (h:H a=some (.lst xs)):SqL K H a xs:=.inl (.inl h)
theorem SqT.of {K:W.Frag} (h:H a=some (.tup xs)):SqT K H a xs:=.inl (.inl h)
theorem Inv.list (I:Inv X pins σ H s) (h:SqL X.K H a xs):∃ its:List Value,a7 xs its/\PlainL s.heap a its.toArray/\xs.length<=sizeLine:=by
 rcases h with h | ⟨o,its,n,hk,hc,hd,hs,hz,r⟩
 ·obtain ⟨z,its,n,r,e⟩:=h.ok I.hok
  exact ⟨its,r,⟨_,n,e,rfl,rfl,rfl⟩,z⟩
 ·refine ⟨its.toList,r,⟨o,n,I.kIn a o hk,hc,hd,by simpa using hs⟩,?_⟩
  have e:=r.length;simp only [Y9] at e;omega
theorem Inv.tuple (I:Inv X pins σ H s) (h:SqT X.K H a xs):∃ its:List Value,a7 xs its/\IsTup s.heap a its.toArray/\xs.length<=sizeLine:=by
 rcases h with h | ⟨o,its,n,hk,hc,hs,hz,r⟩
 ·obtain ⟨z,its,r,p⟩:=h.ok I.hok
  exact ⟨its,r,p,z⟩
 ·refine ⟨its.toList,r,⟨o,I.kIn a o hk,hc,n,by simpa using hs⟩,?_⟩
  have e:=r.length;simp only [Y9] at e;omega
theorem Inv.qx (I:Inv X pins σ H s) (h:SqL X.K H a xs) (h':SqL X.K H a ys):xs=ys:=by
 obtain ⟨its,r,⟨o,n,e,_,_,d⟩,_⟩:=I.list h;obtain ⟨its',r',⟨o',n',e',_,_,d'⟩,_⟩:=I.list h';rw [e] at e'; cases e'
 rw [d] at d';injection d' with d1 _
 have:its=its':=by simpa using Z7 Array.toList d1
 subst this;exact r.inj r'
end
abbrev Cx.wM (X:Cx) (E:Value->Shared->Prop):Cx:={ X with xe:=E }
abbrev Cx.nox (X:Cx):Cx:=X.wM λ _ _=>False
theorem Cx.Ok.wM {X:Cx} (ok:X.Ok) (E:Value->Shared->Prop):(X.wM E).Ok :=
 ⟨ok.mod,ok.kind,ok.glob,ok.blt,ok.above,ok.inj,ok.has,ok.cab,ok.hd,ok.frames,ok.stk,ok.exf,ok.bs,ok.bsz,ok.A3,ok.Cq,ok.mM,ok.frf⟩
theorem Cx.Ok.iW {X:Cx} {E:Value->Shared->Prop} (ok:(X.wM E).Ok):X.Ok :=
 ⟨ok.mod,ok.kind,ok.glob,ok.blt,ok.above,ok.inj,ok.has,ok.cab,ok.hd,ok.frames,ok.stk,ok.exf,ok.bs,ok.bsz,ok.A3,ok.Cq,ok.mM,ok.frf⟩
section
variable {X:Cx} {pins:List (Addr×Obj)} {σ:St} {H:Hp} {s:Shared} {E:Value->Shared->Prop}
theorem Inv.wM (I:Inv X pins σ H s) (E:Value->Shared->Prop):Inv (X.wM E) pins σ H s:=⟨I.ok.wM E,I.os,I.bare,I.base,I.loc,I.cell,I.free,I.dS,I.pin,I.hok,I.len⟩
theorem Inv.iW (I:Inv (X.wM E) pins σ H s):Inv X pins σ H s:=⟨I.ok.iW,I.os,I.bare,I.base,I.loc,I.cell,I.free,I.dS,I.pin,I.hok,I.len⟩
theorem SP.iW (h:SP (X.wM E) pins D f s'):SP X pins D f s':=by
 cases f with
 | next=>obtain ⟨σ',H',I,q⟩:=h; exact ⟨σ',H',I.iW,q⟩
 | brk=>obtain ⟨σ',H',I,q⟩:=h; exact ⟨σ',H',I.iW,q⟩
 | cont=>obtain ⟨σ',H',I,q⟩:=h; exact ⟨σ',H',I.iW,q⟩
 | ret u=>obtain ⟨v,σ',H',I,r,q⟩:=h; exact ⟨v,σ',H',I.iW,r,q⟩
theorem PSs.nox {st:List Stmt} {t:TS} (h:PSs X.nox st t):PSs X st t:=λ pins s σ H D I hw =>
 Z9 (h pins s σ H D (I.wM _) hw) (λ _ _ q=>q.iW) λ _ _ z=>False.elim z
end
section
variable {X:Cx} {st:Stmt} {rest:List Stmt} {t u:TS} {e:Expr} {te:TE} {pos:Pos}
def Gp:TS:=λ D σ H=>D.nx σ H
def E6 (t u:TS):TS:=λ D σ H=>t { D with nx:=u D } σ H
theorem iC:PSs X [] Gp:=λ _ _ σ H _ I h=>wpAny_execs_nil ⟨σ,H,I,h⟩
theorem aX (h1:PS X st t) (h2:PSs X rest u):PSs X (st::rest) (E6 t u):=by
 intro pins s σ H D I h;refine wpAny_execs_cons (thn (h1 pins s σ H { D with nx:=u D } I h) λ f s1 q=>?_)
 cases f with
 | next =>
  obtain ⟨σ',H',I',q⟩:=q;exact h2 pins s1 σ' H' D I' q
 | ret v=>exact q
 | brk=>exact q
 | cont=>exact q
theorem br (h1:PS X st t):PSs X [st] t:=by
 intro pins s σ H D I h;refine wpAny_execs_cons (thn (h1 pins s σ H D I h) λ f s1 q=>?_)
 cases f with
 | next=>exact wpAny_execs_nil q
 | ret v=>exact q
 | brk=>exact q
 | cont=>exact q
theorem Inv.quiet (I:Inv X pins σ H s):interactive X.env=false:=by simp [interactive,I.ok.kind]
def CO (te:TE):TS:=λ D σ H=>te σ H λ _ H1=>D.nx σ H1
theorem bX (he:PE X e te) (hs:swapsWith e none pos.line X.env=pure false:=by rfl):PS X (.Expr e pos) (CO te):=by
 intro pins s σ H D I h;exact wpAny_Expr_any (thn (he pins s σ H _ I h) λ v s1 ⟨x,H1,I1,r1,q1⟩=>⟨σ,H1,I1,q1⟩) I.quiet hs
def Kg (te:TE):TS:=λ D σ H=>te σ H D.rt
theorem dG (he:PE X e te):PS X (.Return (some e) pos) (Kg te):=by
 intro pins s σ H D I h;exact wpAny_Return_some (thn (he pins s σ H _ I h) λ v s1 ⟨x,H1,I1,r1,q1⟩=>⟨x,σ,H1,I1,r1,q1⟩)
def Kj (c:TT) (t u:TS):TS:=λ D σ H=>c σ H λ b H1=>if b=true then t D σ H1 else u D σ H1
theorem xC (hc:PT X c tc) (ha:PSs X a t) (hb:PSs X b u):PS X (.If c a b pos) (Kj tc t u):=by
 intro pins s σ H D I h;refine wpAny_If (thn (hc pins s σ H _ I h) λ d s1 ⟨H1,I1,q1⟩=>?_)
 cases d with
 | true=>exact ha pins s1 σ H1 D I1 q1
 | false=>exact hb pins s1 σ H1 D I1 q1
def CL:TS:=λ _ _ _=>False
theorem lZ:PS X st CL:=λ _ _ _ _ _ _ h=>h.elim
end
abbrev TG:=V->St->Hp->(St->Hp->Prop)->Prop
abbrev TGs:=List V->St->Hp->(St->Hp->Prop)->Prop
def PG (X:Cx) (target:Expr) (t:TG):Prop :=
  ∀ (pins:List (Addr×Obj)) (s:Shared) (σ:St) (H:Hp) (v:V) (u:Value) (Q:St->Hp->Prop),Inv X pins σ H s->RelV v u->t v σ H Q ->
    wpAny (model X.prog X.w) X.A (assign target X.env u) (λ _ s'=>∃ σ' H',Inv X pins σ' H' s'/\Q σ' H') X.xe s
def PGs (X:Cx) (ts:List Expr) (t:TGs):Prop :=
  ∀ (pins:List (Addr×Obj)) (s:Shared) (σ:St) (H:Hp) (vs:List V) (us:List Value) (Q:St->Hp->Prop),Inv X pins σ H s->a7 vs us->t vs σ H Q ->
    wpAny (model X.prog X.w) X.A (assignInOrder ((assignEach ts X.env).map (·.2)) us) (λ _ s'=>∃ σ' H',Inv X pins σ' H' s'/\Q σ' H') X.xe s
section
variable {X:Cx} {pos:Pos}
def mq (i:Nat):TG:=λ v σ H Q=>Q (σ.set i (some v)) H
theorem jF (hN:X.N.Nodup) (hi:X.N[i]?=some x) (hx:Loc X.env.scope x) (hf:X.fn x=true\/X.env.scope.names.lookup x=some .local:=by first | exact .inl rfl | exact .inr rfl | assumption):PG X (.Name x pos) (mq i):=by
 intro pins s σ H v u Q I r h;exact wpAny_assign_Name (qd I hN hi hx r (λ s' I'=>⟨_,H,I',h⟩) hf)
def Lv:TGs:=λ vs σ H Q=>vs=[]/\Q σ H
def IS (t:TG) (u:TGs):TGs:=λ vs σ H Q=>∃ v r,vs=v::r/\t v σ H λ σ' H'=>u r σ' H' Q
theorem AE:PGs X [] Lv:=by
 intro pins s σ H vs us Q I r h;obtain ⟨e,h⟩:=h;subst e;cases r;exact assignInOrder_nil ⟨σ,H,I,h⟩
theorem xE (h1:PG X e t) (h2:PGs X es u)
  (hs:(assignEach (e::es) X.env).map (·.2)=assign e X.env::(assignEach es X.env).map (·.2):=by rfl):PGs X (e::es) (IS t u):=by
 intro pins s σ H vs us Q I r h;obtain ⟨v,vr,e1,h⟩:=h;subst e1
 cases r with
 | cons r rr =>
  rw [hs];refine assignInOrder_cons (thn (h1 pins s σ H _ _ _ I r h) λ _ s1 ⟨σ1,H1,I1,q1⟩=>?_);exact h2 pins s1 σ1 H1 _ _ Q I1 rr q1
def Lu (K:W.Frag) (n:Nat) (t:TGs):TG:=λ v σ H Q=>∃ a xs,v=.ref a/\SqT K H a xs/\xs.length=n/\t xs σ H Q
theorem Dr (hc:X.calm=true) (h:PGs X es t)
  (hn:(assignEach es X.env).length=n:=by rfl) (hst:(assignEach es X.env).findIdx? (·.1)=none:=by rfl):PG X (.Tuple es k pos) (Lu X.K n t):=by
 intro pins s σ H v u Q I r hw;obtain ⟨a,xs,e1,hq,hl,hw⟩:=hw;subst e1;cases r;obtain ⟨its,rv,ht,hz⟩:=I.tuple hq;refine assign_Tuple_tuple (I.ok.hd hc) ht (by simp [hn,<- hl,rv.length]) hst λ h' hx=>?_
 have I1:Inv X pins σ H { s with heap:=h' }:=I.kept (t':=s.toks) λ b o e=>hx b o (Zz (Zr e)) e
 exact h pins _ σ H xs _ Q I1 (by simpa using rv) hw
def Gu (te:TE) (g:TG):TS:=λ D σ H=>te σ H λ x H1=>g x σ H1 D.nx
theorem fY {i:Nat} {x:Str} {e:Expr} {te:TE} {pos':Pos} (hN:X.N.Nodup) (hi:X.N[i]?=some x) (hx:Loc X.env.scope x) (he:PE X e te) (hs:swapsWith e (some (.Name x pos')) pos.line X.env=pure false:=by rfl) (hf:X.fn x=true\/X.env.scope.names.lookup x=some .local:=by first | exact .inl rfl | exact .inr rfl | assumption) :
  PS X (.Assign [.Name x pos'] e pos) (Gu te (mq i)):=by
 intro pins s σ H D I h;refine wpAny_Assign_Name (thn (he pins s σ H _ I h) λ v s1 ⟨y,H1,I1,r1,q1⟩=>?_) hs;exact qd I1 hN hi hx r1 (λ s2 I2=>⟨_,H1,I2,q1⟩) hf
end
section
variable {X:Cx} {pos:Pos}
def CI (c:TT) (tb:TS):TS:=λ D σ H=>∃ W:Nat->St->Hp->Prop,(∃ m,W m σ H)/\∀ m σ H,W m σ H ->
 c σ H λ b H1=>if b=true then ∃ N:St->Hp->Prop,(∀ σ' H',N σ' H'->∃ m',m' < m/\W m' σ' H')/\tb { D with nx:=N,ct:=N,bk:=D.nx } σ H1 else D.nx σ H1
theorem xA (hp:PassesOwn (model X.prog X.w) X.A X.env X.xe) (hc:PT X c tc) (hb:PSs X body tb):PS X (.While c body [] pos) (CI tc tb):=by
 intro pins s σ H D I h;obtain ⟨W,⟨m0,w0⟩,turn⟩:=h;refine wpAny_While (codeAny_whileLoop (λ n s'=>∃ σ' H',Inv X pins σ' H' s'/\W n σ' H') ?_ m0 ⟨σ,H,I,w0⟩)
 rintro n s1 ⟨σ1,H1,I1,w1⟩
 refine Y6 hp (thn (hc pins s1 σ1 H1 _ I1 (turn n σ1 H1 w1)) λ b s2 ⟨H2,I2,q2⟩=>?_)
 cases b with
 | true =>
  obtain ⟨N,hN,q2⟩:=q2;rw [if_pos rfl];refine Y6 hp (thn (hb pins s2 σ1 H2 _ I2 q2) λ f s3 q3=>?_)
  cases f with
  | next =>
   obtain ⟨σ3,H3,I3,n3⟩:=q3;obtain ⟨m',hm,w3⟩:=hN σ3 H3 n3;exact ⟨m',hm,σ3,H3,I3,w3⟩
  | cont =>
   obtain ⟨σ3,H3,I3,n3⟩:=q3;obtain ⟨m',hm,w3⟩:=hN σ3 H3 n3;exact ⟨m',hm,σ3,H3,I3,w3⟩
  | brk=>exact q3
  | ret v=>exact q3
 | false =>
  rw [if_neg Zf];exact wpAny_execs_nil ⟨σ1,H2,I2,q2⟩
end
structure It where
 go:Nat->Hp->Prop
 yld:Nat->Hp->V->Hp->Prop
 stop:Nat->Hp->Prop
def rD (X:Cx) (pins:List (Addr×Obj)) (H:Hp) (b:Addr):Prop :=
 H b=none/\b≠X.env.locals/\b ∉ X.fs/\(b ∈ X.ex\/X.s₀.heap.objs.size<=b)/\(∀ x c,X.env.cells.lookup x=some c->c≠b)/\∀ p ∈ X.pn++pins,p.1≠b
theorem Inv.wU (I:Inv X pins σ H s) (hb:s.heap.objs.size<=b) (hn:H' b=none):rD X pins H' b:=by
 refine ⟨hn,Nat.ne_of_gt (Z0 I.lt hb),I.K3 hb,.inr (Z5 I.sz hb),λ x c e z=>?_,λ p hp z=>?_⟩
 ·obtain ⟨v,q⟩:=I.cell x c e
  exact absurd (Z0 q.lt (by rw [z]; exact hb)) (Yp _)
 · exact absurd (Z0 (Zr (I.pin p hp).1) (by rw [z]; exact hb)) (Yp _)
structure Turn (P:Program) (w:World) (K:W.Frag) (tg:Expr) (J:It) (fp:List Addr) (it:Addr) (tn:Nat->Heap->Prop):Prop where
 mem:it ∈ fp
 obj:∀ i h,tn i h->∀ b ∈ fp,∃ o,h.get? b=some o/\∀ v,o.data≠.cell v
 keep:∀ i h h',tn i h->(∀ b ∈ fp,∀ o,h.get? b=some o->h'.get? b=some o)->tn i h'
 item:∀ (X:Cx),X.prog=P->X.w=w->X.K=K->X.calm=true->∀ (i:Nat) (pins:List (Addr×Obj)) (s:Shared) (σ:St) (H:Hp) (E:Value->Shared->Prop),Inv X pins σ H s->(∀ b ∈ fp,rD X pins H b)->tn i s.heap->J.go i H ->
  wpAny (model P w) X.A (pyNext (.ref it)) (λ r s1=>∃ u,r=some u /\
   wpAny (model P w) X.A (letOwnedTupleGo tg (.ref it) u) (λ _ s2=>∃ x H',Inv X pins σ H' s2/\RelV x u/\J.yld i H x H'/\tn (i+1) s2.heap/\∀ b ∈ fp,H' b=none) E s1) E s
 done:∀ (X:Cx),X.prog=P->X.w=w->X.K=K->X.calm=true->∀ (i:Nat) (pins:List (Addr×Obj)) (s:Shared) (σ:St) (H:Hp) (E:Value->Shared->Prop),Inv X pins σ H s->(∀ b ∈ fp,rD X pins H b)->tn i s.heap->J.stop i H ->
  wpAny (model P w) X.A (pyNext (.ref it)) (λ r s1=>r=none/\Inv X pins σ H s1) E s
 self:∀ (A:Around) (i:Nat) (s:Shared) (Q:Value->Shared->Prop) (E:Value->Shared->Prop),tn i s.heap->Q (.ref it) s->wpAny (model P w) A (pyIter (.ref it)) Q E s
abbrev TI:=St->Hp->(It->Hp->Prop)->Prop
def PIE (X:Cx) (pins:List (Addr×Obj)) (σ:St) (tg:Expr) (R:It->Hp->Prop) (itv:Value) (s2:Shared):Prop :=
 ∃ (it:Addr) (fp:List Addr) (tn:Nat->Heap->Prop) (J:It) (H':Hp),itv=.ref it/\Inv X pins σ H' s2/\Turn X.prog X.w X.K tg J fp it tn/\tn 0 s2.heap/\(∀ b ∈ fp,rD X pins H' b)/\R J H'
def PI (X:Cx) (tg iter:Expr) (wi:TI):Prop :=
  ∀ (pins:List (Addr×Obj)) (s:Shared) (σ:St) (H:Hp) (R:It->Hp->Prop),Inv X pins σ H s->wi σ H R ->
    wpAny (model X.prog X.w) X.A (eval iter X.env) (λ v s1=>wpAny (model X.prog X.w) X.A (pyIter v) (PIE X pins σ tg R) X.xe s1) X.xe s
theorem vw (ho:s.heap.get? it=some o) (hc:o.cls=.type n) (hd:o.data=.fields vs)
    (hn:["enumerate","zip","dict_itemiterator","dict_reverseitemiterator","odict_iterator","itertools.zip_longest","itertools.pairwise"].contains n=false) (hQ:Q () s):wpAny M A (letOwnedTupleGo tg (.ref it) u) Q E s:=by
  unfold letOwnedTupleGo
  cases tg <;> first
    | exact Zx hQ
    | (cases u <;> first
        | exact Zx hQ
        | (refine Zl (wpAny_load ho ?_)
           rw [hc,hd];show wpAny M A (if (["enumerate","zip","dict_itemiterator","dict_reverseitemiterator","odict_iterator","itertools.zip_longest","itertools.pairwise"].contains n&&vs[0]? == some (rawInt _))=true then _ else _) Q E s;rw [if_neg (by intro h; rw [hn,Bool.false_and] at h; cases h)]
           exact Zx hQ))
def Itl (K:W.Frag) (a:Addr):It :=
 ⟨λ i H=>∃ xs x,SqL K H a xs/\xs[i]?=some x,λ i H x H'=>H'=H/\∀ xs,SqL K H a xs->xs[i]?=some x,λ i H=>∃ xs,SqL K H a xs/\xs.length<=i⟩
def Itr (lo:Int) (n:Nat):It:=⟨λ i _=>i < n,λ i H x H'=>H'=H/\x=.int (lo+i),λ i _=>n<=i⟩
theorem tx {P:Program} {w:World} {K:W.Frag} {tg:Expr} (a it:Addr):Turn P w K tg (Itl K a) [it] it (λ i h=>h.IsListIter it a i) where
 mem:=by simp
 obj:=λ i h st b hb=>by
  have e:b=it:=by simpa using hb
  subst e;obtain ⟨o,e,c,d⟩:=st;exact ⟨o,e,λ v z=>by rw [d] at z; cases z⟩
 keep:=λ i h h' st k=>st.at λ o e=>k it (by simp) o e
 item:=by
  intro X hP hw hK hc i pins s σ H E I hf st hg;subst hP hw hK;obtain ⟨xs,x,hq,hx⟩:=hg;obtain ⟨its,rv,p,hz⟩:=I.list hq;obtain ⟨u,hu,ru⟩:=rv.get hx;obtain ⟨f0,f1,f2,f3,f4,f5⟩:=hf it (by simp);refine wpAny_pyNext_list_item st p.isList (x:=u) (by simpa using hu) λ h' st' sb=>?_
  have I1:Inv X pins σ H { s with heap:=h' }:=I.turned (t':=s.toks) (λ b o hb e=>(sb.2 b hb).trans e) f0 f1 f3 f4 f5;obtain ⟨o,e,c,d⟩:=id st';exact ⟨u,rfl,vw (s:={ s with heap:=h' }) e c d (by decide) ⟨x,H,I1,ru,⟨rfl,λ ys hy=>by rw [I.qx hy hq]; exact hx⟩,st',λ b hb=>(hf b hb).1⟩⟩
 done:=by
  intro X hP hw hK hc i pins s σ H E I hf st hg;subst hP hw hK;obtain ⟨xs,hq,hx⟩:=hg;obtain ⟨its,rv,p,hz⟩:=I.list hq;obtain ⟨f0,f1,f2,f3,f4,f5⟩:=hf it (by simp);have hl:=rv.length;exact wpAny_pyNext_list_end (I.ok.hd hc) st p.isList (by simp; omega) λ h' eb=>⟨rfl,I.turned (t':=s.toks) (λ b o hb e=>eb b o hb e) f0 f1 f3 f4 f5⟩
 self:=λ _ _ _ _ _ st h=>wpAny_pyIter_listiter st h
theorem rF {P:Program} {w:World} {K:W.Frag} {tg:Expr} (it:Addr) (lo:Int) (n:Nat):Turn P w K tg (Itr lo n) [it] it (λ i h=>IsRangeIter h it (lo+(i:Nat) * 1) ((n:Int) - (i:Nat)) 1) where
 mem:=by simp
 obj:=λ i h st b hb=>by
  have e:b=it:=by simpa using hb
  subst e
  exact ⟨_,st,λ v z=>by
   have z':Data.fields _=Data.cell v:=z
   cases z'⟩
 keep:=λ i h h' st k=>k it (by simp) _ st
 item:=by
  intro X hP hw hK hc i pins s σ H E I hf st hg;subst hP hw hK;obtain ⟨f0,f1,f2,f3,f4,f5⟩:=hf it (by simp);have W:=Walks.range (prog:=X.prog) (w:=X.w) (I.ok.hd hc) it lo 1 n;refine W.item i s _ _ hg st λ v h' tk hv st' kk=>?_
  obtain ⟨t,rfl⟩:=hv;have I1:Inv X pins σ H { s with heap:=h',toks:=tk }:=I.turned (λ b o hb e=>kk b o (by simpa using hb) e) f0 f1 f3 f4 f5;refine ⟨_,rfl,vw (s:={ s with heap:=h',toks:=tk }) (n:="range_iterator") st' rfl rfl (by decide) ⟨.int (lo+i),H,I1,⟨t,?_⟩,⟨rfl,rfl⟩,st',λ b hb=>(hf b hb).1⟩⟩;rw [Int.mul_one]
 done:=by
  intro X hP hw hK hc i pins s σ H E I hf st hg;subst hP hw hK;obtain ⟨f0,f1,f2,f3,f4,f5⟩:=hf it (by simp);exact wpAny_pyNext_range_end (I.ok.hd hc) st (by have:n<=i:=hg; omega) λ h' eb=>⟨rfl,I.turned (t':=s.toks) (λ b o hb e=>eb b o hb e) f0 f1 f3 f4 f5⟩
 self:=λ _ _ _ _ _ st h=>wpAny_pyIter_rangeiter st h
end L2
namespace L2
open PySem PySem.Spec PyProof.Rows
section
variable {X:Cx} {tg:Expr}
def IH (K:W.Frag) (tl:TE):TI:=λ σ H R=>tl σ H λ x H1=>∃ a,x=.ref a/\(∃ xs,SqL K H1 a xs)/\R (Itl K a) H1
theorem uu {l:Expr} {tl:TE} (hl:PE X l tl):PI X tg l (IH X.K tl):=by
 intro pins s σ H R I h;refine thn (hl pins s σ H _ I h) λ v s1 ⟨x,H1,I1,r1,q1⟩=>?_
 obtain ⟨a,e,⟨xs,hq⟩,q⟩:=q1;subst e;cases r1;obtain ⟨its,rv,p,hz⟩:=I1.list hq;refine wpAny_pyIter_list p.isList ?_
 refine ⟨s1.heap.objs.size,[s1.heap.objs.size],_,_,H1,rfl,I1.kept (t':=s1.toks) λ b o e=>Heap.get?_push_of_some _ e,tx a _,⟨_,Heap.get?_push_size _ rfl,rfl,rfl⟩,λ b hb=>?_,q⟩;have e:b=s1.heap.objs.size:=by simpa using hb
 subst e;exact I1.wU (Zk _) (I1.hok.fresh (Zk _))
theorem xq {pins:List (Addr×Obj)} {σ:St} {H:Hp} {s:Shared} {R:It->Hp->Prop} {E:Value->Shared->Prop} {lo hi:Int} {t u v:Tok} {tk:Nat} (I:Inv X pins σ H s) (h1:-(2 ^ 62)<=lo) (h2:lo < 2 ^ 62) (h3:-(2 ^ 62)<=hi) (h4:hi < 2 ^ 62)
  (q:R (Itr lo (hi - lo).toNat) H):wpAny (model X.prog X.w) X.A (pyIter (.ref s.heap.objs.size)) (PIE X pins σ tg R) E { s with heap:=s.heap.push { cls:=.type "range",data:=.fields #[.int lo t,.int hi u,.int 1 v] },toks:=tk }:=by
 refine wpAny_pyIter_range (IsRange.new ..) (small_one h1 h2 h3 h4) ?_
 have I1:Inv X pins σ H { s with heap:=s.heap.push { cls:=.type "range",data:=.fields #[.int lo t,.int hi u,.int 1 v] },toks:=tk }:=I.kept λ b o e=>Heap.get?_push_of_some _ e
 refine ⟨(s.heap.push { cls:=.type "range",data:=.fields #[.int lo t,.int hi u,.int 1 v] }).objs.size,[(s.heap.push { cls:=.type "range",data:=.fields #[.int lo t,.int hi u,.int 1 v] }).objs.size],_,_,H,rfl,
  I1.kept (t':=tk) λ b o e=>Heap.get?_push_of_some _ e,rF _ lo (hi - lo).toNat,?_,λ b hb=>?_,q⟩
 ·have e1:lo+((0:Nat):Int) * 1=lo:=by simp
  have e2:(((hi - lo).toNat:Nat):Int) - ((0:Nat):Int)=Builtin.Range.rangeSize lo hi 1:=by rw [rangeSize_one]; split <;> omega
  show IsRangeIter _ _ (lo+((0:Nat):Int) * 1) ((((hi - lo).toNat:Nat):Int) - ((0:Nat):Int)) 1;rw [e1,e2];exact Heap.get?_push_size _ rfl
 ·have e:b=(s.heap.push { cls:=.type "range",data:=.fields #[.int lo t,.int hi u,.int 1 v] }).objs.size:=by simpa using hb
  subst e;exact I1.wU (Zk _) (I1.hok.fresh (Zk _))
def IG (ta:TA):TI:=λ σ H R=>ta σ H λ vs H1=>∃ j:Int,vs=[.int j]/\-(2 ^ 62)<=j/\j < 2 ^ 62/\R (Itr 0 j.toNat) H1
theorem m4 {a:Expr} {ta:TA} {p pos:Pos} (hg:Gl X "range") (hm:X.mg "range"=none) (ha:PA X [a] ta) (hs:starEach [a] X.env=[(false,eval a X.env)]:=by rfl):PI X tg (.Call (.Name "range" p) [a] [] pos) (IG ta):=by
 intro pins s σ H R I h;refine Call_ (jW I hg hm boot_range (Yy (thn (ha pos pins s σ H _ I h) λ us s1 ⟨vs,H1,I1,r1,q1⟩=>?_) hs rfl));obtain ⟨j,e,q1,q2,q⟩:=q1;subst e
 cases r1 with
 | cons r rr =>
  cases rr;obtain ⟨t,rfl⟩:=r;exact call_range_1 (xq I1 (by omega) (by omega) q1 q2 (by simpa using q))
def Kk (wi:TI) (g:TG) (tb:TS):TS:=λ D σ H=>wi σ H λ J H1=>∃ W:Nat->Nat->St->Hp->Prop,(∃ m,W 0 m σ H1)/\∀ i m σ H,W i m σ H ->
 (J.stop i H/\D.nx σ H)\/(J.go i H/\∃ N:St->Hp->Prop,(∀ σ' H',N σ' H'->∃ m',m' < m/\W (i+1) m' σ' H')/\∀ x H',J.yld i H x H'->g x σ H' λ σ2 H2=>tb { D with nx:=N,ct:=N,bk:=D.nx } σ2 H2)
def ql (fp:List Addr) (h:Heap):List (Addr×Obj):=fp.filterMap λ b=>(h.get? b).map λ o=>(b,o)
theorem dR (hb:b ∈ fp) (e:h.get? b=some o):(b,o) ∈ ql fp h:=Xc.mpr ⟨b,hb,by rw [e]; rfl⟩
theorem uH (hp:p ∈ ql fp h):p.1 ∈ fp/\h.get? p.1=some p.2:=by
 obtain ⟨b,hb,e⟩:=Xc.mp hp
 cases q:h.get? b with
 | none=>rw [q] at e; cases e
 | some o =>
  rw [q] at e;have e':(b,o)=p:=Zj e;subst e';exact ⟨hb,q⟩
theorem Inv.pinned (I:Inv X pins σ H s) (hf:∀ b ∈ fp,rD X pins H b) (ho:∀ b ∈ fp,∃ o,s.heap.get? b=some o/\∀ v,o.data≠.cell v):Inv X (pins++ql fp s.heap) σ H s :=
 I.gn λ p hp=>(Zi.mp hp).elim (λ z=>I.pin p (Zc _ z)) λ z=>by
  obtain ⟨hb,e⟩:=uH z;obtain ⟨f0,f1,f2,_⟩:=hf p.1 hb;obtain ⟨o,e',d⟩:=ho p.1 hb;rw [e] at e'; cases e'
  exact ⟨e,f0,f1,f2,d⟩
theorem Inv.lO (I:Inv X (pins++pl) σ H s):Inv X pins σ H s:=I.gn λ p hp=>I.pin p (Zc _ (Zn _ hp))
theorem uo (hp:PassesOwn (model X.prog X.w) X.A X.env X.xe) (hc:X.calm=true) (hi:PI X tg iter wi) (hg:PG X tg g) (hb:PSs X body tb)
  (hs:∀ x,foldedSetIterable iter X.env x=pure x:=by intro _; rfl):PS X (.For tg iter body [] pos) (Kk wi g tb):=by
 intro pins s σ H D I h;refine wpAny_For (thn (hi pins s σ H _ I h) λ v s1 h1=>thn h1 λ itv s2 h2=>?_) hs;obtain ⟨it,fp,tn,J,H2,e,I2,T,st2,f2,W,⟨m0,w0⟩,turn⟩:=h2;subst e;have stat:∀ {H':Hp},(∀ b ∈ fp,H' b=none)->∀ b ∈ fp,rD X pins H' b:=λ hn b hb=>⟨hn b hb,(f2 b hb).2⟩
 refine codeAny_forLoop_any (λ n s'=>∃ i σ' H',Inv X pins σ' H' s'/\tn i s'.heap/\(∀ b ∈ fp,H' b=none)/\W i n σ' H') ?_ m0 ⟨0,σ,H2,I2,st2,λ b hb=>(f2 b hb).1,w0⟩
 rintro n s3 ⟨i,σ3,H3,I3,st3,fr3,w3⟩
 rcases turn i n σ3 H3 w3 with ⟨stop,qn⟩ | ⟨go,N,hN,step⟩
 ·refine Y6 hp (thn (T.done X rfl rfl rfl hc i pins s3 σ3 H3 X.xe I3 (stat fr3) st3 stop) λ r s4 ⟨hr,I4⟩=>?_)
  subst hr;exact wpAny_execs_nil ⟨σ3,H3,I4,qn⟩
 ·refine Y6 hp (thn (T.item X rfl rfl rfl hc i pins s3 σ3 H3 X.xe I3 (stat fr3) st3 go) λ r s4 ⟨u,hr,h4⟩=>?_)
  subst hr;refine Y6 hp (thn h4 λ _ s5 ⟨x,H5,I5,r5,y5,st5,fr5⟩=>?_);have I5':=I5.pinned (stat fr5) (T.obj _ _ st5);refine Y6 hp (thn (hg _ s5 σ3 H5 x u _ I5' r5 (step x H5 y5)) λ _ s6 ⟨σ6,H6,I6,q6⟩=>?_);refine Y6 hp (thn (hb _ s6 σ6 H6 _ I6 q6) λ f s7 q7=>?_)
  have again:∀ {σ7:St} {H7:Hp},Inv X (pins++ql fp s5.heap) σ7 H7 s7->N σ7 H7->∃ m,m < n/\∃ i σ' H',Inv X pins σ' H' s7/\tn i s7.heap/\(∀ b ∈ fp,H' b=none)/\W i m σ' H':=λ {σ7 H7} I7 n7=>by
   obtain ⟨m',hm,w7⟩:=hN σ7 H7 n7;refine ⟨m',hm,i+1,σ7,H7,I7.lO,T.keep _ _ _ st5 λ b hb o e=>(I7.pin (b,o) (Zc _ (Zc _ (dR hb e)))).1,λ b hb=>?_,w7⟩;obtain ⟨o,e,d⟩:=T.obj _ _ st5 b hb;exact (I7.pin (b,o) (Zc _ (Zc _ (dR hb e)))).2.1
  cases f with
  | next=>obtain ⟨σ7,H7,I7,n7⟩:=q7; exact again I7 n7
  | cont=>obtain ⟨σ7,H7,I7,n7⟩:=q7; exact again I7 n7
  | brk=>obtain ⟨σ7,H7,I7,q7⟩:=q7; exact ⟨σ7,H7,I7.lO,q7⟩
  | ret v=>obtain ⟨x7,σ7,H7,I7,r7,q7⟩:=q7; exact ⟨x7,σ7,H7,I7.lO,r7,q7⟩
end
theorem vA {lo:Int} {n:Nat} {g:TG} {tb:TS} {D:Ends} {σ:St} {H:Hp} (Pv:Nat->St->Hp->Prop) (h0:Pv 0 σ H)
    (hs:∀ i σ H,i < n->Pv i σ H->g (.int (lo+i)) σ H λ σ2 H2=>tb { D with nx:=Pv (i+1),ct:=Pv (i+1),bk:=D.nx } σ2 H2) (hd:∀ σ H,Pv n σ H->D.nx σ H) :
    ∃ W:Nat->Nat->St->Hp->Prop,(∃ m,W 0 m σ H)/\∀ i m σ H,W i m σ H ->
      ((Itr lo n).stop i H/\D.nx σ H)\/((Itr lo n).go i H/\∃ N:St->Hp->Prop,(∀ σ' H',N σ' H'->∃ m',m' < m/\W (i+1) m' σ' H')/\∀ x H',(Itr lo n).yld i H x H'->g x σ H' λ σ2 H2=>tb { D with nx:=N,ct:=N,bk:=D.nx } σ2 H2):=by
  refine ⟨λ i m σ H=>m=n - i/\i<=n/\Pv i σ H,⟨n,by simp,Yb _,h0⟩,?_⟩
  rintro i m σ H ⟨rfl,hi,p⟩
  by_cases hlt:i < n
  · refine .inr ⟨hlt,Pv (i+1),λ σ' H' p'=>⟨n - (i+1),by omega,rfl,hlt,p'⟩,λ x H' y=>?_⟩
    obtain ⟨e,y⟩:=y;subst e y;exact hs i σ _ hlt p
  · have e:i=n:=by omega
    subst e;exact .inl ⟨Zk _,hd σ H p⟩
end L2
namespace L2
open PySem PySem.Spec PyProof.Rows
abbrev R2:=V->V->Hp->VK->Prop
def OpR (X:Cx) (f:Value->Value->Sem Value) (r:R2):Prop :=
  ∀ (pins:List (Addr×Obj)) (s:Shared) (σ:St) (H:Hp) (x y:V) (v u:Value) (Q:VK),Inv X pins σ H s->RelV x v->RelV y u->r x y H Q ->
    wpAny (model X.prog X.w) X.A (f v u) (EP X pins σ Q) X.xe s
def UnR (X:Cx) (f:Value->Sem Value) (r:V->Hp->VK->Prop):Prop :=
  ∀ (pins:List (Addr×Obj)) (s:Shared) (σ:St) (H:Hp) (x:V) (v:Value) (Q:VK),Inv X pins σ H s->RelV x v->r x H Q ->
    wpAny (model X.prog X.w) X.A (f v) (EP X pins σ Q) X.xe s
def fJ (X:Cx) (f:Value) (r:List V->Hp->VK->Prop):Prop :=
  ∀ (pins:List (Addr×Obj)) (s:Shared) (σ:St) (H:Hp) (xs:List V) (us:List Value) (Q:VK),Inv X pins σ H s->a7 xs us->r xs H Q ->
    wpAny (model X.prog X.w) X.A (call f us) (EP X pins σ Q) X.xe s
def LC (X:Cx) (r:V->Hp->(Bool->Hp->Prop)->Prop):Prop :=
  ∀ (pins:List (Addr×Obj)) (s:Shared) (σ:St) (H:Hp) (x:V) (v:Value) (Q:Bool->Hp->Prop),Inv X pins σ H s->RelV x v->r x H Q ->
    wpAny (model X.prog X.w) X.A (truthy v) (TP X pins σ Q) X.xe s
def tOp (r:R2) (ta tb:TE):TE:=λ σ H Q=>ta σ H λ x H1=>tb σ H1 λ y H2=>r x y H2 Q
def tUn (r:V->Hp->VK->Prop) (ta:TE):TE:=λ σ H Q=>ta σ H λ x H1=>r x H1 Q
def rI (C:Int->Int->Prop) (g:Int->Int->V):R2:=λ x y H Q=>∃ i j,x=.int i/\y=.int j/\C i j/\Q (g i j) H
def rI0 (g:Int->Int->V):R2:=λ x y H Q=>∃ i j,x=.int i/\y=.int j/\Q (g i j) H
def rU (g:Int->V):V->Hp->VK->Prop:=λ x H Q=>∃ i,x=.int i/\Q (g i) H
section
variable {X:Cx} {a b c:Expr} {ta tb tc:TE} {pos:Pos}
theorem Jh (ha:PE X a ta) (hb:PE X b tb) {pins:List (Addr×Obj)} {s:Shared} {σ:St} {H:Hp} {R:V->V->Hp->Prop} (I:Inv X pins σ H s)
  (h:ta σ H λ x H1=>tb σ H1 λ y H2=>R x y H2) {Q:Value->Shared->Prop} {f:Value->Value->Sem Value}
  (hf:∀ v u s2 x y H2,Inv X pins σ H2 s2->RelV x v->RelV y u->R x y H2->wpAny (model X.prog X.w) X.A (f v u) Q X.xe s2) :
  wpAny (model X.prog X.w) X.A (eval a X.env) (λ v s₁=>wpAny (model X.prog X.w) X.A (eval b X.env) (λ u s₂=>wpAny (model X.prog X.w) X.A (f v u) Q X.xe s₂) X.xe s₁) X.xe s:=by
 refine thn (ha pins s σ H _ I h) λ v s1 ⟨x,H1,I1,r1,q1⟩=>?_
 refine thn (hb pins s1 σ H1 _ I1 q1) λ u s2 ⟨y,H2,I2,r2,q2⟩=>?_
 exact hf v u s2 x y H2 I2 r1 r2 q2
theorem AF {op:Operator} {r:R2} (ho:OpR X (binaryOp op) r) (ha:PE X a ta) (hb:PE X b tb):PE X (.BinOp a op b pos) (tOp r ta tb):=by
 intro pins s σ H Q I h;exact wpAny_BinOp (Jh ha hb I h λ v u s2 x y H2 I2 rx ry q=>ho pins s2 σ H2 x y v u Q I2 rx ry q)
theorem GK (ho:UnR X (unaryOp op) r) (ha:PE X a ta):PE X (.UnaryOp op a pos) (tUn r ta):=by
 intro pins s σ H Q I h;exact UnaryOp_ (thn (ha pins s σ H _ I h) λ v s1 ⟨x,H1,I1,r1,q1⟩=>ho pins s1 σ H1 x v Q I1 r1 q1)
theorem opI {f:Value->Value->Sem Value} {C:Int->Int->Prop} {g:Int->Int->Int}
  (rule:∀ (i j:Int) (t u:Tok) (s:Shared) (Q:Value->Shared->Prop) (E:Value->Shared->Prop),C i j->Q (.int (g i j) s.toks) { s with toks:=s.toks+1 }->wpAny (model X.prog X.w) X.A (f (.int i t) (.int j u)) Q E s) :
  OpR X f (rI C λ i j=>.int (g i j)):=by
 intro pins s σ H x y v u Q I rx ry h;obtain ⟨i,j,rfl,rfl,hc,q⟩:=h;obtain ⟨t,rfl⟩:=rx;obtain ⟨t',rfl⟩:=ry;exact rule i j t t' s _ _ hc ⟨.int (g i j),H,I.tok _,⟨_,rfl⟩,q⟩
theorem Jq {f:Value->Value->Sem Value} {g:Int->Int->Int}
  (rule:∀ (i j:Int) (t u:Tok) (s:Shared) (Q:Value->Shared->Prop) (E:Value->Shared->Prop),Q (.int (g i j) s.toks) { s with toks:=s.toks+1 }->wpAny (model X.prog X.w) X.A (f (.int i t) (.int j u)) Q E s) :
  OpR X f (rI0 λ i j=>.int (g i j)):=by
 intro pins s σ H x y v u Q I rx ry h;obtain ⟨i,j,rfl,rfl,q⟩:=h;obtain ⟨t,rfl⟩:=rx;obtain ⟨t',rfl⟩:=ry;exact rule i j t t' s _ _ ⟨.int (g i j),H,I.tok _,⟨_,rfl⟩,q⟩
theorem GU {f:Value->Value->Sem Value} {g:Int->Int->Bool}
  (rule:∀ (i j:Int) (t u:Tok) (s:Shared) (Q:Value->Shared->Prop) (E:Value->Shared->Prop),Q (.bool (g i j)) s->wpAny (model X.prog X.w) X.A (f (.int i t) (.int j u)) Q E s) :
  OpR X f (rI0 λ i j=>.bl (g i j)):=by
 intro pins s σ H x y v u Q I rx ry h;obtain ⟨i,j,rfl,rfl,q⟩:=h;obtain ⟨t,rfl⟩:=rx;obtain ⟨t',rfl⟩:=ry;exact rule i j t t' s _ _ ⟨.bl (g i j),H,I,rfl,q⟩
def Cu (i j:Int):Prop:=0<=j/\j<=1000000/\i.natAbs < 2 ^ 64
def zT (i j:Int):Prop:=(-(2 ^ 64) < i/\i < 2 ^ 64)\/(-(2 ^ 64) < j/\j < 2 ^ 64)
theorem zT.ok (h:zT i j):IntMulOk i j:=by
 rcases h with ⟨h1,h2⟩ | ⟨h1,h2⟩
 · exact .of_left (intBits_le_64 h1 h2)
 · exact .of_right (intBits_le_64 h1 h2)
theorem DH:OpR X (binaryOp .Add) (rI0 λ i j=>.int (i+j)):=Jq λ _ _ _ _ _ _ _ q=>add_int q
theorem DB:OpR X (binaryOp .Sub) (rI0 λ i j=>.int (i - j)):=Jq λ _ _ _ _ _ _ _ q=>sub_int q
theorem AW:OpR X (binaryOp .Mod) (rI (λ _ j=>j≠0) λ i j=>.int (i.fmod j)):=opI λ _ _ _ _ _ _ _ hc q=>mod_int' hc q
theorem DC:OpR X (binaryOp .Pow) (rI Cu λ i j=>.int (i ^ j.toNat)):=opI λ _ _ _ _ _ _ _ hc q=>pow_int_small hc.1 hc.2.1 hc.2.2 q
theorem unI {f:Value->Sem Value} {g:Int->Int}
  (rule:∀ (i:Int) (t:Tok) (s:Shared) (Q:Value->Shared->Prop) (E:Value->Shared->Prop),Q (.int (g i) s.toks) { s with toks:=s.toks+1 }->wpAny (model X.prog X.w) X.A (f (.int i t)) Q E s) :
  UnR X f (rU λ i=>.int (g i)):=by
 intro pins s σ H x v Q I rx h;obtain ⟨i,rfl,q⟩:=h;obtain ⟨t,rfl⟩:=rx;exact rule i t s _ _ ⟨.int (g i),H,I.tok _,⟨_,rfl⟩,q⟩
theorem CA:UnR X (unaryOp .USub) (rU λ i=>.int (-i)):=unI λ _ _ _ _ _ q=>neg_int q
end
def Gy:V->V->Bool
 | .non,.non=>true | .non,.int _=>true | .int _,.non=>true | .non,.bl _=>true | .bl _,.non=>true | .non,.str _=>true | .str _,.non=>true
 | .int _,.int _=>true | .bl _,.bl _=>true | .str _,.str _=>true | .byt _,.byt _=>true
 | .int _,.str _=>true | .str _,.int _=>true | .bl _,.str _=>true | .str _,.bl _=>true
 | _,_=>false
def rEq:R2:=λ x y H Q=>Gy x y=true/\Q (.bl (decide (x=y))) H
def rNe:R2:=λ x y H Q=>Gy x y=true/\Q (.bl (!decide (x=y))) H
theorem vW:decide (V.int i=V.int j)=(i == j):=by
 rw [Xf];simp
theorem zL:decide (V.bl i=V.bl j)=(i == j):=by
 rw [Xf];simp
theorem vV:decide (V.str i=V.str j)=(i == j):=by
 rw [Xf];simp
theorem vX:decide (V.byt i=V.byt j)=(i.toList == j.toList):=by
 rw [Xf];cases i;cases j;simp
section
variable {X:Cx} {a b c:Expr} {ta tb tc:TE} {pos:Pos}
theorem aW (I:Inv X pins σ H s) (q:Q (.bl k) H) (e:k=k'):EP X pins σ Q (.bool k') s:=by
 subst e;exact ⟨.bl k,H,I,rfl,q⟩
theorem GS:OpR X (compareOp .Eq) rEq:=by
 intro pins s σ H x y v u Q I rx ry h;obtain ⟨hs,q⟩:=h
 cases x with
 | non =>
  cases rx
  cases y with
  | non=>cases ry; exact PySem.EqNone.eq_none_none (aW I q (by simp))
  | bl j=>cases ry; exact PySem.EqNone.eq_none_bool (aW I q (by simp))
  | int j=>obtain ⟨t',rfl⟩:=ry; exact PySem.EqNone.eq_none_int (aW I q (by simp))
  | str j=>obtain ⟨t',rfl⟩:=ry; exact PySem.EqNone.eq_none_str (aW I q (by simp))
  | _=>exact absurd (show false=true from hs) Zf
 | bl i =>
  cases rx
  cases y with
  | non=>cases ry; exact PySem.EqNone.eq_bool_none (aW I q (by simp))
  | bl j=>cases ry; exact eq_bool (aW I q zL)
  | str j=>obtain ⟨t',rfl⟩:=ry; exact PySem.EqMixed.eq_bool_str (aW I q (by simp))
  | _=>exact absurd (show false=true from hs) Zf
 | int i =>
  obtain ⟨t,rfl⟩:=rx
  cases y with
  | non=>cases ry; exact PySem.EqNone.eq_int_none (aW I q (by simp))
  | int j=>obtain ⟨t',rfl⟩:=ry; exact eq_int (aW I q vW)
  | str j=>obtain ⟨t',rfl⟩:=ry; exact PySem.EqMixed.eq_int_str (aW I q (by simp))
  | _=>exact absurd (show false=true from hs) Zf
 | str i =>
  obtain ⟨t,rfl⟩:=rx
  cases y with
  | non=>cases ry; exact PySem.EqNone.eq_str_none (aW I q (by simp))
  | bl j=>cases ry; exact PySem.EqMixed.eq_str_bool (aW I q (by simp))
  | int j=>obtain ⟨t',rfl⟩:=ry; exact PySem.EqMixed.eq_str_int (aW I q (by simp))
  | str j=>obtain ⟨t',rfl⟩:=ry; exact eq_str (aW I q vV)
  | _=>exact absurd (show false=true from hs) Zf
 | byt i =>
  obtain ⟨t,rfl⟩:=rx
  cases y with
  | byt j=>obtain ⟨t',rfl⟩:=ry; exact PySem.W.eq_bytes (aW I q vX)
  | _=>exact absurd (show false=true from hs) Zf
 | _=>cases y <;> exact absurd (show false=true from hs) Zf
theorem GO:OpR X (compareOp .NotEq) rNe:=by
 intro pins s σ H x y v u Q I rx ry h;obtain ⟨hs,q⟩:=h
 cases x with
 | non =>
  cases rx
  cases y with
  | non=>cases ry; exact PySem.EqNone.ne_none_none (aW I q (by simp))
  | bl j=>cases ry; exact PySem.EqNone.ne_none_bool (aW I q (by simp))
  | int j=>obtain ⟨t',rfl⟩:=ry; exact PySem.EqNone.ne_none_int (aW I q (by simp))
  | str j=>obtain ⟨t',rfl⟩:=ry; exact PySem.EqNone.ne_none_str (aW I q (by simp))
  | _=>exact absurd (show false=true from hs) Zf
 | bl i =>
  cases rx
  cases y with
  | non=>cases ry; exact PySem.EqNone.ne_bool_none (aW I q (by simp))
  | bl j=>cases ry; exact ne_bool (aW I q (Z7 not zL))
  | str j=>obtain ⟨t',rfl⟩:=ry; exact PySem.EqMixed.ne_bool_str (aW I q (by simp))
  | _=>exact absurd (show false=true from hs) Zf
 | int i =>
  obtain ⟨t,rfl⟩:=rx
  cases y with
  | non=>cases ry; exact PySem.EqNone.ne_int_none (aW I q (by simp))
  | int j=>obtain ⟨t',rfl⟩:=ry; exact ne_int (aW I q (Z7 not vW))
  | str j=>obtain ⟨t',rfl⟩:=ry; exact PySem.EqMixed.ne_int_str (aW I q (by simp))
  | _=>exact absurd (show false=true from hs) Zf
 | str i =>
  obtain ⟨t,rfl⟩:=rx
  cases y with
  | non=>cases ry; exact PySem.EqNone.ne_str_none (aW I q (by simp))
  | bl j=>cases ry; exact PySem.EqMixed.ne_str_bool (aW I q (by simp))
  | int j=>obtain ⟨t',rfl⟩:=ry; exact PySem.EqMixed.ne_str_int (aW I q (by simp))
  | str j=>obtain ⟨t',rfl⟩:=ry; exact ne_str (aW I q (Z7 not vV))
  | _=>exact absurd (show false=true from hs) Zf
 | byt i =>
  obtain ⟨t,rfl⟩:=rx
  cases y with
  | byt j=>obtain ⟨t',rfl⟩:=ry; exact PySem.W.ne_bytes (aW I q (Z7 not vX))
  | _=>exact absurd (show false=true from hs) Zf
 | _=>cases y <;> exact absurd (show false=true from hs) Zf
theorem GP:OpR X (compareOp .Lt) (rI0 λ i j=>.bl (decide (i < j))):=GU λ _ _ _ _ _ _ _ q=>lt_int q
theorem GQ:OpR X (compareOp .LtE) (rI0 λ i j=>.bl (decide (i<=j))):=GU λ _ _ _ _ _ _ _ q=>le_int q
theorem GR:OpR X (compareOp .Gt) (rI0 λ i j=>.bl (decide (j < i))):=GU λ _ _ _ _ _ _ _ q=>gt_int q
theorem uz:OpR X (compareOp .Lt) (λ x y H Q=>∃ i j,x=.str i/\y=.str j/\Q (.bl (decide (i.cps.toList < j.cps.toList))) H):=by
 intro pins s σ H x y v u Q I rx ry h;obtain ⟨i,j,rfl,rfl,q⟩:=h;obtain ⟨t,rfl⟩:=rx;obtain ⟨t',rfl⟩:=ry;exact lt_str (aW I q rfl)
theorem AU:OpR X (compareOp .IsNot) (λ x y H Q=>y=.non/\Q (.bl (!decide (x=.non))) H):=by
 intro pins s σ H x y v u Q I rx ry h;obtain ⟨rfl,q⟩:=h;cases ry;refine isnot_none_gen (aW I q ?_)
 cases x <;> first
  | (cases rx; rfl)
  | (obtain ⟨t,rfl⟩:=rx; rfl)
theorem OpR.or (h:OpR X f r) (h':OpR X f r'):OpR X f (λ x y H Q=>r x y H Q\/r' x y H Q):=by
 intro pins s σ H x y v u Q I rx ry q;rcases q with q | q
 · exact h pins s σ H x y v u Q I rx ry q
 · exact h' pins s σ H x y v u Q I rx ry q
theorem zm (b:Expr) (h:op≠.In:=by decide) (h2:op≠.NotIn:=by decide):behindInMarks op b=false:=by
 have e1:(op == CmpOp.In)=false:=by cases op <;> first | rfl | exact absurd rfl h
 have e2:(op == CmpOp.NotIn)=false:=by cases op <;> first | rfl | exact absurd rfl h2
 cases b <;> simp [behindInMarks,e1,e2]
theorem AN (ho:OpR X (compareOp op) r) (ha:PE X a ta) (hb:PE X b tb) (hm:behindInMarks op b=false):PE X (.Compare a [op] [b] pos) (tOp r ta tb):=by
 intro pins s σ H Q I h;exact wpAny_Compare1 (Jh ha hb I h λ v u s2 x y H2 I2 rx ry q=>ho pins s2 σ H2 x y v u Q I2 rx ry q) hm
def CJ (t:TE):TT:=λ σ H Q=>t σ H λ x H'=>∃ k,x=.bl k/\Q k H'
theorem Ar (ho:OpR X (compareOp op) r) (ha:PE X a ta) (hb:PE X b tb) (hm:behindInMarks op b=false):PT X (.Compare a [op] [b] pos) (CJ (tOp r ta tb)):=by
 intro pins s σ H Q I h
 refine wpAny_isTrue_Compare1 (thn (ha pins s σ H _ I h) λ v s1 ⟨x,H1,I1,r1,q1⟩=>thn (hb pins s1 σ H1 _ I1 q1) λ u s2 ⟨y,H2,I2,r2,q2⟩ =>
  thn (ho pins s2 σ H2 x y v u _ I2 r1 r2 q2) λ c s3 ⟨z,H3,I3,r3,k,e,q3⟩=>?_) hm
 subst e;cases r3;exact Yi ⟨H3,I3,q3⟩
def tI (r r':R2) (ta tb tc:TE):TE:=λ σ H Q=>ta σ H λ x H1=>tb σ H1 λ y H2=>r x y H2 λ z H3=>∃ k,z=.bl k /\
 (if k=true then tc σ H3 λ w' H4=>r' y w' H4 Q else Q (.bl false) H3)
theorem xI (ho:OpR X (compareOp op) r) (ho':OpR X (compareOp op') r') (ha:PE X a ta) (hb:PE X b tb) (hc:PE X c tc)
  (hm:lastMarks [op,op'] [b,c]=false:=by with_unfolding_all rfl):PE X (.Compare a [op,op'] [b,c] pos) (tI r r' ta tb tc):=by
 intro pins s σ H Q I h
 refine Compare_chain (thn (ha pins s σ H _ I h) λ v s1 ⟨x,H1,I1,r1,q1⟩=>chain_link (thn (hb pins s1 σ H1 _ I1 q1) λ u s2 ⟨y,H2,I2,r2,q2⟩ =>
  thn (ho pins s2 σ H2 x y v u _ I2 r1 r2 q2) λ d s3 ⟨z,H3,I3,r3,k,e,q3⟩=>?_)) hm
 subst e;cases r3;refine Yi ?_
 cases k with
 | false=>exact ite_ff ⟨.bl false,H3,I3,rfl,q3⟩
 | true=>exact ite_tt (chain_last (thn (hc pins s3 σ H3 _ I3 q3) λ w' s4 ⟨z',H4,I4,r4,q4⟩=>ho' pins s4 σ H4 y z' u w' Q I4 r2 r4 q4))
theorem xy (ho:OpR X (compareOp op) r) (ho':OpR X (compareOp op') r') (ha:PE X a ta) (hb:PE X b tb) (hc:PE X c tc)
  (hm:lastMarks [op,op'] [b,c]=false:=by with_unfolding_all rfl):PT X (.Compare a [op,op'] [b,c] pos) (CJ (tI r r' ta tb tc)):=by
 intro pins s σ H Q I h
 refine isTrue_chain (thn (ha pins s σ H _ I h) λ v s1 ⟨x,H1,I1,r1,q1⟩=>test_link (thn (hb pins s1 σ H1 _ I1 q1) λ u s2 ⟨y,H2,I2,r2,q2⟩ =>
  thn (ho pins s2 σ H2 x y v u _ I2 r1 r2 q2) λ d s3 ⟨z,H3,I3,r3,k,e,q3⟩=>?_)) hm
 subst e;cases r3;refine Yi ?_
 cases k with
 | false =>
  obtain ⟨k',e',q'⟩:=q3;cases e';exact ite_ff ⟨H3,I3,q'⟩
 | true =>
  refine ite_tt (test_last (thn (hc pins s3 σ H3 _ I3 q3) λ w' s4 ⟨z',H4,I4,r4,q4⟩=>thn (ho' pins s4 σ H4 y z' u w' _ I4 r2 r4 q4) λ d' s5 ⟨z2,H5,I5,r5,k2,e2,q5⟩=>?_));subst e2;cases r5;exact Yi ⟨H5,I5,q5⟩
def J7 (K:W.Frag) (x:V) (H:Hp) (k:Bool):Prop :=
 match x with
 | .non=>k=false
 | .bl b=>k=b
 | .int i=>k=(i != 0)
 | .str y=>y.length<=sizeLine/\k=((y.length:Int) != 0)
 | .byt y=>y.size<=sizeLine/\k=((y.size:Int) != 0)
 | .ref p=>(∃ xs,SqL K H p xs/\k=!xs.isEmpty)\/(∃ xs,SqT K H p xs/\k=!xs.isEmpty)\/∃ kvs,H p=some (.dK kvs)/\k=!kvs.isEmpty
 | _=>False
theorem sg {κ:Type} {kvs:List (κ×V)} {vs:List (κ×Value)} (r:KV kvs vs):(!vs.isEmpty)=!kvs.isEmpty:=by
 cases r <;> rfl
theorem k6 (r:a7 xs its):(!its.toArray.isEmpty)=!xs.isEmpty:=by
 cases r <;> simp
theorem nD:(sizeLine:Nat) < 2 ^ 63:=by rw [Xw]; decide
theorem CD:LC X (λ x H Q=>∃ k,J7 X.K x H k/\Q k H):=by
 intro pins s σ H x v Q I rx h;obtain ⟨k,e,q⟩:=h;have hl:=nD;have hs:sizeLine=16777216:=Xw
 cases x with
 | non =>
  cases rx;have e':k=false:=e;subst e';exact truthy_none ⟨H,I,q⟩
 | bl b =>
  cases rx;have e':k=b:=e;subst e';exact Yi ⟨H,I,q⟩
 | int i =>
  obtain ⟨t,rfl⟩:=rx;have e':k=(i != 0):=e;subst e';exact PySem.P.truthy_int ⟨H,I,q⟩
 | str y =>
  obtain ⟨t,rfl⟩:=rx;obtain ⟨hy,e'⟩:y.length<=sizeLine/\k=((y.length:Int) != 0):=e;subst e';exact PySem.P.truthy_str (by omega) ⟨H,I.tok _,q⟩
 | byt y =>
  obtain ⟨t,rfl⟩:=rx;obtain ⟨hy,e'⟩:y.size<=sizeLine/\k=((y.size:Int) != 0):=e;subst e';exact PySem.W.truthy_bytes (by omega) ⟨H,I.tok _,q⟩
 | ref p =>
  cases rx;have e':(∃ xs,SqL X.K H p xs/\k=!xs.isEmpty)\/(∃ xs,SqT X.K H p xs/\k=!xs.isEmpty)\/∃ kvs,H p=some (.dK kvs)/\k=!kvs.isEmpty:=e
  rcases e' with ⟨xs,hx,e'⟩ | ⟨xs,hx,e'⟩ | ⟨kvs,hx,e'⟩
  ·subst e'
   obtain ⟨its,r,pl,hz⟩:=I.list hx;have hlen:=r.length;exact wpAny_truthy_list pl.isList (by simp only [Zs]; omega) ⟨H,I.tok _,by rw [k6 r]; exact q⟩
  ·subst e'
   obtain ⟨its,r,pl,hz⟩:=I.tuple hx;have hlen:=r.length;exact truthy_tuple pl (by simp only [Zs]; omega) ⟨H,I.tok _,by rw [k6 r]; exact q⟩
  ·subst e'
   obtain ⟨hz,hS,vs,r,m⟩:kvs.length<=sizeLine/\(p == sysModules)=false/\∃ vs,KV kvs vs/\s.heap.DictOf (bf X.prog X.w) p vs:=I.hok p _ hx
   have hlen:kvs.length=vs.length:=Paired.length r;exact wpAny_truthy_dict hS m (by omega) ⟨H,I.tok _,by rw [sg r]; exact q⟩
 | _=>exact (show False from e).elim
theorem xx (ha:PE X a ta) (he:∀ whole,isTrue a X.env whole=(do let v <- whole; standAt a.pos; holding [v] (truthy v))) :
  PT X a (λ σ H Q=>ta σ H λ x H'=>∃ k,J7 X.K x H' k/\Q k H'):=by
 intro pins s σ H Q I h;exact isTrue_plain (thn (ha pins s σ H _ I h) λ v s1 ⟨x,H1,I1,r1,q1⟩=>CD pins s1 σ H1 x v Q I1 r1 q1) (he _)
theorem rS:OpR X (binaryOp .Add) (λ x y H Q=>∃ i j,x=.str i/\y=.str j/\i.length+j.length<=sizeLine/\Q (.str (i++j)) H):=by
 intro pins s σ H x y v u Q I rx ry h;obtain ⟨i,j,rfl,rfl,hz,q⟩:=h;obtain ⟨t,rfl⟩:=rx;obtain ⟨t',rfl⟩:=ry;exact add_str (λ t' tk=>⟨.str (i++j),H,I.tok _,⟨_,rfl⟩,q⟩) hz
theorem vals1 (r:a7 [x] us):∃ u,us=[u]/\RelV x u:=by
 cases r with
 | cons r1 r2=>cases r2; exact ⟨_,rfl,r1⟩
theorem vals2 (r:a7 [x,y] us):∃ u w',us=[u,w']/\RelV x u/\RelV y w':=by
 cases r with
 | cons r1 r2 =>
  cases r2 with
  | cons r3 r4=>cases r4; exact ⟨_,_,rfl,r1,r3⟩
def LD (K:W.Frag) (x:V) (H:Hp) (n:Nat):Prop :=
 match x with
 | .str y=>y.length<=sizeLine/\n=y.length
 | .byt y=>y.size<=sizeLine/\n=y.size
 | .ref p=>(∃ xs,SqL K H p xs/\n=xs.length)\/∃ xs,SqT K H p xs/\n=xs.length
 | _=>False
theorem yy:fJ X (.builtin "len") (λ xs H Q=>∃ x n,xs=[x]/\LD X.K x H n/\Q (.int n) H):=by
 intro pins s σ H xs us Q I r h;obtain ⟨x,n,rfl,e,q⟩:=h;obtain ⟨u,rfl,rx⟩:=vals1 r;have hl:=nD;have hs:sizeLine=16777216:=Xw
 cases x with
 | str y =>
  obtain ⟨t,rfl⟩:=rx;obtain ⟨hy,e'⟩:y.length<=sizeLine/\n=y.length:=e;subst e';exact len_str (by omega) ⟨.int _,H,I.tok _,⟨_,rfl⟩,q⟩
 | byt y =>
  obtain ⟨t,rfl⟩:=rx;obtain ⟨hy,e'⟩:y.size<=sizeLine/\n=y.size:=e;subst e';exact PySem.W.len_bytes (by omega) ⟨.int _,H,I.tok _,⟨_,rfl⟩,q⟩
 | ref p =>
  cases rx;have e':(∃ xs,SqL X.K H p xs/\n=xs.length)\/∃ xs,SqT X.K H p xs/\n=xs.length:=e
  rcases e' with ⟨xs,hx,e'⟩ | ⟨xs,hx,e'⟩
  ·subst e'
   obtain ⟨its,r',pl,hz⟩:=I.list hx;have hlen:=r'.length;exact Calls.call_len_list pl.isList (by simp only [Zs]; omega) ⟨.int xs.length,H,I.tok _,⟨_,by simp only [Zs]; rw [hlen]⟩,q⟩
  ·subst e'
   obtain ⟨its,r',pl,hz⟩:=I.tuple hx;have hlen:=r'.length;exact len_tuple pl (by simp only [Zs]; omega) ⟨.int xs.length,H,I.tok _,⟨_,by simp only [Zs]; rw [hlen]⟩,q⟩
 | _=>exact (show False from e).elim
end
end L2
namespace L2
open PySem PySem.Spec PyProof.Rows
structure Cg (h:Heap) (x dx C:Addr) (mA:Str->Option Value):Prop where
 obj:h.get? x=some (PySem.W.instObj C dx)
 ns:h.Ns1 dx mA
 ne:dx≠x
theorem uX {h:Heap} {dx:Addr} {mA:Str->Option Value} (n:h.Ns1 dx mA):∃ od,h.get? dx=some od/\∀ name,PySem.W.lookIn name od=some (mA name):=by
 obtain ⟨o,es,ep,ho,hd,hk,_,hm⟩:=n;refine ⟨o,ho,λ name=>?_⟩;have e:=hm name;unfold nsFind findBy at e;rw [<- Array.find?_toList] at e;unfold PySem.W.lookIn;rw [hd];dsimp only;split
 ·rename_i y q
  rw [q] at e;exact Z7 some e
 ·rename_i q
  rw [q] at e
  have a:es.toList.any (·.refKey)=false:=by
   rw [List.any_eq_false];intro y hy;obtain ⟨z,t,hkey⟩:=hk y (Array.mem_toList_iff.mp hy);simp [DictEntry.refKey,hkey]
  have a':¬ es.toList.any (·.refKey)=true:=by rw [a]; exact Zf
  rw [if_neg a'];exact Z7 some e
theorem Cg.look (I:Cg h x dx C mA):∃ od,PySem.W.InstAt h x (PySem.W.instObj C dx) C (some od)/\∀ name,PySem.W.lookIn name od=some (mA name) :=
 let ⟨od,ho,hl⟩:=uX I.ns
 ⟨od,⟨I.obj,rfl,rfl,ho⟩,hl⟩
section
variable {prog:Program} {w:World} {A:Around} {E:Value->Shared->Prop} {s:Shared} {K:W.Frag} {x dx C f:Addr} {mA:Str->Option Value} {name:Str} {v:Value}
theorem get_map (X:K.In s.heap) (I:Cg s.heap x dx C mA) (hg:PySem.W.plainGet K C name=true) (hh:PySem.W.hasDictIn K C=true)
  (ha:W.findIn K (.ref C) name=some none) (hv:mA name=some v) (hv':PySem.W.handedIn v=true) (h:Q v { s with toks:=s.toks+1 }) :
  wpAny (model prog w) A (getAttr (.ref x) name expr) Q E s:=by
 obtain ⟨od,J,hl⟩:=I.look;exact PySem.W.get_value X J (PySem.W.plainGet_of hg).1 (PySem.W.findObj_own hh ha rfl (by rw [hl,hv])) hv' h
theorem yk (X:K.In s.heap) (I:Cg s.heap x dx C mA) (hg:PySem.W.plainGet K C name=true)
  (hf:W.findIn K (.ref C) name=some (some (.ref f))) (ht:PySem.W.isFn K (.ref f)=true) (hv:mA name=none) (h:Q (.ref f,[.ref x]) s) :
  wpAny (model prog w) A (getMethod (.ref x) name pl) Q E s:=by
 obtain ⟨od,J,hl⟩:=I.look;exact PySem.W.method_fn X J (PySem.W.plainGet_of hg).1 (PySem.W.plainGet_of hg).2 hf (beq_iff_eq.mp ht) (by show (PySem.W.lookIn name od).map (·.isSome)=some false; rw [hl,hv]; rfl) h
theorem Aa (X:K.In s.heap) (I:Cg s.heap x dx C mA)
  (hs:W.findIn K (.ref C) "__setattr__"=some (some (.builtin "object.__setattr__"))) (hp:PySem.W.plainOver K C=true) (ht:PySem.W.takerIn K C name=some none) (hh:PySem.W.hasDictIn K C=true)
  (hw:PySem.Within mA ns) (hsz:ns.length<=sizeLine)
  (h:∀ h',Cg h' x dx C (λ y=>if y=name then some v else mA y)->Heap.SameBut dx s.heap h'->Q () { s with heap:=h',toks:=s.toks+2 }) :
  wpAny (model prog w) A (setAttr (.ref x) name v) Q E s:=by
 obtain ⟨od,J,hl⟩:=I.look;refine PySem.W.set_plain X J hs (PySem.W.osa_open (s:={ s with toks:=s.toks+1 }) (r:=none) X J hp ht λ b=>?_);obtain ⟨cd,hc,hd'⟩:=PySem.W.any_some hh;have hx:s.heap.get? x=some ⟨.ref C,some dx,.plain,#[]⟩:=I.obj;refine Zl (Zx (Zl (Zl (wpAny_loadPart hx (Zl (PySem.W.Looks.here (s:={ s with toks:=s.toks+1 }) (PySem.W.looks_clsIn X hc) ?_))))));rw [hd'];refine Zx (a:=some dx) (Zl (Zx (Zl ?_)));refine wpAny_nsSet1 (s:={ s with toks:=s.toks+1 }) I.ns λ h' hn2 hs2=>?_
 obtain ⟨oD,esD,epD,hoD,hdD,hcD⟩:=hn2.count (PySem.Within.cons name v hw);refine Zl (wpAny_lookBehind hoD (by rw [hdD]; exact pastItsLine_dict (Z5 hcD (by rw [Zv]; omega))) ?_);exact Zx (h _ ⟨(hs2.2 _ (Ne.symm I.ne)).trans I.obj,hn2,I.ne⟩ hs2)
theorem xT (X:K.In s.heap) (hm:PySem.W.makesIn K C=true)
  (hi:W.findIn K (.ref C) "__init__"=some (some (.ref f))) (hf:PySem.W.typeIn K (.ref f)=some (.type "function"))
  (h : codeAny (model prog w) (A.under (.builtin "type.__call__" ⟨.ref C::vs,kw⟩)) (.call (.ref f) ⟨.ref (s.heap.objs.size+1)::vs,kw⟩) (PySem.W.InitBack (s.heap.objs.size+1) R)
    { s with heap:=(s.heap.push PySem.W.emptyDict).push (PySem.W.instObj C s.heap.objs.size) }) :
  codeAny (model prog w) A (.call (.ref C) ⟨vs,kw⟩) R s:=by
 obtain ⟨hh,g,d,t,os⟩:=s;exact PySem.W.make_core (PySem.W.makes_of X hm) (PySem.W.looks_findIn X hi) (λ self=>PySem.W.bind_fn X self hf) (.inl rfl) h
end
def kG (f:Str) (v:V):List (Str×V)->List (Str×V)
 | []=>[(f,v)]
 | (g,x)::r=>if g=f then (g,v)::r else (g,x)::kG f v r
theorem jU (f g:Str) (v:V):∀ fs:List (Str×V),(kG f v fs).lookup g=if g=f then some v else fs.lookup g
 | []=>by
  show List.lookup g [(f,v)]=_
  by_cases h:g=f
  ·have hb:(g == f)=true:=beq_iff_eq.mpr h
   simp only [List.lookup,hb,if_pos h]
  ·have hb:(g == f)=false:=Yh.mpr h
   simp only [List.lookup,hb,if_neg h]
 | (k,x)::r=>by
  have ih:=jU f g v r;rw [show kG f v ((k,x)::r)=(if k=f then (k,v)::r else (k,x)::kG f v r) from rfl]
  by_cases hk:k=f
  ·rw [if_pos hk]
   by_cases h:g=k
   ·have hb:(g == k)=true:=beq_iff_eq.mpr h
    simp only [List.lookup,hb,if_pos (h.trans hk)]
   ·have hb:(g == k)=false:=Yh.mpr h
    simp only [List.lookup,hb,if_neg (λ e:g=f=>h (e.trans hk.symm))]
  ·rw [if_neg hk]
   by_cases h:g=k
   ·have hb:(g == k)=true:=beq_iff_eq.mpr h
    simp only [List.lookup,hb,if_neg (λ e:g=f=>hk (h.symm.trans e))]
   ·have hb:(g == k)=false:=Yh.mpr h
    simp only [List.lookup,hb];exact ih
theorem jX (f:Str) (v:V):∀ fs:List (Str×V),f ∈ (kG f v fs).map (·.1)/\∀ g,g ∈ fs.map (·.1)->g ∈ (kG f v fs).map (·.1)
 | []=>⟨by simp [kG],λ g h=>by simp at h⟩
 | (k,x)::r=>by
  obtain ⟨i1,i2⟩:=jX f v r;rw [show kG f v ((k,x)::r)=(if k=f then (k,v)::r else (k,x)::kG f v r) from rfl]
  by_cases hk:k=f
  ·rw [if_pos hk]
   subst hk;exact ⟨by simp,λ g h=>by simpa using h⟩
  ·rw [if_neg hk]
   refine ⟨?_,λ g h=>?_⟩
   ·rw [Zg]
    exact Zd _ i1
   ·rw [Zg] at h ⊢
    rcases Zh.mp h with e | e
    · exact Zh.mpr (.inl e)
    · exact Zd _ (i2 g e)
theorem jV (f:Str) (v:V):∀ fs:List (Str×V),(kG f v fs).length<=fs.length+1
 | []=>by simp [kG]
 | (k,x)::r=>by
  have ih:=jV f v r;rw [show kG f v ((k,x)::r)=(if k=f then (k,v)::r else (k,x)::kG f v r) from rfl]
  by_cases hk:k=f
  · rw [if_pos hk,Zv,Zv]; omega
  · rw [if_neg hk,Zv,Zv]; omega
theorem oJ.some_of (r:oJ (some v) o):∃ u,o=some u/\RelV v u:=by
 cases o with
 | none=>exact (show False from r).elim
 | some u=>exact ⟨u,rfl,r⟩
theorem oJ.none_of (r:oJ none o):o=none:=by
 cases o with
 | none=>rfl
 | some u=>exact (show False from r).elim
theorem vv (r:RelV v u):PySem.W.handedIn u=true:=by
 cases v with
 | non=>cases (show u=Value.none from r); rfl
 | bl b=>cases (show u=Value.bool b from r); rfl
 | int i=>obtain ⟨t,e⟩:=(show ∃ t,u=Value.int i t from r); cases e; rfl
 | str x=>obtain ⟨t,e⟩:=(show ∃ t,u=Value.str x t from r); cases e; rfl
 | byt b=>obtain ⟨t,e⟩:=(show ∃ t,u=Value.bytes b t from r); cases e; rfl
 | flt b=>obtain ⟨t,e⟩:=(show ∃ t,u=Value.float b t from r); cases e; rfl
 | ref a=>cases (show u=Value.ref a from r); rfl
 | ty n=>cases (show u=Value.type n from r); rfl
section
variable {P:Program} {w:World} {H H':Hp} {h h':Heap} {a C dx:Addr} {fs fs':List (Str×V)}
theorem mn (hok:HOk P w H h) (e:H a=some (.ins C dx fs)):∃ mA,Cg h a dx C mA/\(∀ f,oJ (fs.lookup f) (mA f))/\PySem.Within mA (fs.map (·.1))/\fs.length<=1000/\H dx=some (.own a):=by
 obtain ⟨d,z,ne,ob,mA,n,r,q⟩:=(show bT P w H h a (.ins C dx fs) from hok a _ e)
 exact ⟨mA,⟨ob,n,ne⟩,r,q,z,d⟩
end
structure Cls (K:W.Frag) (C:Addr):Prop where
 pg:PySem.W.plainGet K C Str.empty=true
 hd:PySem.W.hasDictIn K C=true
 po:PySem.W.plainOver K C=true
 sa:W.findIn K (.ref C) "__setattr__"=some (some (.builtin "object.__setattr__"))
theorem Cls.get {K:W.Frag} {C:Addr} (c:Cls K C) (f:Str):PySem.W.plainGet K C f=true:=c.pg
def cQ (K:W.Frag) (C:Addr) (f:Str):Prop:=W.findIn K (.ref C) f=some none
theorem cQ.Gh {K:W.Frag} {C:Addr} {f:Str} (n:cQ K C f):PySem.W.takerIn K C f=some none:=by
 unfold PySem.W.takerIn;rw [show W.findIn K (.ref C) f=some none from n];rfl
structure yK (K:W.Frag) (C:Addr) (m:Str) (f:Addr):Prop where
 at_:W.findIn K (.ref C) m=some (some (.ref f))
 fn:PySem.W.isFn K (.ref f)=true
 kp:W.keepIn K (.ref f)=true
section
variable {X:Cx} {pins:List (Addr×Obj)} {σ:St} {H:Hp} {s:Shared} {a C dx:Addr} {fs:List (Str×V)} {f:Str} {v:V} {A:Around} {E:Value->Shared->Prop}
theorem si (I:Inv X pins σ H s) (e:H a=some (.ins C dx fs)) (c:Cls X.K C) (n:cQ X.K C f) (l:fs.lookup f=some v)
  (h:∀ u s',Inv X pins σ H s'->RelV v u->Q u s'):wpAny (model X.prog X.w) A (getAttr (.ref a) f b) Q E s:=by
 obtain ⟨mA,O,r,_,_,_⟩:=mn I.hok e;obtain ⟨u,hu,ru⟩:=oJ.some_of (v:=v) (o:=mA f) (by rw [<- l]; exact r f);exact get_map I.kIn O (c.get f) c.hd n hu (vv ru) (h u _ (I.tok _) ru)
theorem k8 (I:Inv X pins σ H s) (e:H a=some (.ins C dx fs)) (c:Cls X.K C) (k:yK X.K C m g) (l:fs.lookup m=none)
  (h:Q (.ref g,[.ref a]) s):wpAny (model X.prog X.w) A (getMethod (.ref a) m pl) Q E s:=by
 obtain ⟨mA,O,r,_,_,_⟩:=mn I.hok e;have hn:mA m=none:=oJ.none_of (by rw [<- l]; exact r m);exact yk I.kIn O (c.get m) k.at_ k.fn hn h
theorem rL (I:Inv X pins σ H s) (e:H a=some (.ins C dx fs)) (c:Cls X.K C) (n:cQ X.K C f) (hl:fs.length < 1000) (ry:RelV y u)
  (h:∀ s',Inv X pins σ (upd H a (.ins C dx (kG f y fs))) s'->Q () s'):wpAny (model X.prog X.w) A (setAttr (.ref a) f u) Q E s:=by
 obtain ⟨mA,O,r,wi,_,ho⟩:=mn I.hok e;have hz:(fs.map (·.1)).length<=sizeLine:=by rw [Za,Xw]; omega
 refine Aa I.kIn O c.sa c.po n.Gh c.hd wi hz λ h' O' sb=>h _ ?_
 have hd:∃ o,h'.get? dx=some o:=let ⟨o,_,_,e',_⟩:=O'.ns; ⟨o,e'⟩
 refine I.write (x:=a) (e:=dx) (by rw [e]; exact True.intro) (.inr ho) (λ b q hb z=>(sb.2 b hb).trans z) hd ?_
 refine ⟨by rw [af O.ne]; exact ho,?_,O.ne,O'.obj,_,O'.ns,λ g=>?_,λ g hg=>?_⟩
 · have:=jV f y fs; omega
 ·show oJ ((kG f y fs).lookup g) (if g=f then some u else mA g)
  rw [jU]
  by_cases q:g=f
  · rw [if_pos q,if_pos q]; exact ry
  · rw [if_neg q,if_neg q]; exact r g
 ·by_cases q:g=f
  · rw [q]; exact (jX f y fs).1
  ·refine (jX f y fs).2 g (wi g λ z=>hg ?_)
   show (if g=f then some u else mA g)=none;rw [if_neg q]; exact z
theorem Inv.made (I:Inv X pins σ H s):Inv X pins σ (upd (upd H s.heap.objs.size (.own (s.heap.objs.size+1))) (s.heap.objs.size+1) (.ins C s.heap.objs.size []))
  { s with heap:=(s.heap.push PySem.W.emptyDict).push (PySem.W.instObj C s.heap.objs.size) }:=by
 have e1:(s.heap.push PySem.W.emptyDict).get? s.heap.objs.size=some PySem.W.emptyDict:=Heap.get?_push_size s.heap rfl
 have e2:((s.heap.push PySem.W.emptyDict).push (PySem.W.instObj C s.heap.objs.size)).get? (s.heap.objs.size+1)=some (PySem.W.instObj C s.heap.objs.size):=by
  have:=Heap.get?_push_size (s.heap.push PySem.W.emptyDict) (o:=PySem.W.instObj C s.heap.objs.size) rfl
  rwa [Y3] at this
 have e3:(s.heap.push PySem.W.emptyDict).Ns s.heap.objs.size (λ _=>none):=⟨PySem.W.emptyDict,#[],_,e1,rfl,(λ e he=>absurd he (by simp)),λ _=>rfl⟩
 have I1:=I.laid (a:=s.heap.objs.size) (o:=.own (s.heap.objs.size+1)) (h':=s.heap.push PySem.W.emptyDict) (t':=s.toks) (λ b u q=>Heap.get?_push_of_some _ q) (Zk _) ⟨_,e1⟩;refine I1.laid (a:=s.heap.objs.size+1) (o:=.ins C s.heap.objs.size []) (t':=s.toks) (λ b u q=>Heap.get?_push_of_some _ q) (Nat.le_of_eq (Y3 _ _)) ?_
 have ne:s.heap.objs.size≠s.heap.objs.size+1:=Zz (Xb _);refine ⟨by rw [af ne,ai],Yb _,ne,e2,λ _=>none,(Heap.Ns1.of_empty e3).at λ o q=>Heap.get?_push_of_some _ q,λ _=>True.intro,λ y hy=>absurd rfl hy⟩
theorem Cd (hb:attributeBase e f env (eval e env)=eval e env)
  (h:wpAny (model prog w) A (eval e env) (λ o s₁=>wpAny (model prog w) A (getAttr o f true) Q E s₁) E s):wpAny (model prog w) A (eval (.Attribute e f pos) env) Q E s :=
 Attribute_any_ h (by rw [arm_eval_Attribute,hb])
end
def Kl (K:W.Frag) (ta:TE) (f:Str):TE:=λ σ H Q=>ta σ H λ x H1=>∃ a C dx fs v,x=.ref a/\H1 a=some (.ins C dx fs)/\Cls K C/\cQ K C f/\fs.lookup f=some v/\Q v H1
def KA (K:W.Frag) (ta tv:TE) (f:Str):TS:=λ D σ H=>tv σ H λ y H1=>ta σ H1 λ x H2=>∃ a C dx fs,x=.ref a/\H2 a=some (.ins C dx fs)/\Cls K C/\cQ K C f/\fs.length < 1000 /\
 D.nx σ (upd H2 a (.ins C dx (kG f y fs)))
section
variable {X:Cx} {o e value:Expr} {f:Str} {pos pos' tpos:Pos} {ta tv:TE}
theorem uv (he:PE X e ta) (hb:attributeBase e f X.env (eval e X.env)=eval e X.env):PE X (.Attribute e f pos) (Kl X.K ta f):=by
 intro pins s σ H Q I h;refine Cd hb (thn (he pins s σ H _ I h) λ u s1 ⟨x,H1,I1,rx,a,C,dx,fs,v,ex,ea,c,n,l,q⟩=>?_);subst ex;obtain rfl:u=Value.ref a:=rx;exact si I1 ea c n l λ u' s2 I2 ru=>⟨v,H1,I2,ru,q⟩
theorem Dp (ha:PE X o ta) (hv:PE X value tv) (hs:swapsWith value (some (.Attribute o f pos')) pos.line X.env=pure false):PS X (.Assign [.Attribute o f pos'] value pos) (KA X.K ta tv f):=by
 intro pins s σ H D I h;refine plainObj_wpAny_Assign_Attribute (thn (hv pins s σ H _ I h) λ u s1 ⟨y,H1,I1,ry,q⟩=>thn (ha pins s1 σ H1 _ I1 q) λ ov s2 ⟨x,H2,I2,rx,a,C,dx,fs,ex,ea,c,n,l,q2⟩=>?_) hs;subst ex;obtain rfl:ov=Value.ref a:=rx;exact rL I2 ea c n l ry λ s3 I3=>⟨σ,_,I3,q2⟩
end
section
variable {X:Cx} {pins:List (Addr×Obj)} {σ:St} {H:Hp} {s:Shared} {A:Around} {E:Value->Shared->Prop} {Q:Value->Shared->Prop} {c:Value} {b:Bool}
inductive sR (K:W.Frag) (H:Hp):V->Value->Prop where
 | non:sR K H .non (.type "NoneType")
 | bl (x:Bool):sR K H (.bl x) (.type "bool")
 | int (i:Int):sR K H (.int i) (.type "int")
 | str (x:Str):sR K H (.str x) (.type "str")
 | flt (x:UInt64):sR K H (.flt x) (.type "float")
 | lst {a:Addr} {xs:List V} (e:H a=some (.lst xs)):sR K H (.ref a) (.type "list")
 | frz {a:Addr} {o:Obj} {xs:List V} (e:H a=some (.frz o (.lst xs))):sR K H (.ref a) (.type "list")
 | tup {a:Addr} {xs:List V} (e:H a=some (.tup xs)):sR K H (.ref a) (.type "tuple")
 | dK {a:Addr} {kvs:List (Key×V)} (e:H a=some (.dK kvs)):sR K H (.ref a) (.type "dict")
 | dT {a:Addr} {kvs:List (List Key×V)} (e:H a=some (.dT kvs)):sR K H (.ref a) (.type "dict")
 | ins {a C dx:Addr} {fs:List (Str×V)} (e:H a=some (.ins C dx fs)) (cl:Cls K C) (ha:W.findIn K (.ref C) "__class__"=some (some (.builtin "object.__class__")))
  (hn:PySem.W.specialIn K (.builtin "object.__class__") "__get__"=some (some (.builtin "getset_descriptor.__get__"))) (htk:PySem.W.takesIn K (.builtin "object.__class__")=some true)
  (hm:PySem.W.mroIn K C (.type "object")=some true):sR K H (.ref a) (.ref C)
theorem vj (I:Inv X pins σ H s) (rx:RelV x u) (ty:sR X.K H x t) (e:PySem.W.kitOne X.K t c=some b) (h:∀ tk,Q (.bool b) { s with toks:=tk }) :
  wpAny (model X.prog X.w) A (call (.builtin "isinstance") [u,c]) Q E s:=by
 cases ty with
 | non=>cases (show u=Value.none from rx); exact Yl PySem.W.kitx_none I.kIn True.intro e (λ z=>nomatch z) h
 | bl y=>cases (show u=Value.bool y from rx); exact Yl PySem.W.kitx_bool I.kIn True.intro e (λ z=>nomatch z) h
 | int i=>obtain ⟨t,q⟩:=(show ∃ t,u=Value.int i t from rx); cases q; exact Yl PySem.W.kitx_int I.kIn True.intro e (λ z=>nomatch z) h
 | str y=>obtain ⟨t,q⟩:=(show ∃ t,u=Value.str y t from rx); cases q; exact Yl PySem.W.kitx_str I.kIn True.intro e (λ z=>nomatch z) h
 | flt y=>obtain ⟨t,q⟩:=(show ∃ t,u=Value.float y t from rx); cases q; exact Yl PySem.W.kitx_float I.kIn True.intro e (λ z=>nomatch z) h
 | @lst a xs ea =>
  cases (show u=Value.ref a from rx);obtain ⟨_,_,n,_,h1⟩:=(show bT X.prog X.w H s.heap a (.lst xs) from I.hok a _ ea)
  exact Yl PySem.W.kitx_list I.kIn ⟨_,h1,rfl⟩ e (λ z=>nomatch z) h
 | @frz a ob xs ea =>
  cases (show u=Value.ref a from rx);obtain ⟨_,_,_,n,_,h1⟩:=(show bT X.prog X.w H s.heap a (.frz ob (.lst xs)) from I.hok a _ ea)
  exact Yl PySem.W.kitx_list I.kIn ⟨_,h1,rfl⟩ e (λ z=>nomatch z) h
 | @tup a xs ea =>
  cases (show u=Value.ref a from rx);obtain ⟨_,_,_,p⟩:=(show bT X.prog X.w H s.heap a (.tup xs) from I.hok a _ ea)
  obtain ⟨o,h1,h2,_⟩:=p;exact Yl PySem.W.kitx_tuple I.kIn ⟨o,h1,h2⟩ e (λ z=>nomatch z) h
 | @dK a kvs ea =>
  cases (show u=Value.ref a from rx);obtain ⟨_,_,vs,_,p⟩:=(show bT X.prog X.w H s.heap a (.dK kvs) from I.hok a _ ea)
  obtain ⟨o,es,ep,h1,h2,_⟩:=p;exact Yl PySem.W.kitx_dict I.kIn ⟨o,h1,h2.1⟩ e (λ z=>nomatch z) h
 | @dT a kvs ea =>
  cases (show u=Value.ref a from rx);obtain ⟨_,_,xs,_,o,es,ep,h1,h2,_⟩:=(show bT X.prog X.w H s.heap a (.dT kvs) from I.hok a _ ea)
  exact Yl PySem.W.kitx_dict I.kIn ⟨o,h1,h2.1⟩ e (λ z=>nomatch z) h
 | @ins a C dx fs ea cl ha hn htk hm =>
  cases (show u=Value.ref a from rx);obtain ⟨mA,O,_⟩:=mn I.hok ea;obtain ⟨od,J,_⟩:=O.look;exact Yl (PySem.W.kitx_own (cl.get _) cl.hd ha hn htk hm) I.kIn J e (λ z=>nomatch z) h
end
end L2
namespace L2
open PySem PySem.Spec PyProof.Rows
structure cg (k:Nat) (A:Around):Prop where
 hd:A.handled=none
 dp:A.depth+3 * k+5 < recursionLimit
 un:A.units+16 * k+200 < cLine
theorem cg.mono (r:cg k A) (h:j<=k):cg j A:=⟨r.hd,by have:=r.dp; omega,by have:=r.un; omega⟩
theorem cg.deeper (r:cg (k+1) A) (env:Env):cg k (A.deeper env) :=
 ⟨r.hd,by have:=r.dp; show A.depth+1+3 * k+5 < _; omega,by have:=r.un; show A.units+3+16 * k+200 < _; omega⟩
theorem rX {A:Around} {C:Addr} {us:List Value} {kw:List (Str×Value)}:(A.under (.builtin "type.__call__" ⟨.ref C::us,kw⟩)).depth=A.depth+1:=by
 first | rfl | simp [Around.under,Code.weight,Code.isCreation,Code.isGuard,Code.isCaller,Code.frames,Code.isFrame,guardIds]
theorem rW {A:Around} {C:Addr} {us:List Value} {kw:List (Str×Value)}:(A.under (.builtin "type.__call__" ⟨.ref C::us,kw⟩)).units=A.units+1:=by
 first | rfl | simp [Around.under,Code.cUnits,Code.frames,Code.isFrame]
theorem cg.make (r:cg (k+1) A) (C:Addr) (us:List Value) (kw:List (Str×Value)):cg k (A.under (.builtin "type.__call__" ⟨.ref C::us,kw⟩)) :=
 ⟨r.hd,by have:=r.dp; rw [rX]; omega,by have:=r.un; rw [rW]; omega⟩
theorem cg.depth (r:cg k A):A.depth < recursionLimit:=by have:=r.dp; omega
theorem cg.units (r:cg k A):A.units+64 < cLine:=by have:=r.un; omega
def yO:TA:=λ _ H Q=>Q [] H
def iw (ta:TE) (tr:TA):TA:=λ σ H Q=>ta σ H λ x H1=>tr σ H1 λ xs H2=>Q (x::xs) H2
section
variable {X:Cx} {e:Expr} {es:List Expr} {te:TE} {t:TA} {pos:Pos}
theorem aV:PA X [] yO:=λ _ _ _ _ H Q I h=>Calls.spliced_nil ⟨[],H,I,.nil,h⟩
theorem au (ha:PE X e te) (hr:PA X es t) (hs:starEach (e::es) X.env=(false,eval e X.env)::starEach es X.env:=by rfl):PA X (e::es) (iw te t):=by
 intro pos pins s σ H Q I h;rw [hs];show wpAny _ _ (spliced ((false,eval e X.env)::backTo pos (starEach es X.env))) _ _ s;refine Calls.spliced_cons (thn (ha pins s σ H _ I h) λ u s1 ⟨x,H1,I1,r1,q1⟩=>?_);exact thn (hr pos pins s1 σ H1 _ I1 q1) λ us s2 ⟨xs,H2,I2,r2,q2⟩=>⟨x::xs,H2,I2,.cons r1 r2,q2⟩
def Ka (t:TA):TE:=λ σ H Q=>t σ H λ xs H1=>xs.length<=sizeLine/\∀ p,H1 p=none->Q (.ref p) (upd H1 p (.tup xs))
def Jm (t:TA):TE:=λ σ H Q=>t σ H λ xs H1=>xs.length<=sizeLine/\∀ p,H1 p=none->Q (.ref p) (upd H1 p (.lst xs))
theorem zf {x1} (h:PA X es t):PE X (.Tuple es x1 pos) (Ka t):=by
 intro pins s σ H Q I hq;refine wpAny_Tuple_spliced (thn (h pos pins s σ H _ I hq) λ us s1 ⟨xs,H1,I1,r,z,q⟩=>⟨by rw [<- r.length]; exact z,?_⟩);have hf:H1 s1.heap.objs.size=none:=I1.hok.fresh (Zk _);refine ⟨.ref s1.heap.objs.size,upd H1 s1.heap.objs.size (.tup xs),I1.laid (t':=s1.toks) (λ b u e=>Heap.get?_push_of_some _ e) (Zk _) ?_,rfl,q _ hf⟩;exact ⟨z,us,r,⟨_,Heap.get?_push_size _ rfl,rfl,_,rfl⟩⟩
theorem qp (h:PA X es t):PE X (.List es pos) (Jm t):=by
 intro pins s σ H Q I hq;refine wpAny_List_spliced (thn (h pos pins s σ H _ I hq) λ us s1 ⟨xs,H1,I1,r,z,q⟩=>⟨by rw [<- r.length]; exact z,?_⟩);have hf:H1 s1.heap.objs.size=none:=I1.hok.fresh (Zk _);refine ⟨.ref s1.heap.objs.size,upd H1 s1.heap.objs.size (.lst xs),I1.laid (t':=s1.toks) (λ b u e=>Heap.get?_push_of_some _ e) (Zk _) ?_,rfl,q _ hf⟩;exact ⟨z,us,0,r,Heap.get?_push_size _ rfl⟩
end
abbrev Sp:=List V->Hp->VK->XK->Prop
abbrev CXT:=List Env->Hp->Shared->XK->Value->Shared->Prop
structure rE (P:Program) (w:World) (K:W.Frag) (mg:Str->Option Value) (base:Heap) (A:Around) (outer:List Env) (s:Shared) (H:Hp):Prop where
 frames:A.frames=some outer
 mod:Mod K mg base
 bs:∀ b o,base.get? b=some o->s.heap.get? b=some o/\H b=none
 bsz:base.objs.size<=s.heap.objs.size
 mM:s.heap.FunFrames base outer
 frf:∀ b ∈ frs outer,H b=none
 hok:HOk P w H s.heap
 bare:AllBare s.gens
def CE (outer:List Env) (P:Program) (w:World) (H:Hp) (s:Shared) (Q:VK) (u:Value) (s':Shared):Prop :=
 ∃ v H',s'.os=s.os/\AllBare s'.gens/\Un (frs outer) [] H H' s.heap s'.heap/\HOk P w H' s'.heap/\RelV v u/\Q v H'
def CR (CX:CXT) (outer:List Env) (P:Program) (w:World) (H:Hp) (s:Shared) (Q:VK) (E:XK) (r:Result) (s':Shared):Prop :=
 match r with
 | .ok (.ret u)=>CE outer P w H s Q u s'
 | .ok _=>False
 | .error e=>CX outer H s E e s'
structure gL (P:Program) (w:World) (K:W.Frag) (mg:Str->Option Value) (base:Heap) (CX:CXT) (k:Nat) (f:Addr) (fd:FuncData) (ps:List Str) (sp:Sp):Prop where
 len:∀ vs H Q E,sp vs H Q E->vs.length=ps.length
 run:∀ (A:Around) (outer:List Env) (s:Shared) (H:Hp) (args:Args) (us:List Value) (vs:List V) (Q:VK) (E:XK),cg k A->rE P w K mg base A outer s H->BindsTo s fd args (ps.zip us)->a7 vs us->sp vs H Q E ->
  codeAny (model P w) A (.call (.ref f) args) (CR CX outer P w H s Q E) s
theorem rE.make {P:Program} {w:World} {K:W.Frag} {mg:Str->Option Value} {base:Heap} {A:Around} {outer:List Env} {s:Shared} {H:Hp} (e:rE P w K mg base A outer s H) (C:Addr) (us:List Value) (kw:List (Str×Value)) :
 rE P w K mg base (A.under (.builtin "type.__call__" ⟨.ref C::us,kw⟩)) outer s H:=⟨by first | exact e.frames | (simpa [Around.under,Code.envs,Code.isFrame,pushEnvs] using e.frames),e.mod,e.bs,e.bsz,e.mM,e.frf,e.hok,e.bare⟩
section
variable {X:Cx} {pins:List (Addr×Obj)} {σ:St} {H:Hp} {s s':Shared}
theorem Inv.EJ (I:Inv X pins σ H s):rE X.prog X.w X.K X.mg X.base X.A X.stack s H :=
 ⟨I.ok.frames,I.ok.mod,I.bs,Z5 I.ok.bsz I.sz,I.stack,I.iz,I.hok,I.bare⟩
theorem Inv.after (I:Inv X pins σ H s) (h:CE X.stack X.prog X.w H s Q u s'):EP X pins σ Q u s':=by
 obtain ⟨v,H',os,bare,un,hok,r,q⟩:=h;obtain ⟨hh,g,d,t,os'⟩:=s';obtain rfl:os'=s.os:=os;exact ⟨v,H',I.call (h':=hh) (g':=g) (d':=d) (t':=t) (ch:=[]) un hok bare (λ b z=>absurd z (by simp)),r,q⟩
end
def xb (sp:Sp) (dvs:List V) (E:XK) (t:TA):TE:=λ σ H Q=>t σ H λ vs H1=>sp (vs++dvs) H1 Q E
def zY (C:Addr) (m:Str) (sp:Sp) (dvs:List V) (E:XK) (ta:TE) (t:TA):TE:=λ σ H Q=>ta σ H λ x H1=>∃ a dx fs,x=.ref a/\H1 a=some (.ins C dx fs)/\fs.lookup m=none /\
 t σ H1 λ vs H2=>sp (x::(vs++dvs)) H2 Q E
def Gq (C:Addr) (sp:Sp) (dvs:List V) (E:XK) (t:TA):TE:=λ σ H Q=>t σ H λ vs H1=>∀ x dx,H1 x=none->H1 dx=none->dx≠x ->
 sp (.ref x::(vs++dvs)) (upd (upd H1 dx (.own x)) x (.ins C dx [])) (λ v H2=>v=.non/\Q (.ref x) H2) E
def Binds (K:W.Frag) (fd:FuncData) (ps:List Str) (ds:List Value):Prop :=
 ∀ (s:Shared) (us:List Value),K.In s.heap->(us++ds).length=ps.length->BindsTo s fd ⟨us,[]⟩ (ps.zip (us++ds))
theorem Binds.all {K:W.Frag} {fd:FuncData} {ps:List Str} (h:∀ us:List Value,us.length=ps.length->bindArgs fd ⟨us,[]⟩=pure (ps.zip us)):Binds K fd ps []:=λ s us _ hl=>by
 rw [Z1] at hl ⊢;exact .of_eq (h us hl)
def fj (CX:CXT) (X:Cx) (E:XK):Prop:=∀ (pins:List (Addr×Obj)) (σ:St) (H:Hp) (s:Shared) (e:Value) (s':Shared),Inv X pins σ H s->CX X.stack H s E e s'->X.xe e s'
section
variable {X:Cx} {CX:CXT} {k:Nat} {f C:Addr} {fd:FuncData} {ps:List Str} {sp:Sp} {dvs:List V} {ds:List Value} {E:XK} {x m:Str} {p pos apos:Pos} {e o:Expr} {es:List Expr} {ta:TE} {t:TA}
theorem yX (F:gL X.prog X.w X.K X.mg X.base CX k f fd ps sp) (hr:cg k X.A) (hb:Binds X.K fd ps ds) (hd:a7 dvs ds) (hx:fj CX X E)
  (I:Inv X pins σ H s) (r:a7 vs us) (h:sp (vs++dvs) H Q E):wpAny (model X.prog X.w) X.A (call (.ref f) us) (EP X pins σ Q) X.xe s:=by
 have r2:a7 (vs++dvs) (us++ds):=r.append hd;have hl:(us++ds).length=ps.length:=by rw [<- r2.length]; exact F.len _ _ _ _ h
 refine wpAny_call (Xo (F.run X.A X.stack s H ⟨us,[]⟩ (us++ds) (vs++dvs) Q E hr I.EJ (hb s us I.kIn hl) r2 h) λ r s' hq=>?_)
 cases r with
 | error e=>exact hx pins σ H s e s' I hq
 | ok fl =>
  cases fl with
  | ret u=>exact I.after hq
  | next=>exact False.elim hq
  | brk=>exact False.elim hq
  | cont=>exact False.elim hq
theorem gq (F:gL X.prog X.w X.K X.mg X.base CX k f fd ps sp) (hr:cg k X.A) (hg:Gl X x) (hm:X.mg x=some (.ref f)) (hk:W.keepIn X.K (.ref f)=true) (hb:Binds X.K fd ps ds) (hd:a7 dvs ds) (hx:fj CX X E)
  (ha:PA X (e::es) t) (hdb:(x == ("__debug__":Str))=false:=by decide) (he:starEach (e::es) X.env=(false,eval e X.env)::starEach es X.env:=by rfl) (hpl:(backTo pos (starEach es X.env)).any (·.1)=false:=by rfl) :
  PE X (.Call (.Name x p) (e::es) [] pos) (xb sp dvs E t):=by
 intro pins s σ H Q I h;refine Yo (iI I hg hm ?_ hdb);refine Xd (h₀:=X.base) I.ok.mod.kin hk (thn (ha pos pins s σ H _ I h) λ us s1 ⟨vs,H1,I1,r,q⟩=>⟨I1.kIn,?_⟩) he hpl;exact yX F hr hb hd hx I1 r q
theorem oZ (he:PE X o ta) (c:Cls X.K C) (hm:yK X.K C m f) (F:gL X.prog X.w X.K X.mg X.base CX k f fd ps sp) (hr:cg k X.A) (hb:Binds X.K fd ps ds) (hd:a7 dvs ds) (hx:fj CX X E) (ha:PA X (e::es) t)
  (hst:starEach (e::es) X.env=(false,eval e X.env)::starEach es X.env:=by rfl) (hpl:(backTo pos (starEach es X.env)).any (·.1)=false:=by rfl)
  (ht:eval (.Call (.Attribute o m apos) (e::es) [] pos) X.env=(do
    let ov <- eval o X.env
    standAt apos.atName
    let (f,first) <- holding [ov] (getMethod ov m pl)
    callWith pos f first (backTo pos (starEach (e::es) X.env)) (backToKw pos (keywordEach [] X.env))):=by rfl) :
  PE X (.Call (.Attribute o m apos) (e::es) [] pos) (zY C m sp dvs E ta t):=by
 intro pins s σ H Q I h;refine PySem.W.methodCall_KW (pl:=pl) (thn (he pins s σ H _ I h) λ u s1 ⟨x,H1,I1,rx,a,dx,fs,ex,ea,l,q⟩=>?_) ht;subst ex;obtain rfl:u=Value.ref a:=rx;refine k8 I1 ea c hm l ?_
 refine Xd (first:=[.ref a]) (h₀:=X.base) I.ok.mod.kin hm.kp (thn (ha pos pins s1 σ H1 _ I1 q) λ us s2 ⟨vs,H2,I2,r,q2⟩=>⟨I2.kIn,?_⟩) hst hpl;exact yX (us:=.ref a::us) (vs:=.ref a::vs) F hr hb hd hx I2 (.cons rfl r) q2
structure Mk (K:W.Frag) (C f:Addr):Prop where
 makes:PySem.W.makesIn K C=true
 init:W.findIn K (.ref C) "__init__"=some (some (.ref f))
 fn:PySem.W.isFn K (.ref f)=true
 kp:W.keepIn K (.ref C)=true
theorem xp (M:Mk X.K C f) (F:gL X.prog X.w X.K X.mg X.base CX k f fd ps sp) (hr:cg (k+1) X.A) (hb:Binds X.K fd ps ds) (hd:a7 dvs ds)
  (hx:fj CX X E) (I:Inv X pins σ H s) (r:a7 vs us)
  (h:∀ x dx,H x=none->H dx=none->dx≠x->sp (.ref x::(vs++dvs)) (upd (upd H dx (.own x)) x (.ins C dx [])) (λ v H2=>v=.non/\Q (.ref x) H2) E) :
  wpAny (model X.prog X.w) X.A (call (.ref C) us) (EP X pins σ Q) X.xe s:=by
 have hq:=h (s.heap.objs.size+1) s.heap.objs.size (I.hok.fresh (Nat.le_succ _)) (I.hok.fresh (Zk _)) (Zz (Xb _));have I2:=Inv.made (C:=C) I;have r2:a7 (V.ref (s.heap.objs.size+1)::(vs++dvs)) (Value.ref (s.heap.objs.size+1)::(us++ds)):=.cons rfl (r.append hd)
 have hl:(Value.ref (s.heap.objs.size+1)::us++ds).length=ps.length:=by
  have e:=r2.length;rw [F.len _ _ _ _ hq] at e;exact e.symm
 refine wpAny_call (xT (f:=f) I.kIn M.makes M.init (beq_iff_eq.mp M.fn) (Xo (F.run _ X.stack _ _ ⟨Value.ref (s.heap.objs.size+1)::us,[]⟩ (Value.ref (s.heap.objs.size+1)::(us++ds)) _ _ E (hr.make C us [])
  (I2.EJ.make C us []) (hb _ (Value.ref (s.heap.objs.size+1)::us) I2.kIn hl) r2 hq) λ r s' hq'=>?_))
 cases r with
 | error e=>exact hx pins σ _ _ e s' I2 hq'
 | ok fl =>
  cases fl with
  | ret u =>
   obtain ⟨v,H',I3,rv,ev,q3⟩:=I2.after hq';subst ev;exact ⟨rv,⟨V.ref (s.heap.objs.size+1),H',I3,rfl,q3⟩⟩
  | next=>exact False.elim hq'
  | brk=>exact False.elim hq'
  | cont=>exact False.elim hq'
theorem AG (M:Mk X.K C f) (F:gL X.prog X.w X.K X.mg X.base CX k f fd ps sp) (hr:cg (k+1) X.A) (hg:Gl X x) (hm:X.mg x=some (.ref C)) (hb:Binds X.K fd ps ds) (hd:a7 dvs ds) (hx:fj CX X E)
  (ha:PA X (e::es) t) (hdb:(x == ("__debug__":Str))=false:=by decide) (he:starEach (e::es) X.env=(false,eval e X.env)::starEach es X.env:=by rfl) (hpl:(backTo pos (starEach es X.env)).any (·.1)=false:=by rfl) :
  PE X (.Call (.Name x p) (e::es) [] pos) (Gq C sp dvs E t):=by
 intro pins s σ H Q I h;refine Yo (iI I hg hm ?_ hdb);refine Xd (h₀:=X.base) I.ok.mod.kin M.kp (thn (ha pos pins s σ H _ I h) λ us s1 ⟨vs,H1,I1,r,q⟩=>⟨I1.kIn,?_⟩) he hpl;exact xp M F hr hb hd hx I1 r q
end
structure dt (N P:List Str) (sc:Scope):Prop where
 kind:sc.kind=.function
 co:sc.isCoroutine=false
 gen:sc.isGenerator=false
 nd:N.Nodup
 pre:N.take P.length=P
 par:∀ x ∈ P,sc.names.lookup x=some .local\/sc.names.lookup x=some .cell
 uL:∀ y ∈ sc.names,y.2≠.free
theorem oy {kindOf:Str->Option NameKind} {x:Str}:∀ {binds:List (Str×Value)} {m:Str->Option Value},(∀ v,(x,v) ∉ binds)->bindL kindOf binds m x=m x
 | [],_,_=>rfl
 | (n,v)::r,m,h=>by
  unfold bindL;rw [oy λ w hw=>h w (Zd _ hw)];split
  ·have:x≠n:=by rintro rfl; exact h v Ze
   simp [this]
  · rfl
theorem oA {kindOf:Str->Option NameKind} {x:Str}:∀ {binds:List (Str×Value)} {m:Str->Option Value},(∀ v,(x,v) ∉ binds)->bindC kindOf binds m x=m x
 | [],_,_=>rfl
 | (n,v)::r,m,h=>by
  unfold bindC;rw [oA λ w hw=>h w (Zd _ hw)];split
  · rfl
  ·have:x≠n:=by rintro rfl; exact h v Ze
   simp [this]
theorem oz {kindOf:Str->Option NameKind} {x:Str} {v:Value}:∀ {P:List Str} {vs:List Value} {i:Nat} {m:Str->Option Value},P.Nodup->P[i]?=some x->vs[i]?=some v->kindOf x=some .local ->
  bindL kindOf (P.zip vs) m x=some v
 | [],_,_,_,_,h,_,_=>by simp at h
 | _::_,[],_,_,_,_,h,_=>by simp at h
 | p::P,w::vs,0,m,nd,h1,h2,hk=>by
  simp at h1 h2; subst h1; subst h2
  show bindL kindOf ((p,w)::P.zip vs) m p=_;unfold bindL;rw [oy λ v hv=>(Zy.mp nd).1 (Xv hv).1,if_pos hk];simp
 | p::P,w::vs,i+1,m,nd,h1,h2,hk=>by
  show bindL kindOf ((p,w)::P.zip vs) m x=_;unfold bindL;exact oz (i:=i) (Zy.mp nd).2 (by simpa using h1) (by simpa using h2) hk
theorem oB {kindOf:Str->Option NameKind} {x:Str} {v:Value}:∀ {P:List Str} {vs:List Value} {i:Nat} {m:Str->Option Value},P.Nodup->P[i]?=some x->vs[i]?=some v->kindOf x≠some .local ->
  bindC kindOf (P.zip vs) m x=some v
 | [],_,_,_,_,h,_,_=>by simp at h
 | _::_,[],_,_,_,_,h,_=>by simp at h
 | p::P,w::vs,0,m,nd,h1,h2,hk=>by
  simp at h1 h2; subst h1; subst h2
  show bindC kindOf ((p,w)::P.zip vs) m p=_;unfold bindC;rw [oA λ v hv=>(Zy.mp nd).1 (Xv hv).1,if_neg hk];simp
 | p::P,w::vs,i+1,m,nd,h1,h2,hk=>by
  show bindC kindOf ((p,w)::P.zip vs) m x=_;unfold bindC;exact oB (i:=i) (Zy.mp nd).2 (by simpa using h1) (by simpa using h2) hk
def start (N:List Str) (vs:List V):St:=vs.map some++List.replicate (N.length - vs.length) none
def lr (CX:CXT) (P:Program) (w:World) (K:W.Frag) (mg:Str->Option Value) (base:Heap) (N:List Str) (qual:Str) (scope:Scope) (f:Addr) (cd:Value) (A:Around) (outer:List Env) (s:Shared) (H:Hp) (E:XK):Cx where
 prog:=P
 w:=w
 K:=K
 mg:=mg
 base:=base
 A:=A.deeper (envOfC qual scope s.heap.objs.size f cd)
 N:=N
 s₀:=s
 H₀:=H
 env:=envOfC qual scope s.heap.objs.size f cd
 outer:=outer
 stack:=envOfC qual scope s.heap.objs.size f cd::outer
 ex:=[]
 calm:=true
 fn:=λ _=>true
 pn:=[]
 xe:=λ e s'=>wpAny (model P w) (A.deeper (envOfC qual scope s.heap.objs.size f cd)) (leaving (envOfC qual scope s.heap.objs.size f cd) e) (λ _ s''=>CX outer H s E e s'') (λ e' s''=>CX outer H s E e' s'') s'
theorem q9 {sc:Scope} {n:Nat} {x:Str} (h:sc.names.lookup x=some .cell):∃ c,(cellsFrom n sc.names []).lookup x=some c:=by
 have q:=PySem.W.cellsFrom_some sc.names n [] (.inl h);exact Y8.mp q
theorem vm {CX:CXT} {P:Program} {w:World} {K:W.Frag} {mg:Str->Option Value} {base:Heap} {N ps:List Str} {qual:Str} {scope:Scope} {f:Addr} {cd:Value} {A:Around} {outer:List Env} {s s1:Shared} {H:Hp} {E:XK} {us:List Value} {vs:List V}
  (S:dt N ps scope) (hd:A.handled=none) (e0:rE P w K mg base A outer s H) (hl:vs.length=ps.length) (r:a7 vs us)
  (x:InCallC s s.heap.objs.size (bindL (envOfC qual scope s.heap.objs.size f cd).kindOf (ps.zip us) λ _=>none) (cellsFrom (s.heap.objs.size+1) scope.names []) (bindC (envOfC qual scope s.heap.objs.size f cd).kindOf (ps.zip us) λ _=>none) s1) :
  Inv (lr CX P w K mg base N qual scope f cd A outer s H E) [] (start N vs) H s1:=by
 have hpl:ps.length<=N.length:=by have:=Z7 List.length S.pre; rw [Xp] at this; omega
 obtain ⟨h1,tk,rfl,hk⟩:=x.done;have noA:∀ b:Addr,b ∉ (lr CX P w K mg base N qual scope f cd A outer s H E).ex:=λ b z=>absurd (show b ∈ ([]:List Addr) from z) (by simp)
 refine ⟨⟨e0.mod,S.kind,rfl,rfl,Zk _,λ y z c h1 h2=>?_,λ y hy=>?_,λ y c _ h=>?_,λ _=>hd,Around.frames_deeper e0.frames,.inr ⟨rfl,rfl⟩,λ b z=>absurd z (noA b),e0.bs,e0.bsz,λ b _ _=>noA b,λ b z=>absurd z (noA b),e0.mM,e0.frf⟩,
  rfl,e0.bare,Un.kept hk,⟨_,x.toInCall.ns,λ i y v h1 h2 h3=>?_⟩,λ y c h=>⟨_,x.cell y c h⟩,e0.hok.fresh (Zk _),λ y c h=>?_,λ p hp=>absurd (show p ∈ ([]:List (Addr×Obj)) from hp) (by simp),e0.hok.kept hk,?_⟩
 · exact name_of_addr x.apart (Z4 h1) (Z4 h2)
 ·have hy:scope.names.lookup y=some .cell\/scope.names.lookup y=some .free:=hy
  rcases hy with hy | hy
  · exact q9 hy
  · exact absurd rfl (S.uL _ (Z4 hy))
 · exact Yk (x.above y c (Z4 h))
 ·have hi:i < vs.length:=by
   unfold start at h2
   by_cases hi:i < vs.length
   · exact hi
   ·rw [List.getElem?_append_right (by simpa using hi)] at h2
    rw [List.getElem?_replicate] at h2;split at h2 <;> cases h2
  have ha:vs[i]?=some v:=by
   unfold start at h2;rw [List.getElem?_append_left (by simpa using hi),List.getElem?_map] at h2
   cases e:vs[i]? with
   | none=>rw [e] at h2; cases h2
   | some a=>rw [e] at h2; cases h2; rfl
  obtain ⟨u,hu,rv⟩:=r.get ha
  have hp:ps[i]?=some y:=by
   rw [<- S.pre,List.getElem?_take_of_lt (by omega)]; exact h1
  have ndP:ps.Nodup:=by rw [<- S.pre]; exact S.nd.sublist (List.take_sublist _ _)
  refine ⟨u,rv,?_⟩;rcases S.par y (List.mem_of_getElem? hp) with k | k
  · exact .inl ⟨k,oz ndP hp hu k⟩
  ·obtain ⟨c,e⟩:=q9 (n:=s.heap.objs.size+1) k
   refine .inr ⟨.inl k,c,e,?_⟩;have q:=x.cell y c e;rw [oB ndP hp hu (by show scope.names.lookup y≠_; rw [k]; decide)] at q;exact q
 · exact e0.hok.fresh (Yk (x.above y c (Z4 h)))
 ·unfold start
  show _=N.length;rw [Z3,Za,List.length_replicate];omega
theorem vC {CX:CXT} {P:Program} {w:World} {K:W.Frag} {mg:Str->Option Value} {base:Heap} {k:Nat} {f:Addr} {name qual:Str} {params:Arguments} {body:List Stmt} {scope:Scope} {dV kV doc pm cdv ct oc:Value} {an od:Option Addr}
  {osl:Array (Option Value)} {N ps:List Str} {sp:Sp} (lk:K.lookup f=some ⟨oc,od,.func (PySem.W.fnOf name qual params body scope dV kV doc pm an cdv ct),osl⟩) (hcd:PySem.W.codeIn K cdv qual=true) (S:dt N ps scope)
  (len:∀ vs H Q E,sp vs H Q E->vs.length=ps.length)
  (hbody:∀ (A:Around) (outer:List Env) (s:Shared) (H:Hp) (vs:List V) (Q:VK) (E:XK),cg k (A.deeper (envOfC qual scope s.heap.objs.size f cdv))->sp vs H Q E ->
    ∃ t,PSs (lr CX P w K mg base N qual scope f cdv A outer s H E) body t/\t { nx:=λ _ H'=>Q .non H',rt:=Q } (start N vs) H) :
  gL P w K mg base CX (k+1) f (PySem.W.fnOf name qual params body scope dV kV doc pm an cdv ct) ps sp:=by
 refine ⟨len,λ A outer s H args us vs Q E hr e0 hb r hsp=>?_⟩;have hl:=len _ _ _ _ hsp;have KX:K.In s.heap:=e0.mod.kin.keeps λ b o e=>(e0.bs b o e).1
 have lim:s.heap.NoLimit:=e0.mod.nolimit.keeps λ b o e=>(e0.bs b o e).1
 have hkind:∀ y ∈ ps.zip us,scope.names.lookup y.1=some .local\/(scope.names.lookup y.1=some .cell/\((cellsFrom (s.heap.objs.size+1) scope.names []).lookup y.1).isSome=true):=λ ⟨n,v⟩ hy=>by
  rcases S.par n (Xv hy).1 with q | q
  · exact .inl q
  · exact .inr ⟨q,PySem.W.cellsFrom_some _ _ _ (.inl q)⟩
 refine codeAny_call_function hr.depth (KX _ _ lk) rfl S.co S.gen rfl (PySem.W.codeRec_of KX hcd) (hb _ _ _ _ ?_);refine wpAny_newFunctionEnv_cells S.kind hkind λ env he s1 x=>?_
 subst he;refine ⟨lim.keeps x.toInCall.keep,codeAny_func ?_⟩;obtain ⟨t,ht,hq⟩:=hbody A outer s H vs Q E (hr.deeper _) hsp;have I:Inv (lr CX P w K mg base N qual scope f cdv A outer s H E) [] (start N vs) H s1:=vm S hr.hd e0 hl r x;refine Z9 (ht [] s1 (start N vs) H _ I hq) (λ fl s' hs=>?_) λ e s' hs=>hs
 have fin:∀ {σ':St} {H':Hp} {v:V} {u:Value},Inv (lr CX P w K mg base N qual scope f cdv A outer s H E) [] σ' H' s'->RelV v u->Q v H'->CE outer P w H s Q u s' :=
  λ {σ' H' v u} J rv q=>⟨v,H',J.os,J.bare,J.base,J.hok,rv,q⟩
 cases fl with
 | ret u =>
  obtain ⟨v,σ',H',J,rv,q⟩:=hs;exact fin J rv q
 | next =>
  obtain ⟨σ',H',J,q⟩:=hs;exact fin (v:=V.non) (u:=Value.none) J rfl q
 | brk =>
  obtain ⟨_,_,_,q⟩:=hs;exact False.elim q
 | cont =>
  obtain ⟨_,_,_,q⟩:=hs;exact False.elim q
end L2
namespace L2
open PySem PySem.Spec PyProof.Rows
section
variable {X:Cx} {x:Str} {p pos:Pos} {e:Expr} {es:List Expr} {t:TA} {id T:String} {r:List V->Hp->VK->Prop}
def tCB (r:List V->Hp->VK->Prop) (t:TA):TE:=λ σ H Q=>t σ H λ vs H1=>r vs H1 Q
theorem qr (hc:fJ X (.builtin id) r) (hg:Gl X x) (hm:X.mg x=none) (hv:bootBuiltins x=some (.builtin id)) (ha:PA X (e::es) t) (hn:x≠"__name__":=by decide) (hdb:(x == ("__debug__":Str))=false:=by decide)
  (he:starEach (e::es) X.env=(false,eval e X.env)::starEach es X.env:=by rfl) (hpl:(backTo pos (starEach es X.env)).any (·.1)=false:=by rfl):PE X (.Call (.Name x p) (e::es) [] pos) (tCB r t):=by
 intro pins s σ H Q I h;refine Yo (jW I hg hm hv ?_ hn hdb);exact PyProof.Rows.callWith_builtin1 (thn (ha pos pins s σ H _ I h) λ us s1 ⟨vs,H1,I1,r1,q1⟩=>hc pins s1 σ H1 vs us Q I1 r1 q1) he hpl
theorem m6 (hc:fJ X (.type T) r) (hg:Gl X x) (hm:X.mg x=none) (hv:bootBuiltins x=some (.type T)) (ha:PA X (e::es) t) (hn:x≠"__name__":=by decide) (hdb:(x == ("__debug__":Str))=false:=by decide)
  (he:starEach (e::es) X.env=(false,eval e X.env)::starEach es X.env:=by rfl) (hpl:(backTo pos (starEach es X.env)).any (·.1)=false:=by rfl):PE X (.Call (.Name x p) (e::es) [] pos) (tCB r t):=by
 intro pins s σ H Q I h;refine Yo (jW I hg hm hv ?_ hn hdb);exact Yy (thn (ha pos pins s σ H _ I h) λ us s1 ⟨vs,H1,I1,r1,q1⟩=>hc pins s1 σ H1 vs us Q I1 r1 q1) he hpl
end
end L2
namespace HT
open PySem PyProof.Rows
section
variable {prog:Program} {w:World} {A:Around} {E:Value->Shared->Prop} {s:Shared}
def sIx (n d:Nat):Option Int->Nat
 | none=>d
 | some v=>if v < 0 then (v+(n:Int)).toNat else min v.toNat n
theorem tQ (n d k:Nat):sIx n d (some (k:Int))=min k n:=by
 show (if (k:Int) < 0 then ((k:Int)+(n:Int)).toNat else min (k:Int).toNat n)=min k n;rw [if_neg (by omega),Int.toNat_natCast]
end
end HT
namespace L2
open PySem PySem.Spec PyProof.Rows
abbrev TO:=St->Hp->(Option Int->Hp->Prop)->Prop
def PO (X:Cx) (e:Option Expr) (t:TO):Prop :=
  ∀ (pins:List (Addr×Obj)) (s:Shared) (σ:St) (H:Hp) (Q:Option Int->Hp->Prop),Inv X pins σ H s->t σ H Q ->
    wpAny (model X.prog X.w) X.A (evalPart e X.env) (λ u s'=>∃ o H',Inv X pins σ H' s'/\IsPart u o/\Q o H') X.xe s
def Gm (t:TE):TO:=λ σ H Q=>t σ H λ x H1=>∃ i,x=.int i/\Q (some i) H1
section
variable {X:Cx} {e:Expr} {te:TE} {lo hi:Option Expr} {tl th:TO} {pos p2:Pos}
theorem Av (h:PE X e te):PO X (some e) (Gm te):=by
 intro pins s σ H Q I hw;rw [evalPart_some];refine thn (h pins s σ H _ I hw) λ u s1 ⟨x,H1,I1,r1,q1⟩=>?_
 obtain ⟨i,rfl,q⟩:=q1;obtain ⟨t,rfl⟩:=r1;exact ⟨some i,H1,I1,.int i t,q⟩
def SlR (X:Cx) (r:V->Option Int->Option Int->Hp->VK->Prop):Prop :=
  ∀ (pins:List (Addr×Obj)) (s:Shared) (σ:St) (H:Hp) (x:V) (v vl vu:Value) (lo hi:Option Int) (sl:Addr) (Q:VK),Inv X pins σ H s->RelV x v->s.heap.IsSliceOf sl vl vu .none->IsPart vl lo->IsPart vu hi->r x lo hi H Q ->
    ∃ T id,typeLookup (.type T) "__getitem__"=pure (some (.builtin id))/\s.TypeIs v T/\wpAny (model X.prog X.w) X.A (getItem v (.ref sl)) (EP X pins σ Q) X.xe s
def tSl (r:V->Option Int->Option Int->Hp->VK->Prop) (te:TE) (tl th:TO):TE:=λ σ H Q=>te σ H λ x H1=>tl σ H1 λ l H2=>th σ H2 λ u H3=>r x l u H3 Q
theorem xF (hr:SlR X r) (he:PE X e te) (hl:PO X lo tl) (hu:PO X hi th):PE X (.Subscript e (.Slice lo hi none p2) pos) (tSl r te tl th):=by
 intro pins s σ H Q I h;refine Subscript_ (thn (he pins s σ H _ I h) λ v s1 ⟨x,H1,I1,r1,q1⟩=>?_);refine wpAny_Slice (thn (hl pins s1 σ H1 _ I1 q1) λ vl s2 ⟨l,H2,I2,pl,q2⟩=>thn (hu pins s2 σ H2 _ I2 q2) λ vu s3 ⟨u,H3,I3,pu,q3⟩=>?_);rw [evalPart_none];refine Zx ?_
 have I4:Inv X pins σ H3 { s3 with heap:=s3.heap.push { cls:=.type "slice",data:=.fields #[vl,vu,.none] } }:=I3.kept (t':=s3.toks) λ b ob q=>Heap.get?_push_of_some _ q
 obtain ⟨T,id,hT,ht,hg⟩:=hr pins { s3 with heap:=s3.heap.push { cls:=.type "slice",data:=.fields #[vl,vu,.none] } } σ H3 x v vl vu l u s3.heap.objs.size Q I4 r1 (Heap.IsSliceOf.new ..) pl pu q3;show wpAny (model X.prog X.w) X.A (subscriptTail e (.Slice lo hi none p2) v (.ref s3.heap.objs.size)) (EP X pins σ Q) X.xe { s3 with heap:=s3.heap.push { cls:=.type "slice",data:=.fields #[vl,vu,.none] } };exact tail_any (ops:=[.ref s3.heap.objs.size,v]) ht hT hg (by with_unfolding_all rfl)
def Cr (xs:List V) (lo hi:Option Int):List V:=(xs.drop (HT.sIx xs.length 0 lo)).take (HT.sIx xs.length xs.length hi - HT.sIx xs.length 0 lo)
theorem pS (xs:List V) (lo hi:Option Int):(Cr xs lo hi).length<=xs.length:=by
 unfold Cr;rw [Xp,List.length_drop];omega
end
end L2
namespace L2
open PySem PySem.Spec PyProof.Rows
def ixN (n:Nat) (i:Int):Option Nat:=if 0<=i then (if i < n then some i.toNat else none) else if -(n:Int)<=i then some (i+n).toNat else none
def atI {α:Type} (xs:List α) (i:Int):Option α:=(ixN xs.length i).bind λ j=>xs[j]?
theorem BC (h:ixN n i=some j):seqIndex? i n=some j/\j < n/\-(n:Int)<=i/\i < n:=by
 unfold ixN at h
 by_cases h0:0<=i
 ·rw [if_pos h0] at h
  by_cases h1:i < n
  ·rw [if_pos h1] at h
   have e:i.toNat=j:=Zj h;exact ⟨by rw [seqIndex_of h0 h1,e],by omega,by omega,h1⟩
  · rw [if_neg h1] at h; cases h
 ·rw [if_neg h0] at h
  by_cases h1:-(n:Int)<=i
  ·rw [if_pos h1] at h
   have e:(i+n).toNat=j:=Zj h;exact ⟨by rw [seqIndex_neg (by omega) h1,e],by omega,h1,by omega⟩
  · rw [if_neg h1] at h; cases h
theorem pY {α:Type} {xs:List α} {v:α} (h:atI xs i=some v):∃ j,seqIndex? i xs.length=some j/\xs[j]?=some v/\j < xs.length/\-(xs.length:Int)<=i/\i < xs.length:=by
 unfold atI at h
 cases e:ixN xs.length i with
 | none=>rw [e] at h; cases h
 | some j =>
  rw [e] at h;obtain ⟨h1,h2,h3,h4⟩:=BC e;exact ⟨j,h1,h,h2,h3,h4⟩
theorem Ce {α:Type} {xs:List α} {j:Nat} {v:α} (h:xs[j]?=some v):atI xs (j:Int)=some v:=by
 have hj:j < xs.length:=(List.getElem?_eq_some_iff.mp h).1
 have e:ixN xs.length (j:Int)=some j:=by
  unfold ixN;rw [if_pos (by omega),if_pos (by omega)]; simp
 unfold atI; rw [e]; exact h
theorem yG {α:Type} (xs:List α) (v:α):atI (xs++[v]) (-1)=some v:=by
 have hl:(xs++[v]).length=xs.length+1:=by simp
 have e:ixN (xs++[v]).length (-1)=some xs.length:=by
  unfold ixN;rw [hl,if_neg (by decide),if_pos (by omega)];congr 1;omega
 unfold atI;rw [e];show (xs++[v])[xs.length]?=some v;simp
def wK (b:Expr):Prop:=∀ o i,subscripted b false o i=operate [o,i] (getItem o i)
def IxR (X:Cx) (r:R2):Prop :=
  ∀ (value slice:Expr) (pins:List (Addr×Obj)) (s:Shared) (σ:St) (H:Hp) (x y:V) (v u:Value) (Q:VK),Inv X pins σ H s->RelV x v->RelV y u->r x y H Q ->
    subscripted slice false v u=operate [v,u] (getItem v u)->wpAny (model X.prog X.w) X.A (subscriptTail value slice v u) (EP X pins σ Q) X.xe s
def MtR (X:Cx) (id:String) (r:V->List V->Hp->VK->Prop):Prop :=
  ∀ (pins:List (Addr×Obj)) (s:Shared) (σ:St) (H:Hp) (x:V) (xs:List V) (v:Value) (us:List Value) (Q:VK),Inv X pins σ H s->RelV x v->a7 xs us->r x xs H Q ->
    wpAny (model X.prog X.w) X.A (call (.builtin id) (v::us)) (EP X pins σ Q) X.xe s
section
variable {X:Cx} {a b:Expr} {ta tb:TE} {pos:Pos}
theorem IxR.or (h:IxR X r) (h':IxR X r'):IxR X (λ x y H Q=>r x y H Q\/r' x y H Q):=by
 intro value slice pins s σ H x y v u Q I rx ry q hs;rcases q with q | q
 · exact h value slice pins s σ H x y v u Q I rx ry q hs
 · exact h' value slice pins s σ H x y v u Q I rx ry q hs
theorem GN (hr:IxR X r) (ha:PE X a ta) (hb:PE X b tb) (hs:wK b):PE X (.Subscript a b pos) (tOp r ta tb):=by
 intro pins s σ H Q I h;exact Subscript_ (Jh ha hb I h λ v u s2 x y H2 I2 rx ry q=>hr a b pins s2 σ H2 x y v u Q I2 rx ry q (hs _ _))
def KS (K:W.Frag):R2:=λ x y H Q=>∃ p xs i v,x=.ref p/\y=.int i/\SqL K H p xs/\atI xs i=some v/\Q v H
def KQ (K:W.Frag):R2:=λ x y H Q=>∃ p xs i v,x=.ref p/\y=.int i/\SqT K H p xs/\atI xs i=some v/\Q v H
def KR:R2:=λ x y H Q=>∃ z i c,x=.str z/\y=.int i/\z.length<=sizeLine/\atI z.cps.toList i=some c/\Q (.str ⟨#[c]⟩) H
theorem BA:IxR X (KS X.K):=by
 intro value slice pins s σ H x y v u Q I rx ry h hs;obtain ⟨p,xs,i,z,rfl,rfl,hq,he,q⟩:=h;cases rx;obtain ⟨t,rfl⟩:=ry;obtain ⟨its,r,pl,hz⟩:=I.list hq;obtain ⟨j,h1,h2,h3,h4,h5⟩:=pY he;obtain ⟨w,ew,rw'⟩:=r.get h2;have hl:=r.length;have hn:=nD;have fin:EP X pins σ Q w s:=⟨z,H,I,rw',q⟩
 by_cases h0:0<=i
 ·have hj:i.toNat=j:=by
   rw [seqIndex_of h0 h5] at h1;exact Zj h1
  exact item_listR pl.isList h0 (by omega) (by rw [hj]; simpa using ew) fin hs
 ·have hj:(i+(its.toArray.size:Int)).toNat=j:=by
   rw [seqIndex_neg (by omega) h4] at h1;rw [Zs,<- hl];exact Zj h1
  exact subscriptTail_builtinR (x:=w) pl.isList.typeIs slot_list_getitem.lookup
   (wpAny_getItem_list_neg (Q:=λ r s'=>r=w/\EP X pins σ Q r s') pl.isList (by omega) (by rw [Zs] <;> omega) (by omega) (by rw [hj]; simpa using ew) ⟨rfl,fin⟩) hs
theorem Eh:IxR X (KQ X.K):=by
 intro value slice pins s σ H x y v u Q I rx ry h hs;obtain ⟨p,xs,i,z,rfl,rfl,hq,he,q⟩:=h;cases rx;obtain ⟨t,rfl⟩:=ry;obtain ⟨its,r,pl,hz⟩:=I.tuple hq;obtain ⟨j,h1,h2,h3,h4,h5⟩:=pY he;obtain ⟨w,ew,rw'⟩:=r.get h2;have hl:=r.length;have hn:=nD;have fin:EP X pins σ Q w s:=⟨z,H,I,rw',q⟩
 exact subscriptTail_builtinR (x:=w) pl.typeIs slot_tuple_getitem.lookup
  (getItem_tuple (j:=j) (Q:=λ r s'=>r=w/\EP X pins σ Q r s') pl (by omega) (by omega) (by rw [Zs,<- hl]; exact h1) (by simpa using ew) ⟨rfl,fin⟩) hs
theorem Ei:IxR X KR:=by
 intro value slice pins s σ H x y v u Q I rx ry h hs;obtain ⟨z,i,c,rfl,rfl,hz,he,q⟩:=h;obtain ⟨t,rfl⟩:=rx;obtain ⟨t',rfl⟩:=ry;obtain ⟨j,h1,h2,h3,h4,h5⟩:=pY he;have hl:z.cps.toList.length=z.length:=by simp [Str.length]
 rw [hl] at h1 h4 h5;have hn:=nD
 exact tail_any (typeIs_str s z t) slot_str_getitem.lookup (getItem_str (c:=c) (by
  have e1:decide (i < -(2 ^ 63:Int))=false:=Zq (by omega);have e2:decide (i ≥ 2 ^ 63)=false:=Zq (by omega)
  rw [e1,e2,Bool.or_false]) (by rw [h1]; simpa using h2) ⟨.str ⟨#[c]⟩,H,I.tok _,⟨_,rfl⟩,q⟩) hs
theorem mU (lo hi:Option Int) (n:Nat):(sliceBounds lo hi none n).1=((HT.sIx n 0 lo:Nat):Int)/\(sliceBounds lo hi none n).2.1=((HT.sIx n n hi:Nat):Int)/\(sliceBounds lo hi none n).2.2=1:=by
 refine ⟨?_,?_,rfl⟩
 ·cases lo with
  | none=>simp [sliceBounds,HT.sIx]
  | some i =>
   simp only [sliceBounds,HT.sIx,Option.getD_none,show (1:Int) > 0 by decide,if_true]
   by_cases h:i < 0
   · simp only [h,if_true] <;> omega
   · simp only [h,if_false] <;> omega
 ·cases hi with
  | none=>simp [sliceBounds,HT.sIx]
  | some i =>
   simp only [sliceBounds,HT.sIx,Option.getD_none,show (1:Int) > 0 by decide,if_true]
   by_cases h:i < 0
   · simp only [h,if_true] <;> omega
   · simp only [h,if_false] <;> omega
theorem lU (its:List Value) (lo hi:Option Int):slicePick its.toArray lo hi none=((its.drop (HT.sIx its.length 0 lo)).take (HT.sIx its.length its.length hi - HT.sIx its.length 0 lo)).toArray:=by
 obtain ⟨h1,h2,h3⟩:=mU lo hi its.toArray.size;unfold slicePick;rw [h1,h2,h3];simp only [sliceRange_one,pick_run,Zs] <;> rfl
def KN (K:W.Frag):V->Option Int->Option Int->Hp->VK->Prop:=λ x lo hi H Q=>∃ a xs,x=.ref a/\SqL K H a xs/\∀ p,H p=none->Q (.ref p) (upd H p (.lst (Cr xs lo hi)))
theorem z8:SlR X (KN X.K):=by
 intro pins s σ H x v vl vu lo hi sl Q I rx hs pl pu h;obtain ⟨a,xs,rfl,hx,q⟩:=h;cases rx;obtain ⟨its,r,ht,hz⟩:=I.list hx;have hlen:=r.length;refine ⟨"list",_,slot_list_getitem.lookup,ht.isList.typeIs,?_⟩;refine wpAny_getItem_list_slice ht.isList hs pl pu .none (by simp) ?_ (by rw [Zs] <;> omega)
 rw [lU,<- hlen];refine ⟨.ref s.heap.objs.size,_,I.laid (t':=s.toks) (o:=.lst (Cr xs lo hi)) (λ b ob q=>Heap.get?_push_of_some _ q) (Zk _) ?_,rfl,q _ (I.hok.fresh (Zk _))⟩;exact ⟨Z5 (pS xs lo hi) hz,_,0,(r.drop (HT.sIx xs.length 0 lo)).take (HT.sIx xs.length xs.length hi - HT.sIx xs.length 0 lo),Heap.get?_push_size _ rfl⟩
def kN:V->Bool
 | .non=>true
 | .bl _=>true
 | .int _=>true
 | .str _=>true
 | _=>false
def eqV:V->V->Bool
 | .non,.non=>true
 | .bl a,.bl b=>a == b
 | .bl a,.int b=>(if a then 1 else 0) == b
 | .int a,.bl b=>a == (if b then 1 else 0)
 | .int a,.int b=>a == b
 | .str a,.str b=>a == b
 | _,_=>false
theorem EI (ry:RelV y u) (rx:RelV x v) (fy:kN y=true) (fx:kN x=true):SeqAt.EqAt A s u v (eqV y x):=by
 cases y with
 | non =>
  cases ry
  cases x with
  | non=>cases rx; exact SeqAt.EqAt.same _
  | bl b=>cases rx; exact SeqAt.EqAt.none_bool b
  | int b=>obtain ⟨t,rfl⟩:=rx; exact SeqAt.EqAt.none_int b t
  | str b=>obtain ⟨t,rfl⟩:=rx; exact SeqAt.EqAt.none_str b t
  | _=>exact absurd (show false=true from fx) Zf
 | bl a =>
  cases ry
  cases x with
  | non=>cases rx; exact SeqAt.EqAt.bool_none a
  | bl b=>cases rx; exact SeqAt.EqAt.bool_bool a b
  | int b=>obtain ⟨t,rfl⟩:=rx; exact SeqAt.EqAt.bool_int a b t
  | str b=>obtain ⟨t,rfl⟩:=rx; exact SeqAt.EqAt.bool_str a b t
  | _=>exact absurd (show false=true from fx) Zf
 | int a =>
  obtain ⟨t',rfl⟩:=ry
  cases x with
  | non=>cases rx; exact SeqAt.EqAt.int_none a t'
  | bl b=>cases rx; exact SeqAt.EqAt.int_bool a t' b
  | int b=>obtain ⟨t,rfl⟩:=rx; exact SeqAt.EqAt.int_int a t' b t
  | str b=>obtain ⟨t,rfl⟩:=rx; exact SeqAt.EqAt.int_str a t' b t
  | _=>exact absurd (show false=true from fx) Zf
 | str a =>
  obtain ⟨t',rfl⟩:=ry
  cases x with
  | non=>cases rx; exact SeqAt.EqAt.str_none a t'
  | bl b=>cases rx; exact SeqAt.EqAt.str_bool a t' b
  | int b=>obtain ⟨t,rfl⟩:=rx; exact SeqAt.EqAt.str_int a t' b t
  | str b=>obtain ⟨t,rfl⟩:=rx; exact SeqAt.EqAt.str_str a t' b t
  | _=>exact absurd (show false=true from fx) Zf
 | _=>exact absurd (show false=true from fy) Zf
def eqU (x:V) (u:Value):Bool:=match u with
 | .none=>eqV .non x
 | .bool b=>eqV (.bl b) x
 | .int i _=>eqV (.int i) x
 | .str z _=>eqV (.str z) x
 | _=>false
theorem zG (r:RelV y u) (f:kN y=true):eqU x u=eqV y x:=by
 cases y with
 | non=>cases r; rfl
 | bl b=>cases r; rfl
 | int i=>obtain ⟨t,rfl⟩:=r; rfl
 | str z=>obtain ⟨t,rfl⟩:=r; rfl
 | _=>exact absurd (show false=true from f) Zf
theorem kA:∀ {xs:List V} {us:List Value},a7 xs us->xs.all kN=true->us.any (eqU x)=xs.any λ y=>eqV y x
 | _,_,.nil,_=>rfl
 | y::xs,u::us,.cons r t,f=>by
  rw [List.all_cons,Z8] at f;rw [Xh,Xh,zG r f.1,kA t f.2]
theorem gW (rx:RelV x v) (fx:kN x=true):∀ {xs:List V} {us:List Value},a7 xs us->xs.all kN=true->∀ u ∈ us,SeqAt.EqAt A s u v (eqU x u)
 | _,_,.nil,_=>λ u hu=>by cases hu
 | y::xs,u::us,.cons r t,f=>λ u' hu=>by
  rw [List.all_cons,Z8] at f;rcases Zh.mp hu with rfl | hu
  · rw [zG r f.1]; exact EI r rx f.1 fx
  · exact gW rx fx t f.2 u' hu
def inV (x:V) (xs:List V):Bool:=xs.any λ y=>eqV y x
def rIn (K:W.Frag) (neg:Bool):R2:=λ x y H Q=>∃ p xs,y=.ref p/\(SqL K H p xs\/SqT K H p xs)/\kN x=true/\xs.all kN=true/\Q (.bl (if neg then !inV x xs else inV x xs)) H
theorem uB:OpR X (compareOp .In) (rIn X.K false):=by
 intro pins s σ H x y v u Q I rx ry h;obtain ⟨p,xs,rfl,hq,fx,fs,q⟩:=h;cases ry;rcases hq with hq | hq
 ·obtain ⟨its,r,pl,hz⟩:=I.list hq
  refine SeqAt.in_listAt (eqU x) pl.isList (λ w hw=>gW rx fx r fs w (by simpa using hw)) ⟨.bl _,H,I,rfl,?_⟩;rw [show its.toArray.any (eqU x)=its.any (eqU x) by simp,kA r fs];exact q
 ·obtain ⟨its,r,pl,hz⟩:=I.tuple hq
  refine SeqAt.in_tupleAt (eqU x) pl (λ w hw=>gW rx fx r fs w (by simpa using hw)) ⟨.bl _,H,I,rfl,?_⟩;rw [show its.toArray.any (eqU x)=its.any (eqU x) by simp,kA r fs];exact q
theorem m8:OpR X (compareOp .NotIn) (rIn X.K true):=by
 intro pins s σ H x y v u Q I rx ry h;obtain ⟨p,xs,rfl,hq,fx,fs,q⟩:=h;cases ry;rcases hq with hq | hq
 ·obtain ⟨its,r,pl,hz⟩:=I.list hq
  refine SeqAt.notIn_listAt (eqU x) pl.isList (λ w hw=>gW rx fx r fs w (by simpa using hw)) ⟨.bl _,H,I,rfl,?_⟩;rw [show its.toArray.any (eqU x)=its.any (eqU x) by simp,kA r fs];exact q
 ·obtain ⟨its,r,pl,hz⟩:=I.tuple hq
  refine SeqAt.notIn_tupleAt (eqU x) pl (λ w hw=>gW rx fx r fs w (by simpa using hw)) ⟨.bl _,H,I,rfl,?_⟩;rw [show its.toArray.any (eqU x)=its.any (eqU x) by simp,kA r fs];exact q
theorem oj:fJ X (.type "list") (λ xs H Q=>∃ p ys,xs=[.ref p]/\(SqL X.K H p ys\/SqT X.K H p ys)/\∀ l,H l=none->Q (.ref l) (upd H l (.lst ys))):=by
 intro pins s σ H xs us Q I r h;obtain ⟨p,ys,rfl,hq,q⟩:=h;obtain ⟨u,rfl,rx⟩:=vals1 r;cases rx
 have fin:∀ (its:List Value),a7 ys its->ys.length<=sizeLine->∀ (h':Heap) (c':Nat),(∀ b o',s.heap.get? b=some o'->h'.get? b=some o') ->
   h'.get? s.heap.objs.size=some { cls:=.type "list",dict:=none,data:=.seq its.toArray c',slots:=#[] }->EP X pins σ Q (.ref s.heap.objs.size) { s with heap:=h' }:=λ its r' hz h' c' kp e =>
  ⟨.ref s.heap.objs.size,_,I.laid (t':=s.toks) kp (Zk _) (show bT X.prog X.w _ h' _ (.lst ys) from ⟨hz,its,c',r',e⟩),rfl,q _ (I.hok.fresh (Zk _))⟩
 rcases hq with hq | hq
 ·obtain ⟨its,r',pl,hz⟩:=I.list hq
  have hlen:=r'.length;obtain ⟨o,ho,hc,n,hd⟩:=pl.isList;exact call_list_seq p (.inl rfl) ho hc hd (λ h' c' kp e=>fin its r' hz h' c' kp e) (by simp only [Zs] <;> omega)
 ·obtain ⟨its,r',pl,hz⟩:=I.tuple hq
  have hlen:=r'.length;obtain ⟨o,ho,hc,n,hd⟩:=pl;exact call_list_seq p (.inr rfl) ho hc hd (λ h' c' kp e=>fin its r' hz h' c' kp e) (by simp only [Zs] <;> omega)
def tyV (K:W.Frag) (T:String) (x:V) (H:Hp):Prop:=match x with
 | .str _=>T="str"
 | .int _=>T="int"
 | .ref p=>(T="list"/\∃ xs,SqL K H p xs)\/(T="tuple"/\∃ o,K.lookup p=some o/\o.cls=.type "tuple"/\o.dict=none) \/
  (T="dict"/\((∃ kvs,H p=some (.dK kvs))\/∃ kvs,H p=some (.dT kvs)))\/(T="set"/\∃ S n,H p=some (.set S n))
 | _=>False
theorem yN (I:Inv X pins σ H s) (r:RelV x v) (ty:tyV X.K T x H) :
  s.TypeIs v T/\∀ a,v=.ref a->∃ ob,s.heap.get? a=some ob/\ob.dict=none:=by
 cases x with
 | str z =>
  obtain ⟨t,rfl⟩:=r;cases (show T="str" from ty);exact ⟨typeIs_str s z t,λ _ e=>nomatch e⟩
 | int i =>
  obtain ⟨t,rfl⟩:=r;cases (show T="int" from ty);exact ⟨typeIs_int s i t,λ _ e=>nomatch e⟩
 | ref p =>
  cases r;rcases ty with ⟨rfl,xs,hq⟩ | ⟨rfl,o,hk,hc,hd⟩ | ⟨rfl,hk⟩ | ⟨rfl,S,n,hk⟩
  ·obtain ⟨its,_,pl,_⟩:=I.list hq
   refine ⟨pl.isList.typeIs,λ a e=>?_⟩;cases e;obtain ⟨o,n,e,c,hd,_⟩:=pl;exact ⟨o,e,hd⟩
  ·refine ⟨⟨o,I.kIn p o hk,hc⟩,λ a e=>?_⟩
   cases e;exact ⟨o,I.kIn _ o hk,hd⟩
  ·have z:∃ o,s.heap.get? p=some o/\o.ExactDict:=by
    rcases hk with ⟨kvs,hk⟩ | ⟨kvs,hk⟩
    ·obtain ⟨_,_,_,_,o,_,_,e,ex,_⟩:=I.hok p _ hk
     exact ⟨o,e,ex⟩
    ·obtain ⟨_,_,_,_,o,_,_,e,ex,_⟩:=I.hok p _ hk
     exact ⟨o,e,ex⟩
   obtain ⟨o,e,ex⟩:=z;refine ⟨⟨o,e,ex.1⟩,λ a e2=>?_⟩;cases e2;exact ⟨o,e,ex.2.1⟩
  ·obtain ⟨o,_,_,_,e,ex,_⟩:=I.hok p _ hk
   refine ⟨⟨o,e,ex.1⟩,λ a e2=>?_⟩;cases e2;exact ⟨o,e,ex.2.1⟩
 | _=>exact False.elim ty
def Kn (K:W.Frag) (T:String) (r:V->List V->Hp->VK->Prop) (to:TE):TE:=λ σ H Q=>to σ H λ x H1=>tyV K T x H1/\r x [] H1 Q
def tBM (K:W.Frag) (T:String) (r:V->List V->Hp->VK->Prop) (to:TE) (t:TA):TE:=λ σ H Q=>to σ H λ x H1=>tyV K T x H1/\t σ H1 λ xs H2=>r x xs H2 Q
variable {o e:Expr} {es:List Expr} {to:TE} {t:TA} {name:Str} {apos cpos:Pos} {T id:String} {r:V->List V->Hp->VK->Prop}
theorem Dx (pa:PlainAttrs T) (slot:Slot T name id) (hty:typeOf (.builtin id)=pure (.type "method_descriptor")) (hm:MtR X id r) (ho:PE X o to)
  (hbase:attributeBase o name X.env (eval o X.env)=eval o X.env:=by rfl) (hline:(apos.endLine == cpos.line)=true:=by rfl):PE X (.Call (.Attribute o name apos) [] [] cpos) (Kn X.K T r to):=by
 intro pins s σ H Q I h;refine wpAny_Call_method0_late hbase hline (thn (ho pins s σ H _ I h) λ v s1 ⟨x,H1,I1,r1,ty,q1⟩=>?_);obtain ⟨h1,h2⟩:=yN I1 r1 ty;exact ⟨T,id,pa,slot,hty,h1,h2,Calls.callWith_builtin rfl (PySem.evalArgs_none (hm pins s1 σ H1 x [] v [] Q I1 r1 .nil q1))⟩
theorem pb (pa:PlainAttrs T) (slot:Slot T name id) (hty:typeOf (.builtin id)=pure (.type "method_descriptor")) (hm:MtR X id r) (ho:PE X o to) (ha:PA X (e::es) t)
  (hbase:attributeBase o name X.env (eval o X.env)=eval o X.env:=by rfl)
  (hfew:((backTo cpos (starEach (e::es) X.env)).all (λ x=>!x.1)&&(backToKw cpos (keywordEach [] X.env)).all (λ x=>x.1.isSome)
    && decide ((e::es).length+([]:List Keyword).length+(if ([]:List Keyword).isEmpty then 0 else 1) < 30))=true:=by rfl)
  (hline:(apos.endLine == cpos.line)=true:=by rfl) (hs:starEach (e::es) X.env=(false,eval e X.env)::starEach es X.env:=by rfl) (hplain:(backTo cpos (starEach es X.env)).any (·.1)=false:=by rfl) :
  PE X (.Call (.Attribute o name apos) (e::es) [] cpos) (tBM X.K T r to t):=by
 intro pins s σ H Q I h;refine wpAny_Call_method_late hbase hfew hline rfl (thn (ho pins s σ H _ I h) λ v s1 ⟨x,H1,I1,r1,ty,q1⟩=>?_);obtain ⟨h1,h2⟩:=yN I1 r1 ty;refine ⟨T,id,pa,slot,hty,h1,h2,?_⟩;have hA:=ha cpos pins s1 σ H1 _ I1 q1;rw [hs] at hA ⊢;refine Calls.callWith_builtin (by show (false||(backTo cpos (starEach es X.env)).any (·.1))=false; rw [hplain] <;> rfl) (Calls.evalArgs_plain ?_);exact thn hA λ us s2 ⟨vs,H2,I2,r2,q2⟩=>hm pins s2 σ H2 x vs v us Q I2 r1 r2 q2
/- xs.append(e),list.index on a module's tuple .. are MtR facts of 06m -/
end
end L2
namespace L2
open PySem PySem.Spec PyProof.Rows
def MtM (X:Cx) (id:String) (r:V->List V->Hp->VK->Prop):Prop :=
  ∀ (pins:List (Addr×Obj)) (s:Shared) (σ:St) (H:Hp) (x:V) (xs:List V) (v:Value) (us:List Value) (Q:VK),Inv X pins σ H s->RelV x v->a7 xs us->r x xs H Q ->
    wpAny (model X.prog X.w) X.A (call (.builtin id) (v::us)) (EP X pins σ Q) X.xe s
theorem a7.one:∀ {x:V} {us:List Value},a7 [x] us->∃ u,us=[u]/\RelV x u
 | _,_,.cons r .nil=>⟨_,rfl,r⟩
theorem a7.zero:∀ {us:List Value},a7 [] us->us=[]
 | _,.nil=>rfl
theorem a7.dropLast (h:a7 xs us):a7 xs.dropLast us.dropLast:=by
 induction h with
 | nil=>exact .nil
 | cons r t ih =>
  cases t with
  | nil=>exact .nil
  | cons q t'=>exact .cons r ih
theorem a7.reverse (h:a7 xs us):a7 xs.reverse us.reverse:=by
 induction h with
 | nil=>exact .nil
 | cons r t ih=>rw [Xi,Xi]; exact a7.append ih (.cons r .nil)
theorem sv {α:Type} (l:List α):l.eraseIdx (l.length - 1)=l.dropLast:=by
 induction l with
 | nil=>rfl
 | cons a r ih =>
  cases r with
  | nil=>rfl
  | cons b r =>
   have e:(a::b::r).length - 1=((b::r).length - 1)+1:=by
    have h1:(a::b::r).length=r.length+2:=rfl;have h2:(b::r).length=r.length+1:=rfl;omega
   rw [e,List.eraseIdx_cons_succ,ih]
   all_goals rfl
section
variable {X:Cx} {pins:List (Addr×Obj)} {σ:St} {H:Hp} {s:Shared} {l b:Addr} {xs ys zs:List V}
theorem Inv.D6 {its its':List Value} {n:Nat} {f:Array Value->Array Value} {t':Nat} (I:Inv X pins σ H s) (hH:H l=some (.lst xs))
  (e:s.heap.get? l=some { cls:=.type "list",data:=.seq its.toArray n }) (hf:f its.toArray=its'.toArray) (hv:a7 ys its') (hz:ys.length<=sizeLine) :
  Inv X pins σ (upd H l (.lst ys)) { s with heap:=s.heap.update l (Obj.mapSeq f),toks:=t' }:=by
 have q:=PySem.IsL.update e f;rw [hf] at q;refine I.write (x:=l) (e:=l) (by rw [hH]; exact trivial) (.inl rfl) (λ b' u hb hu=>(Heap.get?_update_other s.heap (Obj.mapSeq f) (Ne.symm hb)).trans hu) ⟨_,q⟩ ?_
 exact ⟨hz,its',_,hv,q⟩
theorem Inv.Lk (I:Inv X pins σ H s) (hv:a7 ys its) (hz:ys.length<=sizeLine) :
  Inv X pins σ (upd H s.heap.objs.size (.lst ys)) { s with heap:=s.heap.push { cls:=.type "list",data:=.seq its.toArray },toks:=t' } :=
 I.laid (λ _ _ q=>Heap.get?_push_of_some _ q) (Zk _) ⟨hz,its,0,hv,Heap.get?_push_size _ rfl⟩
theorem Inv.fresh (I:Inv X pins σ H s):H s.heap.objs.size=none:=I.hok.fresh (Zk _)
theorem Inv.zx (I:Inv X pins σ H s) (hH:H l=some (.lst xs)):xs.length<=sizeLine/\∃ (its:List Value) (n:Nat),a7 xs its/\xs.length=its.length/\s.heap.get? l=some { cls:=.type "list",data:=.seq its.toArray n }:=by
 obtain ⟨z,its,n,r,e⟩:=I.hok l _ hH;exact ⟨z,its,n,r,r.length,e⟩
theorem xO (h:n<=sizeLine):Builtin.List.listTooLong n=false:=by
 unfold Builtin.List.listTooLong;exact Zq (by omega)
end
section
variable {X:Cx}
def lX:V->List V->Hp->VK->Prop:=λ x vs H Q=>∃ l xs y,x=.ref l/\vs=[y]/\H l=some (.lst xs)/\xs.length < sizeLine/\Q .non (upd H l (.lst (xs++[y])))
theorem jR:MtM X "list.append" lX:=by
 intro pins s σ H x vs v us Q I rx rv h;obtain ⟨l,xs,y,rfl,rfl,hH,hz,q⟩:=h;cases rx;obtain ⟨u,rfl,ru⟩:=rv.one;obtain ⟨z,its,n,r,hl,e⟩:=I.zx hH;refine call_meets F.slot_list_append ⟨_,e,rfl⟩ F.entry_list_append (F.args_list_append_2 _ _) (PySem.list_append l its.toArray n u (by rw [Zs]; omega)) ⟨e,?_⟩;refine ⟨.non,_,I.D6 (its':=its++[u]) hH e (by simp) (r.append (.cons ru .nil)) ?_,rfl,q⟩;rw [Z3,List.length_singleton];omega
def Ak:V->List V->Hp->VK->Prop:=λ x vs H Q=>∃ l b xs zs,x=.ref l/\vs=[.ref b]/\H l=some (.lst xs)/\H b=some (.lst zs)/\xs.length+zs.length<=sizeLine/\Q .non (upd H l (.lst (xs++zs)))
theorem uR:MtM X "list.extend" Ak:=by
 intro pins s σ H x vs v us Q I rx rv h;obtain ⟨l,b,xs,zs,rfl,rfl,hH,hB,hz,q⟩:=h;cases rx;obtain ⟨u,rfl,ru⟩:=rv.one;cases ru;obtain ⟨z,its,n,r,hl,e⟩:=I.zx hH;obtain ⟨z2,its2,n2,r2,hl2,e2⟩:=I.zx hB;have hsz:its.toArray.size+its2.toArray.size<=sizeLine:=by rw [Zs,Zs]; omega
 have hlong:¬ (!its.toArray.isEmpty&&Builtin.List.listTooLong (its.toArray.size+its2.toArray.size))=true:=by
  rw [xO hsz,Bool.and_false];exact Zf
 refine call_meets F.slot_list_extend ⟨_,e,rfl⟩ F.entry_list_extend (F.args_list_extend_2 _ _)
  (AutoSeq1.list_extend_list_list_0 l its.toArray n b its2.toArray n2 hlong (by rw [Zs]; omega) (by omega)) ⟨e,e2,?_⟩
 refine ⟨.non,_,I.D6 (its':=its++its2) hH e (by simp) (r.append r2) ?_,rfl,q⟩;rw [Z3];omega
def KO:V->List V->Hp->VK->Prop:=λ x vs H Q=>∃ l xs y,x=.ref l/\vs=[]/\H l=some (.lst xs)/\xs[xs.length - 1]?=some y/\Q y (upd H l (.lst xs.dropLast))
theorem DW:MtM X "list.pop" KO:=by
 intro pins s σ H x vs v us Q I rx rv h;obtain ⟨l,xs,y,rfl,rfl,hH,hy,q⟩:=h;cases rx;have hus:=rv.zero;subst hus;obtain ⟨z,its,n,r,hl,e⟩:=I.zx hH;obtain ⟨u,hu,ru⟩:=r.get hy
 have hy':its.toArray[its.toArray.size - 1]?=some u:=by
  show its.toArray[its.length - 1]?=some u;rw [<- Array.getElem?_toList,<- hl];exact hu
 refine call_meets F.slot_list_pop ⟨_,e,rfl⟩ F.entry_list_pop (F.args_list_pop_1 _) (MeetsSeq.list_pop_last l its.toArray n u hy' (by rw [Zs]; omega)) ⟨e,?_⟩;refine ⟨y,_,I.D6 (its':=its.dropLast) hH e ?_ r.dropLast ?_,ru,q⟩
 ·show its.toArray.eraseIdxIfInBounds (its.toArray.size - 1)=its.dropLast.toArray
  rw [Zs,List.eraseIdxIfInBounds_toArray,sv]
 ·rw [List.length_dropLast]
  omega
def KY:R2:=λ x y H Q=>∃ l b xs zs,x=.ref l/\y=.ref b/\H l=some (.lst xs)/\H b=some (.lst zs)/\xs.length+zs.length<=sizeLine/\∀ p,H p=none->Q (.ref p) (upd H p (.lst (xs++zs)))
theorem uC:OpR X (binaryOp .Add) KY:=by
 intro pins s σ H x y v u Q I rx ry h;obtain ⟨l,b,xs,zs,rfl,rfl,hH,hB,hz,q⟩:=h;cases rx;cases ry;obtain ⟨z,its,n,r,hl,e⟩:=I.zx hH;obtain ⟨z2,its2,n2,r2,hl2,e2⟩:=I.zx hB;refine PySem.P.add_list e e2 ?_ (by rw [Zs,Zs]; omega)
 have ea:its.toArray++its2.toArray=(its++its2).toArray:=by simp
 rw [ea];exact ⟨.ref _,_,I.Lk (t':=s.toks) (r.append r2) (by rw [Z3]; omega),rfl,q _ I.fresh⟩
end
end L2
namespace Att
open PySem PySem.W PySem.Calls PyProof.Rows
theorem jZ:∀ (ns:List Int) (vs:List Value),WellAll P h vs (ns.map WData.int)->IntsAre vs ns:=by
 intro ns
 induction ns with
 | nil =>
  intro vs w;rw [Xq] at w;cases w;exact .nil
 | cons n ns ih =>
  intro vs w;rw [Zg] at w
  cases w with
  | cons a b =>
   cases a;exact .cons _ _ (ih _ b)
theorem tM {l:OpenLaw} {n:Nat} (hn:l.most=some n) {P:Params} {h:Heap} {args:List WData} {vals:List Value}
  (hpre:l.row.toRowW.claim.pre args=true) (hwl:WellAll P h vals args) :
  ∃ a vs ns,vals=[Value.ref a]/\args=[WData.list (ns.map WData.int)]/\h.get? a=some { cls:=.type "list",data:=.seq vs.toArray }/\IntsAre vs ns/\ns.length<=n:=by
 have hsh:WShape.hasAll [] args [.list .int]=true:=(pre_splitW hpre).1;have hc:l.pre.holds [] { args:=args }=true:=(pre_splitW hpre).2;obtain ⟨d,r,rfl,h1,h2⟩:=hasAllW_cons hsh;obtain rfl:=hasAllW_nil h2;obtain ⟨xs,rfl,h3⟩:=hasW_list h1;obtain ⟨ns,rfl⟩:=items_int h3
 have hlen:ns.length<=n:=by
  unfold OpenLaw.pre at hc
  have h4:(WTm.not (.lt (.lit (.int (n:Int))) (.len (.arg 0)))).holds [] { args:=[.list (ns.map .int)] }=true:=by
   have h4:=(holds_andW hc).1;rw [hn] at h4;exact h4
  have h5:=condW_of h4 (w_not (w_lt w_lit (w_len_list (w_arg rfl))));rw [Za] at h5;refine Nat.le_of_not_lt λ q=>?_
  have q':(n:Int) < ((ns.length:Nat):Int):=by omega
  first
   | (rw [Zu q'] at h5; exact absurd h5 (by decide))
   | (simp at h5; omega)
 cases hwl with
 | cons w1 w2 =>
  cases w2
  cases w1 with
  | list ho hall=>exact ⟨_,_,ns,rfl,rfl,ho,jZ ns _ hall,hlen⟩
theorem uq (l:OpenLaw) (args:List WData):l.row.toRowW.claim.post args (.bool true) args=true :=
 postW_of (r:=l.row.toRowW) (X:=(true == true))
  (show WShape.has [] (.bool true) .bool=true by first | rfl | decide | simp [WShape.has,WShape.arms,WShape.armsAll])
  (show (WTm.eq .res (.lit (.bool true))).value [] { args:=args,res:=some (.bool true),after:=args }=some (.bool (true == true)) from w_eq_bool (w_res rfl) w_lit) rfl
theorem pW {l:OpenLaw} {n:Nat} {q:Program} {loose:List Str} {XP:(Str->Option Value)->Heap->Prop} {YP:World->Heap->Prop} {d:DefRec}
  (hn:l.most=some n) (hdf:d.params.defaults=[])
  (call:∀ (w:World) (s₀ s₁:Shared) (mg mb:Str->Option Value) (fa:Addr) (o:Obj) (pm cd doc:Value) (a:Addr) (vs:List Value) (ns:List Int),
    Ground q loose [] XP w s₀ mg mb s₁.heap->YP w s₁.heap ->
    s₁.heap.get? fa=some o->o.data=.func (docDef d.name d.params d.body d.scope pm cd doc)->s₁.heap.CodeRec cd d.name->mg d.name=some (.ref fa) ->
    s₁.heap.get? a=some { cls:=.type "list",data:=.seq vs.toArray }->IntsAre vs ns->ns.length<=n->s₁.gens=#[] ->
    codeAny (model l.prog w) callerA (.call (.ref fa) ⟨[.ref a],[]⟩) (λ r s'=>r=.ok (.ret (.bool true))/\OldK s₁.heap s'.heap/\s'.os=s₁.os/\AllBare s'.gens) s₁) :
  WalkO q loose XP YP l.row.toRowW d [] (λ f vs=>PySem.call f vs):=by
 intro w s₀ s₁ mg mb G Y fa o pm cd doc dV kV ho hd hcd hD hmg hg args vals as hpre hlay hrd hwl hlo;obtain rfl:dV=.none:=Dflts.none hD hdf;obtain rfl:kV=.none:=Dflts.noKw hD;obtain ⟨a,vs,ns,rfl,rfl,hobj,hints,hlen⟩:=tM hn hpre hwl;refine enter_call (Xo (call w s₀ s₁ mg mb fa o pm cd doc a vs ns G Y ho (fd_plain hd) hcd hmg hobj hints hlen hg) λ r s' hq=>?_);obtain ⟨rfl,h2,h3,h4⟩:=hq;exact ⟨.inl ⟨.bool true,.bool true,[],rfl,λ _=>rfl,.bool true,uq l _,λ _=>⟨List.Pairwise.nil,λ _ hm=>(nomatch hm)⟩⟩,h2,h3,h4⟩
end Att
namespace L2
open PySem PySem.Spec PyProof.Rows
theorem mQ:∀ {vs:List Value} {ns:List Int},IntsAre vs ns->a7 (ns.map V.int) vs
 | _,_,.nil=>.nil
 | _,_,.cons n t h=>.cons ⟨t,rfl⟩ (mQ h)
end L2
namespace L2
open PySem PySem.Spec PyProof.Rows
abbrev KOf {K:W.Frag} {h:Heap} (_:K.In h):W.Frag:=K
end L2
/- THE LAST THEOREM (shape; LID,My.* are yours):
   My.Adr: a structure of the addresses that your layer names (classes,functions); My.Txt K t: a structure (Prop) of the equations over K;
   My.txt_mk:{K} {implicit addresses ..} (e1:nsIn K mainGlobals "law"=some (some (.ref f))) (e2:K.lookup f=some ⟨oc,od,.func (fnOf "law" "law" params body scope dV kV doc pm an cdv ct),sl⟩) (e3:codeIn K cdv "law"=true) ..:∃ t,My.Txt K t
(the tactic k_is has no namespace: write k_is) -/
namespace L2
open PySem PySem.Spec PyProof.Rows
def inClass (s:Stmt) (j:Nat):Stmt:=match s with
 | .ClassDef _ _ _ body _ _ _ _ _ _ _=>body.getD j (.Pass ⟨0,0,0,0⟩)
 | _=>.Pass ⟨0,0,0,0⟩
def bA (s:Stmt):Arguments:=match s with
 | .FunctionDef _ a _ _ _ _ _ _ _ _=>a
 | _=>{ posonlyargs:=[],args:=[],vararg:=none,kwonlyargs:=[],kw_defaults:=[],kwarg:=none,defaults:=[] }
def aO (s:Stmt):List Stmt:=match s with
 | .FunctionDef _ _ b _ _ _ _ _ _ _=>b
 | _=>[]
def ax (s:Stmt):Scope:=match s with
 | .FunctionDef _ _ _ _ _ _ sc _ _ _=>sc
 | _=>{ kind:=.function,names:=[],isGenerator:=false,isCoroutine:=false }
abbrev CX0:CXT:=λ _ _ _ _ _ _=>False
abbrev E0:XK:=λ _ _ _=>False
theorem iE:fj CX0 X E0:=λ _ _ _ _ _ _ _ h=>h.elim
structure Fun (K:W.Frag) (x qual:Str) (st:Stmt) (f:Addr) (fd:FuncData):Prop where
 ex:∃ (oc:Value) (od:Option Addr) (kV doc pm:Value) (an:Option Addr) (cdv ct:Value) (osl:Array (Option Value)),
  fd=PySem.W.fnOf x qual (bA st) (aO st) (ax st) .none kV doc pm an cdv ct/\K.lookup f=some ⟨oc,od,.func fd,osl⟩/\PySem.W.codeIn K cdv qual=true
 kp:W.keepIn K (.ref f)=true
section
variable {P:Program} {w:World} {K:W.Frag} {mg:Str->Option Value} {base:Heap}
theorem Fun.ok {x qual:Str} {st:Stmt} {f:Addr} {fd:FuncData} {N ps:List Str} {k:Nat} {sp:Sp} (F:Fun K x qual st f fd) (S:dt N ps (ax st)) (len:∀ vs H Q E,sp vs H Q E->vs.length=ps.length)
  (hbody:∀ (cdv:Value) (A:Around) (outer:List Env) (s:Shared) (H:Hp) (vs:List V) (Q:VK) (E:XK),cg k (A.deeper (envOfC qual (ax st) s.heap.objs.size f cdv))->sp vs H Q E ->
    ∃ t,PSs (lr CX0 P w K mg base N qual (ax st) f cdv A outer s H E).nox (aO st) t/\t { nx:=λ _ H'=>Q .non H',rt:=Q } (start N vs) H):gL P w K mg base CX0 (k+1) f fd ps sp:=by
 obtain ⟨oc,od,kV,doc,pm,an,cdv,ct,osl,rfl,lk,hcd⟩:=F.ex;refine vC lk hcd S len λ A outer s H vs Q E hr hsp=>?_
 obtain ⟨t,h,q⟩:=hbody cdv A outer s H vs Q E hr hsp;exact ⟨t,h.nox,q⟩
theorem Fun.binds {x qual:Str} {st:Stmt} {f:Addr} {fd:FuncData} {ps:List Str} (F:Fun K x qual st f fd)
  (h:∀ (kV doc pm:Value) (an:Option Addr) (cdv ct:Value) (us:List Value),us.length=ps.length->bindArgs (PySem.W.fnOf x qual (bA st) (aO st) (ax st) .none kV doc pm an cdv ct) ⟨us,[]⟩=pure (ps.zip us)):Binds K fd ps []:=by
 obtain ⟨oc,od,kV,doc,pm,an,cdv,ct,osl,rfl,lk,hcd⟩:=F.ex;exact .all (h kV doc pm an cdv ct)
theorem gc {x qual:Str} {st:Stmt} {f:Addr} {oc:Value} {od an:Option Addr} {osl:Array (Option Value)} {kV doc pm cdv ct:Value} (l:K.lookup f=some ⟨oc,od,.func (PySem.W.fnOf x qual (bA st) (aO st) (ax st) .none kV doc pm an cdv ct),osl⟩)
 (c:PySem.W.codeIn K cdv qual=true) (k:W.keepIn K (.ref f)=true):Fun K x qual st f (PySem.W.fnOf x qual (bA st) (aO st) (ax st) .none kV doc pm an cdv ct):=⟨⟨oc,od,kV,doc,pm,an,cdv,ct,osl,rfl,l,c⟩,k⟩
end
theorem eY (hr:cg k A):A.units+1 < cLine:=Nat.lt_of_le_of_lt (Nat.add_le_add_left (by decide:1<=64) _) hr.units
section
variable {X:Cx}
theorem pv (i:Nat) (hN:X.N[i]?=some x:=by rfl) (hv:Vis X.env.scope x:=by first | exact Or.inl rfl | exact Or.inr (Or.inl rfl) | exact Or.inr (Or.inr rfl)) (hd:(x == ("__debug__":Str))=false:=by decide)
 (hcd:(x == ("__classdict__":Str))=false:=by decide):PE X (.Name x pos) (oS i):=dH hN hv hd hcd
end
theorem El {A B:Prop} (h:B):if false=true then A else B:=by
 rw [if_neg Zf];exact h
theorem zD {A B:Prop} (h:A):if true=true then A else B:=by
 rw [if_pos rfl];exact h
def ba (H H':Hp):Prop:=∀ b o,H b=some o->H' b=some o
theorem ba.refl (H:Hp):ba H H:=λ _ _ h=>h
theorem ba.trans (a:ba H H1) (b:ba H1 H2):ba H H2:=λ c o h=>b c o (a c o h)
theorem ba.free (e:ba H H') (h:H' l=Option.none):H l=Option.none:=by
 cases q:H l with
 | none=>rfl
 | some o =>
  rw [e l o q] at h;cases h
theorem ba.seq {K:W.Frag} {H H':Hp} {a:Addr} {xs:List V} (e:ba H H') (h:SqL K H a xs):SqL K H' a xs:=by
 rcases h with (h | ⟨o,h⟩) | h
 · exact .inl (.inl (e _ _ h))
 · exact .inl (.inr ⟨o,e _ _ h⟩)
 · exact .inr h
end L2
end
section
namespace HD13
open PySem PySem.W PySem.W.X PyProof.Rows L2
abbrev hp:Program:=PySem.Challenge.pw_stylehouse_k13_gathered
abbrev hl:OpenLaw:=PySem.Challenge.rw_stylehouse_k13_gathered
def top (i:Nat):Stmt:=PySem.Challenge.pw_stylehouse_k13_gathered.main.body.getD i (.Pass ⟨0,0,0,0⟩)
noncomputable abbrev tL (o:Params->Obj) (P:Params):BT:=.node (o P) .nil .nil
noncomputable abbrev tN (o:Params->Obj) (l r:Params->BT) (P:Params):BT:=.node (o P) (l P) (r P)
noncomputable abbrev tZ (_:Params):BT:=.nil
noncomputable abbrev dE (P:Params) (n:Str) (t:Nat) (v:Value):DictEntry:=⟨PyData.keyHash P n,.str n t,v⟩
noncomputable abbrev oF (y:String) (l:List Value) (_:Params):Obj:=⟨.type y,none,.fields ⟨l⟩,⟨[]⟩⟩
noncomputable abbrev oQ (y:String) (l:List Value) (n:Nat) (_:Params):Obj:=⟨.type y,none,.seq ⟨l⟩ n,⟨[]⟩⟩
noncomputable abbrev oD (y:String) (l:List DictEntry) (n:Nat):Obj:=⟨.type y,none,.dict ⟨l⟩ n,⟨[]⟩⟩
noncomputable abbrev oM (y:String) (n q:Str) (s:Stmt) (g:Nat) (c:List (Str×Addr)) (d k dc pm:Value) (an:Option Addr) (cd ct:Value) (b:Nat):Obj:=⟨.type y,none,.func ⟨n,q,bA s,.stmts (aO s),ax s,g,c,d,k,dc,pm,an,cd,ct,b⟩,⟨[]⟩⟩
noncomputable abbrev oC (y:String) (n:Str) (a:Nat) (q:Str) (b:Nat) (f:Str) (c i1 i2 i3 i4 i5 r1:Nat) (o:Bool) (i6 r2:Nat) (v1 v2 v3 v4:Value) (i7 i8:Nat) (g:Str) (d:Nat):Obj:=⟨.type y,none,.fields ⟨[.str n a,.str q b,.str f c,.int (.ofNat i1) 0,.int (.ofNat i2) 0,.int (.ofNat i3) 0,.int (.ofNat i4) 0,.int (.ofNat i5) 0,.ref r1,.bool o,.int (.ofNat i6) 0,.ref r2,v1,v2,v3,v4,.int (.ofNat i7) 0,.int (.ofNat i8) 0,.str g d]⟩,⟨[]⟩⟩
noncomputable abbrev vI (i t:Nat):Value:=.int (.ofNat i) t
noncomputable abbrev vS (s:Str) (t:Nat):Value:=.str s t
noncomputable abbrev vR (a:Nat):Value:=.ref a
noncomputable abbrev y0:String:=PySem.W.SL.s2766695959194262286x5
noncomputable abbrev y1:String:=PySem.W.SL.s5856160107412720595x4
noncomputable abbrev y2:String:=PySem.W.SL.s658472552662922059x5
noncomputable abbrev y3:String:=PySem.W.SL.s14018661285674007319x4
noncomputable abbrev y4:String:=PySem.W.SL.s7097527257260152453x26
noncomputable abbrev y5:String:=PySem.W.SL.s7174869446012820540x8
noncomputable abbrev y6:String:=PySem.W.SL.s6070975301684473832x10
noncomputable abbrev y7:String:=PySem.W.SL.s11030030927630378310x26
noncomputable abbrev y8:String:=PySem.W.SL.s10062305145149207511x16
noncomputable abbrev y9:String:=PySem.W.SL.s17162191345867700912x4
noncomputable abbrev y10:String:=PySem.W.SL.s5946037652744460706x9
noncomputable abbrev y11:String:=PySem.W.SL.s4278001404047624695x13
noncomputable abbrev y12:String:=PySem.W.SL.s2742458400755230247x6
noncomputable abbrev y13:String:=PySem.W.SL.s4209523147560561109x18
noncomputable abbrev y14:String:=PySem.W.SL.s14755015743595814543x17
noncomputable abbrev y15:String:=PySem.W.SL.s10220274742760427390x26
noncomputable abbrev y16:String:=PySem.W.SL.s4290257624100764138x5
noncomputable abbrev y17:String:=PySem.W.SL.s4860613602091757760x24
noncomputable abbrev y18:String:=PySem.W.SL.s11443829558043349243x14
noncomputable abbrev y19:String:=PySem.W.SL.s6511155373996960695x17
noncomputable abbrev y20:String:=PySem.W.SL.s12411053484034534018x21
noncomputable def n0:Str:="<module>"
noncomputable def n1:Str:="/claim/cut.py"
noncomputable def n2:Str:="__main__"
noncomputable def n3:Str:="__name__"
noncomputable def n4:Str:="stylehouse.errors"
noncomputable def n5:Str:="__doc__"
noncomputable def n6:Str:="__package__"
noncomputable def n7:Str:="__loader__"
noncomputable def n8:Str:="__spec__"
noncomputable def n9:Str:="__annotations__"
noncomputable def n10:Str:="__builtins__"
noncomputable def n11:Str:="__file__"
noncomputable def n12:Str:="__cached__"
noncomputable def n13:Str:="_wall"
noncomputable def n14:Str:="beneath"
noncomputable def n15:Str:="holders_of"
noncomputable def n16:Str:="depth_of"
noncomputable def n17:Str:="gathered"
noncomputable def n18:Str:="HouseError"
noncomputable def n19:Str:="NoBox"
noncomputable def n20:Str:="Rooted"
noncomputable def n21:Str:="k"
noncomputable def n22:Str:="tree"
noncomputable def n23:Str:="box"
noncomputable def n24:Str:="found"
noncomputable def n25:Str:="left"
noncomputable def n26:Str:="one"
noncomputable def n27:Str:="stylehouse.walks"
noncomputable def n28:Str:="holder"
noncomputable def n29:Str:="__module__"
noncomputable def n30:Str:="__qualname__"
noncomputable def n31:Str:="__firstlineno__"
noncomputable def n32:Str:="__static_attributes__"
noncomputable def n33:Str:="__weakref__"
noncomputable def n34:Str:="stylehouse.tree"
noncomputable def n35:Str:="NoPlace"
noncomputable def n36:Str:="NoName"
noncomputable def n37:Str:="TooMuch"
noncomputable def n38:Str:="LONGEST_NAME"
noncomputable def n39:Str:="is_name"
noncomputable def n40:Str:="MOST_BOXES"
noncomputable def n41:Str:="MOST_DEEP"
noncomputable def n42:Str:="ROOT"
noncomputable def n43:Str:="stylehouse.names"
noncomputable def n44:Str:="Tree"
noncomputable def n45:Str:="check_name"
noncomputable def n46:Str:="__init__"
noncomputable def n47:Str:="enter"
noncomputable def n48:Str:="check"
noncomputable def n49:Str:="put"
noncomputable def n50:Str:="cut"
noncomputable def n51:Str:="move"
noncomputable def n52:Str:="mark"
noncomputable def n53:Str:="bare"
noncomputable def n54:Str:="write"
noncomputable def n55:Str:="dress"
noncomputable def n56:Str:="stands"
noncomputable def n57:Str:="name_of"
noncomputable def n58:Str:="marks_of"
noncomputable def n59:Str:="words_of"
noncomputable def n60:Str:="rows_of"
noncomputable def n61:Str:="holder_of"
noncomputable def n62:Str:="boxes_of"
noncomputable def n63:Str:="self"
noncomputable def n64:Str:="name"
noncomputable def n65:Str:="Tree.__init__"
noncomputable def n66:Str:="Tree.enter"
noncomputable def n67:Str:="Tree.check"
noncomputable def n68:Str:="place"
noncomputable def n69:Str:="Tree.put"
noncomputable def n70:Str:="Tree.cut"
noncomputable def n71:Str:="Tree.move"
noncomputable def n72:Str:="word"
noncomputable def n73:Str:="Tree.mark"
noncomputable def n74:Str:="Tree.bare"
noncomputable def n75:Str:="words"
noncomputable def n76:Str:="Tree.write"
noncomputable def n77:Str:="rows"
noncomputable def n78:Str:="Tree.dress"
noncomputable def n79:Str:="Tree.stands"
noncomputable def n80:Str:="Tree.name_of"
noncomputable def n81:Str:="Tree.marks_of"
noncomputable def n82:Str:="Tree.words_of"
noncomputable def n83:Str:="Tree.rows_of"
noncomputable def n84:Str:="Tree.holder_of"
noncomputable def n85:Str:="Tree.boxes_of"
noncomputable def n86:Str:="boxes"
noncomputable def n87:Str:="given"
noncomputable def n88:Str:="holders"
noncomputable def n89:Str:="marks"
noncomputable def n90:Str:="names"
noncomputable def n91:Str:="__dict__"
noncomputable def n92:Str:="law_stylehouse_k13_gathered"
noncomputable def n93:Str:="check_place"
noncomputable def n94:Str:="_law_cell"
noncomputable def n95:Str:="_law_mix"
noncomputable def n96:Str:="_law_name"
noncomputable def n97:Str:="_law_whole"
noncomputable def n98:Str:="_law_same_row"
noncomputable def n99:Str:="_law_under"
noncomputable def Bf:Str:="_law_deep"
noncomputable def Be:Str:="_law_put"
noncomputable def Bd:Str:="_law_moved"
noncomputable def Bc:Str:="_law_missing"
noncomputable def Bb:Str:="_law_tried"
noncomputable def Ba:Str:="_law_wanted"
noncomputable def A9:Str:="law"
noncomputable def Li:Str:="row"
noncomputable def Lh:Str:="_law_script"
noncomputable def J0:Str:="_law_k"
noncomputable def Lg:Str:="_law_cell_here"
noncomputable def Le:Str:="_law_way"
noncomputable def Ld:Str:="_law_first"
noncomputable def JZ:Str:="_law_found"
noncomputable def Lc:Str:="_law_due"
noncomputable def Lb:Str:="_law_rows"
noncomputable def FT:Str:="_law_box"
noncomputable def La:Str:="_law_told"
noncomputable def K9:Str:="_law_todo"
noncomputable def K8:Str:="_law_one"
noncomputable def K7:Str:="_law_facts"
noncomputable def K6:Str:="_law_deep_here"
noncomputable def Io:Str:="_law_tree"
noncomputable def JY:Str:="_law_under_here"
noncomputable def JX:Str:="_law_every"
noncomputable def JW:Str:="_law_low"
noncomputable def JV:Str:="_law_size"
noncomputable def JU:Str:="_law_name_here"
noncomputable def JT:Str:="_law_marked"
noncomputable def K5:Str:="_law_tried_here"
noncomputable abbrev oN (n q:Str) (s:Stmt) (_:Params):Obj:=⟨.none,none,.func ⟨n,q,bA s,.stmts (aO s),ax s,0,[],.none,.none,.none,.none,none,.none,.none,0⟩,⟨[]⟩⟩
def tri:List Nat->List Value
 | a::b::r=>.int (.ofNat a) 0::.int (.ofNat 0) 0::.ref b::tri r
 | _=>[]
noncomputable abbrev oR (l:List Nat) (_:Params):Obj:=⟨.none,none,.fields ⟨tri l⟩,⟨[]⟩⟩
noncomputable abbrev oE (n q:Str) (t l a r s:Nat) (_:Params):Obj:=oC y1 n t q (t+1) n1 (t+2) l a 0 0 3 r true 181 (r+1) .none (.ref (r+2)) (.ref (r+3)) (.ref (r+4)) s l n1 (s+1)
noncomputable abbrev oG (n q:Str) (s:Stmt) (m:Str) (t r:Nat) (_:Params):Obj:=oM y5 n q s 3 [] .none .none .none (.str m t) none (.ref r) .none 0
noncomputable def o0:=oQ y0 [] 0
noncomputable def o1 (P:Params):Obj:=⟨.none,none,(.fields ⟨[]⟩),⟨[]⟩⟩
noncomputable def o2 (P:Params):Obj:=oC y1 n0 182 n0 183 n1 184 1 0 0 0 0 11 false 181 12 .none .none .none .none 185 1 n1 186
noncomputable def o3 (P:Params):Obj:=⟨(.type y2),none,.plain,⟨[(some (vR 13)),(some (vR 3)),(some (vR 3)),none,(some (vS n2 164)),none,(some (vR 0))]⟩⟩
noncomputable def o4 (P:Params):Obj:=oD y3 [dE P n3 165 (vS n4 231),dE P n5 166 .none,dE P n6 167 .none,dE P n7 168 (.builtin y4),dE P n8 169 .none,dE P n9 170 (vR 6),dE P n10 171 (vR 4),dE P n11 173 (vS n1 172),dE P n12 174 .none,dE P n13 193 (vR 21),dE P n14 206 (vR 28),dE P n15 216 (vR 35),dE P n16 224 (vR 42),dE P n17 230 (vR 47),dE P n18 250 (vR 57),dE P n19 266 (vR 70),dE P n20 282 (vR 82)] 17
noncomputable def o5:=oR [1,20,5,27,13,34,20,41,22,46,25,53,27,66,29,78]
noncomputable def o6:=oQ y0 [vS n21 190] 0
noncomputable def o7:=oN n13 n13 (top 0)
noncomputable def o8:=oE n13 n13 187 1 1 15 191
noncomputable def o9:=oG n13 n13 (top 0) n2 164 20
noncomputable def o10:=oQ y0 [vS n22 199,vS n23 200,vS n24 201,vS n25 202,vS n26 203] 0
noncomputable def o11:=oN n14 n14 (top 2)
noncomputable def o12:=oE n14 n14 196 5 2 22 204
noncomputable def o13:=oG n14 n14 (top 2) n27 194 27
noncomputable def o14:=oQ y0 [vS n22 210,vS n23 211,vS n24 212,vS n28 213] 0
noncomputable def o15:=oN n15 n15 (top 3)
noncomputable def o16:=oE n15 n15 207 13 2 29 214
noncomputable def o17:=oG n15 n15 (top 3) n27 194 34
noncomputable def o18:=oQ y0 [vS n22 220,vS n23 221] 0
noncomputable def o19:=oN n16 n16 (top 4)
noncomputable def o20:=oE n16 n16 217 20 2 36 222
noncomputable def o21:=oG n16 n16 (top 4) n27 194 41
noncomputable def o22:=oN n17 n17 (top 5)
noncomputable def o23 (P:Params):Obj:=oC y1 n17 225 n17 226 n1 227 22 3 0 0 3 43 true 181 44 .none .none .none (vR 45) 228 22 n1 229
noncomputable def o24:=oG n17 n17 (top 5) n27 194 46
noncomputable def o25:=oQ y0 [(.type y6)] 0
noncomputable def o26:=oF y7 [(.builtin y8),(.type y9)]
noncomputable def o27 (P:Params):Obj:=oD y3 [dE P n29 240 (vS n4 231),dE P n30 242 (vS n18 241),dE P n31 244 (vI 25 243),dE P n32 245 (vR 55)] 4
noncomputable def o28 (P:Params):Obj:=oC y1 n18 235 n18 236 n1 237 25 0 0 0 0 51 false 181 52 .none .none .none .none 238 25 n1 239
noncomputable def o29 (P:Params):Obj:=⟨(.type y2),none,.plain,⟨[(some (vR 53)),(some (vR 3)),(some (vR 50)),none,(some (vS n4 231)),none,(some (vR 0))]⟩⟩
noncomputable def o30 (P:Params):Obj:=oD y3 [dE P n29 240 (vS n4 231),dE P n31 244 (vI 25 243),dE P n32 245 (vR 55),dE P n33 247 (vR 58),dE P n5 248 .none] 3
noncomputable def o31 (P:Params):Obj:=⟨(.type y9),none,(.cls ⟨n18,[(.type y6)],[vR 57,(.type y6),(.type y10),(.type y11),(.type y12)],56,n18,true,[],[vR 70,vR 82],false,none,false⟩),⟨[(some (vR 48)),none,(some (vS n18 233)),(some (vS n18 241)),(some (.builtin y13)),(some (.bool true))]⟩⟩
noncomputable def o32:=oF y14 [vS n33 246,vR 57,(.builtin y15),.none]
noncomputable def o33:=oF y16 [vR 57,vR 57,vR 57]
noncomputable def o34:=oF y7 [(.builtin y17),vR 57]
noncomputable def o35:=oQ y0 [vR 57] 0
noncomputable def o36 (P:Params):Obj:=oD y3 [dE P n29 258 (vS n4 231),dE P n30 260 (vS n19 259),dE P n31 262 (vI 27 261),dE P n32 263 (vR 68)] 4
noncomputable def o37 (P:Params):Obj:=oC y1 n19 253 n19 254 n1 255 27 0 0 0 0 64 false 181 65 .none .none .none .none 256 27 n1 257
noncomputable def o38 (P:Params):Obj:=⟨(.type y2),none,.plain,⟨[(some (vR 66)),(some (vR 3)),(some (vR 63)),none,(some (vS n4 231)),none,(some (vR 0))]⟩⟩
noncomputable def o39 (P:Params):Obj:=oD y3 [dE P n29 258 (vS n4 231),dE P n31 262 (vI 27 261),dE P n32 263 (vR 68),dE P n5 264 .none] 2
noncomputable def o40 (P:Params):Obj:=⟨(.type y9),none,(.cls ⟨n19,[vR 57],[vR 70,vR 57,(.type y6),(.type y10),(.type y11),(.type y12)],69,n19,true,[],[],false,none,false⟩),⟨[(some (vR 61)),none,(some (vS n19 251)),(some (vS n19 259)),(some (.builtin y13)),(some (.bool true))]⟩⟩
noncomputable def o41:=oF y16 [vR 70,vR 70,vR 70]
noncomputable def o42:=oF y7 [(.builtin y17),vR 70]
noncomputable def o43 (P:Params):Obj:=oD y3 [dE P n29 274 (vS n4 231),dE P n30 276 (vS n20 275),dE P n31 278 (vI 29 277),dE P n32 279 (vR 80)] 4
noncomputable def o44 (P:Params):Obj:=oC y1 n20 269 n20 270 n1 271 29 0 0 0 0 76 false 181 77 .none .none .none .none 272 29 n1 273
noncomputable def o45 (P:Params):Obj:=⟨(.type y2),none,.plain,⟨[(some (vR 78)),(some (vR 3)),(some (vR 75)),none,(some (vS n4 231)),none,(some (vR 0))]⟩⟩
noncomputable def o46 (P:Params):Obj:=oD y3 [dE P n29 274 (vS n4 231),dE P n31 278 (vI 29 277),dE P n32 279 (vR 80),dE P n5 280 .none] 2
noncomputable def o47 (P:Params):Obj:=⟨(.type y9),none,(.cls ⟨n20,[vR 57],[vR 82,vR 57,(.type y6),(.type y10),(.type y11),(.type y12)],81,n20,true,[],[],false,none,false⟩),⟨[(some (vR 73)),none,(some (vS n20 267)),(some (vS n20 275)),(some (.builtin y13)),(some (.bool true))]⟩⟩
noncomputable def o48:=oF y16 [vR 82,vR 82,vR 82]
noncomputable def o49:=oF y7 [(.builtin y17),vR 82]
noncomputable def o50 (P:Params):Obj:=oD y3 [dE P n3 165 (vS n34 341),dE P n5 166 .none,dE P n6 167 .none,dE P n7 168 (.builtin y4),dE P n8 169 .none,dE P n9 170 (vR 6),dE P n10 171 (vR 4),dE P n11 173 (vS n1 172),dE P n12 174 .none,dE P n13 193 (vR 21),dE P n14 206 (vR 28),dE P n15 216 (vR 35),dE P n16 224 (vR 42),dE P n17 230 (vR 47),dE P n18 250 (vR 57),dE P n19 266 (vR 70),dE P n20 282 (vR 82),dE P n35 298 (vR 94),dE P n36 314 (vR 106),dE P n37 330 (vR 118),dE P n38 334 (vI 8 333),dE P n39 340 (vR 125),dE P n40 344 (vI 90 343),dE P n41 346 (vI 12 345),dE P n42 348 (vI 0 347)] 25
noncomputable def o51:=oR [1,20,5,27,13,34,20,41,22,46,25,53,27,66,29,78,31,90,33,102,35,114,39,124]
noncomputable def o52 (P:Params):Obj:=⟨(.type y9),none,(.cls ⟨n18,[(.type y6)],[vR 57,(.type y6),(.type y10),(.type y11),(.type y12)],56,n18,true,[],[vR 70,vR 82,vR 94,vR 106,vR 118],false,none,false⟩),⟨[(some (vR 48)),none,(some (vS n18 233)),(some (vS n18 241)),(some (.builtin y13)),(some (.bool true))]⟩⟩
noncomputable def o53 (P:Params):Obj:=oD y3 [dE P n29 290 (vS n4 231),dE P n30 292 (vS n35 291),dE P n31 294 (vI 31 293),dE P n32 295 (vR 92)] 4
noncomputable def o54 (P:Params):Obj:=oC y1 n35 285 n35 286 n1 287 31 0 0 0 0 88 false 181 89 .none .none .none .none 288 31 n1 289
noncomputable def o55 (P:Params):Obj:=⟨(.type y2),none,.plain,⟨[(some (vR 90)),(some (vR 3)),(some (vR 87)),none,(some (vS n4 231)),none,(some (vR 0))]⟩⟩
noncomputable def o56 (P:Params):Obj:=oD y3 [dE P n29 290 (vS n4 231),dE P n31 294 (vI 31 293),dE P n32 295 (vR 92),dE P n5 296 .none] 2
noncomputable def o57 (P:Params):Obj:=⟨(.type y9),none,(.cls ⟨n35,[vR 57],[vR 94,vR 57,(.type y6),(.type y10),(.type y11),(.type y12)],93,n35,true,[],[],false,none,false⟩),⟨[(some (vR 85)),none,(some (vS n35 283)),(some (vS n35 291)),(some (.builtin y13)),(some (.bool true))]⟩⟩
noncomputable def o58:=oF y16 [vR 94,vR 94,vR 94]
noncomputable def o59:=oF y7 [(.builtin y17),vR 94]
noncomputable def o60 (P:Params):Obj:=oD y3 [dE P n29 306 (vS n4 231),dE P n30 308 (vS n36 307),dE P n31 310 (vI 33 309),dE P n32 311 (vR 104)] 4
noncomputable def o61 (P:Params):Obj:=oC y1 n36 301 n36 302 n1 303 33 0 0 0 0 100 false 181 101 .none .none .none .none 304 33 n1 305
noncomputable def o62 (P:Params):Obj:=⟨(.type y2),none,.plain,⟨[(some (vR 102)),(some (vR 3)),(some (vR 99)),none,(some (vS n4 231)),none,(some (vR 0))]⟩⟩
noncomputable def o63 (P:Params):Obj:=oD y3 [dE P n29 306 (vS n4 231),dE P n31 310 (vI 33 309),dE P n32 311 (vR 104),dE P n5 312 .none] 2
noncomputable def o64 (P:Params):Obj:=⟨(.type y9),none,(.cls ⟨n36,[vR 57],[vR 106,vR 57,(.type y6),(.type y10),(.type y11),(.type y12)],105,n36,true,[],[],false,none,false⟩),⟨[(some (vR 97)),none,(some (vS n36 299)),(some (vS n36 307)),(some (.builtin y13)),(some (.bool true))]⟩⟩
noncomputable def o65:=oF y16 [vR 106,vR 106,vR 106]
noncomputable def o66:=oF y7 [(.builtin y17),vR 106]
noncomputable def o67 (P:Params):Obj:=oD y3 [dE P n29 322 (vS n4 231),dE P n30 324 (vS n37 323),dE P n31 326 (vI 35 325),dE P n32 327 (vR 116)] 4
noncomputable def o68 (P:Params):Obj:=oC y1 n37 317 n37 318 n1 319 35 0 0 0 0 112 false 181 113 .none .none .none .none 320 35 n1 321
noncomputable def o69 (P:Params):Obj:=⟨(.type y2),none,.plain,⟨[(some (vR 114)),(some (vR 3)),(some (vR 111)),none,(some (vS n4 231)),none,(some (vR 0))]⟩⟩
noncomputable def o70 (P:Params):Obj:=oD y3 [dE P n29 322 (vS n4 231),dE P n31 326 (vI 35 325),dE P n32 327 (vR 116),dE P n5 328 .none] 2
noncomputable def o71 (P:Params):Obj:=⟨(.type y9),none,(.cls ⟨n37,[vR 57],[vR 118,vR 57,(.type y6),(.type y10),(.type y11),(.type y12)],117,n37,true,[],[],false,none,false⟩),⟨[(some (vR 109)),none,(some (vS n37 315)),(some (vS n37 323)),(some (.builtin y13)),(some (.bool true))]⟩⟩
noncomputable def o72:=oF y16 [vR 118,vR 118,vR 118]
noncomputable def o73:=oF y7 [(.builtin y17),vR 118]
noncomputable def o74:=oN n39 n39 (top 15)
noncomputable def o75 (P:Params):Obj:=oC y1 n39 335 n39 336 n1 337 39 1 0 0 3 121 true 181 122 .none .none .none (vR 123) 338 39 n1 339
noncomputable def o76:=oG n39 n39 (top 15) n43 331 124
noncomputable def o77 (P:Params):Obj:=oD y3 [dE P n3 165 (vS n34 341),dE P n5 166 .none,dE P n6 167 .none,dE P n7 168 (.builtin y4),dE P n8 169 .none,dE P n9 170 (vR 6),dE P n10 171 (vR 4),dE P n11 173 (vS n1 172),dE P n12 174 .none,dE P n13 193 (vR 21),dE P n14 206 (vR 28),dE P n15 216 (vR 35),dE P n16 224 (vR 42),dE P n17 230 (vR 47),dE P n18 250 (vR 57),dE P n19 266 (vR 70),dE P n20 282 (vR 82),dE P n35 298 (vR 94),dE P n36 314 (vR 106),dE P n37 330 (vR 118),dE P n38 334 (vI 8 333),dE P n39 340 (vR 125),dE P n40 344 (vI 90 343),dE P n41 346 (vI 12 345),dE P n42 348 (vI 0 347),dE P n44 518 (vR 252),dE P n45 525 (vR 263)] 27
noncomputable def o78:=oR [1,20,5,27,13,34,20,41,22,46,25,53,27,66,29,78,31,90,33,102,35,114,39,124,49,131,156,262]
noncomputable def o79 (P:Params):Obj:=oD y3 [dE P n29 356 (vS n34 341),dE P n30 358 (vS n44 357),dE P n31 360 (vI 49 359),dE P n46 368 (vR 139),dE P n47 378 (vR 146),dE P n48 386 (vR 153),dE P n49 397 (vR 160),dE P n50 405 (vR 167),dE P n51 411 (vR 172),dE P n52 420 (vR 179),dE P n53 429 (vR 186),dE P n54 438 (vR 193),dE P n55 447 (vR 200),dE P n56 455 (vR 207),dE P n57 463 (vR 214),dE P n58 471 (vR 221),dE P n59 479 (vR 228),dE P n60 487 (vR 235),dE P n61 495 (vR 242),dE P n62 503 (vR 249),dE P n32 511 (vR 250)] 21
noncomputable def o80 (P:Params):Obj:=⟨.none,none,(.fields ⟨[vI 51 0,vI 4 0,vR 138,vI 62 0,vI 4 0,vR 145,vI 73 0,vI 4 0,vR 152,vI 77 0,vI 4 0,vR 159,vI 89 0,vI 4 0,vR 166,vI 92 0,vI 4 0,vR 171,vI 111 0,vI 4 0,vR 178,vI 119 0,vI 4 0,vR 185,vI 122 0,vI 4 0,vR 192,vI 129 0,vI 4 0,vR 199,vI 132 0,vI 4 0,vR 206,vI 135 0,vI 4 0,vR 213,vI 139 0,vI 4 0,vR 220,vI 143 0,vI 4 0,vR 227,vI 146 0,vI 4 0,vR 234,vI 149 0,vI 4 0,vR 241,vI 153 0,vI 4 0,vR 248]⟩),⟨[]⟩⟩
noncomputable def o81 (P:Params):Obj:=oC y1 n44 351 n44 352 n1 353 49 0 0 0 0 129 false 181 130 .none .none .none .none 354 49 n1 355
noncomputable def o82 (P:Params):Obj:=⟨(.type y2),none,.plain,⟨[(some (vR 131)),(some (vR 3)),(some (vR 128)),none,(some (vS n34 341)),none,(some (vR 0))]⟩⟩
noncomputable def o83:=oQ y0 [vS n63 364,vS n64 365] 0
noncomputable def o84:=oN n46 n65 (inClass (top 20) 0)
noncomputable def o85:=oE n46 n65 361 51 2 133 366
noncomputable def o86:=oG n46 n65 (inClass (top 20) 0) n34 341 138
noncomputable def o87:=oQ y0 [vS n63 372,vS n28 373,vS n64 374,vS n23 375] 0
noncomputable def o88:=oN n47 n66 (inClass (top 20) 1)
noncomputable def o89:=oE n47 n66 369 62 3 140 376
noncomputable def o90:=oG n47 n66 (inClass (top 20) 1) n34 341 145
noncomputable def o91:=oQ y0 [vS n63 382,vS n23 383] 0
noncomputable def o92:=oN n48 n67 (inClass (top 20) 2)
noncomputable def o93:=oE n48 n67 379 73 2 147 384
noncomputable def o94:=oG n48 n67 (inClass (top 20) 2) n34 341 152
noncomputable def o95:=oQ y0 [vS n63 390,vS n28 391,vS n68 392,vS n64 393,vS n23 394] 0
noncomputable def o96:=oN n49 n69 (inClass (top 20) 3)
noncomputable def o97:=oE n49 n69 387 77 4 154 395
noncomputable def o98:=oG n49 n69 (inClass (top 20) 3) n34 341 159
noncomputable def o99:=oQ y0 [vS n63 401,vS n23 402] 0
noncomputable def Ik:=oN n50 n70 (inClass (top 20) 4)
noncomputable def FR:=oE n50 n70 398 89 2 161 403
noncomputable def FQ:=oG n50 n70 (inClass (top 20) 4) n34 341 166
noncomputable def Ij:=oN n51 n71 (inClass (top 20) 5)
noncomputable def FP (P:Params):Obj:=oC y1 n51 406 n71 407 n1 408 92 4 0 0 3 168 true 181 169 .none .none .none (vR 170) 409 92 n1 410
noncomputable def FO:=oG n51 n71 (inClass (top 20) 5) n34 341 171
noncomputable def Ii:=oQ y0 [vS n63 415,vS n23 416,vS n72 417] 0
noncomputable def Ih:=oN n52 n73 (inClass (top 20) 6)
noncomputable def FN:=oE n52 n73 412 111 3 173 418
noncomputable def FL:=oG n52 n73 (inClass (top 20) 6) n34 341 178
noncomputable def Ig:=oQ y0 [vS n63 424,vS n23 425,vS n72 426] 0
noncomputable def Ie:=oN n53 n74 (inClass (top 20) 7)
noncomputable def FK:=oE n53 n74 421 119 3 180 427
noncomputable def FJ:=oG n53 n74 (inClass (top 20) 7) n34 341 185
noncomputable def Ib:=oQ y0 [vS n63 433,vS n23 434,vS n75 435] 0
noncomputable def Ia:=oN n54 n76 (inClass (top 20) 8)
noncomputable def FI:=oE n54 n76 430 122 3 187 436
noncomputable def FH:=oG n54 n76 (inClass (top 20) 8) n34 341 192
noncomputable def HZ:=oQ y0 [vS n63 442,vS n23 443,vS n77 444] 0
noncomputable def HY:=oN n55 n78 (inClass (top 20) 9)
noncomputable def FG:=oE n55 n78 439 129 3 194 445
noncomputable def FF:=oG n55 n78 (inClass (top 20) 9) n34 341 199
noncomputable def HX:=oQ y0 [vS n63 451,vS n23 452] 0
noncomputable def HW:=oN n56 n79 (inClass (top 20) 10)
noncomputable def FE:=oE n56 n79 448 132 2 201 453
noncomputable def FA:=oG n56 n79 (inClass (top 20) 10) n34 341 206
noncomputable def HV:=oQ y0 [vS n63 459,vS n23 460] 0
noncomputable def HU:=oN n57 n80 (inClass (top 20) 11)
noncomputable def Fz:=oE n57 n80 456 135 2 208 461
noncomputable def Fy:=oG n57 n80 (inClass (top 20) 11) n34 341 213
noncomputable def HS:=oQ y0 [vS n63 467,vS n23 468] 0
noncomputable def HR:=oN n58 n81 (inClass (top 20) 12)
noncomputable def Fx:=oE n58 n81 464 139 2 215 469
noncomputable def Fw:=oG n58 n81 (inClass (top 20) 12) n34 341 220
noncomputable def HQ:=oQ y0 [vS n63 475,vS n23 476] 0
noncomputable def HP:=oN n59 n82 (inClass (top 20) 13)
noncomputable def Fv:=oE n59 n82 472 143 2 222 477
noncomputable def Fu:=oG n59 n82 (inClass (top 20) 13) n34 341 227
noncomputable def HN:=oQ y0 [vS n63 483,vS n23 484] 0
noncomputable def HM:=oN n60 n83 (inClass (top 20) 14)
noncomputable def Ft:=oE n60 n83 480 146 2 229 485
noncomputable def Fq:=oG n60 n83 (inClass (top 20) 14) n34 341 234
noncomputable def HL:=oQ y0 [vS n63 491,vS n23 492] 0
noncomputable def HK:=oN n61 n84 (inClass (top 20) 15)
noncomputable def Fp:=oE n61 n84 488 149 2 236 493
noncomputable def Fn:=oG n61 n84 (inClass (top 20) 15) n34 341 241
noncomputable def HJ:=oQ y0 [vS n63 499,vS n23 500] 0
noncomputable def HI:=oN n62 n85 (inClass (top 20) 16)
noncomputable def Fm:=oE n62 n85 496 153 2 243 501
noncomputable def Fk:=oG n62 n85 (inClass (top 20) 16) n34 341 248
noncomputable def Fj:=oQ y0 [vS n86 504,vS n87 505,vS n88 506,vS n89 507,vS n90 508,vS n77 509,vS n75 510] 0
noncomputable def Fi (P:Params):Obj:=oD y3 [dE P n29 356 (vS n34 341),dE P n31 360 (vI 49 359),dE P n46 368 (vR 139),dE P n47 378 (vR 146),dE P n48 386 (vR 153),dE P n49 397 (vR 160),dE P n50 405 (vR 167),dE P n51 411 (vR 172),dE P n52 420 (vR 179),dE P n53 429 (vR 186),dE P n54 438 (vR 193),dE P n55 447 (vR 200),dE P n56 455 (vR 207),dE P n57 463 (vR 214),dE P n58 471 (vR 221),dE P n59 479 (vR 228),dE P n60 487 (vR 235),dE P n61 495 (vR 242),dE P n62 503 (vR 249),dE P n32 511 (vR 250),dE P n91 513 (vR 253),dE P n33 515 (vR 254),dE P n5 516 .none] 4
noncomputable def Fh (P:Params):Obj:=⟨(.type y9),none,(.cls ⟨n44,[(.type y12)],[vR 252,(.type y12)],251,n44,true,[],[],false,none,false⟩),⟨[none,none,(some (vS n44 349)),(some (vS n44 357)),(some (.builtin y18)),(some (.bool true))]⟩⟩
noncomputable def Fg:=oF y14 [vS n91 512,vR 252,(.builtin y19),(.builtin y20)]
noncomputable def Ff:=oF y14 [vS n33 514,vR 252,(.builtin y15),.none]
noncomputable def HH:=oF y16 [vR 252,vR 252,vR 252]
noncomputable def HG:=oF y7 [(.builtin y17),vR 252]
noncomputable def HF:=oQ y0 [vS n64 522] 0
noncomputable def HE:=oN n45 n45 (top 21)
noncomputable def Fe:=oE n45 n45 519 156 1 257 523
noncomputable def Fd:=oG n45 n45 (top 21) n34 341 262
noncomputable def HD (P:Params):Obj:=oD y3 [dE P n3 165 (vS n92 534),dE P n5 166 .none,dE P n6 167 .none,dE P n7 168 (.builtin y4),dE P n8 169 .none,dE P n9 170 (vR 6),dE P n10 171 (vR 4),dE P n11 173 (vS n1 172),dE P n12 174 .none,dE P n13 193 (vR 21),dE P n14 206 (vR 28),dE P n15 216 (vR 35),dE P n16 224 (vR 42),dE P n17 230 (vR 47),dE P n18 250 (vR 57),dE P n19 266 (vR 70),dE P n20 282 (vR 82),dE P n35 298 (vR 94),dE P n36 314 (vR 106),dE P n37 330 (vR 118),dE P n38 334 (vI 8 333),dE P n39 340 (vR 125),dE P n40 344 (vI 90 343),dE P n41 346 (vI 12 345),dE P n42 348 (vI 0 347),dE P n44 518 (vR 252),dE P n45 525 (vR 263),dE P n93 533 (vR 270),dE P n94 543 (vR 277),dE P n95 552 (vR 284),dE P n96 558 (vR 289),dE P n97 565 (vR 296),dE P n98 574 (vR 303),dE P n99 585 (vR 310),dE P Bf 594 (vR 317),dE P Be 600 (vR 322),dE P Bd 606 (vR 327),dE P Bc 614 (vR 334),dE P Bb 636 (vR 341),dE P Ba 642 (vR 346),dE P A9 648 (vR 351)] 41
noncomputable def JS:=oR [1,20,5,27,13,34,20,41,22,46,25,53,27,66,29,78,31,90,33,102,35,114,39,124,49,131,156,262,159,269,163,276,167,283,170,288,174,295,176,302,183,309,191,316,197,321,210,326,229,333,235,340,242,345,249,350]
noncomputable def JR:=oQ y0 [vS n68 529,vS Li 530] 0
noncomputable def JQ:=oN n93 n93 (top 22)
noncomputable def HC:=oE n93 n93 526 159 2 264 531
noncomputable def HB:=oG n93 n93 (top 22) n34 341 269
noncomputable def JP:=oQ y0 [vS Lh 539,vS J0 540] 0
noncomputable def JO:=oN n94 n94 (top 24)
noncomputable def HA:=oE n94 n94 536 163 2 271 541
noncomputable def Hz:=oG n94 n94 (top 24) n92 534 276
noncomputable def JN:=oQ y0 [vS Lg 547,vS Le 548,vS Ld 549] 0
noncomputable def JM:=oN n95 n95 (top 25)
noncomputable def Hy:=oE n95 n95 544 167 2 278 550
noncomputable def Hx:=oG n95 n95 (top 25) n92 534 283
noncomputable def JL:=oN n96 n96 (top 26)
noncomputable def Hw (P:Params):Obj:=oC y1 n96 553 n96 554 n1 555 170 2 0 0 3 285 true 181 286 .none .none .none (vR 287) 556 170 n1 557
noncomputable def Hv:=oG n96 n96 (top 26) n92 534 288
noncomputable def JK:=oQ y0 [vS JZ 562] 0
noncomputable def JJ:=oN n97 n97 (top 27)
noncomputable def Hu:=oE n97 n97 559 174 1 290 563
noncomputable def Ht:=oG n97 n97 (top 27) n92 534 295
noncomputable def JI:=oQ y0 [vS JZ 569,vS Lc 570,vS J0 571] 0
noncomputable def JH:=oN n98 n98 (top 28)
noncomputable def Hr:=oE n98 n98 566 176 2 297 572
noncomputable def Hq:=oG n98 n98 (top 28) n92 534 302
noncomputable def JG:=oQ y0 [vS Lb 578,vS FT 579,vS La 580,vS K9 581,vS K8 582] 0
noncomputable def JF:=oN n99 n99 (top 29)
noncomputable def Ho:=oE n99 n99 575 183 2 304 583
noncomputable def Hm:=oG n99 n99 (top 29) n92 534 309
noncomputable def JE:=oQ y0 [vS K7 589,vS FT 590,vS K6 591] 0
noncomputable def JD:=oN Bf Bf (top 30)
noncomputable def Hl:=oE Bf Bf 586 191 2 311 592
noncomputable def Hk:=oG Bf Bf (top 30) n92 534 316
noncomputable def JC:=oN Be Be (top 31)
noncomputable def Hj (P:Params):Obj:=oC y1 Be 595 Be 596 n1 597 197 6 0 0 3 318 true 181 319 .none .none .none (vR 320) 598 197 n1 599
noncomputable def Hi:=oG Be Be (top 31) n92 534 321
noncomputable def JB:=oN Bd Bd (top 32)
noncomputable def Hh (P:Params):Obj:=oC y1 Bd 601 Bd 602 n1 603 210 5 0 0 3 323 true 181 324 .none .none .none (vR 325) 604 210 n1 605
noncomputable def Hg:=oG Bd Bd (top 32) n92 534 326
noncomputable def JA:=oQ y0 [vS Io 610,vS FT 611] 0
noncomputable def Jz:=oN Bc Bc (top 33)
noncomputable def He:=oE Bc Bc 607 229 2 328 612
noncomputable def Hb:=oG Bc Bc (top 33) n92 534 333
noncomputable def Jy:=oQ y0 [vS Io 618,vS FT 619,vS JY 620,vS JX 621,vS JW 622,vS JV 623,vS JU 624,vS JT 625,vS K5 626] 0
noncomputable def Jx:=oQ y0 [vS Io 627,vS JY 628,vS JX 629,vS JW 630,vS JV 631,vS JU 632,vS JT 633] 0
noncomputable def Jw:=oN Bb Bb (top 34)
noncomputable def Ha:=oE Bb Bb 615 235 8 335 634
noncomputable def G9:=oG Bb Bb (top 34) n92 534 340
noncomputable def Jv:=oN Ba Ba (top 35)
noncomputable def G8 (P:Params):Obj:=oC y1 Ba 637 Ba 638 n1 639 242 6 0 0 3 342 true 181 343 .none .none .none (vR 344) 640 242 n1 641
noncomputable def G7:=oG Ba Ba (top 35) n92 534 345
noncomputable def Ju:=oN A9 A9 (top 36)
noncomputable def G6 (P:Params):Obj:=oC y1 A9 643 A9 644 n1 645 249 1 0 0 3 347 true 181 348 .none .none .none (vR 349) 646 249 n1 647
noncomputable def G5:=oG A9 A9 (top 36) n92 534 350
noncomputable def lf0:Life:=⟨[],[],[],0,[],[],false,⟨[]⟩,[],0,false,false,false,(.ofNat 0),[(.ofNat 2000),(.ofNat 10),(.ofNat 10)],false,0,true,[],[],0,false⟩
noncomputable def hcd:Value:=(vR 13)
noncomputable def hq:Pos:=⟨0,0,0,0⟩
noncomputable def hE:Env:={ scope:=hp.main.scope,locals:=mainNs,globals:=mainNs,cells:=[],code:=hcd,frame:=some 14 }
noncomputable def hC:Code:=.body (behindTheImports hp) hE
noncomputable def hB:List Frame:=[topFrame hq]
noncomputable def hAn:Option Value:=(some (vR 6))
noncomputable def hA (P:Params):Heap:=⟨⟨(boot_o_0 P::boot_o_1 P::boot_o_2 P::boot_o_3 P::boot_o_4 P::boot_o_5 P::boot_o_6 P::boot_o_7 P::boot_o_8 P::boot_o_9 P::boot_o_10 P::o0 P::o1 P::o2 P::o3 P::[])⟩,lf0⟩
noncomputable def tr1:=(tN boot_o_0 (tN boot_o_1 (tN boot_o_3 (tL boot_o_7) (tL o0)) (tN boot_o_5 (tL boot_o_9) (tL o2))) (tN boot_o_2 (tN boot_o_4 (tL boot_o_8) (tL o1)) (tN boot_o_6 (tL boot_o_10) (tL o3))))
noncomputable def S1 (w:World) (os:OsState):SharedT:=⟨tr1 w.params,15,lf0,⟨[]⟩,⟨0,0,0,0⟩,187,os⟩
noncomputable def tr2:=(tN boot_o_0 (tN boot_o_1 (tN o4 (tN boot_o_7 (tN o0 (tN o14 (tL o36) tZ) (tN o24 (tL o45) tZ)) (tN o1 (tN o0 (tL o41) tZ) (tL o0))) (tN o0 (tN o7 (tN o17 (tL o38) tZ) (tN o0 (tL o48) tZ)) (tN o12 (tN o0 (tL o43) tZ) (tL o33)))) (tN boot_o_5 (tN boot_o_9 (tN o6 (tN o15 (tL o1) tZ) (tN o26 (tL o46) tZ)) (tN o0 (tN o20 (tL o35) tZ) (tL o31))) (tN o2 (tN o9 (tN o1 (tL o39) tZ) (tL o28)) (tN o0 (tN o22 (tL o1) tZ) (tL o35))))) (tN boot_o_2 (tN boot_o_4 (tN boot_o_8 (tN o1 (tN o0 (tL o0) tZ) (tN o25 (tL o0) tZ)) (tN o10 (tN o19 (tL o42) tZ) (tL o30))) (tN o5 (tN o8 (tN o0 (tL o0) tZ) (tN o1 (tL o49) tZ)) (tN o13 (tN o1 (tL o0) tZ) (tL o34)))) (tN boot_o_6 (tN boot_o_10 (tN o0 (tN o16 (tL o37) tZ) (tN o27 (tL o47) tZ)) (tN o11 (tN o21 (tL o26) tZ) (tL o32))) (tN o3 (tN o0 (tN o18 (tL o40) tZ) (tL o29)) (tN o1 (tN o23 (tL o44) tZ) (tL o26))))))
noncomputable def S2 (w:World) (os:OsState):SharedT:=⟨tr2 w.params,85,lf0,⟨[]⟩,⟨0,0,0,0⟩,283,os⟩
noncomputable def tr3:=(tN boot_o_0 (tN boot_o_1 (tN o50 (tN boot_o_7 (tN o0 (tN o14 (tL o36) (tL o58)) (tN o24 (tL o45) (tL o67))) (tN o1 (tN o0 (tL o41) (tL o62)) (tN o0 (tL o53) (tL o72)))) (tN o0 (tN o7 (tN o17 (tL o38) (tL o60)) (tN o0 (tL o48) (tL o69))) (tN o12 (tN o0 (tL o43) (tL o65)) (tN o33 (tL o55) (tL o74))))) (tN boot_o_5 (tN boot_o_9 (tN o6 (tN o15 (tL o1) (tL o35)) (tN o26 (tL o46) (tL o1))) (tN o0 (tN o20 (tL o35) (tL o63)) (tN o52 (tL o1) (tL o0)))) (tN o2 (tN o9 (tN o1 (tL o39) (tL o1)) (tN o28 (tL o35) (tL o70))) (tN o0 (tN o22 (tL o1) (tL o35)) (tN o35 (tL o56) (tL o76)))))) (tN boot_o_2 (tN boot_o_4 (tN boot_o_8 (tN o1 (tN o0 (tL o0) (tL o59)) (tN o25 (tL o0) (tL o0))) (tN o10 (tN o19 (tL o42) (tL o0)) (tN o30 (tL o0) (tL o73)))) (tN o51 (tN o8 (tN o0 (tL o0) (tL o0)) (tN o1 (tL o49) (tL o0))) (tN o13 (tN o1 (tL o0) (tL o66)) (tN o34 (tL o0) (tL o75))))) (tN boot_o_6 (tN boot_o_10 (tN o0 (tN o16 (tL o37) (tL o26)) (tN o27 (tL o47) (tL o68))) (tN o11 (tN o21 (tL o26) (tL o64)) (tN o32 (tL o54) (tL o1)))) (tN o3 (tN o0 (tN o18 (tL o40) (tL o61)) (tN o29 (tL o26) (tL o71))) (tN o1 (tN o23 (tL o44) (tL o26)) (tN o26 (tL o57) tZ))))))
noncomputable def S3 (w:World) (os:OsState):SharedT:=⟨tr3 w.params,126,lf0,⟨[]⟩,⟨0,0,0,0⟩,349,os⟩
noncomputable def tr4:=(tN boot_o_0 (tN boot_o_1 (tN o77 (tN boot_o_7 (tN o0 (tN o14 (tN o36 (tN o26 (tL HH) tZ) (tL Ia)) (tN o58 (tL o97) (tL o1))) (tN o24 (tN o45 (tL o0) (tL FA)) (tN o67 (tL Ii) (tL o0)))) (tN o1 (tN o0 (tN o41 (tN o83 (tL Fd) tZ) (tL FG)) (tN o62 (tL FQ) (tL HN))) (tN o0 (tN o53 (tL o92) (tL o0)) (tN o72 (tL o0) (tL HI))))) (tN o0 (tN o7 (tN o17 (tN o38 (tN o81 (tL HF) tZ) (tL o1)) (tN o60 (tL o99) (tL Fv))) (tN o0 (tN o48 (tL o0) (tL o0)) (tN o69 (tL FL) (tL o0)))) (tN o12 (tN o0 (tN o43 (tL o86) (tL HX)) (tN o65 (tL FP) (tL Fq))) (tN o33 (tN o55 (tL o1) (tL HR)) (tN o74 (tL o0) (tL Fi)))))) (tN boot_o_5 (tN boot_o_9 (tN o6 (tN o15 (tN o1 (tN o0 (tL o0) tZ) (tL FH)) (tN o35 (tL o0) (tL o0))) (tN o26 (tN o46 (tL o89) (tL o1)) (tN o1 (tL Ih) (tL Fp)))) (tN o0 (tN o20 (tN o35 (tL o84) (tL o0)) (tN o63 (tL o1) (tL HM))) (tN o52 (tN o1 (tL o94) (tL HS)) (tN o0 (tL FK) (tL Fk))))) (tN o2 (tN o9 (tN o1 (tN o39 (tN o0 (tL HE) tZ) (tL o0)) (tN o1 (tL Ik) (tL o0))) (tN o28 (tN o35 (tL o91) (tL Fz)) (tN o70 (tL o1) (tL HJ)))) (tN o0 (tN o22 (tN o1 (tL o1) (tL HW)) (tN o35 (tL o0) (tL o1))) (tN o35 (tN o56 (tL o0) (tL Fw)) (tN o76 (tL Ib) (tL Fg))))))) (tN boot_o_2 (tN boot_o_4 (tN boot_o_8 (tN o1 (tN o0 (tN o0 (tN o79 (tL HG) tZ) (tL FI)) (tN o59 (tL o98) (tL HQ))) (tN o25 (tN o0 (tL o88) (tL o0)) (tN o0 (tL o0) (tL HK)))) (tN o10 (tN o19 (tN o42 (tL o0) (tL FF)) (tN o0 (tL o0) (tL o0))) (tN o30 (tN o0 (tL o93) (tL o1)) (tN o73 (tL Ie) (tL Fm))))) (tN o78 (tN o8 (tN o0 (tN o0 (tN o82 (tL o0) tZ) (tL HZ)) (tN o0 (tL o0) (tL Fu))) (tN o1 (tN o49 (tL o1) (tL HU)) (tN o0 (tL o0) (tL o1)))) (tN o13 (tN o1 (tN o0 (tL o0) (tL o0)) (tN o66 (tL FO) (tL o0))) (tN o34 (tN o0 (tL o95) (tL Fx)) (tN o75 (tL o1) (tL Fh)))))) (tN boot_o_6 (tN boot_o_10 (tN o0 (tN o16 (tN o37 (tN o80 (tL o1) tZ) (tL o0)) (tN o26 (tL o1) (tL HP))) (tN o27 (tN o47 (tL o90) (tL HV)) (tN o68 (tL FN) (tL Fn)))) (tN o11 (tN o21 (tN o26 (tL o85) (tL o1)) (tN o64 (tL Ij) (tL Ft))) (tN o32 (tN o54 (tL o0) (tL o0)) (tN o1 (tL FJ) (tL Fj))))) (tN o3 (tN o0 (tN o18 (tN o40 (tN o1 (tL Fe) tZ) (tL HY)) (tN o61 (tL FR) (tL o1))) (tN o29 (tN o26 (tL o0) (tL Fy)) (tN o71 (tL Ig) (tL o0)))) (tN o1 (tN o23 (tN o44 (tL o87) (tL FE)) (tN o26 (tL o1) (tL HL))) (tN o26 (tN o57 (tL o96) (tL o0)) (tN o0 (tL o0) (tL Ff))))))))
noncomputable def S4 (w:World) (os:OsState):SharedT:=⟨tr4 w.params,264,lf0,⟨[]⟩,⟨0,0,0,0⟩,526,os⟩
noncomputable def tr5:=(tN boot_o_0 (tN boot_o_1 (tN HD (tN boot_o_7 (tN o0 (tN o14 (tN o36 (tN o26 (tL HH) tZ) (tN Ia (tL o1) tZ)) (tN o58 (tN o97 (tL JL) tZ) (tN o1 (tL G5) tZ))) (tN o24 (tN o45 (tN o0 (tL o0) tZ) (tN FA (tL o0) tZ)) (tN o67 (tN Ii (tL Hq) tZ) (tL o0)))) (tN o1 (tN o0 (tN o41 (tN o83 (tL Fd) tZ) (tN FG (tL Hg) tZ)) (tN o62 (tN FQ (tL Hu) tZ) (tL HN))) (tN o0 (tN o53 (tN o92 (tL o1) tZ) (tN o0 (tL o1) tZ)) (tN o72 (tN o0 (tL o0) tZ) (tL HI))))) (tN o0 (tN o7 (tN o17 (tN o38 (tN o81 (tL HF) tZ) (tN o1 (tL o0) tZ)) (tN o60 (tN o99 (tL o1) tZ) (tL Fv))) (tN o0 (tN o48 (tN o0 (tL JO) tZ) (tN o0 (tL Jw) tZ)) (tN o69 (tN FL (tL o0) tZ) (tL o0)))) (tN o12 (tN o0 (tN o43 (tN o86 (tL o0) tZ) (tN HX (tL o0) tZ)) (tN o65 (tN FP (tL JI) tZ) (tL Fq))) (tN o33 (tN o55 (tN o1 (tL Hy) tZ) (tN HR (tL o0) tZ)) (tN o74 (tN o0 (tL JD) tZ) (tL Fi)))))) (tN boot_o_5 (tN boot_o_9 (tN o6 (tN o15 (tN o1 (tN o0 (tL o0) tZ) (tN FH (tL Hj) tZ)) (tN o35 (tN o0 (tL Hv) tZ) (tL o0))) (tN o26 (tN o46 (tN o89 (tL JP) tZ) (tN o1 (tL Jy) tZ)) (tN o1 (tN Ih (tL o1) tZ) (tL Fp)))) (tN o0 (tN o20 (tN o35 (tN o84 (tL o1) tZ) (tN o0 (tL o1) tZ)) (tN o63 (tN o1 (tL o0) tZ) (tL HM))) (tN o52 (tN o1 (tN o94 (tL o0) tZ) (tN HS (tL G8) tZ)) (tN o0 (tN FK (tL JE) tZ) (tL Fk))))) (tN o2 (tN o9 (tN o1 (tN o39 (tN o0 (tL HE) tZ) (tN o0 (tL JB) tZ)) (tN o1 (tN Ik (tL o0) tZ) (tL o0))) (tN o28 (tN o35 (tN o91 (tL Hz) tZ) (tN Fz (tL G9) tZ)) (tN o70 (tN o1 (tL Ho) tZ) (tL HJ)))) (tN o0 (tN o22 (tN o1 (tN o1 (tL HC) tZ) (tN HW (tL He) tZ)) (tN o35 (tN o0 (tL JH) tZ) (tL o1))) (tN o35 (tN o56 (tN o0 (tL o0) tZ) (tN Fw (tL Ju) tZ)) (tN o76 (tN Ib (tL Hk) tZ) (tL Fg))))))) (tN boot_o_2 (tN boot_o_4 (tN boot_o_8 (tN o1 (tN o0 (tN o0 (tN o79 (tL HG) tZ) (tN FI (tL JC) tZ)) (tN o59 (tN o98 (tL Hw) tZ) (tL HQ))) (tN o25 (tN o0 (tN o88 (tL o1) tZ) (tN o0 (tL o1) tZ)) (tN o0 (tN o0 (tL o0) tZ) (tL HK)))) (tN o10 (tN o19 (tN o42 (tN o0 (tL o0) tZ) (tN FF (tL o0) tZ)) (tN o0 (tN o0 (tL Ht) tZ) (tL o0))) (tN o30 (tN o0 (tN o93 (tL JN) tZ) (tN o1 (tL Jv) tZ)) (tN o73 (tN Ie (tL o1) tZ) (tL Fm))))) (tN JS (tN o8 (tN o0 (tN o0 (tN o82 (tL o0) tZ) (tN HZ (tL o1) tZ)) (tN o0 (tN o0 (tL JK) tZ) (tL Fu))) (tN o1 (tN o49 (tN o1 (tL HA) tZ) (tN HU (tL Ha) tZ)) (tN o0 (tN o0 (tL JF) tZ) (tL o1)))) (tN o13 (tN o1 (tN o0 (tN o0 (tL JQ) tZ) (tN o0 (tL Jz) tZ)) (tN o66 (tN FO (tL o0) tZ) (tL o0))) (tN o34 (tN o0 (tN o95 (tL Hx) tZ) (tN Fx (tL o1) tZ)) (tN o75 (tN o1 (tL Hl) tZ) (tL Fh)))))) (tN boot_o_6 (tN boot_o_10 (tN o0 (tN o16 (tN o37 (tN o80 (tL o1) tZ) (tN o0 (tL Hi) tZ)) (tN o26 (tN o1 (tL o0) tZ) (tL HP))) (tN o27 (tN o47 (tN o90 (tL o0) tZ) (tN HV (tL Jx) tZ)) (tN o68 (tN FN (tL JG) tZ) (tL Fn)))) (tN o11 (tN o21 (tN o26 (tN o85 (tL JR) tZ) (tN o1 (tL JA) tZ)) (tN o64 (tN Ij (tL o1) tZ) (tL Ft))) (tN o32 (tN o54 (tN o0 (tL JM) tZ) (tN o0 (tL G7) tZ)) (tN o1 (tN FJ (tL o0) tZ) (tL Fj))))) (tN o3 (tN o0 (tN o18 (tN o40 (tN o1 (tL Fe) tZ) (tN HY (tL Hh) tZ)) (tN o61 (tN FR (tL JJ) tZ) (tL o1))) (tN o29 (tN o26 (tN o0 (tL o0) tZ) (tN Fy (tL o0) tZ)) (tN o71 (tN Ig (tL Hm) tZ) (tL o0)))) (tN o1 (tN o23 (tN o44 (tN o87 (tL HB) tZ) (tN FE (tL Hb) tZ)) (tN o26 (tN o1 (tL Hr) tZ) (tL HL))) (tN o26 (tN o57 (tN o96 (tL o1) tZ) (tN o0 (tL G6) tZ)) (tN o0 (tN o0 (tL o0) tZ) (tL Ff))))))))
noncomputable def S5 (w:World) (os:OsState):SharedT:=⟨tr5 w.params,352,lf0,⟨[]⟩,⟨0,0,0,0⟩,649,os⟩
noncomputable def hF (P:Params):Heap:=⟨⟨(boot_o_0 P::boot_o_1 P::boot_o_2 P::HD P::boot_o_4 P::boot_o_5 P::boot_o_6 P::boot_o_7 P::boot_o_8 P::boot_o_9 P::boot_o_10 P::o0 P::JS P::o2 P::o3 P::o0 P::o1 P::o6 P::o0 P::o7 P::o8 P::o9 P::o0 P::o1 P::o10 P::o0 P::o11 P::o12 P::o13 P::o0 P::o1 P::o14 P::o0 P::o15 P::o16 P::o17 P::o0 P::o1 P::o18 P::o0 P::o19 P::o20 P::o21 P::o0 P::o1 P::o22 P::o23 P::o24 P::o25 P::o26 P::o27 P::o0 P::o1 P::o28 P::o29 P::o0 P::o30 P::o52 P::o32 P::o33 P::o34 P::o35 P::o26 P::o36 P::o0 P::o1 P::o37 P::o38 P::o0 P::o39 P::o40 P::o41 P::o42 P::o35 P::o26 P::o43 P::o0 P::o1 P::o44 P::o45 P::o0 P::o46 P::o47 P::o48 P::o49 P::o35 P::o26 P::o53 P::o0 P::o1 P::o54 P::o55 P::o0 P::o56 P::o57 P::o58 P::o59 P::o35 P::o26 P::o60 P::o0 P::o1 P::o61 P::o62 P::o0 P::o63 P::o64 P::o65 P::o66 P::o35 P::o26 P::o67 P::o0 P::o1 P::o68 P::o69 P::o0 P::o70 P::o71 P::o72 P::o73 P::o0 P::o1 P::o74 P::o75 P::o76 P::o0 P::o26 P::o79 P::o0 P::o80 P::o81 P::o82 P::o0 P::o1 P::o83 P::o0 P::o84 P::o85 P::o86 P::o0 P::o1 P::o87 P::o0 P::o88 P::o89 P::o90 P::o0 P::o1 P::o91 P::o0 P::o92 P::o93 P::o94 P::o0 P::o1 P::o95 P::o0 P::o96 P::o97 P::o98 P::o0 P::o1 P::o99 P::o0 P::Ik P::FR P::FQ P::o0 P::o1 P::Ij P::FP P::FO P::o0 P::o1 P::Ii P::o0 P::Ih P::FN P::FL P::o0 P::o1 P::Ig P::o0 P::Ie P::FK P::FJ P::o0 P::o1 P::Ib P::o0 P::Ia P::FI P::FH P::o0 P::o1 P::HZ P::o0 P::HY P::FG P::FF P::o0 P::o1 P::HX P::o0 P::HW P::FE P::FA P::o0 P::o1 P::HV P::o0 P::HU P::Fz P::Fy P::o0 P::o1 P::HS P::o0 P::HR P::Fx P::Fw P::o0 P::o1 P::HQ P::o0 P::HP P::Fv P::Fu P::o0 P::o1 P::HN P::o0 P::HM P::Ft P::Fq P::o0 P::o1 P::HL P::o0 P::HK P::Fp P::Fn P::o0 P::o1 P::HJ P::o0 P::HI P::Fm P::Fk P::Fj P::Fi P::Fh P::Fg P::Ff P::HH P::HG P::o0 P::o1 P::HF P::o0 P::HE P::Fe P::Fd P::o0 P::o1 P::JR P::o0 P::JQ P::HC P::HB P::o0 P::o1 P::JP P::o0 P::JO P::HA P::Hz P::o0 P::o1 P::JN P::o0 P::JM P::Hy P::Hx P::o0 P::o1 P::JL P::Hw P::Hv P::o0 P::o1 P::JK P::o0 P::JJ P::Hu P::Ht P::o0 P::o1 P::JI P::o0 P::JH P::Hr P::Hq P::o0 P::o1 P::JG P::o0 P::JF P::Ho P::Hm P::o0 P::o1 P::JE P::o0 P::JD P::Hl P::Hk P::o0 P::o1 P::JC P::Hj P::Hi P::o0 P::o1 P::JB P::Hh P::Hg P::o0 P::o1 P::JA P::o0 P::Jz P::He P::Hb P::o0 P::o1 P::Jy P::Jx P::Jw P::Ha P::G9 P::o0 P::o1 P::Jv P::G8 P::G7 P::o0 P::o1 P::Ju P::G6 P::G5 P::[])⟩,lf0⟩
noncomputable def SA (w:World) (os:OsState):Shared:=⟨hA w.params,⟨[]⟩,⟨0,0,0,0⟩,187,os⟩
noncomputable def SF (w:World) (os:OsState):Shared:=⟨hF w.params,⟨[]⟩,⟨0,0,0,0⟩,649,os⟩
noncomputable def S0 (w:World) (os:OsState):Shared:=⟨boot_heap w.params,⟨[]⟩,boot_drawn,boot_toks,os⟩
noncomputable def Kt:List Stmt:=[top 0,top 1,top 2,top 3,top 4,top 5,top 6,top 7,top 8,top 9]
noncomputable def Ks:List Stmt:=[top 10,top 11,top 12,top 13,top 14,top 15,top 16,top 17,top 18,top 19]
noncomputable def Kr:List Stmt:=[top 20,top 21]
noncomputable def Kq:List Stmt:=[top 22,top 23,top 24,top 25,top 26,top 27,top 28,top 29,top 30,top 31,top 32,top 33,top 34,top 35,top 36]
noncomputable def hV:Program:={ hp with main:={ hp.main with body:=[top 0,top 2,top 3,top 4,top 5,top 7,top 8,top 9,top 10,top 11,top 12,top 14,top 15,top 17,top 18,top 19,top 20,top 21,top 22,top 24,top 25,top 26,top 27,top 28,top 29,top 30,top 31,top 32,top 33,top 34,top 35,top 36] } }
noncomputable def hAs:List Addr:=329::336::348::0::1::2::3::4::5::6::7::8::9::10::13::14::20::21::27::28::34::35::41::42::46::47::55::56::57::58::68::69::70::80::81::82::92::93::94::104::105::106::116::117::118::124::125::138::139::145::146::152::153::159::160::166::167::171::172::178::179::185::186::192::193::199::200::206::207::213::214::220::221::227::228::234::235::241::242::248::249::250::251::252::253::254::262::263::269::270::276::277::283::284::288::289::295::296::302::303::309::310::316::317::321::322::326::327::333::334::340::341::345::346::350::351::[]
noncomputable def hKc:Params->W.Frag:=λ P=>((nat_lit 0,boot_o_0 P)::(nat_lit 1,boot_o_1 P)::(nat_lit 2,boot_o_2 P)::(nat_lit 3,HD P)::(nat_lit 4,boot_o_4 P)::(nat_lit 5,boot_o_5 P)::(nat_lit 6,boot_o_6 P)::(nat_lit 7,boot_o_7 P)::(nat_lit 8,boot_o_8 P)::(nat_lit 9,boot_o_9 P)::(nat_lit 10,boot_o_10 P)::(nat_lit 13,o2 P)::(nat_lit 14,o3 P)::(nat_lit 20,o8 P)::(nat_lit 21,o9 P)::(nat_lit 27,o12 P)::(nat_lit 28,o13 P)::(nat_lit 34,o16 P)::(nat_lit 35,o17 P)::(nat_lit 41,o20 P)::(nat_lit 42,o21 P)::(nat_lit 46,o23 P)::(nat_lit 47,o24 P)::(nat_lit 55,o0 P)::(nat_lit 56,o30 P)::(nat_lit 57,o52 P)::(nat_lit 58,o32 P)::(nat_lit 68,o0 P)::(nat_lit 69,o39 P)::(nat_lit 70,o40 P)::(nat_lit 80,o0 P)::(nat_lit 81,o46 P)::(nat_lit 82,o47 P)::(nat_lit 92,o0 P)::(nat_lit 93,o56 P)::(nat_lit 94,o57 P)::(nat_lit 104,o0 P)::(nat_lit 105,o63 P)::(nat_lit 106,o64 P)::(nat_lit 116,o0 P)::(nat_lit 117,o70 P)::(nat_lit 118,o71 P)::(nat_lit 124,o75 P)::(nat_lit 125,o76 P)::(nat_lit 138,o85 P)::(nat_lit 139,o86 P)::(nat_lit 145,o89 P)::(nat_lit 146,o90 P)::(nat_lit 152,o93 P)::(nat_lit 153,o94 P)::(nat_lit 159,o97 P)::(nat_lit 160,o98 P)::(nat_lit 166,FR P)::(nat_lit 167,FQ P)::(nat_lit 171,FP P)::(nat_lit 172,FO P)::(nat_lit 178,FN P)::(nat_lit 179,FL P)::(nat_lit 185,FK P)::(nat_lit 186,FJ P)::(nat_lit 192,FI P)::(nat_lit 193,FH P)::(nat_lit 199,FG P)::(nat_lit 200,FF P)::(nat_lit 206,FE P)::(nat_lit 207,FA P)::(nat_lit 213,Fz P)::(nat_lit 214,Fy P)::(nat_lit 220,Fx P)::(nat_lit 221,Fw P)::(nat_lit 227,Fv P)::(nat_lit 228,Fu P)::(nat_lit 234,Ft P)::(nat_lit 235,Fq P)::(nat_lit 241,Fp P)::(nat_lit 242,Fn P)::(nat_lit 248,Fm P)::(nat_lit 249,Fk P)::(nat_lit 250,Fj P)::(nat_lit 251,Fi P)::(nat_lit 252,Fh P)::(nat_lit 253,Fg P)::(nat_lit 254,Ff P)::(nat_lit 262,Fe P)::(nat_lit 263,Fd P)::(nat_lit 269,HC P)::(nat_lit 270,HB P)::(nat_lit 276,HA P)::(nat_lit 277,Hz P)::(nat_lit 283,Hy P)::(nat_lit 284,Hx P)::(nat_lit 288,Hw P)::(nat_lit 289,Hv P)::(nat_lit 295,Hu P)::(nat_lit 296,Ht P)::(nat_lit 302,Hr P)::(nat_lit 303,Hq P)::(nat_lit 309,Ho P)::(nat_lit 310,Hm P)::(nat_lit 316,Hl P)::(nat_lit 317,Hk P)::(nat_lit 321,Hj P)::(nat_lit 322,Hi P)::(nat_lit 326,Hh P)::(nat_lit 327,Hg P)::(nat_lit 333,He P)::(nat_lit 334,Hb P)::(nat_lit 340,Ha P)::(nat_lit 341,G9 P)::(nat_lit 345,G8 P)::(nat_lit 346,G7 P)::(nat_lit 350,G6 P)::(nat_lit 351,G5 P)::[])
noncomputable def hK:Params->W.Frag:=λ P=>(nat_lit 329,o1 P)::(nat_lit 336,o1 P)::(nat_lit 348,o1 P)::hKc P
noncomputable abbrev hX:Shared->Bool:=λ s=>xlAt hV [] s&&recOk (RowW.records (OpenRow.toRowW (OpenLaw.row hl))) s
end HD13
end
section
namespace HD13
open PySem PySem.W PySem.W.X PyProof.Rows L2
set_option maxHeartbeats 0
theorem IM:∀ w,(λ os=>topGo treeTable hp w 11 hAn 12 (S0 w os) (topStub hp))=λ os=>some (SA w os,⟨denote treeTable hC,hC,⟨0,0,0,0⟩,hB⟩):=by
 rewrite [PySem.W.Fast.te15667345088766844465,Z6,PySem.W.Fast.te11892475500146522536]
 intro w; kernel_rfl
theorem IQ:∀ w,(λ os=>segRun treeTable hp w 11 hAn 1 1 (SA w os) (blockOf (behindTheImports hp) hE hC ⟨0,0,0,0⟩ hB))=λ os=>some (Flow.next,(S1 w os).abs,hC,⟨0,0,0,0⟩):=by
 rewrite [PySem.W.Fast.te14374325043358763698,Z6]
 intro w; kernel_rfl
theorem Lr:∀ w,(λ os=>segRunT treeTable hp w 11 hAn 1 781 (S1 w os) (piecesOf Kt hE hC ⟨0,0,0,0⟩ hB))=λ os=>some (Flow.next,S2 w os,hC,⟨29,0,30,8⟩):=by
 rewrite [Yt,Z6]
 intro w; kernel_rfl
theorem Lq:∀ w,(λ os=>segRunT treeTable hp w 11 hAn 1 720 (S2 w os) (piecesOf Ks hE hC ⟨29,0,30,8⟩ hB))=λ os=>some (Flow.next,S3 w os,hC,⟨48,0,48,4⟩):=by
 rewrite [Yt,Z6]
 intro w; kernel_rfl
theorem Lp:∀ w,(λ os=>segRunT treeTable hp w 11 hAn 1 775 (S3 w os) (piecesOf Kr hE hC ⟨48,0,48,4⟩ hB))=λ os=>some (Flow.next,S4 w os,hC,⟨156,0,158,67⟩):=by
 rewrite [Yt,Z6]
 intro w; kernel_rfl
theorem Lo:∀ w,(λ os=>segRunT treeTable hp w 11 hAn 1 429 (S4 w os) (piecesOf Kq hE hC ⟨156,0,158,67⟩ hB))=λ os=>some (Flow.next,S5 w os,hC,⟨249,0,280,121⟩):=by
 rewrite [Yt,Z6]
 intro w; kernel_rfl
theorem IP:∀ w,(λ os=>topRun treeTable hp w 11 hAn 2 (S5 w os).abs ⟨doneF .next,hC,⟨249,0,280,121⟩,hB⟩)=λ os=>some (SF w os):=by
 rewrite [PySem.W.Fast.te14082659384304107361,Z6]
 intro w; kernel_rfl
theorem IL (w:World) (os:OsState):topRun treeTable hp w 11 hAn (12+(1+(781+(720+(775+(429+(2))))))) (S0 w os) (topStub hp)=some (SF w os):=go_top (congrFun (IM w) os) (piece_block (congrFun (IQ w) os) (piece_app (segRun_of (congrFun (Lr w) os)) (piece_app (segRun_of (congrFun (Lq w) os)) (piece_app (segRun_of (congrFun (Lp w) os)) (piece_app (segRun_of (congrFun (Lo w) os)) (congrFun (IP w) os))))))
theorem Ep:∀ w:World,((boot_heap w.params).isNs mainGlobals&&(⟨[]⟩:Array GenState).size == 0,(boot_heap w.params).objs.size,(boot_heap w.params).nsMap mainGlobals "__annotations__")=(true,11,hAn):=by
 rewrite [PySem.W.Fast.te8920871248978507458]
 intro w; kernel_rfl
theorem Es:∀ w:World,(λ os=>((staticsOk (importedModules hp.main.body) (boot_heap w.params) (hF w.params)&&namesBound hp (hF w.params)&&gensDone (SF w os)&&laidKept (boot_heap w.params) (hF w.params)),openSeen hV [] (importedModules hp.main.body) hX true (SF w os),obsZ hAs (SF w os)))=λ _=>(true,openGood hV [],valZ hK 352 649 w):=by
 rewrite [PySem.W.Fast.te5923862056798008813,PySem.W.Fast.te4187177175401517315]
 intro w; kernel_rfl
theorem Et:LeftO hp hV [] hX (obsZ hAs) (valZ hK 352 649) 5528:=LeftO.of_pieces (boot_open (p:=hp) (N:=5528) (by kernel_rfl) (by decide) (λ _=>by kernel_rfl)) Ep IL (by decide) Es
theorem Er:PySem.Challenge.rw_stylehouse_k13_gathered.wellSaid=true:=by kernel_rfl
theorem Eu (said:(OpenLaw.row PySem.Challenge.rw_stylehouse_k13_gathered).wellSaid=true) (hw:(OpenRow.toRowW (OpenLaw.row PySem.Challenge.rw_stylehouse_k13_gathered)).promised) {d:DefRec} {kwd:List (Str×Expr)} (hdef:defOf hV (OpenLaw.row PySem.Challenge.rw_stylehouse_k13_gathered).name=some (d,kwd)) (hp':(OpenLaw.row PySem.Challenge.rw_stylehouse_k13_gathered).prog.theDef (OpenLaw.row PySem.Challenge.rw_stylehouse_k13_gathered).name=some (d.params,d.body,d.scope)) (hk:kwWritten? d.params.kwonlyargs d.params.kw_defaults=some kwd) (call:WalkX hV [] (XL hV []) (obsZ hAs) (valZ hK 352 649) (OpenRow.toRowW (OpenLaw.row PySem.Challenge.rw_stylehouse_k13_gathered)) d kwd λ f vs=>PySem.call f vs):(OpenLaw.row PySem.Challenge.rw_stylehouse_k13_gathered).Holds :=
 holds_openX (q:=hV) (loose:=[]) (Xt:=hX) (XP:=XL hV []) (Yf:=obsZ hAs) (Ya:=valZ hK 352 649) (N:=5528) Et (λ s e=>xl_of s (Bool.and_eq_true_iff.mp e).1) XL.keeps hdef hp' hk (λ s e=>recFacts_of (Bool.and_eq_true_iff.mp e).2) rfl said (by decide +kernel) ⟨rfl,rfl,rfl,rfl,rfl,by decide +kernel⟩ hw call
end HD13
end
section
namespace L2
open PySem PySem.Spec PyProof.Rows
section
variable {X:Cx}
def Sz (i:Int):Prop:=i.natAbs < 2 ^ 4000
theorem Sz.bits (h:Sz i):Builtin.Int.intBits i<=2 ^ 20:=Z5 (PySem.intBits_le_iff.mpr h) (by decide)
theorem Sz.log (h:Sz i):i.natAbs.log2 < 9000:=by
 by_cases z:i.natAbs=0
 · rw [z]; decide
 · exact (Nat.log2_lt z).mpr (Nat.lt_trans h (Nat.pow_lt_pow_right (by decide) (by decide)))
theorem AX:OpR X (binaryOp .FloorDiv) (rI (λ _ j=>j≠0/\Sz j) λ i j=>.int (i.fdiv j)):=opI λ _ _ _ _ _ _ _ hc q=>floordiv_int hc.1 q (.inl (PyProof.noPylong_of_log2 hc.2.log))
end
open PySem.W in
mutual
inductive RdD (K:W.Frag) (H:Hp):V->Dat->Prop where
 | non:RdD K H .non .none
 | int (i:Int):RdD K H (.int i) (.int i)
 | str (x:Str):RdD K H (.str x) (.str x)
 | tup {a:Addr} {xs:List V} {ds:List Dat} (h:SqT K H a xs) (r:wJ K H xs ds):RdD K H (.ref a) (.tuple ds)
 | lst {a:Addr} {xs:List V} {ds:List Dat} (h:SqL K H a xs) (r:wJ K H xs ds):RdD K H (.ref a) (.list ds)
inductive wJ (K:W.Frag) (H:Hp):List V->List Dat->Prop where
 | nil:wJ K H [] []
 | cons {x:V} {d:Dat} {xs:List V} {ds:List Dat} (h:RdD K H x d) (r:wJ K H xs ds):wJ K H (x::xs) (d::ds)
end
section
open PySem.W
variable {X:Cx} {pins:List (Addr×Obj)} {σ:St} {H:Hp} {s:Shared}
mutual
theorem RdD.reads (I:Inv X pins σ H s):∀ {v:V} {d:Dat} {u:Value},RdD X.K H v d->RelV v u->∃ as,Reads s.heap u (kqdP d) as
 | _,_,u,.non,rv=>by cases (show u=Value.none from rv); exact ⟨_,Reads.none⟩
 | _,_,u,.int i,rv=>by obtain ⟨t,rfl⟩:=(show ∃ t,u=Value.int i t from rv); exact ⟨_,Reads.int i t⟩
 | _,_,u,.str x,rv=>by obtain ⟨t,rfl⟩:=(show ∃ t,u=Value.str x t from rv); exact ⟨_,Reads.str x t⟩
 | _,_,u,@RdD.tup _ _ a xs ds h r,rv=>by
  cases (show u=Value.ref a from rv);obtain ⟨its,vs,p,_⟩:=I.tuple h;obtain ⟨as,q⟩:=wJ.reads I r vs;obtain ⟨o,h1,h2,n,h3⟩:=p;rw [kqdP];exact ⟨as,reads_tuple_at h1 h2 h3 (by simpa using q)⟩
 | _,_,u,@RdD.lst _ _ a xs ds h r,rv=>by
  cases (show u=Value.ref a from rv);obtain ⟨its,vs,p,_⟩:=I.list h;obtain ⟨as,q⟩:=wJ.reads I r vs;obtain ⟨o,h1,h2,n,h3⟩:=p.isList;rw [kqdP];exact ⟨a::as,reads_list_at h1 h2 h3 (by simpa using q)⟩
theorem wJ.reads (I:Inv X pins σ H s):∀ {vs:List V} {ds:List Dat} {us:List Value},wJ X.K H vs ds->a7 vs us->∃ as,ReadsAll s.heap us (kqdPs ds) as
 | _,_,_,.nil,.nil=>by rw [kqdPs]; exact ⟨_,ReadsAll.nil⟩
 | _,_,_,.cons h r,.cons rv rs=>by
  obtain ⟨as,q⟩:=RdD.reads I h rv;obtain ⟨bs,p⟩:=wJ.reads I r rs;rw [kqdPs];exact ⟨_,ReadsAll.cons q p⟩
end
theorem fM (h:kqdOk 9 d=true):SeqAt.shaped (kqdP d)=true:=by
 have la:=kqd_lay 9 d h;unfold SeqAt.shaped;rw [la.1,Bool.true_and];exact Zu (Z5 la.2 (by decide))
open Classical in
theorem vJ (h:kqdOk 9 d=true) (h':kqdOk 9 e=true):PyData.eqv (kqdP d) (kqdP e)=decide (d=e):=by
 have q:=kqd_eqv 9 d e 9 h h'
 by_cases hq:d=e
 · rw [Zu hq]; exact q.mpr hq
 · rw [Zq hq]; exact Bool.eq_false_iff.mpr λ x=>hq (q.mp x)
open Classical in
noncomputable def eqD (d e:Dat):Bool:=decide (d=e)
open Classical in
theorem yo (h:d=e):eqD d e=true:=Zu h
open Classical in
theorem vK (h:d≠e):eqD d e=false:=Zq h
def KW (K:W.Frag):R2:=λ x y H Q=>∃ d e,RdD K H x d/\RdD K H y e/\kqdOk 9 d=true/\kqdOk 9 e=true/\Q (.bl (eqD d e)) H
def KP (K:W.Frag):R2:=λ x y H Q=>∃ d e,RdD K H x d/\RdD K H y e/\kqdOk 9 d=true/\kqdOk 9 e=true/\Q (.bl (!eqD d e)) H
theorem DF (hu:X.A.units+64 < cLine):OpR X (compareOp .Eq) (KW X.K):=by
 intro pins s σ H x y v u Q I rx ry h;obtain ⟨d,e,hd,he,kd,ke,q⟩:=h;obtain ⟨as,ra⟩:=hd.reads I rx;obtain ⟨bs,rb⟩:=he.reads I ry;refine eq_dataH ra rb (fM kd) (fM ke) hu ⟨.bl _,H,I,rfl,?_⟩;rw [vJ kd ke];exact q
theorem DD (hu:X.A.units+64 < cLine):OpR X (compareOp .NotEq) (KP X.K):=by
 intro pins s σ H x y v u Q I rx ry h;obtain ⟨d,e,hd,he,kd,ke,q⟩:=h;obtain ⟨as,ra⟩:=hd.reads I rx;obtain ⟨bs,rb⟩:=he.reads I ry;refine ne_dataH ra rb (fM kd) (fM ke) hu ⟨.bl _,H,I,rfl,?_⟩;rw [vJ kd ke];exact q
end
theorem ba.tup {K:W.Frag} {H H':Hp} {a:Addr} {xs:List V} (e:ba H H') (h:SqT K H a xs):SqT K H' a xs:=by
 rcases h with (h | ⟨o,h⟩) | h
 · exact .inl (.inl (e _ _ h))
 · exact .inl (.inr ⟨o,e _ _ h⟩)
 · exact .inr h
theorem ar (h:H p=none) (o:HO):ba H (upd H p o):=λ b u q=>by rw [af (cU q h)]; exact q
end L2
end
section
namespace L2
open PySem PySem.Spec PyProof.Rows
section
variable {prog:Program} {w:World} {A:Around} {R:Result->Shared->Prop} {s:Shared}
theorem oe (I:Nat->Shared->Prop)
  (turn:∀ n s,I n s->wpAny (model prog w) A (pyNext it) (λ r s₁=>match r with
    | none=>R (.ok .next) s₁
    | some v=>wpAny (model prog w) A (letOwnedTupleGo target it v) (λ _ s₁'=>wpAny (model prog w) A (assign target env v) (λ _ s₂=>wpAny (model prog w) A (eval elt env) (λ x s₃ =>
     wpAny (model prog w) A (call (.builtin "list.append") [acc,x]) (λ _ s₄=>∃ m,m < n/\I m s₄) (λ _ _=>False) s₃) (λ _ _=>False) s₂) (λ _ _=>False) s₁') (λ _ _=>False) s₁) (λ _ _=>False) s)
  (n:Nat) (h:I n s) :
  codeAny (model prog w) A (.compLoop (.ListComp elt [⟨target,iter,[],0⟩] scope pos) 0 it acc env) R s:=by
 refine codeAny_loop rfl I (λ n s hI=>?_) n h;refine wpAny_noted ?_
 rw [compTurn_list1];refine Zl (wpAny_standAt (Zl (Z9 (turn n s hI) (λ r s₁ h₁=>?_) λ _ _ h'=>h'.elim)))
 cases r with
 | none=>exact Zx h₁
 | some v =>
  refine Zl (Z9 h₁ (λ _ s₁' h₁'=>?_) λ _ _ h'=>h'.elim)
  exact Zl (Z9 h₁' (λ _ s₂ h₂=>Zl (Zl (Z9 h₂ (λ x s₃ h₃=>Zl (Z9 h₃
    (λ _ s₄ h₄=>Zx (Zx ⟨rfl,h₄⟩)) λ _ _ h'=>h'.elim)) λ _ _ h'=>h'.elim))) λ _ _ h'=>h'.elim)
end
def bg (X:Cx) (scope:Scope) (cl:List (Str×Addr)) (N:List Str) (s:Shared) (H:Hp) (fp:List Addr) (C:Addr):Cx where
 prog:=X.prog
 w:=X.w
 K:=X.K
 mg:=X.mg
 base:=X.base
 A:=X.A
 N:=N
 s₀:=s
 H₀:=H
 env:=compEnvC scope cl C X.env
 outer:=X.stack
 stack:=X.stack
 ex:=fp
 calm:=X.calm
 fn:=λ _=>false
 pn:=[]
 xe:=λ _ _=>False
structure cC (X:Cx) (scope:Scope) (cl:List (Str×Addr)) (x:Str) (cs:List (Str×Nat)):Prop where
 bD:closureFor scope X.env=pure cl
 kind:scope.kind=.function
 fZ:∀ y ∈ scope.names,y.2≠.cell
 names:∀ y ∈ scope.names,y.2=.local->scope.names.lookup y.1=some .local
 own:scope.names.lookup x=some .local
 sub:∀ y c,cl.lookup y=some c->X.env.cells.lookup y=some c
 has:∀ y,((relabel scope X.env).names.lookup y=some .cell\/(relabel scope X.env).names.lookup y=some .free)->∃ c,cl.lookup y=some c
 Je:∀ p ∈ cs,X.N[p.2]?=some p.1/\(X.env.kindOf p.1=some .cell\/X.env.kindOf p.1=some .free)/\((relabel scope X.env).names.lookup p.1=some .cell\/(relabel scope X.env).names.lookup p.1=some .free)
 nd:(x::cs.map (·.1)).Nodup
def aF (σ:St) (cs:List (Str×Nat)):St:=cs.map λ p=>(σ[p.2]?).join
section
variable {X:Cx} {pins:List (Addr×Obj)} {σ:St} {H:Hp} {s:Shared} {scope:Scope} {cl:List (Str×Addr)} {x:Str} {cs:List (Str×Nat)} {fp:List Addr} {C:Addr} {h':Heap} {t':Nat}
theorem lA (O:cC X scope cl x cs) (I:Inv X pins σ H s) (f2:∀ b ∈ fp,rD X pins H b) (there:∀ b ∈ fp,b < s.heap.objs.size) (hC:s.heap.objs.size<=C)
  (old:∀ b o,s.heap.get? b=some o->h'.get? b=some o) (hn:h'.Ns C λ _=>none) :
  Inv (bg X scope cl (x::cs.map (·.1)) s H fp C) [] (none::aF σ cs) H { s with heap:=h',toks:=t' }:=by
 refine ⟨⟨I.ok.mod,O.kind,I.ok.glob,I.ok.blt,hC,λ y z c h1 h2=>I.ok.inj y z c (O.sub y c h1) (O.sub z c h2),λ y hy=>O.has y hy,λ _ _ h=>absurd (h) Zf,I.ok.hd,I.ok.frames,.inl rfl,
   λ b hb=>⟨Zz (Z0 (there b hb) hC),λ y c e=>(f2 b hb).2.2.2.2.1 y c (O.sub y c e)⟩,I.bs,Z5 I.ok.bsz I.sz,λ b o e hb=>?_,λ b hb z=>?_,I.stack,I.iz⟩,
  rfl,I.bare,Un.kept old,⟨_,hn,λ i y v e1 e2 e3=>?_⟩,λ y c e=>?_,I.hok.fresh hC,λ y c e=>I.dS y c (O.sub y c e),λ p hp=>absurd (show p ∈ ([]:List (Addr×Obj)) from hp) (by simp),I.hok.kept old,?_⟩
 ·rcases (f2 b hb).2.2.2.1 with z | z
  · exact I.ok.A3 b o e z
  · exact absurd (Z0 (Zr e) (Z5 I.ok.bsz z)) (Yp _)
 · exact (Zh.mp (I.dF b z)).elim (f2 b hb).2.1 (f2 b hb).2.2.1
 ·cases i with
  | zero=>simp at e2
  | succ j =>
   have e1':(cs.map (·.1))[j]?=some y:=by simpa [bg] using e1
   have e2':(aF σ cs)[j]?=some (some v):=by simpa using e2
   unfold aF at e2';rw [List.getElem?_map] at e1' e2'
   cases q:cs[j]? with
   | none=>rw [q] at e1'; cases e1'
   | some p =>
    rw [q] at e1' e2';have ey:p.1=y:=by simpa using e1'
    have ev:(σ[p.2]?).join=some v:=by simpa using e2'
    have ev':σ[p.2]?=some (some v):=by
     cases z:σ[p.2]? with
     | none=>rw [z] at ev; cases ev
     | some o=>rw [z] at ev; exact Z7 some ev
    obtain ⟨c1,c2,c3⟩:=O.Je p (List.mem_of_getElem? q);subst ey;obtain ⟨m,hm,hl⟩:=I.loc
    obtain ⟨u,ru,lk⟩:=hl p.2 p.1 v c1 ev' (by
     rcases c2 with c2 | c2
     · exact .inr (.inl c2)
     · exact .inr (.inr c2))
    obtain ⟨c',ec'⟩:=O.has p.1 c3;refine ⟨u,ru,.inr ⟨c3,c',ec',?_⟩⟩;rcases lk with ⟨k,_⟩ | ⟨_,c,ec,o,ho,hd⟩
    ·rcases c2 with c2 | c2
     · rw [c2] at k; cases k
     · rw [c2] at k; cases k
    ·have:=O.sub p.1 c' ec'
     rw [ec] at this;cases this;exact ⟨o,old _ o ho,hd⟩
 ·obtain ⟨v,o,ho,hd⟩:=I.cell y c (O.sub y c e)
  exact ⟨v,o,old c o ho,hd⟩
 · simp [bg,aF]
end
def CQ (J:It) (te:TE) (cs:List (Str×Nat)) (σ:St) (Q:VK) (H1:Hp):Prop:=∃ W:Nat->Nat->List V->Hp->Prop,(∃ m,W 0 m [] H1)/\∀ i m ys H',W i m ys H' ->
 (J.stop i H'/\ys.length<=sizeLine/\∀ p,H' p=none->Q (.ref p) (upd H' p (.lst ys))) \/
 (J.go i H'/\ys.length < sizeLine/\∀ v H2,J.yld i H' v H2->te (some v::aF σ cs) H2 λ y H3=>∃ m',m' < m/\W (i+1) m' (ys++[y]) H3)
def CS (wi:TI) (te:TE) (cs:List (Str×Nat)):TE:=λ σ H Q=>wi σ H λ J H1=>CQ J te cs σ Q H1
section
variable {X:Cx}
theorem wb {elt iter:Expr} {x:Str} {px pos:Pos} {scope:Scope} {cs:List (Str×Nat)} {te:TE} {pins:List (Addr×Obj)} {σ:St} {H:Hp} {s s1:Shared} {Q:VK} {it:Addr} {fp:List Addr} {tn:Nat->Heap->Prop} {J:It}
  {RR:Value->Addr->Result->Shared->Prop} {Y:Cx} {ev:Env} {C D:Addr} {W:Nat->Nat->List V->Hp->Prop} {m0:Nat} (hc:X.calm=true)
  (I:Inv X pins σ H s) (T:Turn X.prog X.w X.K (.Name x px) J fp it tn) (f2:∀ b ∈ fp,rD X pins H b) (there:∀ b ∈ fp,b < s.heap.objs.size) (w0:W 0 m0 [] H)
  (turn:∀ i m ys H',W i m ys H' ->
    (J.stop i H'/\ys.length<=sizeLine/\∀ p,H' p=none->Q (.ref p) (upd H' p (.lst ys))) \/
    (J.go i H'/\ys.length < sizeLine/\∀ v H2,J.yld i H' v H2->te (some v::aF σ cs) H2 λ y H3=>∃ m',m' < m/\W (i+1) m' (ys++[y]) H3))
  (hRR:∀ D C s' H' ys,s.heap.objs.size<=D->s.heap.objs.size<=C->D≠C->(∃ m,s'.heap.Ns C m)->Inv X pins σ (upd H' D (.lst ys)) s'->H' C=none->Q (.ref D) (upd H' D (.lst ys))->RR (.ref D) C (.ok .next) s')
  (hD:s.heap.objs.size=D) (hDC:D≠C) (hCle:D<=C) (st1:tn 0 s1.heap) (hacc:s1.heap.get? D=some { cls:=.type "list",data:=.seq ([]:List Value).toArray 0 }) (I1:Inv Y [] (none::aF σ cs) H s1) (pgx:PG Y (.Name x px) (mq 0)) (peY:PE Y elt te)
  (Yx:Y.prog=X.prog/\Y.w=X.w/\Y.K=X.K/\Y.A=X.A/\Y.env=ev/\Y.calm=X.calm/\Y.xe=(λ _ _=>False)/\Y.pn=[]/\Y.ex=fp/\Y.fs=frs X.stack/\Y.s₀=s/\Y.H₀=H) (yl0:ev.locals=C) (yc:∀ z c,Y.env.cells.lookup z=some c->D < c\/X.env.cells.lookup z=some c) :
  codeAny (model X.prog X.w) X.A (.compStart (.ListComp elt [⟨.Name x px,iter,[],0⟩] scope pos) 0 (.ref it) (.ref D) ev) (RR (.ref D) C) s1:=by
 have FD:=I.wU (b:=D) (by rw [<- hD]; exact Zk _) (I.hok.fresh (by rw [<- hD]; exact Zk _));have nfpD:∀ b ∈ fp,b≠D:=λ b hb=>by rw [<- hD]; exact Zz (there b hb)
 have nfpC:∀ b ∈ fp,b≠C:=λ b hb=>Zz (Z0 (there b hb) (by rw [hD]; exact hCle))
 obtain ⟨y1,y2,y3,y4,y5,y6,y7,y8,y9,y10,y11,y12⟩:=Yx;have nstk:∀ b,b≠X.env.locals->b ∉ X.fs->b ∉ Y.fs:=λ b h1 h2 z=>by rw [y10] at z; exact (Zh.mp (I.dF b z)).elim h1 h2
 have yl:Y.env.locals=C:=by rw [y5]; exact yl0
 have stat:∀ {ps:List (Addr×Obj)} {H':Hp},(∀ b ∈ fp,H' b=none)->(∀ p ∈ ps,p.1=D)->∀ b ∈ fp,rD Y ps H' b:=λ {ps H'} hn hp b hb =>
  ⟨hn b hb,by rw [yl]; exact nfpC b hb,nstk b (f2 b hb).2.1 (f2 b hb).2.2.1,.inl (by rw [y9]; exact hb),λ z c e=>(yc z c e).elim (λ e=>Nat.ne_of_gt (Nat.lt_trans (hD ▸ there b hb) e)) ((f2 b hb).2.2.2.2.1 z c),λ p hq=>by
    rw [y8,List.nil_append] at hq;rw [hp p hq]
    exact Ne.symm (nfpD b hb)⟩
 have pinD:∀ {σ':St} {H':Hp} {s':Shared} {ob:Obj},Inv Y [] σ' H' s'->H' D=none->s'.heap.get? D=some ob->(∀ v,ob.data≠.cell v)->Inv Y [(D,ob)] σ' H' s':=λ {σ' H' s' ob} I' hn e hd =>
  I'.gn λ p hp=>by
    have e1:p=(D,ob):=by simpa using hp
    subst e1;exact ⟨e,hn,by rw [yl]; exact hDC,nstk D FD.2.1 FD.2.2.1,hd⟩
 have loop:∀ s₃:Shared,s₃=s1 ->
    codeAny (model X.prog X.w) X.A (.compLoop (.ListComp elt [⟨.Name x px,iter,[],0⟩] scope pos) 0 (.ref it) (.ref D) ev) (RR (.ref D) C) s₃:=by
  rintro s₃ rfl
  refine oe (λ n s'=>∃ i o H' ys its k,Inv Y [] (o::aF σ cs) H' s'/\tn i s'.heap/\(∀ b ∈ fp,H' b=none)/\H' D=none/\s'.heap.get? D=some { cls:=.type "list",data:=.seq (its:List Value).toArray k }/\a7 ys its/\W i n ys H') ?_ m0
    ⟨0,none,H,[],[],0,I1,st1,λ b hb=>(f2 b hb).1,FD.1,hacc,.nil,w0⟩
  rintro n s3 ⟨i,o,H3,ys,its,k,I3,st3,fr3,frD,e3,vs3,w3⟩
  have I3p:=pinD I3 frD e3 (by intro v z; cases z)
  have onlyD:∀ p ∈ [(D,({ cls:=.type "list",data:=.seq its.toArray k }:Obj))],p.1=D:=λ p hp=>by
    have e1:=Zo.mp hp;rw [e1]
  rcases turn i n ys H3 w3 with ⟨stop,hz,q⟩ | ⟨go,hz,step⟩
  · have dn:=T.done Y y1 y2 y3 (by rw [y6]; exact hc) i _ s3 (o::aF σ cs) H3 (λ _ _=>False) I3p (stat fr3 onlyD) st3 stop
    rw [y4] at dn;refine thn dn λ r s4 ⟨hr,I4⟩=>?_
    subst hr;obtain ⟨e4,_⟩:=I4.pin (D,_) (Zc _ (Zo.mpr rfl));have b4:=I4.base;rw [y9,y10,y11,y12] at b4;have hk4:=I4.hok;rw [y1,y2] at hk4;have hCn:H3 C=none:=by have:=I4.free; rw [yl] at this; exact this
    refine hRR D C s4 H3 ys (by rw [<- hD]; exact Zk _) (by rw [hD]; exact hCle) hDC (by obtain ⟨m,hm,_⟩:=I4.loc; rw [yl] at hm; exact ⟨m,hm⟩) ?_ hCn (q D frD);have neD:∀ b o,s.heap.get? b=some o->b≠D:=λ b o e=>by rw [<- hD]; exact Zz (Zr e)
    have neDH:∀ b u,H b=some u->b≠D:=λ b u e=>by rw [<- hD]; exact Zz (I.hok.lt e)
    refine I.yA (by have:=I4.os; rw [y11] at this; exact this) ⟨b4.keep,b4.slot,λ b o e n hx=>?_,b4.there,λ b xs e=>?_,λ b o u e=>?_,λ b ps e=>?_⟩ (λ b u e=>?_) I4.bare λ b hb=>?_
    · rw [af (neD b o e)]; exact b4.free b o e n hx
    · rw [af (neDH b _ e)]; exact b4.mK b xs e
    · rw [af (neDH b _ e)]; exact b4.mr b o u e
    · rw [af (neDH b _ e)]; exact b4.lR b ps e
    ·have t1:∀ c u,H3 c=some u->upd H3 D (.lst ys) c=some u:=λ c u z=>by
      rw [af (λ zz=>by rw [zz,frD] at z; cases z)];exact z
     by_cases hb:b=D
     ·subst hb
      rw [ai] at e;cases e;exact ⟨hz,its,k,vs3,e4⟩
     ·rw [af hb] at e
      exact (hk4 b u e).oT (λ _ _ _ z=>z) (λ c z=>t1 c _ z) λ c xs z=>t1 c _ z
    · exact ⟨(f2 b hb).2.2.2.1,(f2 b hb).2.1,(f2 b hb).2.2.2.2.1,(f2 b hb).2.2.2.2.2⟩
  · have im:=T.item Y y1 y2 y3 (by rw [y6]; exact hc) i _ s3 (o::aF σ cs) H3 (λ _ _=>False) I3p (stat fr3 onlyD) st3 go
    rw [y4] at im;refine thn im λ r s4 ⟨u,hr,h4⟩=>?_
    subst hr;refine thn h4 λ _ s5 ⟨v,H5,I5,r5,y5',st5,fr5⟩=>?_
    have I5':=I5.pinned (stat fr5 onlyD) (T.obj _ _ st5);have as:=pgx _ s5 (o::aF σ cs) H5 v u _ I5' r5 (show mq 0 v (o::aF σ cs) H5 (λ σ' H'=>σ'=some v::aF σ cs/\H'=H5) from ⟨rfl,rfl⟩);rw [y1,y2,y4,y5,y7] at as;refine thn as λ _ s6 ⟨σ6,H6,I6,e6,e6'⟩=>?_
    subst e6 e6';have el:=peY _ s6 _ H6 _ I6 (step v H6 y5');rw [y1,y2,y4,y5,y7] at el;refine thn el λ u7 s7 ⟨y7',H7,I7,r7,m',hm',w7⟩=>?_
    obtain ⟨e7,n7,_⟩:=I7.pin (D,_) (Zc _ (Zn _ (Zo.mpr rfl)));have hl3:=vs3.length;refine call_meets F.slot_list_append ⟨_,e7,rfl⟩ F.entry_list_append (F.args_list_append_2 _ _) (PySem.list_append D its.toArray k u7 (by rw [Zs]; omega)) ⟨e7,?_⟩;obtain ⟨k',up⟩:∃ k',(s7.heap.update D (Obj.mapSeq (·.push u7))).get? D=some { cls:=.type "list",data:=.seq (its.toArray.push u7) k' }:=⟨_,PySem.IsL.update e7 (·.push u7)⟩
    have fpk:∀ b ∈ fp,∀ o,s5.heap.get? b=some o->s7.heap.get? b=some o/\H7 b=none:=λ b hb o e=>by
     obtain ⟨z1,z2,_⟩:=I7.pin (b,o) (Zc _ (Zc _ (dR hb e)));exact ⟨z1,z2⟩
    have I7n:Inv Y [] (some v::aF σ cs) H7 s7:=I7.gn λ p hp=>absurd hp (by simp)
    refine ⟨m',hm',i+1,some v,H7,ys++[y7'],its++[u7],k',?_,?_,?_,n7,?_,vs3.append (.cons r7 .nil),w7⟩
    ·refine I7n.turned (λ b o hb e=>(Heap.get?_update_other s7.heap (Obj.mapSeq (·.push u7)) (Ne.symm hb)).trans e) n7 (by rw [yl]; exact hDC) (.inr (by rw [y11,<- hD]; exact Zk _)) (λ z c e=>(yc z c e).elim Nat.ne_of_gt (FD.2.2.2.2.1 z c)) λ p hp=>?_
     rw [y8] at hp;exact absurd hp (by simp)
    ·refine T.keep _ _ _ st5 λ b hb o e=>?_
     exact (Heap.get?_update_other s7.heap (Obj.mapSeq (·.push u7)) (Ne.symm (nfpD b hb))).trans (fpk b hb o e).1
    ·intro b hb
     obtain ⟨o',e',_⟩:=T.obj _ _ st5 b hb;exact (fpk b hb o' e').2
    ·rw [List.push_toArray] at up
     exact up
 exact codeAny_compStart_list (loop _ rfl) (T.self _ 0 _ _ _ st1 (loop _ rfl))
theorem sC {elt iter:Expr} {x:Str} {px pos:Pos} {scope:Scope} {cl:List (Str×Addr)} {cs:List (Str×Nat)} {te:TE} {pins:List (Addr×Obj)} {σ:St} {H:Hp} {s:Shared} {Q:VK} {it:Addr} {fp:List Addr} {tn:Nat->Heap->Prop} {J:It}
  {RR:Value->Addr->Result->Shared->Prop} {E:Value->Shared->Prop} (hc:X.calm=true) (O:cC X scope cl x cs) (he:∀ s H fp C,PE (bg X scope cl (x::cs.map (·.1)) s H fp C) elt te)
  (I:Inv X pins σ H s) (T:Turn X.prog X.w X.K (.Name x px) J fp it tn) (st:tn 0 s.heap) (f2:∀ b ∈ fp,rD X pins H b)
  (h : ∃ W:Nat->Nat->List V->Hp->Prop,(∃ m,W 0 m [] H)/\∀ i m ys H',W i m ys H' ->
    (J.stop i H'/\ys.length<=sizeLine/\∀ p,H' p=none->Q (.ref p) (upd H' p (.lst ys))) \/
    (J.go i H'/\ys.length < sizeLine/\∀ v H2,J.yld i H' v H2->te (some v::aF σ cs) H2 λ y H3=>∃ m',m' < m/\W (i+1) m' (ys++[y]) H3))
  (hRR:∀ D C s' H' ys,s.heap.objs.size<=D->s.heap.objs.size<=C->D≠C->(∃ m,s'.heap.Ns C m)->Inv X pins σ (upd H' D (.lst ys)) s'->H' C=none->Q (.ref D) (upd H' D (.lst ys))->RR (.ref D) C (.ok .next) s') :
  wpAny (model X.prog X.w) X.A (newList []) (λ acc s₃=>wpAny (model X.prog X.w) X.A (newFunctionEnv scope X.env.globals cl [] X.env.qual none .none (some X.env)) (λ cenv s₄ =>
    codeAny (model X.prog X.w) X.A (.compStart (.ListComp elt [⟨.Name x px,iter,[],0⟩] scope pos) 0 (.ref it) acc { cenv with scope:=relabel scope X.env }) (RR acc cenv.locals) s₄) E s₃) E s:=by
 obtain ⟨W,⟨m0,w0⟩,turn⟩:=h;refine Y7 (Xm O.fZ (by intro y hy; simp at hy) (λ h₁ hns₁ hsb₁=>?_) O.kind);generalize hH2:s.heap.push { cls:=.type "list",dict:=none,data:=.seq ([]:List Value).toArray }=H2 at hns₁ hsb₁ ⊢
 have hC:H2.objs.size=s.heap.objs.size+1:=by rw [<- hH2,Y3]
 have hDC:s.heap.objs.size≠H2.objs.size:=by rw [hC]; exact Zz (Xb _)
 have hCle:s.heap.objs.size<=H2.objs.size:=by rw [hC]; exact Nat.le_succ _
 have neC:∀ b,b < s.heap.objs.size->b≠H2.objs.size:=λ b hb=>by rw [hC]; exact Zz (Nat.lt_succ_of_lt hb)
 have old:∀ b o,s.heap.get? b=some o->h₁.get? b=some o:=λ b o e=>hsb₁.extBut b o (neC b (Zr e)) (Heap.get?_push_of_some _ (hH2 ▸ Heap.get?_push_of_some _ e))
 have hacc:=hsb₁.extBut _ _ hDC (Heap.get?_push_of_some _ (hH2 ▸ Heap.get?_push_size _ rfl))
 have there:∀ b ∈ fp,b < s.heap.objs.size:=λ b hb=>by
  obtain ⟨o,e,_⟩:=T.obj _ _ st b hb;exact Zr e
 have hns:h₁.Ns H2.objs.size λ _=>none:=by
  have e:(λ x=>List.lookup x ([]:List (Str×Value)).reverse)=λ _=>none:=by funext y; rfl
  rw [e] at hns₁
  exact hns₁
 generalize hD:s.heap.objs.size=D at hDC hCle hacc;generalize hCC:H2.objs.size=C at hDC hCle hns ⊢;have st1:=T.keep _ _ _ st λ b _ o e=>old b o e
 have I1:Inv (bg X scope cl (x::cs.map (·.1)) s H fp C) [] (none::aF σ cs) H { s with heap:=h₁,toks:=s.toks+([]:List (Str×Value)).length } :=
  lA O I f2 there (by rw [hD]; exact hCle) old hns
 exact wb hc I T f2 there w0 turn hRR hD hDC hCle st1 hacc I1 (jF O.nd rfl (.inl (Xn O.own)) (.inr (Xn O.own))) (he _ _ _ _) ⟨rfl,rfl,rfl,rfl,rfl,rfl,rfl,rfl,rfl,rfl,rfl,rfl⟩ rfl λ z c e=>.inr (O.sub z c e)
theorem AM {elt iter:Expr} {x:Str} {px pos:Pos} {scope:Scope} {cl:List (Str×Addr)} {cs:List (Str×Nat)} {wi:TI} {te:TE} (hc:X.calm=true) (O:cC X scope cl x cs) (hi:PI X (.Name x px) iter wi)
  (he:∀ s H fp C,PE (bg X scope cl (x::cs.map (·.1)) s H fp C) elt te) (hs:∀ x,foldedSetIterable iter X.env x=pure x:=by intro _; rfl) :
  PE X (.ListComp elt [⟨.Name x px,iter,[],0⟩] scope pos) (CS wi te cs):=by
 intro pins s σ H Q I h;rw [eval_ListComp];refine wpAny_comprehension_free rfl hs O.bD O.kind O.names (thn (hi pins s σ H _ I h) λ v s1 h1=>thn h1 λ itv s2 h2=>?_);obtain ⟨it,fp,tn,J,H2,rfl,I2,T,st2,f2,hw⟩:=h2;refine sC hc O he I2 T st2 f2 hw λ D C s' H' ys hD hC hDC ⟨m,hm⟩ I' hn q=>?_
 refine ⟨m,hm,λ h' hs'=>?_⟩;have hn':upd H' D (.lst ys) C=none:=by rw [af (Ne.symm hDC)]; exact hn
 have FC:=I2.wU hC hn';exact ⟨.ref D,upd H' D (.lst ys),I'.turned (λ b o hb e=>(hs'.2 b hb).trans e) hn' FC.2.1 FC.2.2.2.1 FC.2.2.2.2.1 FC.2.2.2.2.2,rfl,q⟩
end
theorem B3 (h1:scope.kind=.function) (h2:∀ y ∈ scope.names,y.2≠.cell) (h3:∀ y ∈ scope.names,y.2≠.free) (h4:∀ y ∈ scope.names,y.2=.local->scope.names.lookup y.1=some .local) (h5:scope.names.lookup x=some .local) :
  cC X scope [] x [] where
 bD:=closureFor_none h3
 kind:=h1
 fZ:=h2
 names:=h4
 own:=h5
 sub:=λ _ _ e=>by cases e
 has := λ y hy=>by
  have rel:(relabel scope X.env).names=scope.names:=by
   exact map_eq_self λ z hz=>by
    obtain ⟨n,k⟩:=z;have:(k == NameKind.free)=false:=by simpa using h3 _ hz
    simp [this]
  rw [rel] at hy;rcases hy with hy | hy
  · exact absurd rfl (h2 _ (Z4 hy))
  · exact absurd rfl (h3 _ (Z4 hy))
 Je:=λ _ h=>by cases h
 nd:=by simp
section
variable {κ:Type} [DecidableEq κ]
def cB (kvs:List (κ×V)) (k:κ):Option V:=(kvs.find? λ kv=>decide (kv.1=k)).map (·.2)
def putK (kvs:List (κ×V)) (k:κ) (v:V):List (κ×V) :=
 if (kvs.any λ kv=>decide (kv.1=k))=true then kvs.map (λ kv=>if kv.1=k then (kv.1,v) else kv) else kvs++[(k,v)]
theorem bN {p:κ×V} {r:List (κ×V)} {k:κ} (e:p.1=k):cB (p::r) k=some p.2:=by simp [cB,List.find?_cons,e]
theorem bO {p:κ×V} {r:List (κ×V)} {k:κ} (e:¬ p.1=k):cB (p::r) k=cB r k:=by simp [cB,List.find?_cons,e]
theorem gM (k:κ):∀ kvs:List (κ×V),(kvs.any λ kv=>decide (kv.1=k))=(cB kvs k).isSome
 | []=>rfl
 | p::r=>by
  rw [Xh]
  by_cases e:p.1=k
  · simp only [bN e,Zu e,Bool.true_or,Option.isSome_some]
  · rw [bO e,Zq e,Bool.false_or]; exact gM k r
theorem p6 (k j:κ) (y:V):∀ kvs:List (κ×V),cB (kvs.map λ kv=>if kv.1=k then (kv.1,y) else kv) j=(cB kvs j).map λ x=>if j=k then y else x
 | []=>rfl
 | p::r=>by
  have ih:=p6 k j y r;rw [Zg]
  by_cases h:p.1=k
  ·rw [if_pos h]
   by_cases e:p.1=j
   · rw [bN (p:=(p.1,y)) e,bN e,Xg,if_pos (e.symm.trans h)]
   · rw [bO (p:=(p.1,y)) e,bO e,ih]
  ·rw [if_neg h]
   by_cases e:p.1=j
   · rw [bN (p:=p) e,bN e,Xg,if_neg (λ z=>h (e.trans z))]
   · rw [bO (p:=p) e,bO e,ih]
theorem mR (k j:κ) (y:V):∀ kvs:List (κ×V),cB kvs k=none->cB (kvs++[(k,y)]) j=if j=k then some y else cB kvs j
 | [],_=>by
  by_cases e:k=j
  · rw [if_pos e.symm]; exact bN (p:=(k,y)) e
  · rw [if_neg (λ z=>e z.symm)]; exact bO (p:=(k,y)) e
 | p::r,hn=>by
  rw [List.cons_append];have hk:¬ p.1=k:=λ z=>by rw [bN z] at hn; cases hn
  rw [bO hk] at hn;have ih:=mR k j y r hn
  by_cases e:p.1=j
  · rw [bN e,bN e,if_neg (λ z=>hk (e.trans z))]
  · rw [bO e,bO e,ih]
theorem xa (kvs:List (κ×V)) (k j:κ) (y:V):cB (putK kvs k y) j=if j=k then some y else cB kvs j:=by
 unfold putK
 by_cases a:(kvs.any λ kv=>decide (kv.1=k))=true
 ·rw [if_pos a,p6]
  rw [gM] at a
  by_cases e:j=k
  ·obtain ⟨x,hx⟩:=Y8.mp a
   rw [if_pos e,e,hx,Xg,if_pos rfl]
  ·rw [if_neg e]
   cases cB kvs j with
   | none=>rfl
   | some x=>rw [Xg,if_neg e]
 ·rw [if_neg a]
  refine mR k j y kvs ?_
  rw [gM] at a
  cases q:cB kvs k with
  | none=>rfl
  | some x=>rw [q] at a; exact (a rfl).elim
theorem gs (kvs:List (κ×V)) (k:κ) (v:V):(putK kvs k v).length<=kvs.length+1:=by
 unfold putK;split
 · rw [Za]; omega
 · rw [Z3,Zv,Y0]; omega
theorem oJ.fe {o:Option V} {u:Option Value} (r:oJ o u):o.isSome=u.isSome:=by
 cases o with
 | none=>cases u with
  | none=>rfl
  | some _=>exact (show False from r).elim
 | some _=>cases u with
  | none=>exact (show False from r).elim
  | some _=>rfl
theorem KV.val {kvs:List (κ×V)} {vs:List (κ×Value)} (r:KV kvs vs) (k:κ):oJ (cB kvs k) (valueAt vs k):=by
 unfold KV at r
 induction r with
 | nil=>exact True.intro
 | @cons p q ps qs h t ih =>
  obtain ⟨h1,h2⟩:=h
  by_cases e:p.1=k
  ·have e':q.1=k:=h1.symm.trans e
   have b:valueAt (q::qs) k=some q.2:=by simp [valueAt,List.find?_cons,e']
   rw [bN e,b]; exact h2
  ·have e':¬ q.1=k:=λ z=>e (h1.trans z)
   have b:valueAt (q::qs) k=valueAt qs k:=by simp [valueAt,List.find?_cons,e']
   rw [bO e,b]; exact ih
theorem KV.any {kvs:List (κ×V)} {vs:List (κ×Value)} (r:KV kvs vs) (k:κ):(kvs.any λ kv=>decide (kv.1=k))=vs.any λ kv=>decide (kv.1=k):=by
 unfold KV at r
 induction r with
 | nil=>rfl
 | cons h t ih=>rw [Xh,Xh,ih,h.1]
theorem KV.GD {kvs:List (κ×V)} {vs:List (κ×Value)} (r:KV kvs vs) (k:κ) {y:V} {u:Value} (ry:RelV y u) :
  KV (kvs.map λ kv=>if kv.1=k then (kv.1,y) else kv) (vs.map λ kv=>if kv.1=k then (kv.1,u) else kv):=by
 unfold KV at r ⊢
 induction r with
 | nil=>exact .nil
 | @cons p q ps qs h t ih =>
  rw [Zg,Zg];refine .cons ?_ ih;obtain ⟨h1,h2⟩:=h
  by_cases e:p.1=k
  · rw [if_pos e,if_pos (h1.symm.trans e)]; exact ⟨h1,ry⟩
  · rw [if_neg e,if_neg (λ z=>e (h1.trans z))]; exact ⟨h1,h2⟩
theorem KV.put {kvs:List (κ×V)} {vs:List (κ×Value)} (r:KV kvs vs) (k:κ) {y:V} {u:Value} (ry:RelV y u):KV (putK kvs k y) (stored vs k u):=by
 unfold putK stored;rw [r.any k]
 by_cases e:(vs.any λ kv=>decide (kv.1=k))=true
 · rw [if_pos e,if_pos e]; exact r.GD k ry
 · rw [if_neg e,if_neg e]; exact Paired.snoc r ⟨rfl,ry⟩
theorem KV.length {kvs:List (κ×V)} {vs:List (κ×Value)} (r:KV kvs vs):kvs.length=vs.length:=Paired.length r
end
theorem se {P:Program} {w:World} {k:Key} {u:Value} (r:RelV (kV k) u):(bf P w).is k u=true:=by
 cases k with
 | inl i=>obtain ⟨t,e⟩:=(show ∃ t,u=Value.int i t from r); subst e; exact pE P w i t
 | inr x=>obtain ⟨t,e⟩:=(show ∃ t,u=Value.str x t from r); subst e; exact pw P w x t
theorem nK {P:Program} {w:World}:∀ {ks:List Key} {us:List Value},a7 (ks.map kV) us->ItemsAre (bf P w) ks us
 | [],_,r=>by rw [Xq] at r; cases r; exact .nil
 | k::ks,_,r=>by
  rw [Zg] at r
  cases r with
  | cons h t=>exact .cons (se h) (nK t)
abbrev KT (H:Hp):List (List Key×V)->List (List Key×Addr×Value)->Prop:=Paired λ p q=>p.1=q.1/\H q.2.1=some (.tup (p.1.map kV))/\RelV p.2 q.2.2
theorem KT.val {H:Hp} {kvs:List (List Key×V)} {xs:List (List Key×Addr×Value)} (r:KT H kvs xs) (k:List Key):oJ (cB kvs k) ((atKey xs k).map (·.2)):=by
 induction r with
 | nil=>exact True.intro
 | @cons p q ps qs h t ih =>
  obtain ⟨h1,_,h2⟩:=h
  by_cases e:p.1=k
  ·have e':q.1=k:=h1.symm.trans e
   have b:atKey (q::qs) k=some q.2:=by simp [atKey,List.find?_cons,e']
   rw [bN e,b]; exact h2
  ·have e':¬ q.1=k:=λ z=>e (h1.trans z)
   have b:atKey (q::qs) k=atKey qs k:=by simp [atKey,List.find?_cons,e']
   rw [bO e,b]; exact ih
theorem KT.GD {H:Hp} {kvs:List (List Key×V)} {xs:List (List Key×Addr×Value)} (r:KT H kvs xs) (k:List Key) {y:V} {u:Value} (ry:RelV y u) :
  KT H (kvs.map λ kv=>if kv.1=k then (kv.1,y) else kv) (xs.map (putAt k u)):=by
 induction r with
 | nil=>exact .nil
 | @cons p q ps qs h t ih =>
  rw [Zg,Zg];refine .cons ?_ ih;obtain ⟨h1,h2,h3⟩:=h;unfold putAt
  by_cases e:p.1=k
  · rw [if_pos e,if_pos (h1.symm.trans e)]; exact ⟨h1,h2,ry⟩
  · rw [if_neg e,if_neg (λ z=>e (h1.trans z))]; exact ⟨h1,h2,h3⟩
theorem KT.put {H:Hp} {kvs:List (List Key×V)} {xs:List (List Key×Addr×Value)} (r:KT H kvs xs) (k:List Key) {b:Addr} {y:V} {u:Value} (hb:H b=some (.tup (k.map kV))) (ry:RelV y u) :
  KT H (putK kvs k y) (storedH xs k b u):=by
 have e:(kvs.any λ kv=>decide (kv.1=k))=(atKey xs k).isSome:=by
  rw [gM,(r.val k).fe,Option.isSome_map]
 unfold putK storedH;rw [e]
 by_cases q:(atKey xs k).isSome=true
 · rw [if_pos q,if_pos q]; exact r.GD k ry
 · rw [if_neg q,if_neg q]; exact Paired.snoc r ⟨rfl,hb,ry⟩
theorem KT.keeps {H H':Hp} {kvs:List (List Key×V)} {xs:List (List Key×Addr×Value)} (r:KT H kvs xs) (ht:∀ b ys,H b=some (.tup ys)->H' b=some (.tup ys)):KT H' kvs xs :=
 Paired.Iu r λ _ _ z=>⟨z.1,ht _ _ z.2.1,z.2.2⟩
section
variable {P:Program} {w:World} {H:Hp} {h:Heap} {a:Addr}
theorem C9 {u:HO} (ok:HOk P w H h) (e:Rd H a u):bT P w H h a u:=e.ok ok
theorem sy {kvs:List (Key×V)} (ok:HOk P w H h) (e:Rd H a (.dK kvs)):kvs.length<=sizeLine/\(a == sysModules)=false/\∃ vs,KV kvs vs/\h.DictOf (bf P w) a vs :=
 show bT P w H h a (.dK kvs) from C9 ok e
theorem vN {kvs:List (Key×V)} (ok:HOk P w H h) (e:H a=some (.dK kvs)):kvs.length<=sizeLine/\(a == sysModules)=false/\∃ vs,KV kvs vs/\h.DictOf (bf P w) a vs:=sy ok (.inl e)
theorem nJ {ks:List Key} (ok:HOk P w H h) (e:H a=some (.tup (ks.map kV))):(tupleKind (bf P w)).is h ks a:=by
 obtain ⟨_,its,r,o,h1,h2,n,h3⟩:=(show bT P w H h a (.tup (ks.map kV)) from ok a _ e)
 exact ⟨o,its.toArray,n,h1,h2,h3,by simpa using nK r⟩
theorem vL {kvs:List (List Key×V)} (ok:HOk P w H h) (e:Rd H a (.dT kvs)):kvs.length<=sizeLine/\(a == sysModules)=false /\
  ∃ xs,KT H kvs xs/\h.DictOfH (tupleKind (bf P w)) a xs:=by
 obtain ⟨z,y,xs,r,o,es,ep,h1,h2,h3,h4,h5⟩:=(show bT P w H h a (.dT kvs) from C9 ok e)
 refine ⟨z,y,xs,r,o,es,ep,h1,h2,h3,h4,λ x hx=>?_,h5⟩
 have all:∀ {l:List (List Key×V)} {m:List (List Key×Addr×Value)},KT H l m->∀ x ∈ m,(tupleKind (bf P w)).is h x.1 x.2.1:=by
  intro l m q
  induction q with
  | nil=>intro x hx; exact nomatch hx
  | @cons p q ps qs hq t ih =>
   intro x hx;rcases Zh.mp hx with e | hx
   ·subst e
    exact nJ ok (by rw [<- hq.1]; exact hq.2.1)
   · exact ih x hx
 exact all r x hx
theorem IY {kvs:List (List Key×V)} (ok:HOk P w H h) (e:H a=some (.dT kvs)):kvs.length<=sizeLine/\(a == sysModules)=false /\
 ∃ xs,KT H kvs xs/\h.DictOfH (tupleKind (bf P w)) a xs:=vL ok (.inl e)
end
def sS (H:Hp) (a:Addr) (y:V) (r:Option V):Prop :=
 (∃ kvs k,Rd H a (.dK kvs)/\y=kV k/\r=cB kvs k)\/∃ kvs k b,Rd H a (.dT kvs)/\y=.ref b/\H b=some (.tup (k.map kV))/\r=cB kvs k
def Cj (H:Hp) (a:Addr) (y v:V) (H':Hp):Prop :=
 (∃ kvs k,H a=some (.dK kvs)/\y=kV k/\kvs.length < sizeLine/\H'=upd H a (.dK (putK kvs k v))) \/
 ∃ kvs k b,H a=some (.dT kvs)/\y=.ref b/\H b=some (.tup (k.map kV))/\kvs.length < sizeLine/\H'=upd H a (.dT (putK kvs k v))
theorem sS.k {H:Hp} {a:Addr} {kvs:List (Key×V)} {k:Key} (e:H a=some (.dK kvs)):sS H a (kV k) (cB kvs k):=.inl ⟨kvs,k,.inl e,rfl,rfl⟩
theorem Cj.k {H:Hp} {a:Addr} {kvs:List (Key×V)} {k:Key} {v:V} (e:H a=some (.dK kvs)) (hl:kvs.length < sizeLine):Cj H a (kV k) v (upd H a (.dK (putK kvs k v))):=.inl ⟨kvs,k,e,rfl,hl,rfl⟩
section
variable {X:Cx} {pins:List (Addr×Obj)} {σ:St} {H:Hp} {s:Shared} {a:Addr} {y v:V} {u r:Value} {o:Option V} {A:Around} {E:Value->Shared->Prop}
theorem Inv.big (I:Inv X pins σ H s):sysModules < s.heap.objs.size:=by
 have h:mainGlobals < s.heap.objs.size:=(I.mod.glob.keeps I.bk).lt;exact Nat.lt_trans (by decide) h
theorem vZ {Q:Value->Shared->Prop} (hu:A.units+1 < cLine) (I:Inv X pins σ H s) (g:sS H a y (some v)) (ry:RelV y u) (h:∀ w' s',Inv X pins σ H s'->RelV v w'->Q w' s') :
  wpAny (model X.prog X.w) A (getItem (.ref a) u) Q E s:=by
 rcases g with ⟨kvs,k,e,ey,l⟩ | ⟨kvs,k,b,e,ey,eb,l⟩
 ·subst ey
  obtain ⟨z,hd,vs,rel,dd⟩:=sy I.hok e;obtain ⟨w',hw,rw'⟩:=oJ.some_of (v:=v) (o:=valueAt vs k) (by rw [l]; exact rel.val k);exact wpAny_getItem_of (se ry) dd.mapOf hw (h w' _ (I.tok _) rw')
 ·subst ey
  cases (show u=Value.ref b from ry);obtain ⟨z,hd,xs,rel,dd⟩:=vL I.hok e;obtain ⟨w',hw,rw'⟩:=oJ.some_of (v:=v) (o:=(atKey xs k).map (·.2)) (by rw [l]; exact rel.val k);obtain ⟨p,hp,hp2⟩:=Zm hw;refine wpAny_getItem_heap (tupleKind_room_in1 hu) (nJ I.hok eb) dd hp ?_
  rw [hp2];exact h w' _ (I.tok _) rw'
theorem Lz {Q:Value->Shared->Prop} (hu:A.units+1 < cLine) (I:Inv X pins σ H s) (g:sS H a y o) (ry:RelV y u) (h:∀ s',Inv X pins σ H s'->Q (.bool o.isSome) s') :
  wpAny (model X.prog X.w) A (compareOp .In u (.ref a)) Q E s:=by
 rcases g with ⟨kvs,k,e,ey,l⟩ | ⟨kvs,k,b,e,ey,eb,l⟩
 ·subst ey
  obtain ⟨z,hd,vs,rel,dd⟩:=sy I.hok e;refine wpAny_in_of (se ry) hd dd.mapOf ?_
  rw [<- (rel.val k).fe,<- l];exact h _ (I.tok _)
 ·subst ey
  cases (show u=Value.ref b from ry);obtain ⟨z,hd,xs,rel,dd⟩:=vL I.hok e;refine wpAny_in_heap (tupleKind_room_in1 hu) (nJ I.hok eb) hd dd ?_
  have q:=(rel.val k).fe;rw [Option.isSome_map] at q;rw [<- q,<- l];exact h _ (I.tok _)
theorem BV {Q:Value->Shared->Prop} (hu:A.units+1 < cLine) (I:Inv X pins σ H s) (g:sS H a y o) (ry:RelV y u) (h:∀ s',Inv X pins σ H s'->Q (.bool (!o.isSome)) s') :
  wpAny (model X.prog X.w) A (compareOp .NotIn u (.ref a)) Q E s:=by
 rcases g with ⟨kvs,k,e,ey,l⟩ | ⟨kvs,k,b,e,ey,eb,l⟩
 ·subst ey
  obtain ⟨z,hd,vs,rel,dd⟩:=sy I.hok e;refine wpAny_notIn_of (se ry) hd dd.mapOf ?_
  rw [<- (rel.val k).fe,<- l];exact h _ (I.tok _)
 ·subst ey
  cases (show u=Value.ref b from ry);obtain ⟨z,hd,xs,rel,dd⟩:=vL I.hok e;refine wpAny_notIn_heap (tupleKind_room_in1 hu) (nJ I.hok eb) hd dd ?_
  have q:=(rel.val k).fe;rw [Option.isSome_map] at q;rw [<- q,<- l];exact h _ (I.tok _)
theorem pR {h':Heap} {t':Nat} {ob:HO} (I:Inv X pins σ H s) (mu:Mut (H a)) (hs:Heap.SameBut a s.heap h') (he:∃ q,h'.get? a=some q) (new:bT X.prog X.w (upd H a ob) h' a ob) :
  Inv X pins σ (upd H a ob) { s with heap:=h',toks:=t' } :=
 I.write (x:=a) (e:=a) mu (.inl rfl) (λ b q hb z=>(hs.2 b hb).trans z) he new
theorem zJ {P:Program} {w:World} {H':Hp} {h':Heap} {kvs:List (Key×V)} {vs:List (Key×Value)} (z:kvs.length<=sizeLine) (hd:(a == sysModules)=false) (rel:KV kvs vs) (dd:h'.DictOf (bf P w) a vs) :
 bT P w H' h' a (.dK kvs):=⟨z,hd,vs,rel,dd⟩
theorem vY {H':Hp} {Q:Unit->Shared->Prop} (hu:A.units+1 < cLine) (I:Inv X pins σ H s) (g:Cj H a y v H') (ry:RelV y u) (rv:RelV v r) (h:∀ s',Inv X pins σ H' s'->Q () s') :
  wpAny (model X.prog X.w) A (setItem (.ref a) u r) Q E s:=by
 rcases g with ⟨kvs,k,e,ey,l,eH⟩ | ⟨kvs,k,b,e,ey,eb,l,eH⟩
 ·subst ey eH
  obtain ⟨z,hd,vs,rel,dd⟩:=vN I.hok e;have hz:vs.length<=sizeLine:=by rw [<- rel.length]; exact z
  have hl:(putK kvs k v).length<=sizeLine:=by have:=gs kvs k v; omega
  refine wpAny_setItem_pairs (hsz:=hz) (se ry) dd λ h' dd' hs=>h _ ?_
  have he:∃ q,h'.get? a=some q:=let ⟨q,_,_,hq,_⟩:=dd'; ⟨q,hq⟩
  exact pR I (by rw [e]; exact True.intro) hs he (zJ hl hd (rel.put k rv) dd')
 ·subst ey eH
  cases (show u=Value.ref b from ry);obtain ⟨z,hd,xs,rel,dd⟩:=IY I.hok e;have hz:xs.length<=sizeLine:=by rw [<- Paired.length rel]; exact z
  have hl:(putK kvs k v).length<=sizeLine:=by have:=gs kvs k v; omega
  refine wpAny_setItem_heap (hsz:=hz) (tupleKind_room_in1 hu) (nJ I.hok eb) dd λ h' dd' hs=>h _ ?_
  obtain ⟨q,es,ep,hq,h2,h3,h4,_,h5⟩:=dd';refine pR I (by rw [e]; exact True.intro) hs ⟨q,hq⟩ ⟨hl,hd,_,(rel.put k eb rv).keeps λ c ys ec=>?_,q,es,ep,hq,h2,h3,h4,h5⟩;rw [af (Il ec e (λ z=>nomatch z))];exact ec
end
section
variable {X:Cx} {pins:List (Addr×Obj)} {σ:St} {H:Hp} {s:Shared} {a:Addr} {kvs:List (Key×V)} {k:Key} {u:Value} {A:Around} {E:Value->Shared->Prop}
theorem IZ {Q:Value->Shared->Prop} (I:Inv X pins σ H s) (e:Rd H a (.dK kvs)) (h:∀ t s',Inv X pins σ H s'->Q (.int kvs.length t) s'):wpAny (model X.prog X.w) A (call (.builtin "len") [.ref a]) Q E s:=by
 obtain ⟨z,hd,vs,rel,dd⟩:=sy I.hok e;refine call_len_dict hd dd (by rw [<- rel.length]; rw [Xw] at z; omega) ?_
 rw [<- rel.length];exact h _ _ (I.tok _)
end
def F1 (i:Expr):Prop:=∀ ov iv,subscripted i false ov iv=operate [ov,iv] (getItem ov iv)
theorem z5 {prog:Program} {w:World} {A:Around} {E:Value->Shared->Prop} {s:Shared} {env:Env} {value slice:Expr} {pos:Pos} {T id:String} {Q:Value->Shared->Prop}
  (hl:typeLookup (.type T) "__getitem__"=pure (some (.builtin id))) (hs:F1 slice)
  (h:wpAny (model prog w) A (eval value env) (λ o s₁=>wpAny (model prog w) A (eval slice env) (λ i s₂=>s₂.TypeIs o T/\wpAny (model prog w) A (getItem o i) Q E s₂) E s₁) E s) :
  wpAny (model prog w) A (eval (.Subscript value slice pos) env) Q E s:=by
 refine Subscript_ (Z9 h (λ o s₁ h₁=>Z9 h₁ (λ i s₂ h₂=>?_) λ _ _ x=>x) λ _ _ x=>x);obtain ⟨hT,h₂⟩:=h₂;unfold subscriptTail;refine Zl ?_
 rw [getitemInPython_of_ne hT.not_modules];refine Zl (wpAny_specialOf hT hl ?_)
 have fin:wpAny (model prog w) A (subscripted slice false o i) (λ r s₃=>wpAny (model prog w) A (letTemporaryGo value o r >>= λ _=>pure r) Q E s₃) E s₂:=by
  rw [hs o i];exact wpAny_operating (Z9 h₂ (λ r s₃ h₃=>Zl (wpAny_letTemporaryGo (Zx h₃))) λ _ _ x=>x)
 first
  | exact Zx (Zl fin)
  | exact Zl (Zx (Zl fin))
  | exact Zl fin
theorem pQ {X:Cx} {pins:List (Addr×Obj)} {σ:St} {H:Hp} {s:Shared} {a:Addr} {y:V} {o:Option V} (I:Inv X pins σ H s) (g:sS H a y o):s.TypeIs (.ref a) "dict":=by
 rcases g with ⟨kvs,k,e,_,_⟩ | ⟨kvs,k,b,e,_,_,_⟩
 ·obtain ⟨_,_,vs,_,dd⟩:=sy I.hok e
  exact dd.typeIs
 ·obtain ⟨_,_,xs,_,dd⟩:=vL I.hok e
  exact dd.typeIs
def Gs (td ty:TE):TE:=λ σ H Q=>td σ H λ x H1=>ty σ H1 λ y H2=>∃ a v,x=.ref a/\sS H2 a y (some v)/\Q v H2
def Km (ty td:TE):TE:=λ σ H Q=>ty σ H λ y H1=>td σ H1 λ x H2=>∃ a o,x=.ref a/\sS H2 a y o/\Q (.bl o.isSome) H2
def zZ (ty td:TE):TE:=λ σ H Q=>ty σ H λ y H1=>td σ H1 λ x H2=>∃ a o,x=.ref a/\sS H2 a y o/\Q (.bl (!o.isSome)) H2
def GC (td ty tv:TE):TS:=λ D σ H=>tv σ H λ v H1=>td σ H1 λ x H2=>ty σ H2 λ y H3=>∃ a H4,x=.ref a/\Cj H3 a y v H4/\D.nx σ H4
section
variable {X:Cx} {o i e value:Expr} {pos pos' tpos:Pos} {td ty tv:TE}
theorem uw (hu:X.A.units+1 < cLine) (ho:PE X o td) (hi:PE X i ty) (hs:F1 i):PE X (.Subscript o i pos) (Gs td ty):=by
 intro pins s σ H Q I h;refine z5 PySem.F.slot_dict_getitem.lookup hs (thn (ho pins s σ H _ I h) λ u s1 ⟨x,H1,I1,rx,q1⟩=>thn (hi pins s1 σ H1 _ I1 q1) λ iv s2 ⟨y,H2,I2,ry,a,v,ex,g,q2⟩=>?_);subst ex;obtain rfl:u=Value.ref a:=rx;exact ⟨pQ I2 g,vZ hu I2 g ry λ w' s3 I3 rw'=>⟨v,H2,I3,rw',q2⟩⟩
theorem Dy (hu:X.A.units+1 < cLine) (hi:PE X i ty) (ho:PE X o td):PC X .In i o (Km ty td):=by
 intro pins s σ H Q I h;refine thn (hi pins s σ H _ I h) λ iv s1 ⟨y,H1,I1,ry,q1⟩=>thn (ho pins s1 σ H1 _ I1 q1) λ u s2 ⟨x,H2,I2,rx,a,ov,ex,g,q2⟩=>?_
 subst ex;obtain rfl:u=Value.ref a:=rx;exact Lz hu I2 g ry λ s3 I3=>⟨.bl ov.isSome,H2,I3,rfl,q2⟩
theorem m7 (hu:X.A.units+1 < cLine) (hi:PE X i ty) (ho:PE X o td):PC X .NotIn i o (zZ ty td):=by
 intro pins s σ H Q I h;refine thn (hi pins s σ H _ I h) λ iv s1 ⟨y,H1,I1,ry,q1⟩=>thn (ho pins s1 σ H1 _ I1 q1) λ u s2 ⟨x,H2,I2,rx,a,ov,ex,g,q2⟩=>?_
 subst ex;obtain rfl:u=Value.ref a:=rx;exact BV hu I2 g ry λ s3 I3=>⟨.bl (!ov.isSome),H2,I3,rfl,q2⟩
theorem oY (hu:X.A.units+1 < cLine) (ho:PE X o td) (hi:PE X i ty) (hv:PE X value tv) (hs:swapsWith value (some (.Subscript o i pos')) pos.line X.env=pure false) :
  PS X (.Assign [.Subscript o i pos'] value pos) (GC td ty tv):=by
 intro pins s σ H D I h;refine wpAny_Assign_Subscript (thn (hv pins s σ H _ I h) λ r s1 ⟨v,H1,I1,rv,q1⟩=>thn (ho pins s1 σ H1 _ I1 q1) λ u s2 ⟨x,H2,I2,rx,q2⟩=>thn (hi pins s2 σ H2 _ I2 q2) λ iv s3 ⟨y,H3,I3,ry,a,H4,ex,g,q3⟩=>?_) hs;subst ex;obtain rfl:u=Value.ref a:=rx;exact vY hu I3 g ry rv λ s4 I4=>⟨σ,H4,I4,q3⟩
end
theorem qU {P:Program} {w:World} {H:Hp} (h:Heap) (hb:sysModules < h.objs.size):bT P w H (h.push { cls:=.type "dict",data:=.dict #[] }) h.objs.size (.dK []) :=
 ⟨Yb _,Yh.mpr (Ne.symm (Zz hb)),[],.nil,Heap.DictOf.new h⟩
def CP:TE:=λ _ H Q=>∀ p,H p=none->Q (.ref p) (upd H p (.dK []))
section
variable {X:Cx} {pos:Pos}
theorem xH:PE X (.Dict [] [] pos) CP:=λ pins s σ H Q I h =>
 wpAny_Dict_empty ⟨.ref s.heap.objs.size,_,I.laid (a:=s.heap.objs.size) (o:=.dK []) (t':=s.toks) (λ _ _ q=>Heap.get?_push_of_some _ q) (Zk _) (qU s.heap I.big),rfl,h _ (I.hok.fresh (Zk _))⟩
end
def tH:List (TE×TE)->St->Hp->(List (V×V)->Hp->Prop)->Prop
 | [],_,H,Q=>Q [] H
 | (tk,tv)::r,σ,H,Q=>tk σ H λ x H1=>tv σ H1 λ y H2=>tH r σ H2 λ ps H3=>Q ((x,y)::ps) H3
abbrev VV:List (V×V)->List (Value×Value)->Prop:=Paired λ p q=>RelV p.1 q.1/\RelV p.2 q.2
def PPs (X:Cx) (pos:Pos) (keys:List (Option Expr)) (values:List Expr) (trs:List (TE×TE)):Prop :=
  ∀ (pins:List (Addr×Obj)) (s:Shared) (σ:St) (H:Hp) (Q:List (V×V)->Hp->Prop),Inv X pins σ H s->tH trs σ H Q ->
    wpAny (model X.prog X.w) X.A (evalPairs (pairTrees keys values X.env pos)) (λ vs s'=>∃ ps H',Inv X pins σ H' s'/\VV ps vs/\Q ps H') X.xe s
theorem Au {X:Cx} {pos:Pos}:PPs X pos [] [] []:=λ pins s σ H Q I h=>pairTrees_nil_walk ⟨[],H,I,.nil,h⟩
theorem xD {X:Cx} {pos:Pos} {k v:Expr} {ks:List (Option Expr)} {vs:List Expr} {tk tv:TE} {trs:List (TE×TE)} (hk:PE X k tk) (hv:PE X v tv) (hr:PPs X pos ks vs trs) :
  PPs X pos (some k::ks) (v::vs) ((tk,tv)::trs):=λ pins s σ H Q I h =>
 pairTrees_cons_walk (thn (hk pins s σ H _ I h) λ u s1 ⟨x,H1,I1,rx,q1⟩=>thn (hv pins s1 σ H1 _ I1 q1) λ w2 s2 ⟨y,H2,I2,ry,q2⟩ =>
  thn (hr pins s2 σ H2 _ I2 q2) λ ws s3 ⟨ps,H3,I3,rel,q3⟩=>⟨(x,y)::ps,H3,I3,.cons ⟨rx,ry⟩ rel,q3⟩)
def nz (kvs more:List (Key×V)):List (Key×V):=more.foldl (λ acc kv=>putK acc kv.1 kv.2) kvs
theorem KV.merge:∀ {more:List (Key×V)} {rs:List (Key×Value)} {kvs:List (Key×V)} {vs:List (Key×Value)},KV more rs->KV kvs vs->KV (nz kvs more) (merged vs rs):=by
 intro more rs kvs vs r;unfold KV at r
 induction r generalizing kvs vs with
 | nil=>intro q; exact q
 | @cons p q ps qs h t ih =>
  intro r0
  have e:KV (putK kvs p.1 p.2) (stored vs q.1 q.2):=by
   have:=r0.put p.1 h.2;rw [<- h.1]; exact this
  exact ih e
theorem gY:∀ (more kvs:List (Key×V)),(nz kvs more).length<=kvs.length+more.length
 | [],kvs=>by show kvs.length<=kvs.length+0; omega
 | p::r,kvs=>by
  have h1:=gY r (putK kvs p.1 p.2);have h2:=gs kvs p.1 p.2;show (nz (putK kvs p.1 p.2) r).length<=_;rw [Zv]; omega
theorem lC {P:Program} {w:World}:∀ {kvs:List (Key×V)} {ws:List (Value×Value)},VV (kvs.map λ kv=>(kV kv.1,kv.2)) ws->∃ rs,Carries (bf P w) ws rs/\KV kvs rs
 | [],_,r=>by rw [Xq] at r; cases r; exact ⟨[],True.intro,.nil⟩
 | p::kvs,_,r=>by
  rw [Zg] at r
  cases r with
  | @cons a b as bs h t =>
   obtain ⟨rs,c,q⟩:=lC (P:=P) (w:=w) t;obtain ⟨b1,b2⟩:=b;exact ⟨(p.1,b2)::rs,⟨se h.1,rfl,c⟩,.cons ⟨rfl,h.2⟩ q⟩
def Gr (trs:List (TE×TE)):TE:=λ σ H Q=>∀ p,H p=none->tH trs σ (upd H p (.dK [])) λ ps H2=>H2 p=some (.dK [])/\∃ kvs:List (Key×V),ps=kvs.map (λ kv=>(kV kv.1,kv.2))/\kvs.length<=15/\Q (.ref p) (upd H2 p (.dK (nz [] kvs)))
theorem AK {X:Cx} {pos:Pos} {keys:List (Option Expr)} {values:List Expr} {trs:List (TE×TE)} (h:PPs X pos keys values trs) (hall:keys.all (·.isSome)=true) (hl:keys.length=values.length) (h0:keys≠[])
  (h15:keys.length<=15):PE X (.Dict keys values pos) (Gr trs):=by
 intro pins s σ H Q I q;have hn:=I.hok.fresh (Zk s.heap.objs.size);have I1:=I.laid (a:=s.heap.objs.size) (o:=.dK []) (h':=s.heap.push { cls:=.type "dict",data:=.dict #[] }) (t':=s.toks) (λ _ _ q=>Heap.get?_push_of_some _ q) (Zk _) (qU s.heap I.big);refine wpAny_Dict_walk (knd:=bf X.prog X.w) hall hl h0 h15 (thn (h pins _ σ _ _ I1 (q _ hn)) λ ws s2 ⟨ps,H2,I2,rel,e,kvs,ep,lk,q2⟩=>?_);subst ep;obtain ⟨rs,c,rk⟩:=lC (P:=X.prog) (w:=X.w) rel;obtain ⟨z,hd,vs0,r0,dd⟩:=vN I2.hok e;cases r0;refine ⟨rs,c,dd,λ h' dd' hs=>⟨.ref s.heap.objs.size,_,?_,rfl,q2⟩⟩
 have hz:(nz [] kvs).length<=sizeLine:=by
  have h1:=gY kvs [];rw [Y0] at h1;rw [Xw]; omega
 have he:∃ q,h'.get? s.heap.objs.size=some q:=let ⟨q,_,_,hq,_⟩:=dd'; ⟨q,hq⟩
 exact pR I2 (by rw [e]; exact True.intro) hs he (zJ hz hd (rk.merge .nil) dd')
def Its (z:Str):It:=⟨λ i _=>i < z.cps.size,λ i H x H'=>H'=H/\∃ c,z.cps[i]?=some c/\x=.str ⟨#[c]⟩,λ i _=>z.cps.size<=i⟩
theorem rG {P:Program} {w:World} {K:W.Frag} {tg:Expr} (it:Addr) (z:Str) (t:Tok):Turn P w K tg (Its z) [it] it (λ i h=>h.IsStrIter it "str_ascii_iterator" z t i) where
 mem:=by simp
 obj:=λ i h st b hb=>by
  have e:b=it:=by simpa using hb
  subst e;obtain ⟨o,e,c,d⟩:=st;exact ⟨o,e,λ v z=>by rw [d] at z; cases z⟩
 keep:=λ i h h' st k=>let ⟨o,ho,r⟩:=st; ⟨o,k it (by simp) o ho,r⟩
 item:=by
  intro X hP hw hK hc i pins s σ H E I hf st hg;subst hP hw hK;obtain ⟨f0,f1,f2,f3,f4,f5⟩:=hf it (by simp);have hg':i < z.cps.size:=hg;have hx:z.cps[i]?=some z.cps[i]:=by simp [hg']
  refine wpAny_pyNext_ascii_item st hx λ h' st' sb=>?_
  have I1:Inv X pins σ H { s with heap:=h',toks:=s.toks+1 }:=I.turned (λ b o hb e=>(sb.2 b hb).trans e) f0 f1 f3 f4 f5;obtain ⟨o,e,c,d⟩:=id st';exact ⟨_,rfl,vw e c d (by decide) ⟨.str ⟨#[z.cps[i]]⟩,H,I1,⟨_,rfl⟩,⟨rfl,_,hx,rfl⟩,st',λ b hb=>(hf b hb).1⟩⟩
 done:=by
  intro X hP hw hK hc i pins s σ H E I hf st hg;subst hP hw hK;obtain ⟨f0,f1,f2,f3,f4,f5⟩:=hf it (by simp);have hg':z.cps.size<=i:=hg;exact wpAny_pyNext_ascii_end (I.ok.hd hc) st (by simp [hg']) λ h' eb=>⟨rfl,I.turned (λ b o hb e=>eb b o hb e) f0 f1 f3 f4 f5⟩
 self:=λ _ _ _ _ _ st h=>wpAny_pyIter_striter_ascii st h
theorem tw {P:Program} {w:World} {K:W.Frag} {tg:Expr} (it:Addr) (z:Str) (t:Tok):Turn P w K tg (Its z) [it] it (λ i h=>h.IsStrIter it "str_iterator" z t i) where
 mem:=by simp
 obj:=λ i h st b hb=>by
  have e:b=it:=by simpa using hb
  subst e;obtain ⟨o,e,c,d⟩:=st;exact ⟨o,e,λ v z=>by rw [d] at z; cases z⟩
 keep:=λ i h h' st k=>let ⟨o,ho,r⟩:=st; ⟨o,k it (by simp) o ho,r⟩
 item:=by
  intro X hP hw hK hc i pins s σ H E I hf st hg;subst hP hw hK;obtain ⟨f0,f1,f2,f3,f4,f5⟩:=hf it (by simp);have hg':i < z.cps.size:=hg;have hx:z.cps[i]?=some z.cps[i]:=by simp [hg']
  refine wpAny_pyNext_wide_item st hx λ h' st' sb=>?_
  have I1:Inv X pins σ H { s with heap:=h',toks:=s.toks+1 }:=I.turned (λ b o hb e=>(sb.2 b hb).trans e) f0 f1 f3 f4 f5;obtain ⟨o,e,c,d⟩:=id st';exact ⟨_,rfl,vw e c d (by decide) ⟨.str ⟨#[z.cps[i]]⟩,H,I1,⟨_,rfl⟩,⟨rfl,_,hx,rfl⟩,st',λ b hb=>(hf b hb).1⟩⟩
 done:=by
  intro X hP hw hK hc i pins s σ H E I hf st hg;subst hP hw hK;obtain ⟨f0,f1,f2,f3,f4,f5⟩:=hf it (by simp);have hg':z.cps.size<=i:=hg;exact wpAny_pyNext_wide_end (I.ok.hd hc) st (by simp [hg']) λ h' eb=>⟨rfl,I.turned (λ b o hb e=>eb b o hb e) f0 f1 f3 f4 f5⟩
 self:=λ _ _ _ _ _ st h=>wpAny_pyIter_striter_wide st h
section
variable {X:Cx} {tg:Expr}
def Ln (tl:TE):TI:=λ σ H R=>tl σ H λ x H1=>∃ z,x=.str z/\R (Its z) H1
theorem Dq {l:Expr} {tl:TE} (hl:PE X l tl):PI X tg l (Ln tl):=by
 intro pins s σ H R I h;refine thn (hl pins s σ H _ I h) λ v s1 ⟨x,H1,I1,r1,q1⟩=>?_
 obtain ⟨z,e,q⟩:=q1;subst e;obtain ⟨t,rfl⟩:=r1
 have fp:∀ b ∈ [s1.heap.objs.size],rD X pins H1 b:=λ b hb=>by
  have e:b=s1.heap.objs.size:=by simpa using hb
  subst e;exact I1.wU (Zk _) (I1.hok.fresh (Zk _))
 cases ha:z.cps.all (· < 128)
 ·refine wpAny_pyIter_wide ha ?_
  exact ⟨s1.heap.objs.size,[s1.heap.objs.size],_,_,H1,rfl,I1.kept λ b o e=>Heap.get?_push_of_some _ e,tw _ z t,⟨_,Heap.get?_push_size _ rfl,rfl,rfl⟩,fp,q⟩
 ·refine wpAny_pyIter_ascii ha ?_
  exact ⟨s1.heap.objs.size,[s1.heap.objs.size],_,_,H1,rfl,I1.kept (t':=s1.toks) λ b o e=>Heap.get?_push_of_some _ e,rG _ z t,⟨_,Heap.get?_push_size _ rfl,rfl,rfl⟩,fp,q⟩
theorem uA:OpR X (compareOp .LtE) (λ x y H Q=>∃ i j,x=.str i/\y=.str j/\Q (.bl (!decide (j.cps.toList < i.cps.toList))) H):=by
 intro pins s σ H x y v u Q I rx ry h;obtain ⟨i,j,rfl,rfl,q⟩:=h;obtain ⟨t,rfl⟩:=rx;obtain ⟨t',rfl⟩:=ry;exact PySem.P.le_str (aW I q (by simp))
theorem rz:∀ {bs:List Bool} {us:List Value},a7 (bs.map V.bl) us->∀ (i:Nat) (v:Value),us[i]?=some v->∃ b,bs[i]?=some b/\v=Value.bool b
 | [],_,.nil,i,v,e=>by simp at e
 | b::bs,_,.cons r t,0,v,e=>by
  simp at e;subst e;exact ⟨b,by simp,r⟩
 | b::bs,_,.cons r t,i+1,v,e=>by
  obtain ⟨c,h1,h2⟩:=rz t i v (by simpa using e);exact ⟨c,by simpa using h1,h2⟩
theorem yz (hc:X.calm=true):fJ X (.builtin "all") (λ xs H Q=>∃ (p:Addr) (bs:List Bool),xs=[.ref p]/\SqL X.K H p (bs.map V.bl)/\Q (.bl (bs.all id)) H):=by
 intro pins s σ H xs us Q I r h;obtain ⟨p,bs,rfl,hL,q⟩:=h;obtain ⟨u,rfl,ru⟩:=vals1 r;cases (ru);obtain ⟨its,rv,pl,hz⟩:=I.list hL;have hl:=pl.isList;have hlen:=rv.length;rw [Za] at hlen;have hlt:p < s.heap.objs.size:=by obtain ⟨_,e,_⟩:=hl; exact Zr e
 refine call_all_walk (wpAny_pyIter_list hl ?_)
 refine ⟨s.heap.objs.size,[s.heap.objs.size,p],[s.heap.objs.size],its.toArray.size,_,_,λ i=>(bs[i]?).getD true,rfl,Walks.list (A:=X.A.in1) (I.ok.hd hc) _ p (Zz hlt) its.toArray,
  ⟨⟨_,Heap.get?_push_size _ rfl,rfl,rfl⟩,hl.push _⟩,λ i v s' Q' E' hP hQ=>?_,λ h' tk hk=>?_⟩
 ·obtain ⟨b,e,rfl⟩:=rz rv i v (by simpa using hP)
  simp only [e,Option.getD_some] at hQ;exact Yi hQ
 ·have e:((List.range its.toArray.size).all λ i=>(bs[i]?).getD true)=bs.all id:=by
   rw [Zs,<- hlen,Xf,Yw,Yw];constructor
   ·intro hh b hb
    obtain ⟨i,hi,rfl⟩:=List.getElem_of_mem hb;have:=hh i (List.mem_range.mpr hi)
    simpa [List.getElem?_eq_getElem hi] using this
   ·intro hh i hi
    have hi':=List.mem_range.mp hi;simp only [List.getElem?_eq_getElem hi',Option.getD_some];exact hh _ (Y2 hi')
  rw [e];refine ⟨.bl _,H,I.kept λ b x ex=>hk b x (λ hm=>?_) (Heap.get?_push_of_some _ ex),rfl,q⟩;rw [Zo.mp hm] at ex;exact Yp _ (Zr ex)
theorem jz:∀ {ts:List Str} {us:List Value},a7 (ts.map V.str) us->StrsAre us ts
 | [],_,.nil=>.nil
 | x::ts,_,.cons r t=>by
  obtain ⟨tk,rfl⟩:=r;exact .cons x tk (jz t)
theorem Bi:MtR X "str.join" (λ x xs H Q=>∃ (z:Str) (p:Addr) (ts:List Str),x=.str z/\xs=[.ref p]/\SqL X.K H p (ts.map V.str)/\(ts.map (·.length)).sum+ts.length * z.length<=16777216/\Q (.str (Txt.join z ts)) H):=by
 intro pins s σ H x xs v us Q I rx rv h;obtain ⟨z,p,ts,rfl,rfl,hL,hz,q⟩:=h;obtain ⟨t,rfl⟩:=rx;obtain ⟨u,rfl,ru⟩:=vals1 rv;cases (ru);obtain ⟨its,rv',pl,_⟩:=I.list hL;exact join_list pl.isList (by simpa using jz rv') hz λ t' k=>⟨.str _,H,I.tok k,⟨_,rfl⟩,q⟩
end
theorem B2 (h0:closureFor scope X.env=pure cl) (h1:scope.kind=.function) (h2:(scope.names.all λ y=>!(y.2 == .cell))=true)
  (h3:(scope.names.all λ y=>!(y.2 == .local)||(scope.names.lookup y.1 == some .local))=true) (h4:scope.names.lookup x=some .local) (h5:∀ p ∈ cl,X.env.cells.lookup p.1=some p.2)
  (h6:((relabel scope X.env).names.all λ p=>!(p.2 == .cell||p.2 == .free)||(cl.lookup p.1).isSome)=true)
  (h7:∀ p ∈ cs,X.N[p.2]?=some p.1/\X.env.kindOf p.1=some .cell/\(relabel scope X.env).names.lookup p.1=some .cell) (h8:(x::cs.map (·.1)).Nodup):cC X scope cl x cs where
 bD:=h0
 kind:=h1
 fZ:=λ y hy z=>by
  have:=Yw.mp h2 y hy;rw [z] at this;exact absurd this (by decide)
 names:=λ y hy z=>by
  have:=Yw.mp h3 y hy;rw [z] at this
  simpa using this
 own:=h4
 sub:=λ y c e=>h5 (y,c) (Z4 e)
 has:=λ y hy=>by
  have key:∀ k,(relabel scope X.env).names.lookup y=some k->(k=.cell\/k=.free)->∃ c,cl.lookup y=some c:=λ k e hk=>by
   have:=Yw.mp h6 (y,k) (Z4 e);rcases hk with rfl | rfl
   · exact Y8.mp (by simpa using this)
   · exact Y8.mp (by simpa using this)
  rcases hy with hy | hy
  · exact key _ hy (.inl rfl)
  · exact key _ hy (.inr rfl)
 Je:=λ p hp=>⟨(h7 p hp).1,.inl (h7 p hp).2.1,.inl (h7 p hp).2.2⟩
 nd:=h8
def Cv (X:Cx):List (Str×Addr)->Prop
 | []=>True
 | p::r=>X.env.cells.lookup p.1=some p.2/\Cv X r
def AllP (X:Cx) (scope:Scope):List (Str×Nat)->Prop
 | []=>True
 | p::r=>(X.N[p.2]?=some p.1/\X.env.kindOf p.1=some .cell/\(relabel scope X.env).names.lookup p.1=some .cell)/\AllP X scope r
theorem Cv.all:∀ {cl:List (Str×Addr)},Cv X cl->∀ p ∈ cl,X.env.cells.lookup p.1=some p.2
 | [],_,p,h=>by cases h
 | q::r,a,p,h=>by
  rcases Zh.mp h with rfl | h
  · exact a.1
  · exact Cv.all a.2 p h
theorem AllP.all:∀ {cs:List (Str×Nat)},AllP X scope cs->∀ p ∈ cs,X.N[p.2]?=some p.1/\X.env.kindOf p.1=some .cell/\(relabel scope X.env).names.lookup p.1=some .cell
 | [],_,p,h=>by cases h
 | q::r,a,p,h=>by
  rcases Zh.mp h with rfl | h
  · exact a.1
  · exact AllP.all a.2 p h
theorem B1 (cs:List (Str×Nat)) (h0:closureFor scope X.env=pure cl) (h1:scope.kind=.function) (h2:(scope.names.all λ y=>!(y.2 == .cell))=true)
 (h3:(scope.names.all λ y=>!(y.2 == .local)||(scope.names.lookup y.1 == some .local))=true) (h4:scope.names.lookup x=some .local) (h5:Cv X cl)
 (h6:((relabel scope X.env).names.all λ p=>!(p.2 == .cell||p.2 == .free)||(cl.lookup p.1).isSome)=true)
 (h7:AllP X scope cs) (h8:(x::cs.map (·.1)).Nodup):cC X scope cl x cs:=B2 h0 h1 h2 h3 h4 h5.all h6 h7.all h8
structure Fly (P:Program) (w:World) (fs:List Addr) (H H':Hp) (h0 B h:Heap):Prop where
 un:Un fs [] H H' h0 h
 hok:HOk P w H' B
 cov:∀ b o,h0.get? b=some o->H b=none->b ∉ fs->B.get? b=some o
 Cs:∀ b o,h0.get? b=some o->b ∉ fs->∃ o',B.get? b=some o'
theorem Fly.step (F:Fly P w fs H H' h0 B h) (st:B.StaysIn h') (sm:h.UpToSlots h')
  (nf:∀ b ∈ fs,∀ o,h.get? b=some o->∀ vs,o.data≠.fields vs):Fly P w fs H H' h0 B h' where
 un := ⟨λ b o e n hb _=>st b o (F.cov b o e n hb),λ b o e n hb _=>by
   obtain ⟨sl,e1⟩:=F.un.slot b o e n hb (by simp);obtain ⟨sl',e2⟩:=sm b _ e1 (nf b hb _ e1);exact ⟨sl',e2⟩,F.un.free,λ b o e _=>by
   by_cases hb:b ∈ fs
   ·obtain ⟨o1,e1⟩:=F.un.there b o e (by simp)
    obtain ⟨sl',e2⟩:=sm b _ e1 (nf b hb _ e1);exact ⟨_,e2⟩
   ·obtain ⟨o',e1⟩:=F.Cs b o e hb
    exact ⟨o',st b o' e1⟩,F.un.mK,F.un.mr,F.un.lR⟩
 hok:=F.hok
 cov:=F.cov
 Cs:=F.Cs
theorem xP {h base:Heap} {l:List Env} (hl:h.FunFrames base l):∀ b ∈ frs l,∀ o,h.get? b=some o->∀ vs,o.data≠.fields vs:=λ b hb o e=>by
 obtain ⟨_,o',e',nf⟩:=hl.mem hb;rw [e] at e';cases e';exact nf
def CX1 (P:Program) (w:World):CXT:=λ outer H s E e s' =>
 ∃ (ea:Addr) (cls a0:Value) (H':Hp) (B:Heap),e=.ref ea/\s'.os=s.os/\AllBare s'.gens/\Heap.FlyingW B outer ea cls a0 s'.heap/\Fly P w (frs outer) H H' s.heap B s'.heap/\E cls none H'
def zS (X:Cx) (E:XK):Prop:=∀ (pins:List (Addr×Obj)) (σ:St) (H:Hp) (s:Shared) (e:Addr) (cls:Value) (vs:List Value) (h':Heap),Inv X pins σ H s->Heap.MadeExcOf s.heap h' e cls vs->E cls none H->X.xe (.ref e) { s with heap:=h' }
section
variable {P:Program} {w:World} {K:W.Frag} {mg:Str->Option Value} {base:Heap} {N:List Str} {qual:Str} {scope:Scope} {f:Addr} {cd:Value} {A:Around} {outer:List Env} {s:Shared} {H:Hp} {E:XK}
theorem t9:zS (lr (CX1 P w) P w K mg base N qual scope f cd A outer s H E) E:=by
 intro pins σ H1 s1 e cls vs h' I hx hE;show wpAny (model P w) (A.deeper (envOfC qual scope s.heap.objs.size f cd)) (leaving (envOfC qual scope s.heap.objs.size f cd) (.ref e)) (λ _ s''=>CX1 P w outer H s E (.ref e) s'') (λ e' s''=>CX1 P w outer H s E e' s'') { s1 with heap:=h' };generalize hX:lr (CX1 P w) P w K mg base N qual scope f cd A outer s H E=X at I;have hfr:X.A.frames=some (envOfC qual scope s.heap.objs.size f cd::outer):=by rw [I.ok.frames,<- hX]; rfl
 have hst:X.stack=envOfC qual scope s.heap.objs.size f cd::outer:=by rw [<- hX]; rfl
 have hfs:X.fs=frs outer:=by rw [<- hX]; rfl
 have bs:=I.base;rw [hfs] at bs;have hs0:X.s₀=s:=by rw [<- hX]; rfl
 have hH0:X.H₀=H:=by rw [<- hX]; rfl
 have hex:X.ex=[]:=by rw [<- hX]; rfl
 have hA:X.A=A.deeper (envOfC qual scope s.heap.objs.size f cd):=by rw [<- hX]; rfl
 have hP:X.prog=P:=by rw [<- hX]; rfl
 have hw:X.w=w:=by rw [<- hX]; rfl
 rw [hs0,hH0,hex] at bs;have stk:=I.stack;have dF:=I.dF;have iz:=I.iz;rw [hst] at stk dF iz;have hok:=I.hok;rw [hP,hw] at hok;rw [hA] at hfr;have aboveL:s.heap.objs.size<=X.env.locals:=by have:=I.ok.above; rw [hs0] at this; exact this
 have hin:∀ env ∈ (envOfC qual scope s.heap.objs.size f cd::outer),∀ b,env.frame=some b->b ∈ frs (envOfC qual scope s.heap.objs.size f cd::outer):=λ env he b hb=>Xc.mpr ⟨env,he,hb⟩
 refine wpAny_leaves_madeW (base:=PySem.W.hideAll s1.heap (frs (envOfC qual scope s.heap.objs.size f cd::outer))) (h:=s1.heap) hfr rfl (λ b o q=>PySem.W.of_hideAll _ q) (PySem.W.funFrames_hide stk hin) hx λ h'' t x1 x2 x3 x4=>?_
 have inB:∀ b o,s1.heap.get? b=some o->b ∉ frs (envOfC qual scope s.heap.objs.size f cd::outer)->(PySem.W.hideAll s1.heap (frs (envOfC qual scope s.heap.objs.size f cd::outer))).get? b=some o:=λ b o q hb=>PySem.W.hideAll_get _ q hb
 have notF:∀ b u,H1 b=some u->b ∉ frs (envOfC qual scope s.heap.objs.size f cd::outer):=λ b u q z=>by rw [iz b z] at q; cases q
 have neL:∀ b o,s.heap.get? b=some o->b ∉ frs outer->b ∉ frs (envOfC qual scope s.heap.objs.size f cd::outer):=λ b o q hb z =>
  (Zh.mp (dF b z)).elim (Zz (Z0 (Zr q) aboveL)) (λ z'=>hb (by rw [<- hfs]; exact z'))
 have sub:∀ b,b ∈ frs outer->b ∈ frs (envOfC qual scope s.heap.objs.size f cd::outer):=λ b hb=>by
  obtain ⟨env,he,hf⟩:=Xc.mp hb;exact Xc.mpr ⟨env,Zd _ he,hf⟩
 have nf:=xP stk;have cov:∀ b o,s.heap.get? b=some o->H b=none->b ∉ frs outer->(PySem.W.hideAll s1.heap (frs (envOfC qual scope s.heap.objs.size f cd::outer))).get? b=some o:=λ b o q n hb=>inB b o (bs.keep b o q n hb (by simp)) (neL b o q hb)
 have Cs:∀ b o,s.heap.get? b=some o->b ∉ frs outer->∃ o',(PySem.W.hideAll s1.heap (frs (envOfC qual scope s.heap.objs.size f cd::outer))).get? b=some o':=λ b o q hb=>by
  obtain ⟨o1,e1⟩:=bs.there b o q (by simp);exact ⟨o1,inB b o1 e1 (neL b o q hb)⟩
 refine ⟨e,cls,_,H1,_,rfl,by have:=I.os; rw [hs0] at this; exact this,I.bare,x1,⟨⟨λ b o q n hb _=>x1.1 b o (cov b o q n hb),λ b o q n hb _=>?_,bs.free,λ b o q _=>?_,bs.mK,bs.mr,bs.lR⟩,λ b u q=>?_,cov,Cs⟩,hE⟩
 ·obtain ⟨sl,e1⟩:=bs.slot b o q n hb (by simp)
  obtain ⟨sl',e2⟩:=x4 b _ (hx.keeps b _ e1) (nf b (sub b hb) _ e1);exact ⟨sl',e2⟩
 ·obtain ⟨o1,e1⟩:=bs.there b o q (by simp)
  by_cases hb:b ∈ frs (envOfC qual scope s.heap.objs.size f cd::outer)
  ·obtain ⟨sl',e2⟩:=x4 b _ (hx.keeps b _ e1) (nf b hb _ e1)
   exact ⟨_,e2⟩
  · exact ⟨o1,x1.1 b o1 (inB b o1 e1 hb)⟩
 ·exact (hok b u q).oT (λ c v hc z=>inB c v z (by
   rcases hc with rfl | hc
   · exact notF _ _ q
   · exact notF _ _ hc)) (λ _ z=>z) λ _ _ z=>z
theorem jH:fj (CX1 P w) (lr (CX1 P w) P w K mg base N qual scope f cd A outer s H E) E:=by
 intro pins σ H1 s1 e s' I h;obtain ⟨ea,cls,a0,H',B,rfl,os,bare,fl,fy,hE⟩:=h;show wpAny (model P w) (A.deeper (envOfC qual scope s.heap.objs.size f cd)) (leaving (envOfC qual scope s.heap.objs.size f cd) (.ref ea)) (λ _ s''=>CX1 P w outer H s E (.ref ea) s'') (λ e' s''=>CX1 P w outer H s E e' s'') s';generalize hX:lr (CX1 P w) P w K mg base N qual scope f cd A outer s H E=X at I fl fy;have hst:X.stack=envOfC qual scope s.heap.objs.size f cd::outer:=by rw [<- hX]; rfl
 have hfr:X.A.frames=some (envOfC qual scope s.heap.objs.size f cd::outer):=by rw [I.ok.frames,hst]
 have hfs:X.fs=frs outer:=by rw [<- hX]; rfl
 have bs:=I.base;rw [hfs] at bs;have hs0:X.s₀=s:=by rw [<- hX]; rfl
 have hH0:X.H₀=H:=by rw [<- hX]; rfl
 have hex:X.ex=[]:=by rw [<- hX]; rfl
 have hA:X.A=A.deeper (envOfC qual scope s.heap.objs.size f cd):=by rw [<- hX]; rfl
 rw [hs0,hH0,hex] at bs;have dF:=I.dF;rw [hst] at dF fl fy;rw [hA] at hfr;have aboveL:s.heap.objs.size<=X.env.locals:=by have:=I.ok.above; rw [hs0] at this; exact this
 refine wpAny_leaves_onW hfr rfl fl λ h'' x1 x2=>?_
 have neL:∀ b o,s.heap.get? b=some o->b ∉ frs outer->b ∉ frs (envOfC qual scope s.heap.objs.size f cd::outer):=λ b o q hb z =>
  (Zh.mp (dF b z)).elim (Zz (Z0 (Zr q) aboveL)) (λ z'=>hb (by rw [<- hfs]; exact z'))
 have nf:=xP fl.2.2.1;have fy2:=fy.step x1.1 x2 nf;have cov:∀ b o,s.heap.get? b=some o->H b=none->b ∉ frs outer->B.get? b=some o:=λ b o q n hb=>fy.cov b o (bs.keep b o q n hb (by simp)) (bs.free b o q n (by simp)) (neL b o q hb)
 refine ⟨ea,cls,a0,H',B,rfl,os.trans (by have:=I.os; rw [hs0] at this; exact this),bare,x1,⟨⟨λ b o q n hb _=>x1.1 b o (cov b o q n hb),λ b o q n hb _=>?_,λ b o q n _=>?_,λ b o q _=>?_,λ b xs q=>fy.un.mK b xs (bs.mK b xs q),λ b o u q=>fy.un.mr b o u (bs.mr b o u q),λ b ps q=>?_⟩,fy.hok,cov,λ b o q hb=>?_⟩,hE⟩
 ·obtain ⟨sl,e1⟩:=bs.slot b o q n hb (by simp)
  obtain ⟨sl',e2⟩:=fy2.un.any e1 (bs.free b o q n (by simp)) (by simp);exact ⟨sl',e2⟩
 ·obtain ⟨o1,e1⟩:=bs.there b o q (by simp)
  exact fy.un.free b o1 e1 (bs.free b o q n (by simp)) (by simp)
 ·obtain ⟨o1,e1⟩:=bs.there b o q (by simp)
  exact fy2.un.there b o1 e1 (by simp)
 ·obtain ⟨m1,e1⟩:=bs.lR b ps q
  obtain ⟨m2,e2⟩:=fy.un.lR b _ e1;exact ⟨m1++m2,by rw [e2,Array.append_assoc]⟩
 ·obtain ⟨o1,e1⟩:=bs.there b o q (by simp)
  exact fy.Cs b o1 e1 (neL b o q hb)
end
theorem Fun.okX {P:Program} {w:World} {K:W.Frag} {mg:Str->Option Value} {base:Heap} {x qual:Str} {st:Stmt} {f:Addr} {fd:FuncData} {N ps:List Str} {k:Nat} {sp:Sp} (F:Fun K x qual st f fd) (S:dt N ps (ax st)) (len:∀ vs H Q E,sp vs H Q E->vs.length=ps.length)
  (hbody:∀ (cdv:Value) (A:Around) (outer:List Env) (s:Shared) (H:Hp) (vs:List V) (Q:VK) (E:XK),cg k (A.deeper (envOfC qual (ax st) s.heap.objs.size f cdv))->sp vs H Q E ->
    ∃ t,PSs (lr (CX1 P w) P w K mg base N qual (ax st) f cdv A outer s H E) (aO st) t/\t { nx:=λ _ H'=>Q .non H',rt:=Q } (start N vs) H):gL P w K mg base (CX1 P w) (k+1) f fd ps sp:=by
 obtain ⟨oc,od,kV,doc,pm,an,cdv,ct,osl,rfl,lk,hcd⟩:=F.ex;refine vC lk hcd S len λ A outer s H vs Q E hr hsp=>?_
 obtain ⟨t,h,q⟩:=hbody cdv A outer s H vs Q E hr hsp;exact ⟨t,h,q⟩
end L2
end
section
namespace L2
open PySem PySem.Spec PySem.W PySem.Calls PyProof.Rows
def J6:List Value:=[.type "ValueError",.type "Exception",.type "BaseException",.type "object"]
theorem Dz {K:Frag} {h₀:Heap} {mg:Str->Option Value} {x:Str} {C:Addr} {bmB:List Value} {newId:String} (X:K.In h₀) (e:mg x=some (.ref C)) (q:excIn K C bmB newId=true):OwnCls x C bmB newId mg h₀:=by
 refine ⟨e,?_⟩;unfold excIn at q;split at q
 ·rename_i dd cd sl ho
  split at q
  ·rename_i C' bm k0 k1 k2 k3 n k5 hm hs
   simp only [Z8,beq_iff_eq,Yz] at q;obtain ⟨⟨⟨⟨⟨rfl,rfl⟩,hdel⟩,ht⟩,hok⟩,hni⟩:=q;obtain ⟨nm,bs,mro,ns,qn,hd,sn,sub,ab,col,del⟩:=cd;dsimp only at hm hdel hok hni;subst hm hdel
   have hsl:sl=#[k0,k1,k2,k3,some (.builtin n),k5]:=by
    obtain ⟨l⟩:=sl;simp only at hs;rw [hs]
   subst hsl;exact ⟨bm,ns,nm,qn,bs,hd,sn,sub,ab,col,dd,k0,k1,k2,k3,k5,_,X _ _ ho,.of_isNs (isNs_of_in X hok),nsMap_none_of_in X hok hni,tail_of_in X ht⟩
  · cases q
 · cases q
def CK (t:TA) (E:XK) (C:Addr):TS:=λ _ σ H=>t σ H λ vs H1=>vs.length<=sizeLine/\E (.ref C) none H1
theorem xB {X:Cx} {E:XK} {x:Str} {C:Addr} {np cpos pos:Pos} {e₀:Expr} {rest:List Expr} {t:TA} (hR:zS X E) (hc:X.calm=true) (hex:excIn X.K C J6 "ValueError.__new__"=true) (hg:Gl X x) (hm:X.mg x=some (.ref C))
  (ha:PA X (e₀::rest) t) (he:starEach (e₀::rest) X.env=(false,eval e₀ X.env)::starEach rest X.env:=by rfl)
  (hplain:(backTo cpos (starEach rest X.env)).any (·.1)=false:=by rfl) (hd:(x == ("__debug__":Str))=false:=by decide) :
  PS X (.Raise (some (.Call (.Name x np) (e₀::rest) [] cpos)) none pos) (CK t E C):=by
 intro pins s σ H D I h;have O:=Dz (mg:=X.mg) (x:=x) I.ok.mod.kin hm hex;obtain ⟨tl,N,nm,q,bs,hdct,sn,sub,ab,col,dd,k0,k1,k2,k3,k5,mN,hC,hN,hni,T⟩:=O.obj
 refine wpAny_Raise_call_subT (C:=C) (nm:=nm) (q:=q) (N:=N) (bs:=bs) (bm:=tl) (hdct:=hdct) (sn:=sn) (sub:=sub) (ab:=ab) (col:=col) (dd:=dd) (k0:=k0) (k1:=k1) (k2:=k2) (k3:=k3) (k5:=k5)
  PySem.F.excBase_ValueError (mN:=mN) (T.hasType PySem.F.excBase_ValueError.hasBase) (I.ok.hd hc) (by rw [he]; show (false||(backTo cpos (starEach rest X.env)).any (·.1))=false; rw [hplain]; rfl) hni (iI I hg hm ⟨rfl,?_⟩ hd)
 have A1:=ha cpos pins s σ H _ I h;rw [he] at A1 ⊢;exact Calls.evalArgs_plain (thn A1 λ us s1 ⟨vs,H1,I1,r,z,q⟩=>⟨rfl,by rw [<- r.length]; exact z,I1.bk _ _ hC,hN.keeps I1.bk,T.keeps I1.bk,λ h' e mk=>hR pins σ H1 s1 e _ _ h' I1 mk q⟩)
def nA (X:Cx) (ea:Addr):Cx:={ X with A:=X.A.mark (some (.ref ea)),calm:=false,xe:=λ _ _=>False }
section
variable {X:Cx} {pins:List (Addr×Obj)} {σ:St} {H:Hp} {s:Shared} {ea:Addr}
theorem Cx.Ok.mark (ok:X.Ok):(nA X ea).Ok:=⟨ok.mod,ok.kind,ok.glob,ok.blt,ok.above,ok.inj,ok.has,ok.cab,λ z=>absurd (show false=true from z) Zf,ok.frames,ok.stk,ok.exf,ok.bs,ok.bsz,ok.A3,ok.Cq,ok.mM,ok.frf⟩
theorem Inv.mark (I:Inv X pins σ H s):Inv (nA X ea) pins σ H s:=⟨I.ok.mark,I.os,I.bare,I.base,I.loc,I.cell,I.free,I.dS,I.pin,I.hok,I.len⟩
theorem Inv.unmark (ok:X.Ok) (I:Inv (nA X ea) pins σ H s):Inv X pins σ H s:=⟨ok,I.os,I.bare,I.base,I.loc,I.cell,I.free,I.dS,I.pin,I.hok,I.len⟩
theorem SP.unmark (ok:X.Ok) (h:SP (nA X ea) pins D f s'):SP X pins D f s':=by
 cases f with
 | next=>obtain ⟨σ',H',I,q⟩:=h; exact ⟨σ',H',I.unmark ok,q⟩
 | brk=>obtain ⟨σ',H',I,q⟩:=h; exact ⟨σ',H',I.unmark ok,q⟩
 | cont=>obtain ⟨σ',H',I,q⟩:=h; exact ⟨σ',H',I.unmark ok,q⟩
 | ret u=>obtain ⟨v,σ',H',I,r,q⟩:=h; exact ⟨v,σ',H',I.unmark ok,r,q⟩
end
abbrev THn:=Ends->St->Hp->Addr->Value->Prop
def PH (X:Cx) (hs:List ExceptHandler) (th:THn):Prop :=
  ∀ (pins:List (Addr×Obj)) (s0 s:Shared) (σ:St) (H H':Hp) (D:Ends) (ea:Addr) (cls a0:Value) (B:Heap),Inv X pins σ H s0->Fly X.prog X.w (frs X.stack) H H' s0.heap B s.heap->s.os=s0.os->AllBare s.gens ->
    Heap.FlyingW B X.stack ea cls a0 s.heap->th D σ H' ea cls->wpAny (model X.prog X.w) X.A (handleBy (.ref ea) X.env hs) (SP X pins D) X.xe s
theorem Fly.inv (I:Inv X pins σ H s0) (F:Fly X.prog X.w (frs X.stack) H H' s0.heap B s.heap) (ho:s.os=s0.os) (hg:AllBare s.gens) (st:B.StaysIn s.heap):Inv X pins σ H' s :=
 I.yA (ch:=[]) ho F.un (F.hok.kept st) hg λ b z=>absurd z (by simp)
section
variable {X:Cx} {x:Str} {C:Addr} {p pos:Pos} {b₀:Stmt} {suite:List Stmt} {rest:List ExceptHandler} {ts:TS} {th:THn}
def Gf (K:Frag) (C:Addr) (ts:TS) (th:THn):THn:=λ D σ H ea cls=>∃ b,exmOne K cls (.ref C)=some b/\if b=true then ts D σ H else th D σ H ea cls
theorem ze:PH X [] (λ _ _ _ _ _=>False):=λ _ _ _ _ _ _ _ _ _ _ _ _ _ _ _ _ h=>h.elim
theorem ya (I:Inv X pins σ H s) (hg:Gl X x) (hm:X.mg x=some u) (h:Q u s)
  (hd:(x == ("__debug__":Str))=false:=by decide):wpAny (model X.prog X.w) A (eval (.Name x pos) X.env) Q E s :=
 Xk I.ok.kind hg (Calls.loadGlobal_global (by rw [I.ok.glob]; exact I.mod.glob.keeps I.bk) hm h) hd
theorem zd (hg:Gl X x) (hm:X.mg x=some (.ref C)) (hs:∀ ea,PSs (nA X ea) (b₀::suite) ts) (hr:PH X rest th) (hd:(x == ("__debug__":Str))=false:=by decide) :
  PH X (.ExceptHandler (some (.Name x p)) none (b₀::suite) pos::rest) (Gf X.K C ts th):=by
 intro pins s0 s σ H H' D ea cls a0 B I F ho hb fl h;obtain ⟨b,he,h⟩:=h;have I1:=F.inv I ho hb fl.1
 have LT:Looks (model X.prog X.w) s.heap (typeOf (.ref ea)) cls:=by
  obtain ⟨ob,hob,hc⟩:=fl.there;subst hc;exact (Looks.ld hob).andThen .now
 refine wpAny_handleBy_cons (codeAny_handlers_test (ya I1 hg hm ((exm_one I1.kIn LT he).here ?_) hd)) (by intro q; cases q)
 cases b with
 | false=>exact hr pins s0 s σ H H' D ea cls a0 B I F ho hb fl h
 | true =>
  refine codeAny_handlers_suite (lands_againW fl λ h6 fl6 sm6=>?_);have F6:=F.step fl6.1 sm6 (xP fl.2.2.1);have I6:Inv X pins σ H' { s with heap:=h6 }:=F6.inv (s:={ s with heap:=h6 }) I ho hb fl6.1;exact Z9 (hs ea pins _ σ H' D I6.mark h) (λ f s2 q=>q.unmark I.ok) λ _ _ q=>q.elim
end
def lQ (X:Cx) (pn:List (Addr×Obj)) (E:Value->Shared->Prop):Cx:={ X with pn:=pn,xe:=E }
section
variable {X:Cx} {pins:List (Addr×Obj)} {σ:St} {H:Hp} {s:Shared} {E:Value->Shared->Prop}
theorem Cx.Ok.into (ok:X.Ok) {pn:List (Addr×Obj)}:(lQ X pn E).Ok:=⟨ok.mod,ok.kind,ok.glob,ok.blt,ok.above,ok.inj,ok.has,ok.cab,ok.hd,ok.frames,ok.stk,ok.exf,ok.bs,ok.bsz,ok.A3,ok.Cq,ok.mM,ok.frf⟩
theorem Inv.into (I:Inv X pins σ H s):Inv (lQ X (X.pn++pins) E) [] σ H s:=⟨I.ok.into,I.os,I.bare,I.base,I.loc,I.cell,I.free,I.dS,λ p hp=>I.pin p (by
 have hp':p ∈ (X.pn++pins)++[]:=hp
 simpa using hp'),I.hok,I.len⟩
theorem Inv.out (ok:X.Ok) (I:Inv (lQ X (X.pn++pins) E) pins' σ H s):Inv X pins σ H s:=⟨ok,I.os,I.bare,I.base,I.loc,I.cell,I.free,I.dS,λ p hp=>I.pin p (Zn _ hp),I.hok,I.len⟩
end
def ir (CX:CXT) (X:Cx) (σ:St) (E:XK):Prop:=∀ (pins:List (Addr×Obj)) (H:Hp) (s:Shared) (e:Value) (s':Shared),Inv X pins σ H s->CX X.stack H s E e s'->X.xe e s'
theorem fj.at (h:fj CX X E) (σ:St):ir CX X σ E:=λ pins H s e s' I q=>h pins σ H s e s' I q
def Kb (tb:(St->XK)->TS) (th:THn) (te:TS):TS:=λ D σ H=>tb (λ σ' cls _ H'=>∀ ea,th D σ' H' ea cls) { D with nx:=te D } σ H
theorem zc
  (hb:∀ (pn:List (Addr×Obj)) (E:Value->Shared->Prop) (EX:St->XK),(∀ σ,ir (CX1 X.prog X.w) (lQ X pn E) σ (EX σ))->PSs (lQ X pn E) body (tb EX))
  (hh:PH X (h₀::hs) th) (ho:PSs X orelse te) (hst:X.stack=X.env::X.outer) (hf:X.env.frame=some L):PS X (.Try body (h₀::hs) orelse [] pos) (Kb tb th te):=by
 intro pins s σ H D I h;refine wpAny_Try_except ?_
 refine Z9 (hb (X.pn++pins) (λ e s₁=>wpAny (model X.prog X.w) X.A (noteFrame e X.env) (λ _ s₂=>wpAny (model X.prog X.w) X.A (setFlight e none) (λ _ s₃=>wpAny (model X.prog X.w) X.A (handleBy e X.env (h₀::hs)) (SP X pins D) X.xe s₃) X.xe s₂) X.xe s₁)
  (λ σ' cls _ H'=>∀ ea,th D σ' H' ea cls) ?_ [] s σ H { D with nx:=te D } I.into h) (λ f s1 q=>?_) λ e s1 q=>q
 ·intro σ' pins' H1 s1 e s' I' hc
  obtain ⟨ea,cls,a0,H',B,rfl,os,bare,fl,fy,hE⟩:=hc;have I1:Inv X pins σ' H1 s1:=I'.out I.ok;have fl':Heap.FlyingW B (X.env::X.outer) ea cls a0 s'.heap:=by rw [<- hst]; exact fl
  refine wpAny_looks_onW (by rw [I.ok.frames,hst]) hf fl' λ h4 held4 sm4=>?_
  refine wpAny_landsW held4 λ h5 fl5 sm5=>?_
  have F5:Fly X.prog X.w (frs X.stack) H1 H' s1.heap B h5:=fy.step fl5.1 (sm4.trans sm5) (xP fl.2.2.1);exact hh pins s1 { s' with heap:=h5 } σ' H1 H' D ea cls a0 B I1 F5 os bare (by rw [hst]; exact fl5) (hE ea)
 ·cases f with
  | next=>obtain ⟨σ',H',I',q⟩:=q; exact ho pins s1 σ' H' D (I'.out I.ok) q
  | brk=>obtain ⟨σ',H',I',q⟩:=q; exact ⟨σ',H',I'.out I.ok,q⟩
  | cont=>obtain ⟨σ',H',I',q⟩:=q; exact ⟨σ',H',I'.out I.ok,q⟩
  | ret u=>obtain ⟨v,σ',H',I',r,q⟩:=q; exact ⟨v,σ',H',I'.out I.ok,r,q⟩
section
variable {X:Cx} {CX:CXT} {k:Nat} {f C:Addr} {fd:FuncData} {ps:List Str} {sp:Sp} {dvs:List V} {ds:List Value} {EX:St->XK} {x m:Str} {p pos apos:Pos} {e o:Expr} {es:List Expr} {ta:TE} {t:TA}
theorem tV (F:gL X.prog X.w X.K X.mg X.base CX k f fd ps sp) (hr:cg k X.A) (hb:Binds X.K fd ps ds) (hd:a7 dvs ds) (hx:ir CX X σ E)
  (I:Inv X pins σ H s) (r:a7 vs us) (h:sp (vs++dvs) H Q E):wpAny (model X.prog X.w) X.A (call (.ref f) us) (EP X pins σ Q) X.xe s:=by
 have r2:a7 (vs++dvs) (us++ds):=r.append hd;have hl:(us++ds).length=ps.length:=by rw [<- r2.length]; exact F.len _ _ _ _ h
 refine wpAny_call (Xo (F.run X.A X.stack s H ⟨us,[]⟩ (us++ds) (vs++dvs) Q E hr I.EJ (hb s us I.kIn hl) r2 h) λ r s' hq=>?_)
 cases r with
 | error e=>exact hx pins H s e s' I hq
 | ok fl =>
  cases fl with
  | ret u=>exact I.after hq
  | next=>exact False.elim hq
  | brk=>exact False.elim hq
  | cont=>exact False.elim hq
def CT (sp:Sp) (dvs:List V) (EX:St->XK) (t:TA):TE:=λ σ H Q=>t σ H λ vs H1=>sp (vs++dvs) H1 Q (EX σ)
theorem l3 (F:gL X.prog X.w X.K X.mg X.base CX k f fd ps sp) (hr:cg k X.A) (hg:Gl X x) (hm:X.mg x=some (.ref f)) (hk:keepIn X.K (.ref f)=true) (hb:Binds X.K fd ps ds) (hd:a7 dvs ds) (hx:∀ σ,ir CX X σ (EX σ))
  (ha:PA X (e::es) t) (hdb:(x == ("__debug__":Str))=false:=by decide) (he:starEach (e::es) X.env=(false,eval e X.env)::starEach es X.env:=by rfl) (hpl:(backTo pos (starEach es X.env)).any (·.1)=false:=by rfl) :
  PE X (.Call (.Name x p) (e::es) [] pos) (CT sp dvs EX t):=by
 intro pins s σ H Q I h;refine Yo (iI I hg hm ?_ hdb);refine callWith_K (h₀:=X.base) I.ok.mod.kin hk (thn (ha pos pins s σ H _ I h) λ us s1 ⟨vs,H1,I1,r,q⟩=>⟨I1.kIn,?_⟩) he hpl;exact tV F hr hb hd (hx σ) I1 r q
end
end L2
end
section
namespace L2
open PySem PySem.Spec PySem.W PySem.Calls PyProof.Rows Builtin Builtin.ObjectAttr Builtin.Getset_descriptor
def Ly (K:Frag) (D:Addr):Bool :=
 (clsIn K D).isSome&&(findIn K (.ref D) "__getattribute__" == some (some (.builtin "BaseException.__getattribute__")))&&(findIn K (.ref D) "__getattr__" == some none) &&
 (findIn K (.ref D) "__class__" == some (some (.builtin "object.__class__")))&&(specialIn K (.builtin "object.__class__") "__get__" == some (some (.builtin "getset_descriptor.__get__"))) &&
 (takesIn K (.builtin "object.__class__") == some true)&&(mroIn K D (.type "object") == some true)&&(mroIn K D (.type "BaseException") == some true)
end L2
end
section
namespace L2
open PySem PySem.Spec PySem.W PySem.Calls PyProof.Rows
section
variable {X:Cx} {pins:List (Addr×Obj)} {σ:St} {H:Hp} {s:Shared}
theorem Inv.rH (I:Inv X pins σ H s) (hn:H a=none) (h0:X.s₀.heap.get? a=none) (hl:a≠X.env.locals) (hc:∀ x c,X.env.cells.lookup x=some c->c≠a) (hp:∀ p ∈ X.pn++pins,p.1≠a)
  (ok:bT X.prog X.w (upd H a o) s.heap a o):Inv X pins σ (upd H a o) s:=by
 have n0:∀ b u,X.s₀.heap.get? b=some u->b≠a:=λ b u e z=>by rw [z,h0] at e; cases e
 have nH:∀ b u,H b=some u->b≠a:=λ b u e z=>by rw [z,hn] at e; cases e
 refine ⟨I.ok,I.os,I.bare,⟨I.base.keep,I.base.slot,λ b u e n hx=>?_,I.base.there,λ b xs e=>?_,λ b u xs e=>?_,λ b ps e=>?_⟩,I.loc,I.cell,?_,λ x c e=>?_,λ p h=>?_,λ b u e=>?_,I.len⟩
 · rw [af (n0 b u e)]; exact I.base.free b u e n hx
 · have z:=I.base.mK b xs e; rw [af (nH b _ z)]; exact z
 · have z:=I.base.mr b u xs e; rw [af (nH b _ z)]; exact z
 ·obtain ⟨more,z⟩:=I.base.lR b ps e
  exact ⟨more,by rw [af (nH b _ z)]; exact z⟩
 · rw [af (Ne.symm hl)]; exact I.free
 · rw [af (hc x c e)]; exact I.dS x c e
 ·obtain ⟨z1,z2,z3⟩:=I.pin p h
  exact ⟨z1,by rw [af (hp p h)]; exact z2,z3⟩
 ·by_cases hb:b=a
  · subst hb; rw [ai] at e; cases e; exact ok
  ·rw [af hb] at e
   exact (I.hok b u e).oT (λ _ _ _ q=>q) (λ c q=>by rw [af (nH c _ q)]; exact q) λ c xs q=>by rw [af (nH c _ q)]; exact q
end
end L2
end
section
namespace L2
open PySem PySem.Spec PyProof.Rows
inductive D where
 | non | bl (b:Bool) | int (i:Int) | str (x:Str) | ty (n:String)
 | tup (ds:List D) | lst (ds:List D) | fz (ds:List D) | dct (kvs:List (Key×D)) | obj (C:Addr) (fs:List (Str×D)) | cls (C:Addr) | dfz (kvs:List (Key×D))
mutual
inductive Rp (K:W.Frag) (H:Hp):V->D->Prop where
 | non:Rp K H .non .non
 | bl (b:Bool):Rp K H (.bl b) (.bl b)
 | int (i:Int):Rp K H (.int i) (.int i)
 | str (x:Str):Rp K H (.str x) (.str x)
 | ty (n:String):Rp K H (.ty n) (.ty n)
 | cls (C:Addr):Rp K H (.ref C) (.cls C)
 | tup {a:Addr} {xs:List V} {ds:List D} (h:SqT K H a xs) (r:Rps K H xs ds):Rp K H (.ref a) (.tup ds)
 | lst {a:Addr} {xs:List V} {ds:List D} (h:H a=some (.lst xs)) (r:Rps K H xs ds):Rp K H (.ref a) (.lst ds)
 | fz {a:Addr} {xs:List V} {ds:List D} (h:SqL K H a xs) (r:Rps K H xs ds):Rp K H (.ref a) (.fz ds)
 | dct {a:Addr} {kvs:List (Key×V)} {ds:List (Key×D)} (h:H a=some (.dK kvs)) (r:RpK K H kvs ds):Rp K H (.ref a) (.dct ds)
 | obj {a C dx:Addr} {fs:List (Str×V)} {ds:List (Str×D)} (h:H a=some (.ins C dx fs)) (r:RpF K H fs ds):Rp K H (.ref a) (.obj C ds)
 | dfz {a:Addr} {kvs:List (Key×V)} {ds:List (Key×D)} (h:Rd H a (.dK kvs)) (r:RpK K H kvs ds):Rp K H (.ref a) (.dfz ds)
inductive Rps (K:W.Frag) (H:Hp):List V->List D->Prop where
 | nil:Rps K H [] []
 | cons {x:V} {d:D} {xs:List V} {ds:List D} (h:Rp K H x d) (r:Rps K H xs ds):Rps K H (x::xs) (d::ds)
inductive RpK (K:W.Frag) (H:Hp):List (Key×V)->List (Key×D)->Prop where
 | nil:RpK K H [] []
 | cons {k:Key} {x:V} {d:D} {xs:List (Key×V)} {ds:List (Key×D)} (h:Rp K H x d) (r:RpK K H xs ds):RpK K H ((k,x)::xs) ((k,d)::ds)
inductive RpF (K:W.Frag) (H:Hp):List (Str×V)->List (Str×D)->Prop where
 | nil:RpF K H [] []
 | cons {k:Str} {x:V} {d:D} {xs:List (Str×V)} {ds:List (Str×D)} (h:Rp K H x d) (r:RpF K H xs ds):RpF K H ((k,x)::xs) ((k,d)::ds)
end
section
variable {K:W.Frag} {H H':Hp}
mutual
theorem Rp.same (g:ba H H'):∀ {v:V} {d:D},Rp K H v d->Rp K H' v d
 | _,_,.non=>.non
 | _,_,.bl b=>.bl b
 | _,_,.int i=>.int i
 | _,_,.str x=>.str x
 | _,_,.ty n=>.ty n
 | _,_,.cls n=>.cls n
 | _,_,.tup h r=>.tup (g.tup h) (Rps.same g r)
 | _,_,.lst h r=>.lst (g _ _ h) (Rps.same g r)
 | _,_,.fz h r=>.fz (g.seq h) (Rps.same g r)
 | _,_,.dct h r=>.dct (g _ _ h) (RpK.same g r)
 | _,_,.obj h r=>.obj (g _ _ h) (RpF.same g r)
 | _,_,.dfz h r=>.dfz (h.elim (λ z=>.inl (g _ _ z)) λ ⟨o,z⟩=>.inr ⟨o,g _ _ z⟩) (RpK.same g r)
theorem Rps.same (g:ba H H'):∀ {v:List V} {d:List D},Rps K H v d->Rps K H' v d
 | _,_,.nil=>.nil
 | _,_,.cons h r=>.cons (Rp.same g h) (Rps.same g r)
theorem RpK.same (g:ba H H'):∀ {v:List (Key×V)} {d:List (Key×D)},RpK K H v d->RpK K H' v d
 | _,_,.nil=>.nil
 | _,_,.cons h r=>.cons (Rp.same g h) (RpK.same g r)
theorem RpF.same (g:ba H H'):∀ {v:List (Str×V)} {d:List (Str×D)},RpF K H v d->RpF K H' v d
 | _,_,.nil=>.nil
 | _,_,.cons h r=>.cons (Rp.same g h) (RpF.same g r)
end
theorem Rps.length:∀ {xs:List V} {ds:List D},Rps K H xs ds->xs.length=ds.length
 | _,_,.nil=>rfl
 | _,_,.cons _ r=>Z7 (·+1) r.length
theorem Rps.get:∀ {xs:List V} {ds:List D} {i:Nat} {d:D},Rps K H xs ds->ds[i]?=some d->∃ x,xs[i]?=some x/\Rp K H x d
 | _,_,_,_,.nil,e=>by simp at e
 | _,_,0,_,.cons h _,e=>by simp at e; subst e; exact ⟨_,by simp,h⟩
 | _,_,i+1,d,.cons _ r,e=>by
  obtain ⟨x,h1,h2⟩:=Rps.get (i:=i) (d:=d) r (by simpa using e);exact ⟨x,by simpa using h1,h2⟩
theorem Rps.append:∀ {xs ys:List V} {ds es:List D},Rps K H xs ds->Rps K H ys es->Rps K H (xs++ys) (ds++es)
 | _,_,_,_,.nil,h=>h
 | _,_,_,_,.cons h r,h'=>.cons h (Rps.append r h')
theorem Rps.take:∀ {xs:List V} {ds:List D} (n:Nat),Rps K H xs ds->Rps K H (xs.take n) (ds.take n)
 | _,_,0,_=>.nil
 | _,_,_+1,.nil=>.nil
 | _,_,n+1,.cons h r=>.cons h (Rps.take n r)
theorem Rps.drop:∀ {xs:List V} {ds:List D} (n:Nat),Rps K H xs ds->Rps K H (xs.drop n) (ds.drop n)
 | _,_,0,h=>h
 | _,_,_+1,.nil=>.nil
 | _,_,n+1,.cons _ r=>Rps.drop n r
theorem Rps.ints:∀ (ns:List Int),Rps K H (ns.map V.int) (ns.map D.int)
 | []=>.nil
 | n::ns=>.cons (.int n) (Rps.ints ns)
theorem Rps.strs:∀ (ns:List Str),Rps K H (ns.map V.str) (ns.map D.str)
 | []=>.nil
 | n::ns=>.cons (.str n) (Rps.strs ns)
end
structure Ext (Hs H Hs' H':Hp):Prop where
 ss:ba Hs Hs'
 sh:ba Hs' H'
 hh:ba H H'
 fr:∀ b,Hs b=none->H b≠none->Hs' b=none
theorem Ext.refl (h:ba Hs H):Ext Hs H Hs H:=⟨.refl _,h,.refl _,λ _ h _=>h⟩
theorem aR {α:Type} {o:Option α} {x:α} (h:o=some x):o≠none:=by rw [h]; simp
theorem ba.live (g:ba H H') (h:H b≠none):H' b≠none:=by
 cases q:H b with
 | none=>exact absurd q h
 | some o=>rw [g _ _ q]; simp
theorem Ext.trans (a:Ext Hs H Hs1 H1) (b:Ext Hs1 H1 Hs2 H2):Ext Hs H Hs2 H2 :=
 ⟨a.ss.trans b.ss,b.sh,a.hh.trans b.hh,λ c h1 h2=>b.fr c (a.fr c h1 h2) (a.hh.live h2)⟩
theorem Ext.new (h:ba Hs H) (hp:H p=none) (o:HO):Ext Hs H (upd Hs p o) (upd H p o):=by
 refine ⟨ar (h.free hp) o,λ b u q=>?_,ar hp o,λ b h1 h2=>?_⟩
 ·by_cases e:b=p
  · subst e; rw [ai] at q ⊢; exact q
  · rw [af e] at q ⊢; exact h _ _ q
 ·by_cases e:b=p
  · subst e; exact absurd hp h2
  · rw [af e]; exact h1
inductive Sl where
 | no | shr (d:D) | own (d:D)
inductive Ow (K:W.Frag) (Hs H:Hp) (a:Addr):D->Prop where
 | lst {xs:List V} {ds:List D} (h:H a=some (.lst xs)) (n:Hs a=none) (r:Rps K Hs xs ds):Ow K Hs H a (.lst ds)
 | dct {kvs:List (Key×V)} {ds:List (Key×D)} (h:H a=some (.dK kvs)) (n:Hs a=none) (r:RpK K Hs kvs ds):Ow K Hs H a (.dct ds)
theorem Ow.hid {K:W.Frag} {Hs H:Hp} {a:Addr} {d:D} (h:Ow K Hs H a d):Hs a=none:=by cases h <;> assumption
theorem Ow.live {K:W.Frag} {Hs H:Hp} {a:Addr} {d:D} (h:Ow K Hs H a d):H a≠none:=by
 cases h with
 | lst h _ _=>exact aR h
 | dct h _ _=>exact aR h
theorem Ow.ext {K:W.Frag} {Hs H Hs' H':Hp} {a:Addr} {d:D} (g:Ext Hs H Hs' H') (h:Ow K Hs H a d):Ow K Hs' H' a d:=by
 have n':=g.fr a h.hid h.live
 cases h with
 | lst h n r=>exact .lst (g.hh _ _ h) n' (r.same g.ss)
 | dct h n r=>exact .dct (g.hh _ _ h) n' (r.same g.ss)
theorem Ow.off {K:W.Frag} {Hs H H':Hp} {a:Addr} {d:D} (h:Ow K Hs H a d) (e:H' a=H a):Ow K Hs H' a d:=by
 cases h with
 | lst h n r=>exact .lst (e.trans h) n r
 | dct h n r=>exact .dct (e.trans h) n r
inductive StR (K:W.Frag) (H0 Hs H:Hp):List (Option V)->List Sl->List Addr->Prop where
 | nil:StR K H0 Hs H [] [] []
 | no {o:Option V} {σ:List (Option V)} {τ:List Sl} {fp:List Addr} (r:StR K H0 Hs H σ τ fp):StR K H0 Hs H (o::σ) (.no::τ) fp
 | shr {v:V} {d:D} {σ:List (Option V)} {τ:List Sl} {fp:List Addr} (h:Rp K Hs v d) (r:StR K H0 Hs H σ τ fp):StR K H0 Hs H (some v::σ) (.shr d::τ) fp
 | own {a:Addr} {d:D} {σ:List (Option V)} {τ:List Sl} {fp:List Addr} (h:Ow K Hs H a d) (z:H0 a=none) (m:a ∉ fp) (r:StR K H0 Hs H σ τ fp):StR K H0 Hs H (some (.ref a)::σ) (.own d::τ) (a::fp)
section
variable {K:W.Frag} {H0 Hs H Hs' H':Hp} {σ:List (Option V)} {τ:List Sl} {fp:List Addr}
theorem StR.ext (g:Ext Hs H Hs' H') (h:StR K H0 Hs H σ τ fp):StR K H0 Hs' H' σ τ fp:=by
 induction h with
 | nil=>exact .nil
 | no _ ih=>exact .no ih
 | shr h _ ih=>exact .shr (h.same g.ss) ih
 | own h z m _ ih=>exact .own (h.ext g) z m ih
theorem StR.off (h:StR K H0 Hs H σ τ fp) (m:a ∉ fp):StR K H0 Hs (upd H a o) σ τ fp:=by
 induction h with
 | nil=>exact .nil
 | no _ ih=>exact .no (ih m)
 | shr h _ ih=>exact .shr h (ih m)
 | @own b d σ τ fp h z n _ ih =>
  have ne:b≠a:=λ e=>m (by rw [e]; exact Ze ..)
  exact .own (h.off (af ne)) z n (ih (λ q=>m (Zd _ q)))
theorem StR.BN (h:StR K H0 Hs H σ τ fp):∀ a ∈ fp,Hs a=none/\H0 a=none/\H a≠none:=by
 induction h with
 | nil=>intro a h; cases h
 | no _ ih=>exact ih
 | shr _ _ ih=>exact ih
 | own h z m _ ih =>
  intro b hb;rcases Zh.mp hb with e | e
  · subst e; exact ⟨h.hid,z,h.live⟩
  · exact ih b e
theorem StR.len (h:StR K H0 Hs H σ τ fp):σ.length=τ.length:=by
 induction h with
 | nil=>rfl
 | no _ ih=>exact Z7 (·+1) ih
 | shr _ _ ih=>exact Z7 (·+1) ih
 | own _ _ _ _ ih=>exact Z7 (·+1) ih
theorem StR.get {i:Nat} {d:D} (h:StR K H0 Hs H σ τ fp):τ[i]?=some (.shr d)->∃ v,σ[i]?=some (some v)/\Rp K Hs v d:=by
 induction h generalizing i with
 | nil=>intro e; simp at e
 | no _ ih =>
  intro e
  cases i with
  | zero=>simp at e
  | succ i=>exact ih (by simpa using e)
 | shr h _ ih =>
  intro e
  cases i with
  | zero=>simp at e; subst e; exact ⟨_,rfl,h⟩
  | succ i=>exact ih (by simpa using e)
 | own _ _ _ _ ih =>
  intro e
  cases i with
  | zero=>simp at e
  | succ i=>exact ih (by simpa using e)
theorem StR.BK {i:Nat} {d:D} (h:StR K H0 Hs H σ τ fp):τ[i]?=some (.own d)->∃ a,σ[i]?=some (some (.ref a))/\Ow K Hs H a d/\H0 a=none/\a ∈ fp:=by
 induction h generalizing i with
 | nil=>intro e; simp at e
 | no _ ih =>
  intro e
  cases i with
  | zero=>simp at e
  | succ i=>exact ih (by simpa using e)
 | shr h _ ih =>
  intro e
  cases i with
  | zero=>simp at e
  | succ i=>exact ih (by simpa using e)
 | own h z m _ ih =>
  intro e
  cases i with
  | zero=>simp at e; subst e; exact ⟨_,rfl,h,z,Ze ..⟩
  | succ i =>
   obtain ⟨a,h1,h2,h3,h4⟩:=ih (by simpa using e);exact ⟨a,h1,h2,h3,Zd _ h4⟩
theorem StR.oV (hv:Rp K Hs v d) (h:StR K H0 Hs H σ τ fp):∃ fp',(∀ a ∈ fp',a ∈ fp)/\StR K H0 Hs H (σ.set i (some v)) (τ.set i (.shr d)) fp':=by
 induction h generalizing i with
 | nil=>exact ⟨[],λ _ h=>h,.nil⟩
 | no r ih =>
  cases i with
  | zero=>exact ⟨_,λ _ h=>h,.shr hv r⟩
  | succ i=>obtain ⟨fp',h1,h2⟩:=ih; exact ⟨fp',h1,.no h2⟩
 | shr h r ih =>
  cases i with
  | zero=>exact ⟨_,λ _ h=>h,.shr hv r⟩
  | succ i=>obtain ⟨fp',h1,h2⟩:=ih (i:=i); exact ⟨fp',h1,.shr h h2⟩
 | own h z m r ih =>
  cases i with
  | zero=>exact ⟨_,λ _ h=>Zd _ h,.shr hv r⟩
  | succ i =>
   obtain ⟨fp',h1,h2⟩:=ih (i:=i);exact ⟨_::fp',λ b hb=>(Zh.mp hb).elim (λ e=>by subst e; exact Ze ..) λ e=>Zd _ (h1 b e),.own h z (λ q=>m (h1 _ q)) h2⟩
theorem StR.Kz (hv:Ow K Hs H a d) (z0:H0 a=none) (h:StR K H0 Hs H σ τ fp) (m0:a ∉ fp) (hi:i < τ.length) :
  ∃ fp',(∀ b ∈ fp',b=a\/b ∈ fp)/\StR K H0 Hs H (σ.set i (some (.ref a))) (τ.set i (.own d)) fp':=by
 induction h generalizing i with
 | nil=>exact absurd hi (by simp)
 | @no o σ τ fp r ih =>
  cases i with
  | zero=>exact ⟨a::fp,λ b h=>Zh.mp h,.own hv z0 m0 r⟩
  | succ i=>obtain ⟨fp',h1,h2⟩:=ih m0 (by simpa using hi); exact ⟨fp',h1,.no h2⟩
 | @shr v d σ τ fp h r ih =>
  cases i with
  | zero=>exact ⟨a::fp,λ b h=>Zh.mp h,.own hv z0 m0 r⟩
  | succ i=>obtain ⟨fp',h1,h2⟩:=ih m0 (i:=i) (by simpa using hi); exact ⟨fp',h1,.shr h h2⟩
 | @own b d' σ τ fp h z m r ih =>
  have m1:a ∉ fp:=λ q=>m0 (Zd _ q)
  cases i with
  | zero=>exact ⟨a::fp,λ c hc=>(Zh.mp hc).imp id λ e=>Zd _ e,.own hv z0 m1 r⟩
  | succ i =>
   obtain ⟨fp',h1,h2⟩:=ih m1 (i:=i) (by simpa using hi);refine ⟨b::fp',λ c hc=>?_,.own h z (λ q=>?_) h2⟩
   ·rcases Zh.mp hc with e | e
    · exact .inr (by subst e; exact Ze ..)
    · exact (h1 c e).imp id λ e=>Zd _ e
   ·rcases h1 _ q with e | e
    · exact m0 (by rw [<- e]; exact Ze ..)
    · exact m e
theorem StR.mut {i:Nat} {a:Addr} {d d':D} {o:HO} (h:StR K H0 Hs H σ τ fp):τ[i]?=some (.own d)->σ[i]?=some (some (.ref a))->Ow K Hs (upd H a o) a d'->StR K H0 Hs (upd H a o) σ (τ.set i (.own d')) fp:=by
 induction h generalizing i with
 | nil=>intro e; simp at e
 | no _ ih =>
  intro e e2 hv
  cases i with
  | zero=>simp at e
  | succ i=>exact .no (ih (by simpa using e) (by simpa using e2) hv)
 | shr h _ ih =>
  intro e e2 hv
  cases i with
  | zero=>simp at e
  | succ i=>exact .shr h (ih (by simpa using e) (by simpa using e2) hv)
 | @own b d1 σ τ fp h z m r ih =>
  intro e e2 hv
  cases i with
  | zero =>
   have q:b=a:=by simpa using e2
   subst q;exact .own hv z m (r.off m)
  | succ i =>
   have e':τ[i]?=some (.own d):=by simpa using e
   have e2':σ[i]?=some (some (.ref a)):=by simpa using e2
   obtain ⟨c,h1,h2,h3,h4⟩:=r.BK e';have q:c=a:=by rw [e2'] at h1; simpa using h1.symm
   subst q;have ne:b≠c:=λ e=>m (by rw [e]; exact h4)
   exact .own (h.off (af ne)) z m (ih e' e2' hv)
end
theorem Ow.rp {K:W.Frag} {Hs H:Hp} {a:Addr} {d:D} (h:Ow K Hs H a d):∃ o,H a=some o/\Rp K (upd Hs a o) (.ref a) d:=by
 cases h with
 | lst h n r=>exact ⟨_,h,.lst ai (r.same (ar n _))⟩
 | dct h n r=>exact ⟨_,h,.dct ai (r.same (ar n _))⟩
section
variable {K:W.Frag} {H0 Hs H Hs' H':Hp} {σ:List (Option V)} {τ:List Sl} {fp:List Addr}
theorem StR.Lw (h:StR K H0 Hs H σ τ fp) (n:Hs a=none) (m:a ∉ fp):StR K H0 (upd Hs a o) H σ τ fp:=by
 induction h with
 | nil=>exact .nil
 | no _ ih=>exact .no (ih m)
 | shr h _ ih=>exact .shr (h.same (ar n o)) (ih m)
 | @own b d σ τ fp h z k _ ih =>
  have ne:b≠a:=λ e=>m (by rw [e]; exact Ze ..)
  refine .own ?_ z k (ih (λ q=>m (Zd _ q)))
  cases h with
  | lst h n' r=>exact .lst h (by rw [af ne]; exact n') (r.same (ar n o))
  | dct h n' r=>exact .dct h (by rw [af ne]; exact n') (r.same (ar n o))
theorem StR.frz {i:Nat} {d:D} (h:StR K H0 Hs H σ τ fp):τ[i]?=some (.own d)->∃ a o fp',H a=some o/\Hs a=none/\H0 a=none/\StR K H0 (upd Hs a o) H σ (τ.set i (.shr d)) fp'/\a ∉ fp'/\(∀ b ∈ fp',b ∈ fp)/\σ[i]?=some (some (.ref a))/\Ow K Hs H a d:=by
 induction h generalizing i with
 | nil=>intro e; simp at e
 | no _ ih =>
  intro e
  cases i with
  | zero=>simp at e
  | succ i =>
   obtain ⟨a,o,fp',h1,h2,h3,h4,h5,h6,h7,h8⟩:=ih (by simpa using e);exact ⟨a,o,fp',h1,h2,h3,.no h4,h5,h6,h7,h8⟩
 | shr h _ ih =>
  intro e
  cases i with
  | zero=>simp at e
  | succ i =>
   obtain ⟨a,o,fp',h1,h2,h3,h4,h5,h6,h7,h8⟩:=ih (i:=i) (by simpa using e);exact ⟨a,o,fp',h1,h2,h3,.shr (h.same (ar h2 o)) h4,h5,h6,h7,h8⟩
 | @own b d1 σ τ fp h z m r ih =>
  intro e
  cases i with
  | zero =>
   simp at e;subst e;obtain ⟨o,h1,h2⟩:=h.rp;exact ⟨b,o,fp,h1,h.hid,z,.shr h2 (r.Lw h.hid m),m,λ _ q=>Zd _ q,rfl,h⟩
  | succ i =>
   obtain ⟨a,o,fp',h1,h2,h3,h4,h5,h6,h7,h8⟩:=ih (i:=i) (by simpa using e);obtain ⟨c,k1,k2,k3,k4⟩:=r.BK (i:=i) (by simpa using e);have q:c=a:=by rw [h7] at k1; simpa using k1.symm
   subst q;have ne:b≠c:=λ e=>m (by rw [e]; exact k4)
   refine ⟨c,o,b::fp',h1,h2,h3,.own ?_ z (λ q=>m (h6 _ q)) h4,?_,?_,h7,h8⟩
   ·cases h with
    | lst h n' r=>exact .lst h (by rw [af ne]; exact n') (r.same (ar h2 o))
    | dct h n' r=>exact .dct h (by rw [af ne]; exact n') (r.same (ar h2 o))
   ·intro q
    rcases Zh.mp q with e | e
    · exact ne e.symm
    · exact h5 e
   ·intro c' hc
    rcases Zh.mp hc with e | e
    · subst e; exact Ze ..
    · exact Zd _ (h6 _ e)
end
abbrev DE:=List Sl->Option D
abbrev DT:=List Sl->Option Bool
abbrev DA:=List Sl->Option (List D)
inductive Out where
 | next (τ:List Sl) | ret (s:Sl) | brk (τ:List Sl) | cnt (τ:List Sl)
abbrev DS:=List Sl->Option Out
def SlV (K:W.Frag) (H0 Hs H:Hp) (v:V):Sl->Prop
 | .no=>False
 | .shr d=>Rp K Hs v d
 | .own d=>∃ a,v=.ref a/\Ow K Hs H a d/\H0 a=none
structure Rep (K:W.Frag) (Hs0 H0 Hs H:Hp) (σ:St) (τ:List Sl):Prop where
 ext:Ext Hs0 H0 Hs H
 st:∃ fp,StR K H0 Hs H σ τ fp
def rdE (K:W.Frag) (f:DE):TE:=λ σ H Q=>∃ H0 Hs τ fp d,StR K H0 Hs H σ τ fp/\ba Hs H/\f τ=some d/\∀ v Hs' H',Ext Hs H Hs' H'->Rp K Hs' v d->Q v H'
def rdT (K:W.Frag) (f:DT):TT:=λ σ H Q=>∃ H0 Hs τ fp d,StR K H0 Hs H σ τ fp/\ba Hs H/\f τ=some d/\∀ Hs' H',Ext Hs H Hs' H'->Q d H'
def rdA (K:W.Frag) (f:DA):TA:=λ σ H Q=>∃ H0 Hs τ fp d,StR K H0 Hs H σ τ fp/\ba Hs H/\f τ=some d/\∀ v Hs' H',Ext Hs H Hs' H'->Rps K Hs' v d->Q v H'
def rdO (K:W.Frag) (f:DE):TE:=λ σ H Q=>∃ H0 Hs τ fp d,StR K H0 Hs H σ τ fp/\ba Hs H/\f τ=some d/\∀ a Hs' H',Ext Hs H Hs' H'->Ow K Hs' H' a d->H a=none->Q (.ref a) H'
def PEd (X:Cx) (e:Expr) (f:DE):Prop:=PE X e (rdE X.K f)
def PEo (X:Cx) (e:Expr) (f:DE):Prop:=PE X e (rdO X.K f)
def PTd (X:Cx) (e:Expr) (f:DT):Prop:=PT X e (rdT X.K f)
def PAd (X:Cx) (es:List Expr) (f:DA):Prop:=PA X es (rdA X.K f)
def Fin (K:W.Frag) (Hs0 H0:Hp) (E:Ends):Out->Prop
 | .next τ=>∀ σ Hs H,Rep K Hs0 H0 Hs H σ τ->E.nx σ H
 | .brk τ=>∀ σ Hs H,Rep K Hs0 H0 Hs H σ τ->E.bk σ H
 | .cnt τ=>∀ σ Hs H,Rep K Hs0 H0 Hs H σ τ->E.ct σ H
 | .ret s=>∀ v Hs H,Ext Hs0 H0 Hs H->SlV K H0 Hs H v s->E.rt v H
def rdS (K:W.Frag) (f:DS):TS:=λ E σ H=>∃ Hs0 H0 Hs τ o,Rep K Hs0 H0 Hs H σ τ/\f τ=some o/\Fin K Hs0 H0 E o
def PSd (X:Cx) (s:Stmt) (f:DS):Prop:=PS X s (rdS X.K f)
def wL (X:Cx) (s:List Stmt) (f:DS):Prop:=PSs X s (rdS X.K f)
theorem PE.imp (h:PE X e t) (hi:∀ σ H Q,t' σ H Q->t σ H Q):PE X e t':=λ pins s σ H Q I q=>h pins s σ H Q I (hi _ _ _ q)
theorem PT.imp (h:PT X e t) (hi:∀ σ H Q,t' σ H Q->t σ H Q):PT X e t':=λ pins s σ H Q I q=>h pins s σ H Q I (hi _ _ _ q)
theorem PA.imp (h:PA X e t) (hi:∀ σ H Q,t' σ H Q->t σ H Q):PA X e t':=λ pos pins s σ H Q I q=>h pos pins s σ H Q I (hi _ _ _ q)
theorem PS.imp (h:PS X e t) (hi:∀ E σ H,t' E σ H->t E σ H):PS X e t':=λ pins s σ H E I q=>h pins s σ H E I (hi _ _ _ q)
theorem PSs.imp (h:PSs X e t) (hi:∀ E σ H,t' E σ H->t E σ H):PSs X e t':=λ pins s σ H E I q=>h pins s σ H E I (hi _ _ _ q)
def aH (i:Nat):DE:=λ τ=>match τ[i]? with | some (.shr d)=>some d | _=>none
def dC (d:D):DE:=λ _=>some d
def dOp (o:D->D->Option D) (f g:DE):DE:=λ τ=>(f τ).bind λ x=>(g τ).bind λ y=>o x y
def dUn (o:D->Option D) (f:DE):DE:=λ τ=>(f τ).bind o
def d8:DA:=λ _=>some []
def aK (f:DE) (g:DA):DA:=λ τ=>(f τ).bind λ x=>(g τ).bind λ xs=>some (x::xs)
def gB (o:List D->Option D) (f:DA):DE:=λ τ=>(f τ).bind o
def I0 (f:DA):DE:=λ τ=>(f τ).bind λ ds=>if ds.length<=100000 then some (.tup ds) else none
def FY (f:DA):DE:=λ τ=>(f τ).bind λ ds=>if ds.length<=100000 then some (.lst ds) else none
def oa (f g:DE):DE:=λ τ=>(f τ).bind λ x=>match x with | .bl true=>g τ | .bl false=>some (.bl false) | _=>none
def I9 (f g:DE):DE:=λ τ=>(f τ).bind λ x=>match x with | .bl true=>some (.bl true) | .bl false=>g τ | _=>none
def Ja (f:DE):DE:=λ τ=>(f τ).bind λ x=>match x with | .bl b=>some (.bl (!b)) | _=>none
def dT (f:DE):DT:=λ τ=>(f τ).bind λ x=>match x with | .bl b=>some b | _=>none
def Jb (f g:DT):DT:=λ τ=>(f τ).bind λ b=>if b=true then g τ else some false
def dOr (f g:DT):DT:=λ τ=>(f τ).bind λ b=>if b=true then some true else g τ
def ER (f:DT):DT:=λ τ=>(f τ).map (!·)
theorem le5 (h:n<=100000):n < sizeLine:=Nat.lt_of_le_of_lt h (by rw [Xw]; decide)
theorem pH (h:n<=100000):n<=sizeLine:=Yk (le5 h)
theorem nn {α:Type} {d:α} {p:Prop} (h:(none:Option α)=some d):p:=nomatch h
theorem bind_some {α β:Type} {o:Option α} {f:α->Option β} {b:β} (h:o.bind f=some b):∃ a,o=some a/\f a=some b:=Option.bind_eq_some_iff.mp h
section
variable {X:Cx} {a b c e:Expr} {es:List Expr} {pos:Pos} {f g h:DE}
theorem fO (h:PE X e (tC v)) (r:∀ H,Rp X.K H v d):PEd X e (dC d) :=
 h.imp λ σ H Q ⟨H0,Hs,τ,fp,d',st,sm,e,k⟩=>by
  have e':=Zj e;subst e';exact k v Hs H (.refl sm) (r Hs)
theorem AR (hg:Gl X x) (hm:X.mg x=some u) (r:RelV v u) (rd:∀ H,Rp X.K H v d) (hd:(x == ("__debug__":Str))=false:=by decide):PEd X (.Name x pos) (dC d):=fO (AJ hg hm r hd) rd
def rdR (K:W.Frag) (o:D->D->Option D):R2:=λ x y H Q=>∃ Hs dx dy d,ba Hs H/\Rp K Hs x dx/\Rp K Hs y dy/\o dx dy=some d/\∀ v Hs' H',Ext Hs H Hs' H'->Rp K Hs' v d->Q v H'
def rdU (K:W.Frag) (o:D->Option D):V->Hp->VK->Prop:=λ x H Q=>∃ Hs dx d,ba Hs H/\Rp K Hs x dx/\o dx=some d/\∀ v Hs' H',Ext Hs H Hs' H'->Rp K Hs' v d->Q v H'
def rdL (K:W.Frag) (o:List D->Option D):List V->Hp->VK->Prop:=λ xs H Q=>∃ Hs ds d,ba Hs H/\Rps K Hs xs ds/\o ds=some d/\∀ v Hs' H',Ext Hs H Hs' H'->Rp K Hs' v d->Q v H'
theorem kQ (K:W.Frag) (hh:rdE K (dOp o f g) σ H Q):tOp (rdR K o) (rdE K f) (rdE K g) σ H Q:=by
 obtain ⟨H0,Hs,τ,fp,d,st,sm,e,k⟩:=hh;obtain ⟨x,e1,e⟩:=bind_some e;obtain ⟨y,e2,e⟩:=bind_some e;refine ⟨H0,Hs,τ,fp,x,st,sm,e1,λ v Hs1 H1 g1 r1=>?_⟩;refine ⟨H0,Hs1,τ,fp,y,st.ext g1,g1.sh,e2,λ u Hs2 H2 g2 r2=>?_⟩;exact ⟨Hs2,x,y,d,g2.sh,r1.same g2.ss,r2,e,λ w Hs3 H3 g3 r3=>k w Hs3 H3 ((g1.trans g2).trans g3) r3⟩
theorem PEo.shr (h:PEo X e f):PEd X e f :=
 PE.imp h λ σ H Q ⟨H0,Hs,τ,fp,d,st,sm,e,k⟩=>⟨H0,Hs,τ,fp,d,st,sm,e,λ a Hs' H' g o z=>by
  obtain ⟨ob,h1,h2⟩:=o.rp;refine k _ (upd Hs' a ob) H' ⟨g.ss.trans (ar o.hid ob),λ b u q=>?_,g.hh,λ b h3 h4=>?_⟩ h2
  ·by_cases eb:b=a
   · subst eb; rw [ai] at q; rw [h1]; exact q
   · rw [af eb] at q; exact g.sh _ _ q
  ·by_cases eb:b=a
   · subst eb; exact absurd z h4
   · rw [af eb]; exact g.fr b h3 h4⟩
def PWd (X:Cx) (e:Expr) (f:DT):Prop:=PW X e (rdT X.K f)
theorem PW.imp (h:PW X e t) (hi:∀ σ H Q,t' σ H Q->t σ H Q):PW X e t':=λ wh pins s σ H Q I q=>h wh pins s σ H Q I (hi _ _ _ q)
theorem PWd.ptd {f:DT} (h:PWd X e f):PTd X e f:=PW.pt h
end
instance {i j:Int}:Decidable (zT i j):=by unfold zT; infer_instance
instance {i:Int}:Decidable (Sz i):=by unfold Sz; infer_instance
instance {i j:Int}:Decidable (Cu i j):=by unfold Cu; infer_instance
def qv:D->D->Option D
 | .int i,.int j=>some (.int (i+j))
 | .str x,.str y=>if x.length+y.length<=100000 then some (.str (x++y)) else none
 | .lst x,.lst y=>if x.length+y.length<=100000 then some (.lst (x++y)) else none
 | _,_=>none
def DP:D->D->Option D
 | .int i,.int j=>some (.int (i - j))
 | _,_=>none
def zl:D->D->Option D
 | .int i,.int j=>if zT i j\/(Sz i/\Sz j) then some (.int (i * j)) else none
 | _,_=>none
def oDiv:D->D->Option D
 | .int i,.int j=>if j≠0/\Sz j then some (.int (i.fdiv j)) else none
 | _,_=>none
def oMod:D->D->Option D
 | .int i,.int j=>if j≠0 then some (.int (i.fmod j)) else none
 | _,_=>none
def DQ:D->D->Option D
 | .int i,.int j=>if Cu i j then some (.int (i ^ j.toNat)) else none
 | _,_=>none
def DR:D->Option D
 | .int i=>some (.int (-i))
 | _=>none
def oLt:D->D->Option D
 | .int i,.int j=>some (.bl (decide (i < j)))
 | .str i,.str j=>some (.bl (decide (i.cps.toList < j.cps.toList)))
 | _,_=>none
def oLe:D->D->Option D
 | .int i,.int j=>some (.bl (decide (i<=j)))
 | _,_=>none
def oGt:D->D->Option D
 | .int i,.int j=>some (.bl (decide (j < i)))
 | _,_=>none
def l7:D->D->Option D
 | .non,.non=>some (.bl false)
 | _,.non=>some (.bl true)
 | _,_=>none
def eqS:D->D->Option Bool
 | .non,.non=>some true | .non,.int _=>some false | .int _,.non=>some false | .non,.bl _=>some false | .bl _,.non=>some false | .non,.str _=>some false | .str _,.non=>some false
 | .int i,.int j=>some (decide (i=j)) | .bl i,.bl j=>some (decide (i=j)) | .str i,.str j=>some (decide (i=j))
 | .int _,.str _=>some false | .str _,.int _=>some false | .bl _,.str _=>some false | .str _,.bl _=>some false
 | _,_=>none
mutual
def jd:D->PySem.W.Dat
 | .non=>.none | .bl b=>.bool b | .int i=>.int i | .str x=>.str x | .ty _=>.bytes #[]
 | .tup ds=>.tuple (hU ds) | .lst ds=>.list (hU ds) | .fz _=>.bytes #[] | .dct _=>.bytes #[] | .obj _ _=>.bytes #[] | .cls _=>.bytes #[] | .dfz _=>.bytes #[]
def hU:List D->List PySem.W.Dat
 | []=>[]
 | d::ds=>jd d::hU ds
end
mutual
def okD:Nat->D->Bool
 | _,.non=>true
 | _,.int _=>true
 | _,.str x=>PyData.strOk x
 | n+1,.tup ds=>rT n ds
 | n+1,.lst ds=>rT n ds
 | _,_=>false
def rT:Nat->List D->Bool
 | _,[]=>true
 | n,d::ds=>okD n d&&rT n ds
end
open PySem.W in
mutual
theorem jI:∀ (n:Nat) (d:D),okD n d=true->kqdOk n (jd d)=true
 | _,.non,_=>by simp [jd,kqdOk]
 | _,.int _,_=>by simp [jd,kqdOk]
 | n,.str x,h=>by simp [okD] at h; simp [jd,kqdOk,h]
 | n+1,.tup ds,h=>by
  simp [okD] at h;rw [jd,kqdOk];exact l4 n ds h
 | n+1,.lst ds,h=>by
  simp [okD] at h;rw [jd,kqdOk];exact l4 n ds h
 | _,.bl _,h=>by simp [okD] at h
 | _,.ty _,h=>by simp [okD] at h
 | _,.cls _,h=>by simp [okD] at h
 | _,.dct _,h=>by simp [okD] at h
 | _,.fz _,h=>by simp [okD] at h
 | _,.obj _ _,h=>by simp [okD] at h
 | _,.dfz _,h=>by simp [okD] at h
 | 0,.tup _,h=>by simp [okD] at h
 | 0,.lst _,h=>by simp [okD] at h
theorem l4:∀ (n:Nat) (ds:List D),rT n ds=true->(hU ds).all (kqdOk n)=true
 | _,[],_=>by simp [hU]
 | n,d::ds,h=>by
  simp [rT] at h;simp only [hU,List.all_cons,Z8];exact ⟨jI n d h.1,l4 n ds h.2⟩
end
mutual
theorem qV:∀ (n:Nat) (d e:D),okD n d=true->okD n e=true->jd d=jd e->d=e
 | _,.non,e,_,h,q=>by cases e <;> simp [jd] at q <;> simp [okD] at h <;> rfl
 | _,.int _,e,_,h,q=>by cases e <;> simp [jd] at q <;> simp [okD] at h <;> rw [q]
 | _,.str x,e,_,h,q=>by cases e <;> simp [jd] at q <;> simp [okD] at h <;> rw [q]
 | n+1,.tup ds,e,h1,h,q=>by
  cases e <;> simp [jd] at q <;> simp [okD] at h
  simp [okD] at h1;rw [j8 n _ _ h1 h q]
 | n+1,.lst ds,e,h1,h,q=>by
  cases e <;> simp [jd] at q <;> simp [okD] at h
  simp [okD] at h1;rw [j8 n _ _ h1 h q]
 | _,.bl _,_,h,_,_=>by simp [okD] at h
 | _,.ty _,_,h,_,_=>by simp [okD] at h
 | _,.cls _,_,h,_,_=>by simp [okD] at h
 | _,.dct _,_,h,_,_=>by simp [okD] at h
 | _,.fz _,_,h,_,_=>by simp [okD] at h
 | _,.obj _ _,_,h,_,_=>by simp [okD] at h
 | _,.dfz _,_,h,_,_=>by simp [okD] at h
 | 0,.tup _,_,h,_,_=>by simp [okD] at h
 | 0,.lst _,_,h,_,_=>by simp [okD] at h
theorem j8:∀ (n:Nat) (d e:List D),rT n d=true->rT n e=true->hU d=hU e->d=e
 | _,[],e,_,h,q=>by cases e <;> simp [hU] at q; rfl
 | n,d::ds,e,h1,h,q=>by
  cases e with
  | nil=>simp [hU] at q
  | cons e es =>
   simp [hU] at q;simp [rT] at h h1;rw [qV n d e h1.1 h.1 q.1,j8 n ds es h1.2 h.2 q.2]
end
section
variable {K:W.Frag} {H:Hp}
mutual
theorem Rp.rdD:∀ {v:V} {d:D} (n:Nat),Rp K H v d->okD n d=true->RdD K H v (jd d)
 | _,_,_,.non,_=>by rw [jd]; exact .non
 | _,_,_,.int i,_=>by rw [jd]; exact .int i
 | _,_,_,.str i,_=>by rw [jd]; exact .str i
 | _,_,n,.tup h r,o=>by
  cases n with
  | zero=>simp [okD] at o
  | succ n=>simp [okD] at o; rw [jd]; exact .tup h (Rps.rdD n r o)
 | _,_,n,.lst h r,o=>by
  cases n with
  | zero=>simp [okD] at o
  | succ n=>simp [okD] at o; rw [jd]; exact .lst (SqL.of h) (Rps.rdD n r o)
 | _,_,_,.bl _,o=>by simp [okD] at o
 | _,_,_,.ty _,o=>by simp [okD] at o
 | _,_,_,.cls _,o=>by simp [okD] at o
 | _,_,_,.dct _ _,o=>by simp [okD] at o
 | _,_,_,.fz _ _,o=>by simp [okD] at o
 | _,_,_,.obj _ _,o=>by simp [okD] at o
 | _,_,_,.dfz _ _,o=>by simp [okD] at o
theorem Rps.rdD:∀ {v:List V} {d:List D} (n:Nat),Rps K H v d->rT n d=true->wJ K H v (hU d)
 | _,_,_,.nil,_=>by rw [hU]; exact .nil
 | _,_,n,.cons h r,o=>by
  simp [rT] at o;rw [hU];exact .cons (Rp.rdD n h o.1) (Rps.rdD n r o.2)
end
end
open Classical in
noncomputable def eqB (d e:D):Bool:=decide (d=e)
theorem qQ (d:D):eqB d d=true:=by unfold eqB; simp
theorem zI (h:d≠e):eqB d e=false:=by unfold eqB; simp [h]
noncomputable def eqO (d e:D):Option Bool:=match eqS d e with
 | some b=>some b
 | none=>if okD 9 d=true/\okD 9 e=true then some (eqB d e) else none
noncomputable def oEq (d e:D):Option D:=(eqO d e).map D.bl
noncomputable def oNe (d e:D):Option D:=(eqO d e).map λ b=>.bl (!b)
section
variable {X:Cx}
theorem OpR.imp (h:OpR X fn r) (hi:∀ x y H Q,r' x y H Q->r x y H Q):OpR X fn r':=λ pins s σ H x y v u Q I rx ry q=>h pins s σ H x y v u Q I rx ry (hi _ _ _ _ q)
theorem G1 : OpR X (binaryOp .Add) (rdR X.K qv) :=
  ((DH.or rS).or uC).imp λ x y H Q ⟨Hs,dx,dy,d,sm,rx,ry,e,k⟩=>by
    cases rx with
    | int i => cases ry with
      | int j => have e':D.int (i+j)=d:=by simpa [qv] using e
                 subst e';exact .inl (.inl ⟨i,j,rfl,rfl,k _ Hs H (.refl sm) (.int _)⟩)
      | _=>exact nn e
    | str x=>cases ry with
      | str y =>
        by_cases hl:x.length+y.length<=100000
        · have e':D.str (x++y)=d:=by simpa [qv,hl] using e
          subst e';exact .inl (.inr ⟨x,y,rfl,rfl,pH hl,k _ Hs H (.refl sm) (.str _)⟩)
        · simp [qv,hl] at e
      | _=>exact nn e
    | @lst a xs ds h r=>cases ry with
      | @lst b ys es h' r' =>
        by_cases hl:ds.length+es.length<=100000
        · have e':D.lst (ds++es)=d:=by simpa [qv,hl] using e
          subst e';refine .inr ⟨a,b,xs,ys,rfl,rfl,sm _ _ h,sm _ _ h',by rw [r.length,r'.length]; exact pH hl,λ p hp=>?_⟩;have g:=Ext.new sm hp (.lst (xs++ys));exact k _ _ _ g (.lst ai ((r.same g.ss).append (r'.same g.ss)))
        · simp [qv,hl] at e
      | _=>exact nn e
    | _=>exact nn e
theorem ph {fn:Value->Value->Sem Value} {C:Int->Int->Prop} [∀ i j,Decidable (C i j)] {gv:Int->Int->V} {gd:Int->Int->D} {o:D->D->Option D} (h:OpR X fn (rI C gv)) (hg:∀ i j H,Rp X.K H (gv i j) (gd i j))
  (ho:∀ x y d,o x y=some d->∃ i j,x=.int i/\y=.int j/\C i j/\d=gd i j):OpR X fn (rdR X.K o) :=
 h.imp λ x y H Q ⟨Hs,dx,dy,d,sm,rx,ry,e,k⟩=>by
  obtain ⟨i,j,rfl,rfl,c,rfl⟩:=ho _ _ _ e;cases rx;cases ry;exact ⟨i,j,rfl,rfl,c,k _ Hs H (.refl sm) (hg i j Hs)⟩
theorem GH (h:OpR X fn (rI0 g)):OpR X fn (rI (λ _ _=>True) g):=h.imp λ x y H Q ⟨i,j,h1,h2,_,q⟩=>⟨i,j,h1,h2,q⟩
theorem GV:OpR X (binaryOp .Sub) (rdR X.K DP):=ph (GH DB) (λ _ _ _=>.int _) λ x y d e=>by
 unfold DP at e;split at e
 · exact ⟨_,_,rfl,rfl,trivial,(Zj e).symm⟩
 · cases e
theorem AV:OpR X (binaryOp .Mult) (rI (λ i j=>zT i j\/(Sz i/\Sz j)) λ i j=>.int (i * j)):=opI λ _ _ _ _ _ _ _ hc q=>mul_int q (hc.elim (·.ok) λ h=>PySem.IntMulOk.of_bits h.1.bits h.2.bits)
theorem GY:OpR X (binaryOp .Mult) (rdR X.K zl):=ph AV (λ _ _ _=>.int _) λ x y d e=>by
 unfold zl at e;split at e
 ·split at e
  ·rename_i c
   exact ⟨_,_,rfl,rfl,c,(Zj e).symm⟩
  · cases e
 · cases e
theorem G0:OpR X (binaryOp .FloorDiv) (rdR X.K oDiv):=ph AX (λ _ _ _=>.int _) λ x y d e=>by
 unfold oDiv at e;split at e
 ·split at e
  ·rename_i c
   exact ⟨_,_,rfl,rfl,c,(Zj e).symm⟩
  · cases e
 · cases e
theorem GZ:OpR X (binaryOp .Mod) (rdR X.K oMod):=ph AW (λ _ _ _=>.int _) λ x y d e=>by
 unfold oMod at e;split at e
 ·split at e
  ·rename_i c
   exact ⟨_,_,rfl,rfl,c,(Zj e).symm⟩
  · cases e
 · cases e
theorem GW:OpR X (binaryOp .Pow) (rdR X.K DQ):=ph DC (λ _ _ _=>.int _) λ x y d e=>by
 unfold DQ at e;split at e
 ·split at e
  ·rename_i c
   exact ⟨_,_,rfl,rfl,c,(Zj e).symm⟩
  · cases e
 · cases e
theorem Cn:OpR X (compareOp .LtE) (rdR X.K oLe):=ph (GH GQ) (λ _ _ _=>.bl _) λ x y d e=>by
 unfold oLe at e;split at e
 · exact ⟨_,_,rfl,rfl,trivial,(Zj e).symm⟩
 · cases e
theorem Js:OpR X (compareOp .Gt) (rdR X.K oGt):=ph (GH GR) (λ _ _ _=>.bl _) λ x y d e=>by
 unfold oGt at e;split at e
 · exact ⟨_,_,rfl,rfl,trivial,(Zj e).symm⟩
 · cases e
theorem K1:OpR X (compareOp .Lt) (rdR X.K oLt):=(GP.or uz).imp λ x y H Q ⟨Hs,dx,dy,d,sm,rx,ry,e,k⟩=>by
 cases rx with
 | int i=>cases ry with
  | int j =>
   have e':D.bl (decide (i < j))=d:=by simpa [oLt] using e
   subst e';exact .inl ⟨i,j,rfl,rfl,k _ Hs H (.refl sm) (.bl _)⟩
  | _=>exact nn e
 | str i=>cases ry with
  | str j =>
   have e':=Zj e;subst e';exact .inr ⟨i,j,rfl,rfl,k _ Hs H (.refl sm) (.bl _)⟩
  | _=>exact nn e
 | _=>exact nn e
theorem GX:UnR X (unaryOp .USub) (rdU X.K DR):=λ pins s σ H x v Q I rx ⟨Hs,dx,d,sm,r,e,k⟩=>CA pins s σ H x v Q I rx (by
 cases r with
 | int i =>
  have e':D.int (-i)=d:=by simpa [DR] using e
  subst e';exact ⟨i,rfl,k _ Hs H (.refl sm) (.int _)⟩
 | _=>simp [DR] at e)
theorem DK:OpR X (compareOp .IsNot) (rdR X.K l7):=AU.imp λ x y H Q ⟨Hs,dx,dy,d,sm,rx,ry,e,k⟩=>by
 have hy:dy=.non:=by
  unfold l7 at e;split at e <;> first | rfl | cases e
 subst hy;cases ry;refine ⟨rfl,?_⟩;cases rx <;> (have e':=Zj e; subst e'; exact k _ Hs H (.refl sm) (.bl _))
theorem zH {K:W.Frag} {H:Hp} {x y:V} {dx dy:D} {b:Bool} (rx:Rp K H x dx) (ry:Rp K H y dy) (e:eqS dx dy=some b):Gy x y=true/\decide (x=y)=b:=by
  unfold eqS at e
  split at e <;> first
    | (cases e; done)
    | (have e':=Zj e
       subst e';cases rx;cases ry
       first | exact ⟨rfl,rfl⟩ | exact ⟨rfl,by simp⟩)
theorem qP (h:okD n d=true) (h':okD n e=true):eqD (jd d) (jd e)=eqB d e:=by
 by_cases q:d=e
 · subst q; rw [qQ,yo rfl]
 · rw [zI q,vK λ z=>q (qV n _ _ h h' z)]
theorem Jt (hu:X.A.units+64 < cLine):OpR X (compareOp .Eq) (rdR X.K oEq):=(GS.or (DF hu)).imp λ x y H Q ⟨Hs,dx,dy,d,sm,rx,ry,e,k⟩=>by
 obtain ⟨b,e',rfl⟩:=Zm (e);have e:=e';unfold eqO at e;split at e
 ·rename_i b' q
  have e':=Zj e;subst e';obtain ⟨h1,h2⟩:=zH rx ry q;refine .inl ⟨h1,?_⟩;rw [h2];exact k _ Hs H (.refl sm) (.bl _)
 ·split at e
  ·rename_i h
   have e':=Zj e;subst e';refine .inr ⟨jd dx,jd dy,(rx.same sm).rdD 9 h.1,(ry.same sm).rdD 9 h.2,jI 9 _ h.1,jI 9 _ h.2,?_⟩;rw [qP h.1 h.2];exact k _ Hs H (.refl sm) (.bl _)
  · cases e
theorem Jr (hu:X.A.units+64 < cLine):OpR X (compareOp .NotEq) (rdR X.K oNe):=(GO.or (DD hu)).imp λ x y H Q ⟨Hs,dx,dy,d,sm,rx,ry,e,k⟩=>by
 obtain ⟨b,e',rfl⟩:=Zm (e);have e:=e';unfold eqO at e;split at e
 ·rename_i b' q
  have e':=Zj e;subst e';obtain ⟨h1,h2⟩:=zH rx ry q;refine .inl ⟨h1,?_⟩;rw [h2];exact k _ Hs H (.refl sm) (.bl _)
 ·split at e
  ·rename_i h
   have e':=Zj e;subst e';refine .inr ⟨jd dx,jd dy,(rx.same sm).rdD 9 h.1,(ry.same sm).rdD 9 h.2,jI 9 _ h.1,jI 9 _ h.2,?_⟩;rw [qP h.1 h.2];exact k _ Hs H (.refl sm) (.bl _)
  · cases e
end
def oIx:D->D->Option D
 | .tup ds,.int i=>atI ds i
 | .lst ds,.int i=>atI ds i
 | .fz ds,.int i=>atI ds i
 | .str z,.int i=>if z.length<=100000 then (atI z.cps.toList i).map λ c=>.str ⟨#[c]⟩ else none
 | _,_=>none
def DO:=List Sl->Option (Option Int)
def dP (f:DE):DO:=λ τ=>(f τ).bind λ x=>match x with | .int i=>some (some i) | _=>none
def cutD (xs:List D) (lo hi:Option Int):List D:=(xs.drop (HT.sIx xs.length 0 lo)).take (HT.sIx xs.length xs.length hi - HT.sIx xs.length 0 lo)
def oSl:D->Option Int->Option Int->Option D
 | .lst ds,lo,hi=>some (.lst (cutD ds lo hi))
 | .fz ds,lo,hi=>some (.lst (cutD ds lo hi))
 | _,_,_=>none
def dSl (f:DE) (lo hi:DO):DE:=λ τ=>(f τ).bind λ x=>(lo τ).bind λ l=>(hi τ).bind λ u=>oSl x l u
def sX:List D->Option D
 | [.str z]=>if z.length<=100000 then some (.int z.length) else none
 | [.tup ds]=>some (.int ds.length)
 | [.lst ds]=>some (.int ds.length)
 | [.fz ds]=>some (.int ds.length)
 | _=>none
def A0:List D->Option D
 | [.tup ds]=>some (.lst ds)
 | [.lst ds]=>some (.lst ds)
 | [.fz ds]=>some (.lst ds)
 | _=>none
def tyN:D->Option String
 | .non=>some "NoneType" | .bl _=>some "bool" | .int _=>some "int" | .str _=>some "str" | .tup _=>some "tuple" | .lst _=>some "list" | .dct _=>some "dict" | _=>none
def ID (t n:String):Bool:=t == n||(t == "bool"&&n == "int")
def kinds:List String:=["int","bool","str","list","tuple","dict"]
def G4:List D->Option D
 | [d,.ty n]=>(tyN d).bind λ t=>if n ∈ kinds then some (.bl (ID t n)) else none
 | _=>none
theorem pX {K:W.Frag} {H:Hp} {xs:List V} {ds:List D} {i:Int} {d:D} (r:Rps K H xs ds) (e:atI ds i=some d):∃ v,atI xs i=some v/\Rp K H v d:=by
 unfold atI at *;obtain ⟨j,e1,e2⟩:=bind_some e;obtain ⟨v,h1,h2⟩:=r.get e2;exact ⟨v,by rw [r.length,e1]; exact h1,h2⟩
theorem v8 {K:W.Frag} {H:Hp} {xs:List V} {ds:List D} (lo hi:Option Int) (r:Rps K H xs ds):Rps K H (Cr xs lo hi) (cutD ds lo hi):=by
 unfold Cr cutD;rw [r.length];exact (r.drop _).take _
theorem vd {K:W.Frag} {t n:String} (ht:t ∈ ["NoneType","bool","int","str","tuple","list","dict"]) (hn:n ∈ kinds):PySem.W.kitOne K (.type t) (.type n)=some (ID t n):=by
 simp only [kinds,Zh,Yd,or_false] at ht hn;rcases ht with rfl | rfl | rfl | rfl | rfl | rfl | rfl <;> rcases hn with rfl | rfl | rfl | rfl | rfl | rfl <;> kernel_rfl
section
variable {X:Cx} {a b c e:Expr} {es:List Expr} {pos:Pos} {f g h:DE}
theorem IxR.imp {r r':R2} (h:IxR X r) (hi:∀ x y H Q,r' x y H Q->r x y H Q):IxR X r':=λ value slice pins s σ H x y v u Q I rx ry q=>h value slice pins s σ H x y v u Q I rx ry (hi _ _ _ _ q)
theorem ixd:IxR X (rdR X.K oIx):=((BA.or Eh).or Ei).imp λ x y H Q ⟨Hs,dx,dy,d,sm,rx,ry,e,k⟩=>by
 obtain ⟨i,rfl⟩:∃ i,dy=.int i:=by
  unfold oIx at e;split at e <;> first | exact ⟨_,rfl⟩ | cases e
 cases ry
 cases rx with
 | tup h r =>
  obtain ⟨v,h1,h2⟩:=pX r (e);exact .inl (.inr ⟨_,_,i,v,rfl,rfl,sm.tup h,h1,k v Hs H (.refl sm) h2⟩)
 | lst h r =>
  obtain ⟨v,h1,h2⟩:=pX r (show atI _ i=some d from e);exact .inl (.inl ⟨_,_,i,v,rfl,rfl,SqL.of (sm _ _ h),h1,k v Hs H (.refl sm) h2⟩)
 | fz h r =>
  obtain ⟨v,h1,h2⟩:=pX r (show atI _ i=some d from e);exact .inl (.inl ⟨_,_,i,v,rfl,rfl,sm.seq h,h1,k v Hs H (.refl sm) h2⟩)
 | str z =>
  by_cases hl:z.length<=100000
  ·have e0:(atI z.cps.toList i).map (λ c=>D.str ⟨#[c]⟩)=some d:=by simpa only [oIx,hl,if_true] using e
   obtain ⟨c,e1,rfl⟩:=Zm e0;exact .inr ⟨z,i,c,rfl,rfl,pH hl,e1,k _ Hs H (.refl sm) (.str _)⟩
  · simp [oIx,hl] at e
 | _=>exact nn e
def rdP (K:W.Frag) (f:DO):TO:=λ σ H Q=>∃ H0 Hs τ fp d,StR K H0 Hs H σ τ fp/\ba Hs H/\f τ=some d/\∀ Hs' H',Ext Hs H Hs' H'->Q d H'
def POd (X:Cx) (e:Option Expr) (f:DO):Prop:=PO X e (rdP X.K f)
theorem PO.imp {e:Option Expr} {t t':TO} (h:PO X e t) (hi:∀ σ H Q,t' σ H Q->t σ H Q):PO X e t':=λ pins s σ H Q I q=>h pins s σ H Q I (hi _ _ _ q)
theorem fJ.imp {fn:Value} {r r':List V->Hp->VK->Prop} (h:fJ X fn r) (hi:∀ x H Q,r' x H Q->r x H Q):fJ X fn r':=λ pins s σ H x u Q I rx q=>h pins s σ H x u Q I rx (hi _ _ _ q)
theorem call_of {o:List D->Option D} {g:DA} {σ:St} {H:Hp} {Q:VK} (K:W.Frag) (hh:rdE K (gB o g) σ H Q):tCB (rdL K o) (rdA K g) σ H Q:=by
 obtain ⟨H0,Hs,τ,fp,d,st,sm,e,k⟩:=hh;obtain ⟨xs,e1,e⟩:=bind_some e;exact ⟨H0,Hs,τ,fp,xs,st,sm,e1,λ v Hs1 H1 g1 r1=>⟨Hs1,xs,d,g1.sh,r1,e,λ w Hs2 H2 g2 r2=>k w Hs2 H2 (g1.trans g2) r2⟩⟩
theorem gC:fJ X (.builtin "len") (rdL X.K sX):=yy.imp λ xs H Q ⟨Hs,ds,d,sm,r,e,k⟩=>by
 match ds,r,e with
 | [x],.cons hx .nil,e =>
  cases hx with
  | str z =>
   by_cases hl:z.length<=100000
   ·have e':D.int z.length=d:=by simpa [sX,hl] using e
    subst e';exact ⟨_,_,rfl,⟨pH hl,rfl⟩,k _ Hs H (.refl sm) (.int _)⟩
   · simp [sX,hl] at e
  | @tup a ys ds h r =>
   have e':=Zj e;subst e';exact ⟨_,_,rfl,.inr ⟨_,sm.tup h,rfl⟩,by rw [r.length]; exact k _ Hs H (.refl sm) (.int _)⟩
  | @lst a ys ds h r =>
   have e':D.int ds.length=d:=Zj e;subst e';exact ⟨_,_,rfl,.inl ⟨_,SqL.of (sm _ _ h),rfl⟩,by rw [r.length]; exact k _ Hs H (.refl sm) (.int _)⟩
  | @fz a ys ds h r =>
   have e':D.int ds.length=d:=Zj e;subst e';exact ⟨_,_,rfl,.inl ⟨_,sm.seq h,rfl⟩,by rw [r.length]; exact k _ Hs H (.refl sm) (.int _)⟩
  | _=>exact nn e
 | [],_,e=>simp [sX] at e
 | _::_::_,_,e=>simp [sX] at e
theorem we:fJ X (.builtin "isinstance") (rdL X.K G4):=by
 intro pins s σ H xs us Q I rv ⟨Hs,ds,d,sm,r,e,k⟩
 have sh:∃ x n,ds=[x,.ty n]:=by
   unfold G4 at e;split at e
   · exact ⟨_,_,rfl⟩
   · cases e
 obtain ⟨x,n,rfl⟩:=sh
 cases r with
 | cons hx rr=>cases rr with
  | cons hy rr=>cases rr with
   | nil =>
   cases hy;obtain ⟨t,e1,e2⟩:=bind_some (e)
   by_cases hn:n ∈ kinds
   ·rw [if_pos hn] at e2
    have e':=Zj e2;subst e';obtain ⟨u,w',rfl,ru,rw'⟩:=vals2 rv;have e2:=rw';subst e2;have fin:∀ tk,EP X pins σ Q (.bool (ID t n)) { s with toks:=tk }:=λ tk=>⟨.bl _,H,I.tok tk,rfl,k _ Hs H (.refl sm) (.bl _)⟩
    have low:∀ {v:V} {T:String},sR X.K H v (.type T)->RelV v u->T ∈ ["NoneType","bool","int","str","tuple","list","dict"]->some T=some t->wpAny (model X.prog X.w) X.A (call (.builtin "isinstance") [u,.type n]) (EP X pins σ Q) X.xe s:=λ ty ru hm et=>by
     have et':=Zj et;subst et';exact vj I ru ty (vd hm hn) fin
    cases hx with
    | non=>exact low (.non) ru (by simp) e1
    | bl b=>exact low (.bl b) ru (by simp) e1
    | int i=>exact low (.int i) ru (by simp) e1
    | str z=>exact low (.str z) ru (by simp) e1
    | lst h _=>exact low (.lst (sm _ _ h)) ru (by simp) e1
    | dct h _=>exact low (.dK (sm _ _ h)) ru (by simp) e1
    | @tup p ys ds h _ =>
     have et':=Zj e1;subst et';cases (ru);obtain ⟨its,_,⟨o,h1,h2,_⟩,_⟩:=I.tuple (sm.tup h);exact Yl PySem.W.kitx_tuple I.kIn ⟨o,h1,h2⟩ (vd (by simp) hn) (λ z=>nomatch z) fin
    | ty m=>simp [tyN] at e1
    | cls m=>simp [tyN] at e1
    | dfz _ _=>simp [tyN] at e1
    | fz _ _=>simp [tyN] at e1
    | obj _ _=>simp [tyN] at e1
   · rw [if_neg hn] at e2; cases e2
end
def vq (a:Addr) (H:Hp):Hp:=λ b=>if b=a then none else H b
def CU (i:Nat) (f:DT):DT:=λ τ=>match τ[i]? with
 | some (.own d0)=>f (τ.set i (.shr d0))
 | _=>f τ
theorem Ext.Gb (n:Hs a=none) (ha:H a=some o) (g:Ext (upd Hs a o) H Hs' H'):Ext Hs H (vq a Hs') H':=by
 refine ⟨λ b u q=>?_,λ b u q=>?_,g.hh,λ b h1 h2=>?_⟩
 ·have ne:b≠a:=λ z=>by subst z; rw [n] at q; cases q
  unfold vq;rw [if_neg ne];exact g.ss b u (by rw [af ne]; exact q)
 ·unfold vq at q
  split at q
  · cases q
  · exact g.sh b u q
 ·unfold vq
  by_cases z:b=a
  · rw [if_pos z]
  ·rw [if_neg z]
   exact g.fr b (by rw [af z]; exact h1) h2
theorem ba.frz (sm:ba Hs H) (ha:H a=some o):ba (upd Hs a o) H:=λ b u q=>by
 by_cases z:b=a
 · subst z; rw [ai] at q; rw [ha]; exact q
 · rw [af z] at q; exact sm b u q
def mL (f g:DS):DS:=λ τ=>match f τ with
 | some (.next τ')=>g τ'
 | r=>r
def rP:DS:=λ τ=>some (.next τ)
def sIf (c:DT) (f g:DS):DS:=λ τ=>(c τ).bind λ b=>if b=true then f τ else g τ
def wO (i:Nat) (f:DE):DS:=λ τ=>(f τ).map λ d=>.next (τ.set i (.shr d))
def xi (i:Nat) (f:DE):DS:=λ τ=>if i < τ.length then (f τ).map λ d=>.next (τ.set i (.own d)) else none
def Fb (f:DE):DS:=λ τ=>(f τ).map λ d=>.ret (.shr d)
def Ac (f:DE):DS:=λ τ=>(f τ).map λ d=>.ret (.own d)
def xj (i:Nat):DS:=λ τ=>match τ[i]? with
 | some (.own d)=>some (.ret (.own d))
 | some (.shr d)=>some (.ret (.shr d))
 | _=>none
def xn (f:DE):DS:=λ τ=>(f τ).map λ _=>.next τ
def C6:DS:=λ _=>none
def Af (i:Nat) (f:DE):DS:=λ τ=>(f τ).bind λ d=>match τ[i]? with
 | some (.own (.lst ds))=>if ds.length < 100000 then some (.next (τ.set i (.own (.lst (ds++[d]))))) else none
 | _=>none
section
variable {X:Cx} {a b c e:Expr} {es:List Expr} {pos:Pos} {st:Stmt} {rest:List Stmt} {f g:DS}
theorem Rep.same {K:W.Frag} {Hs0 H0 Hs H:Hp} {σ:St} {τ:List Sl} (r:Rep K Hs0 H0 Hs H σ τ):ba Hs H:=r.ext.sh
theorem Rep.ext' {K:W.Frag} {Hs0 H0 Hs H Hs' H':Hp} {σ:St} {τ:List Sl} (r:Rep K Hs0 H0 Hs H σ τ) (g:Ext Hs H Hs' H'):Rep K Hs0 H0 Hs' H' σ τ:=⟨r.ext.trans g,let ⟨fp,h⟩:=r.st; ⟨fp,h.ext g⟩⟩
theorem Rep.old {K:W.Frag} {Hs0 H0 Hs H:Hp} {σ:St} {τ:List Sl} (r:Rep K Hs0 H0 Hs H σ τ) {p:Addr} (h:H p=none):H0 p=none:=r.ext.hh.free h
theorem uy {K:W.Frag} {H0 Hs H:Hp} {σ:St} {τ:List Sl} {fp:List Addr} (h:StR K H0 Hs H σ τ fp) {p:Addr} (hp:H p=none):p ∉ fp:=λ q=>(h.BN p q).2.2 hp
end
abbrev DI:=List Sl->Option (List D)
def ItR (K:W.Frag) (J:It) (Hs:Hp) (ds:List D):Prop:=∀ Hs1 H,ba Hs Hs1->ba Hs1 H ->
 (∀ i d,ds[i]?=some d->J.go i H/\∀ x H',J.yld i H x H'->∃ Hs2,Ext Hs1 H Hs2 H'/\Rp K Hs2 x d)/\∀ i,ds.length<=i->J.stop i H
def rdI (K:W.Frag) (f:DI):TI:=λ σ H R=>∃ H0 Hs τ fp ds,StR K H0 Hs H σ τ fp/\ba Hs H/\f τ=some ds/\∀ J Hs' H',Ext Hs H Hs' H'->ItR K J Hs' ds->R J H'
def PId (X:Cx) (tg iter:Expr) (f:DI):Prop:=PI X tg iter (rdI X.K f)
def Cp (f:DE):DI:=λ τ=>(f τ).bind λ d=>match d with | .lst ds=>some ds | .fz ds=>some ds | _=>none
def t5 (lo:Int) (n:Nat):List D:=(List.range n).map λ (i:Nat)=>D.int (lo+(i:Int))
def qF (f:DA):DI:=λ τ=>(f τ).bind λ ds=>match ds with | [.int j]=>if -(2 ^ 62)<=j/\j < 2 ^ 62 then some (t5 0 j.toNat) else none | _=>none
theorem qz {K:W.Frag} {a:Addr} {xs:List V} {Hs:Hp} {ds:List D} (h:SqL K Hs a xs) (r:Rps K Hs xs ds):ItR K (Itl K a) Hs ds:=λ Hs1 H g1 g2=>by
 have hq:=g2.seq (g1.seq h);refine ⟨λ i d e=>?_,λ i hi=>⟨xs,hq,by rw [r.length]; exact hi⟩⟩;obtain ⟨x,h1,h2⟩:=r.get e;refine ⟨⟨xs,x,hq,h1⟩,λ x' H' ⟨e1,e2⟩=>?_⟩;subst e1;have e3:=e2 xs hq;rw [h1] at e3;cases e3;exact ⟨Hs1,.refl g2,h2.same g1⟩
theorem vh {K:W.Frag} {Hs:Hp} (lo:Int) (n:Nat):ItR K (Itr lo n) Hs (t5 lo n):=λ Hs1 H g1 g2=>by
 refine ⟨λ i d e=>?_,λ i hi=>show n<=i by simpa [t5] using hi⟩;unfold t5 at e;rw [List.getElem?_map] at e
 by_cases hi:i < n
 ·rw [List.getElem?_range hi] at e
  have e':D.int (lo+i)=d:=by simpa using e
  subst e';refine ⟨hi,λ x H' ⟨e1,e2⟩=>?_⟩;subst e1 e2;exact ⟨Hs1,.refl g2,.int _⟩
 ·rw [List.getElem?_eq_none (by simpa using hi)] at e
  cases e
theorem PI.imp (h:PI X tg iter t) (hi:∀ σ H R,t' σ H R->t σ H R):PI X tg iter t':=λ pins s σ H R I q=>h pins s σ H R I (hi _ _ _ q)
abbrev DG:=D->List Sl->Option (List Sl)
def rdG (K:W.Frag) (g:DG):TG:=λ v σ H Q=>∃ Hs0 H0 Hs τ τ' d,Rep K Hs0 H0 Hs H σ τ/\Rp K Hs v d/\g d τ=some τ'/\∀ σ',Rep K Hs0 H0 Hs H σ' τ'->Q σ' H
def PGd (X:Cx) (tg:Expr) (g:DG):Prop:=PG X tg (rdG X.K g)
theorem PG.imp (h:PG X tg t) (hi:∀ v σ H Q,t' v σ H Q->t v σ H Q):PG X tg t':=λ pins s σ H v u Q I r q=>h pins s σ H v u Q I r (hi _ _ _ _ q)
theorem PGs.imp (h:PGs X tg t) (hi:∀ v σ H Q,t' v σ H Q->t v σ H Q):PGs X tg t':=λ pins s σ H v u Q I r q=>h pins s σ H v u Q I r (hi _ _ _ _ q)
def gN (i:Nat):DG:=λ d τ=>some (τ.set i (.shr d))
def wV (b:D->DS):List D->DS
 | [],τ=>some (.next τ)
 | d::ds,τ=>match b d τ with
  | some (.next τ')=>wV b ds τ'
  | some (.cnt τ')=>wV b ds τ'
  | some (.brk τ')=>some (.next τ')
  | r=>r
def Fc (it:DI) (g:DG) (b:DS):DS:=λ τ=>(it τ).bind λ ds=>wV (λ d τ=>(g d τ).bind b) ds τ
def bB (c:DT) (b:DS):Nat->DS
 | 0,_=>none
 | n+1,τ=>match c τ with
  | none=>none
  | some false=>some (.next τ)
  | some true=>match b τ with
   | some (.next τ')=>bB c b n τ'
   | some (.cnt τ')=>bB c b n τ'
   | some (.brk τ')=>some (.next τ')
   | r=>r
open Classical in
noncomputable def mW (c:DT) (b:DS):DS:=λ τ=>if h:∃ n o,bB c b n τ=some o then some (Classical.choose (Y4 h)) else none
theorem dY:∀ {n m:Nat} {τ:List Sl} {o:Out},bB c b n τ=some o->n<=m->bB c b m τ=some o
 | 0,_,_,_,h,_=>by simp [bB] at h
 | n+1,0,_,_,_,l=>by omega
 | n + 1,m+1,τ,o,h,l=>by
  have l':n<=m:=by omega
  unfold bB at h ⊢
  cases q:c τ with
  | none=>rw [q] at h; cases h
  | some x =>
   rw [q] at h
   cases x with
   | false=>exact h
   | true =>
    simp only at h ⊢
    cases q2:b τ with
    | none=>rw [q2] at h; exact h
    | some o' =>
     rw [q2] at h
     cases o' with
     | next τ'=>exact dY h l'
     | cnt τ'=>exact dY h l'
     | brk τ'=>exact h
     | ret s=>exact h
theorem gO (h:bB c b n τ=some o):mW c b τ=some o:=by
 have hx:∃ n o,bB c b n τ=some o:=⟨n,o,h⟩
 unfold mW;rw [dif_pos hx];have h2:=Y4 (Y4 hx);have h3:=dY h2 (Nat.le_max_left _ n);have h4:=dY h (Nat.le_max_right (Classical.choose hx) n);rw [h3] at h4;exact h4
theorem tP (h:mW c b τ=some o):∃ n,bB c b n τ=some o:=by
 unfold mW at h;split at h
 ·rename_i hx
  have e:=Zj h;subst e;exact ⟨_,Y4 (Y4 hx)⟩
 · cases h
theorem Ext.sub (a:Ext Hs0 H0 Hs1 H1) (b:Ext Hs1 H0 Hs H):Ext Hs0 H0 Hs H:=⟨a.ss.trans b.ss,b.sh,b.hh,λ c h1 h2=>b.fr c (a.fr c h1 h2) h2⟩
theorem Rep.rebase {K:W.Frag} {Hs0 H0 Hs H:Hp} {σ:St} {τ:List Sl} (r:Rep K Hs0 H0 Hs H σ τ):Rep K Hs H0 Hs H σ τ:=⟨⟨.refl _,r.same,r.ext.hh,λ _ h _=>h⟩,r.st⟩
theorem Rep.iX {K:W.Frag} {Hs0 H0 Hs1 H1 Hs H:Hp} {σ:St} {τ:List Sl} (a:Ext Hs0 H0 Hs1 H1) (r:Rep K Hs1 H0 Hs H σ τ):Rep K Hs0 H0 Hs H σ τ:=⟨a.sub r.ext,r.st⟩
theorem Fin.rebase {K:W.Frag} {Hs0 H0 Hs1 H1:Hp} {E:Ends} {o:Out} (a:Ext Hs0 H0 Hs1 H1) (h:Fin K Hs0 H0 E o):Fin K Hs1 H0 E o:=by
 cases o with
 | next τ=>exact λ σ Hs H r=>h σ Hs H (r.iX a)
 | brk τ=>exact λ σ Hs H r=>h σ Hs H (r.iX a)
 | cnt τ=>exact λ σ Hs H r=>h σ Hs H (r.iX a)
 | ret s=>exact λ v Hs H g r=>h v Hs H (a.sub g) r
def kR (n:Nat) (ds:List D):List Sl:=ds.map .shr++List.replicate (n - ds.length) .no
def gK (n m:Nat) (b:DS) (ds:List D):Option Sl:=if ds.length=m then (match b (kR n ds) with | some (.ret s)=>some s | some (.next _)=>some (.shr .non) | _=>none) else none
def spF (F:List D->Option Sl) (K:W.Frag):Sp:=λ vs H Q _=>∃ Hs ds s,ba Hs H/\Rps K Hs vs ds/\F ds=some s/\∀ v Hs' H',Ext Hs H Hs' H'->SlV K H Hs' H' v s->Q v H'
theorem jA {K:W.Frag} {H0 Hs H:Hp}:∀ {vs:List V} {ds:List D} (k:Nat),Rps K Hs vs ds->StR K H0 Hs H (vs.map some++List.replicate k none) (ds.map .shr++List.replicate k .no) []
 | _,_,0,.nil=>.nil
 | _,_,k+1,.nil=>by
  rw [Xa,Xa];exact .no (jA k .nil)
 | _,_,k,.cons h r=>.shr h (jA k r)
section
variable {P:Program} {w:World} {K:W.Frag} {mg:Str->Option Value} {base:Heap}
theorem Fun.okD {x qual:Str} {st:Stmt} {f:Addr} {fd:FuncData} {N ps:List Str} {k:Nat} {b:DS} (F:Fun K x qual st f fd) (S:dt N ps (ax st))
  (hbody:∀ (cdv:Value) (A:Around) (outer:List Env) (s:Shared) (H:Hp) (E:XK),cg k (A.deeper (envOfC qual (ax st) s.heap.objs.size f cdv)) ->
    wL (lr CX0 P w K mg base N qual (ax st) f cdv A outer s H E).nox (aO st) b):gL P w K mg base CX0 (k+1) f fd ps (spF (gK N.length ps.length b) K):=by
 refine F.ok S (λ vs H Q E h=>?_) (λ cdv A outer s H vs Q E hr h=>?_)
 ·obtain ⟨Hs,ds,s,sm,r,e,_⟩:=h
  unfold gK at e;split at e
  · rename_i hl
    rw [r.length]; exact hl
  · cases e
 obtain ⟨Hs,ds,sl,sm,r,e,q⟩:=h;refine ⟨_,hbody cdv A outer s H E hr,?_⟩;unfold gK at e;split at e
 ·have h0:Rep K Hs H Hs H (start N vs) (kR N.length ds):=⟨.refl sm,[],by unfold start kR; rw [r.length]; exact jA _ r⟩
  cases q2:b (kR N.length ds) with
  | none=>rw [q2] at e; cases e
  | some o =>
    rw [q2] at e;refine ⟨Hs,H,Hs,_,o,h0,q2,?_⟩
    cases o with
    | next τ =>
     have e':=Zj e;subst e';exact λ σ Hs' H' r'=>q .non Hs' H' r'.ext .non
    | ret s =>
     have e':=Zj e;subst e';exact λ v Hs' H' g rv=>q v Hs' H' g rv
    | brk τ=>cases e
    | cnt τ=>cases e
 · cases e
end
def slD:Sl->Option D
 | .shr d=>some d
 | .own d=>some d
 | .no=>none
def slO:Sl->Option D
 | .own d=>some d
 | _=>none
def dFn (F:List D->Option Sl) (f:DA):DE:=λ τ=>(f τ).bind λ ds=>(F ds).bind slD
def BY (F:List D->Option Sl) (f:DA):DE:=λ τ=>(f τ).bind λ ds=>(F ds).bind slO
theorem SlV.shr {K:W.Frag} {H0 Hs H Hs0:Hp} {v:V} {s:Sl} {d:D} (g:Ext Hs0 H0 Hs H) (h:SlV K H0 Hs H v s) (e:slD s=some d):∃ Hs',Ext Hs0 H0 Hs' H/\Rp K Hs' v d:=by
 cases s with
 | no=>cases h
 | shr d' =>
  have e':=Zj e;subst e';exact ⟨Hs,g,h⟩
 | own d' =>
  have e':d'=d:=Zj e;subst e';obtain ⟨a,rfl,o,z⟩:=h;obtain ⟨ob,h1,h2⟩:=o.rp;refine ⟨upd Hs a ob,⟨g.ss.trans (ar o.hid ob),g.sh.frz h1,g.hh,λ b h3 h4=>?_⟩,h2⟩;have ne:b≠a:=λ y=>by subst y; exact h4 z
  rw [af ne];exact g.fr b h3 h4
section
variable {X:Cx} {e:Expr} {es:List Expr} {x:Str} {p pos:Pos} {k:Nat} {f:Addr} {fd:FuncData} {ps:List Str} {F:List D->Option Sl} {g:DA}
theorem BQ {σ:St} {H:Hp} {Q:VK} (K:W.Frag) (h:rdE K (dFn F g) σ H Q):xb (spF F K) [] E0 (rdA K g) σ H Q:=by
 obtain ⟨H0,Hs,τ,fp,d,st,sm,e,q⟩:=h;obtain ⟨ds,e1,e2⟩:=bind_some e;obtain ⟨s,e2,e3⟩:=bind_some e2;refine ⟨H0,Hs,τ,fp,ds,st,sm,e1,λ vs Hs1 H1 g1 r1=>?_⟩;refine ⟨Hs1,ds,s,g1.sh,by rw [Z1]; exact r1,e2,λ v Hs2 H2 g2 rv=>?_⟩;obtain ⟨Hs3,g3,r3⟩:=rv.shr g2 e3;exact q v Hs3 H2 (g1.trans g3) r3
theorem BP (K:W.Frag) (h:rdO K (BY F g) σ H Q):xb (spF F K) [] E0 (rdA K g) σ H Q:=by
 obtain ⟨H0,Hs,τ,fp,d,st,sm,e,q⟩:=h;obtain ⟨ds,e1,e2⟩:=bind_some e;obtain ⟨s,e2,e3⟩:=bind_some e2;refine ⟨H0,Hs,τ,fp,ds,st,sm,e1,λ vs Hs1 H1 g1 r1=>?_⟩;refine ⟨Hs1,ds,s,g1.sh,by rw [Z1]; exact r1,e2,λ v Hs2 H2 g2 rv=>?_⟩
 cases s with
 | own d' =>
  have e':=Zj e3;subst e';obtain ⟨a,rfl,o,z⟩:=rv;exact q a Hs2 H2 (g1.trans g2) o (g1.hh.free z)
 | shr _=>cases e3
 | no=>cases e3
theorem AS (Fo:gL X.prog X.w X.K X.mg X.base CX0 k f fd ps (spF F X.K)) (hr:cg k X.A) (hg:Gl X x) (hm:X.mg x=some (.ref f)) (hk:W.keepIn X.K (.ref f)=true) (hb:Binds X.K fd ps [])
 (ha:PAd X (e::es) g) (hdb:(x == ("__debug__":Str))=false:=by decide) (he:starEach (e::es) X.env=(false,eval e X.env)::starEach es X.env:=by rfl) (hpl:(backTo pos (starEach es X.env)).any (·.1)=false:=by rfl) :
 PEd X (.Call (.Name x p) (e::es) [] pos) (dFn F g):=(gq Fo hr hg hm hk hb .nil iE ha hdb he hpl).imp λ σ H Q h=>BQ X.K h
theorem Ax (Fo:gL X.prog X.w X.K X.mg X.base CX0 k f fd ps (spF F X.K)) (hr:cg k X.A) (hg:Gl X x) (hm:X.mg x=some (.ref f)) (hk:W.keepIn X.K (.ref f)=true) (hb:Binds X.K fd ps [])
 (ha:PAd X (e::es) g) (hdb:(x == ("__debug__":Str))=false:=by decide) (he:starEach (e::es) X.env=(false,eval e X.env)::starEach es X.env:=by rfl) (hpl:(backTo pos (starEach es X.env)).any (·.1)=false:=by rfl) :
 PEo X (.Call (.Name x p) (e::es) [] pos) (BY F g):=(gq Fo hr hg hm hk hb .nil iE ha hdb he hpl).imp λ σ H Q h=>BP X.K h
end
def wQ (g:D->Option D):List D->Option (List D)
 | []=>some []
 | d::ds=>(g d).bind λ x=>(wQ g ds).bind λ xs=>some (x::xs)
def C1:Option Sl->Sl
 | some (.shr d)=>.shr d
 | _=>.no
def dA (τ:List Sl) (cs:List (Str×Nat)):List Sl:=cs.map λ p=>C1 τ[p.2]?
def yv (it:DI) (g:DE) (cs:List (Str×Nat)):DE:=λ τ=>(it τ).bind λ ds=>if ds.length<=100000 then (wQ (λ d=>g (.shr d::dA τ cs)) ds).map .lst else none
theorem iy {K:W.Frag} {H0 Hs H:Hp} {σ:St} {τ:List Sl} {fp:List Addr} (st:StR K H0 Hs H σ τ fp):∀ cs:List (Str×Nat),StR K H0 Hs H (aF σ cs) (dA τ cs) []
 | []=>.nil
 | p :: cs=>by
  have ih:=iy st cs;show StR K H0 Hs H ((σ[p.2]?).join::aF σ cs) (C1 τ[p.2]?::dA τ cs) []
  cases q:τ[p.2]? with
  | none=>exact .no ih
  | some sl =>
   cases sl with
   | no=>exact .no ih
   | own d=>exact .no ih
   | shr d =>
    obtain ⟨v,h1,h2⟩:=st.get q;rw [h1];exact .shr h2 ih
section
variable {X:Cx} {e:Expr} {es:List Expr} {pos:Pos}
theorem B0 {K:W.Frag} {it:DI} {g:DE} {cs:List (Str×Nat)} {σ:St} {H:Hp} {Q:VK} (h:rdO K (yv it g cs) σ H Q):CS (rdI K it) (rdE K g) cs σ H Q:=by
 obtain ⟨H0,Hs,τ,fp,d,st,sm,e,k⟩:=h;obtain ⟨ds,e1,e2⟩:=bind_some e;split at e2
 ·rename_i hl
  obtain ⟨full,e3,rfl⟩:=Zm e2;refine ⟨H0,Hs,τ,fp,ds,st,sm,e1,λ J Hs1 H1 g1 hJ=>?_⟩;refine ⟨λ i m ys H'=>m=ds.length - i/\i<=ds.length/\∃ Hs2 es rest,Ext Hs1 H1 Hs2 H'/\Rps K Hs2 ys es/\es.length=i/\wQ (λ d=>g (.shr d::dA τ cs)) (ds.drop i)=some rest/\es++rest=full,⟨ds.length,by simp,Yb _,Hs1,[],full,.refl g1.sh,.nil,rfl,by simpa using e3,rfl⟩,?_⟩
  rintro i m ys H2 ⟨rfl,hi,Hs2,es,rest,g2,ry,ley,e4,e5⟩
  obtain ⟨hgo,hstop⟩:=hJ Hs2 H2 g2.ss g2.sh;have ly:ys.length=i:=by rw [ry.length,ley]
  by_cases hlt:i < ds.length
  ·have ed:=Y1 hlt
   rw [ed] at e4;obtain ⟨x,q1,q2⟩:=bind_some e4;obtain ⟨xs,q3,q4⟩:=bind_some q2;have eq:=Zj q4;subst eq;obtain ⟨go,yl⟩:=hgo i ds[i] (List.getElem?_eq_getElem hlt);refine .inr ⟨go,by rw [ly]; exact le5 (by omega),λ v H3 y=>?_⟩;obtain ⟨Hs3,g3,rv⟩:=yl v H3 y;have g13:=(g1.trans g2).trans g3;refine ⟨H0,Hs3,.shr ds[i]::dA τ cs,[],x,.shr rv (iy (st.ext g13) cs),g3.sh,q1,λ v4 Hs4 H4 g4 r4=>?_⟩;exact ⟨ds.length - (i+1),by omega,rfl,hlt,Hs4,es++[x],xs,(g2.trans g3).trans g4,((ry.same g3.ss).same g4.ss).append (.cons r4 .nil),by simp [ley],q3,by rw [<- e5]; simp⟩
  ·have e0:i=ds.length:=by omega
   subst e0;rw [Xr] at e4;have er:=Zj e4;subst er;rw [Z1] at e5;subst e5;refine .inl ⟨hstop _ (Zk _),by rw [ly]; exact pH hl,λ p hp=>?_⟩;have g12:=g1.trans g2;exact k p Hs2 _ ⟨g12.ss,g12.sh.trans (ar hp _),g12.hh.trans (ar hp _),g12.fr⟩ (.lst ai (g12.sh.free hp) ry) (g12.hh.free hp)
 · cases e2
end
theorem qK {b:D->DS} {o:Out} (P:Nat->List Sl->Prop):∀ {ds:List D} {τ:List Sl} (i:Nat),P i τ->(∀ j d τ,ds[j]?=some d->P (i+j) τ->∃ τ',b d τ=some (.next τ')/\P (i+j+1) τ')->∃ τ',wV b ds τ=some (.next τ')/\P (i+ds.length) τ'
 | [],τ,i,h,_=>⟨τ,rfl,h⟩
 | d::ds,τ,i,h,hs=>by
  obtain ⟨τ1,e1,p1⟩:=hs 0 d τ rfl h
  obtain ⟨τ2,e2,p2⟩:=qK (o:=o) P (ds:=ds) (τ:=τ1) (i+1) p1 λ j d' τ' hj p=>by
   have:=hs (j+1) d' τ' (by simpa using hj) (by rw [show i+(j+1)=i+1+j by omega]; exact p);rw [show i+(j+1)+1=i+1+j+1 by omega] at this;exact this
  refine ⟨τ2,?_,?_⟩
  · simp only [wV,e1]; exact e2
  · rw [Zv,show i+(ds.length+1)=i+1+ds.length by omega]; exact p2
def xN (C:Addr) (f:Str):D->Option D
 | .obj C' fs=>if C'=C then fs.lookup f else none
 | _=>none
theorem RpF.look {K:W.Frag} {H:Hp} {f:Str} {d:D}:∀ {fs:List (Str×V)} {ds:List (Str×D)},RpF K H fs ds->ds.lookup f=some d->∃ v,fs.lookup f=some v/\Rp K H v d
 | _,_,.nil,e=>by simp at e
 | _,_,@RpF.cons _ _ k x d' xs ds h r,e=>by
  rw [Yq] at e ⊢
  by_cases q:f == k
  ·simp only [q] at e ⊢
   cases e;exact ⟨x,rfl,h⟩
  ·simp only [Bool.not_eq_true] at q
   simp only [q] at e ⊢;exact RpF.look r e
theorem RpF.xX {K:W.Frag} {H:Hp} {f:Str}:∀ {fs:List (Str×V)} {ds:List (Str×D)},RpF K H fs ds->ds.lookup f=none->fs.lookup f=none
 | _,_,.nil,e=>rfl
 | _,_,@RpF.cons _ _ k x d' xs ds h r,e=>by
  rw [Yq] at e ⊢
  by_cases q:f == k
  · simp only [q] at e; cases e
  ·simp only [Bool.not_eq_true] at q
   simp only [q] at e ⊢;exact RpF.xX r e
section
variable {X:Cx} {e o:Expr} {es:List Expr} {x m f:Str} {p pos apos:Pos} {k:Nat} {C fa:Addr} {fd:FuncData} {ps:List Str} {F:List D->Option Sl} {g:DE} {ga:DA}
def j9 (C:Addr) (m:Str) (F:List D->Option Sl) (o:DE) (g:DA):DE:=λ τ=>(o τ).bind λ x=>(g τ).bind λ ds=>match x with
 | .obj C' fs=>if C'=C/\fs.lookup m=none then (F (x::ds)).bind slD else none
 | _=>none
theorem Bm (K:W.Frag) (h:rdE K (j9 C m F g ga) σ H Q):zY C m (spF F K) [] E0 (rdE K g) (rdA K ga) σ H Q:=by
 obtain ⟨H0,Hs,τ,fp,d,st,sm,e,q⟩:=h;obtain ⟨x,e1,e2⟩:=bind_some e;obtain ⟨ds,e3,e4⟩:=bind_some e2;refine ⟨H0,Hs,τ,fp,x,st,sm,e1,λ v Hs1 H1 g1 r1=>?_⟩
 cases r1 with
 | @obj a C' dx fs dd h r =>
  simp only at e4;split at e4
  ·rename_i hc
   obtain ⟨hc1,hc2⟩:=hc;subst hc1;obtain ⟨s,e5,e6⟩:=bind_some e4;refine ⟨a,dx,fs,rfl,g1.sh _ _ h,r.xX hc2,?_⟩;refine ⟨H0,Hs1,τ,fp,ds,st.ext g1,g1.sh,e3,λ vs Hs2 H2 g2 r2=>?_⟩;refine ⟨Hs2,_,s,g2.sh,.cons ((Rp.obj h r).same g2.ss) (by rw [Z1]; exact r2),e5,λ v Hs3 H3 g3 rv=>?_⟩;obtain ⟨Hs4,g4,r4⟩:=rv.shr g3 e6;exact q v Hs4 H3 ((g1.trans g2).trans g4) r4
  · cases e4
 | _=>exact nn e4
theorem AQ (he:PEd X o g) (c:Cls X.K C) (hm:yK X.K C m fa) (Fo:gL X.prog X.w X.K X.mg X.base CX0 k fa fd ps (spF F X.K)) (hr:cg k X.A) (hb:Binds X.K fd ps []) (ha:PAd X (e::es) ga)
 (hst:starEach (e::es) X.env=(false,eval e X.env)::starEach es X.env:=by rfl) (hpl:(backTo pos (starEach es X.env)).any (·.1)=false:=by rfl)
 (ht:eval (.Call (.Attribute o m apos) (e::es) [] pos) X.env=(do
   let ov <- eval o X.env
   standAt apos.atName
   let (f,first) <- holding [ov] (getMethod ov m pl)
   callWith pos f first (backTo pos (starEach (e::es) X.env)) (backToKw pos (keywordEach [] X.env))):=by rfl) :
 PEd X (.Call (.Attribute o m apos) (e::es) [] pos) (j9 C m F g ga):=(oZ he c hm Fo hr hb .nil iE ha hst hpl ht).imp λ σ H Q h=>Bm X.K h
end
def cZ:List D->Option (List Int)
 | []=>some []
 | .int i::ds=>(cZ ds).map (i::·)
 | _=>none
theorem j0:∀ {ds:List D} {ns:List Int},cZ ds=some ns->ds=ns.map .int
 | [],ns,h=>by simp [cZ] at h; subst h; rfl
 | .int i::ds,ns,h=>by
  obtain ⟨m,h1,rfl⟩:=Zm (show Option.map _ (cZ ds)=some ns from h);rw [j0 h1];rfl
 | .non::_,_,h=>by simp [cZ] at h
 | .bl _::_,_,h=>by simp [cZ] at h
 | .str _::_,_,h=>by simp [cZ] at h
 | .ty _::_,_,h=>by simp [cZ] at h
 | .tup _::_,_,h=>by simp [cZ] at h
 | .lst _::_,_,h=>by simp [cZ] at h
 | .fz _::_,_,h=>by simp [cZ] at h
 | .dct _::_,_,h=>by simp [cZ] at h
 | .obj _ _::_,_,h=>by simp [cZ] at h
 | .cls _::_,_,h=>by simp [cZ] at h
 | .dfz _::_,_,h=>by simp [cZ] at h
theorem qD (ns:List Int):cZ (ns.map .int)=some ns:=by
 induction ns with
 | nil=>rfl
 | cons n ns ih=>rw [Zg]; show Option.map _ (cZ (ns.map .int))=_; rw [ih]; rfl
theorem Rps.gy {K:W.Frag} {H:Hp}:∀ {xs:List V} {ns:List Int},Rps K H xs (ns.map .int)->xs=ns.map V.int
 | _,[],.nil=>rfl
 | _,n::ns,.cons h r=>by
  cases h;rw [Rps.gy r];rfl
theorem gy:∀ {ns:List Int} {us:List Value},a7 (ns.map V.int) us->∀ (i:Nat) (v:Value),us[i]?=some v->∃ t,v=.int ((ns[i]?).getD 0) t
 | [],_,.nil,i,v,e=>by simp at e
 | b::bs,_,.cons r t,0,v,e=>by
  simp at e;subst e;obtain ⟨tk,rfl⟩:=r;exact ⟨tk,by simp⟩
 | b::bs,_,.cons r t,i+1,v,e=>by
  obtain ⟨c,h1⟩:=gy t i v (by simpa using e);exact ⟨c,by simpa using h1⟩
section
variable {X:Cx} {e o:Expr} {es:List Expr} {m:Str} {pos apos:Pos} {k:Nat} {C fa:Addr} {fd:FuncData} {ps:List Str} {F:List D->Option Sl} {g:DE} {ga:DA}
def nZ (C:Addr) (m:Str) (F:List D->Option Sl) (o:DE) (g:DA):DE:=λ τ=>(o τ).bind λ x=>(g τ).bind λ ds=>match x with
 | .obj C' fs=>if C'=C/\fs.lookup m=none then (F (x::ds)).bind slO else none
 | _=>none
theorem xR (K:W.Frag) (h:rdO K (nZ C m F g ga) σ H Q):zY C m (spF F K) [] E0 (rdE K g) (rdA K ga) σ H Q:=by
 obtain ⟨H0,Hs,τ,fp,d,st,sm,e,q⟩:=h;obtain ⟨x,e1,e2⟩:=bind_some e;obtain ⟨ds,e3,e4⟩:=bind_some e2;refine ⟨H0,Hs,τ,fp,x,st,sm,e1,λ v Hs1 H1 g1 r1=>?_⟩
 cases r1 with
 | @obj a C' dx fs dd h r =>
  simp only at e4;split at e4
  ·rename_i hc
   obtain ⟨hc1,hc2⟩:=hc;subst hc1;obtain ⟨s,e5,e6⟩:=bind_some e4;refine ⟨a,dx,fs,rfl,g1.sh _ _ h,r.xX hc2,?_⟩;refine ⟨H0,Hs1,τ,fp,ds,st.ext g1,g1.sh,e3,λ vs Hs2 H2 g2 r2=>?_⟩;refine ⟨Hs2,_,s,g2.sh,.cons ((Rp.obj h r).same g2.ss) (by rw [Z1]; exact r2),e5,λ v Hs3 H3 g3 rv=>?_⟩
   cases s with
   | own d' =>
    have e':=Zj e6;subst e';obtain ⟨a',rfl,o,z⟩:=rv;exact q a' Hs3 H3 ((g1.trans g2).trans g3) o ((g1.trans g2).hh.free z)
   | shr _=>cases e6
   | no=>cases e6
  · cases e4
 | _=>exact nn e4
theorem Aw (he:PEd X o g) (c:Cls X.K C) (hm:yK X.K C m fa) (Fo:gL X.prog X.w X.K X.mg X.base CX0 k fa fd ps (spF F X.K)) (hr:cg k X.A) (hb:Binds X.K fd ps []) (ha:PAd X (e::es) ga)
 (hst:starEach (e::es) X.env=(false,eval e X.env)::starEach es X.env:=by rfl) (hpl:(backTo pos (starEach es X.env)).any (·.1)=false:=by rfl)
 (ht:eval (.Call (.Attribute o m apos) (e::es) [] pos) X.env=(do
   let ov <- eval o X.env
   standAt apos.atName
   let (f,first) <- holding [ov] (getMethod ov m pl)
   callWith pos f first (backTo pos (starEach (e::es) X.env)) (backToKw pos (keywordEach [] X.env))):=by rfl) :
 PEo X (.Call (.Attribute o m apos) (e::es) [] pos) (nZ C m F g ga):=(oZ he c hm Fo hr hb .nil iE ha hst hpl ht).imp λ σ H Q h=>xR X.K h
end
section
variable {prog:Program} {w:World} {A:Around} {R:Result->Shared->Prop} {s:Shared}
theorem mD (I:Nat->Shared->Prop)
  (turn:∀ n s,I n s->wpAny (model prog w) A (pyNext it) (λ r s₁=>match r with
    | none=>R (.ok .next) s₁
    | some v=>wpAny (model prog w) A (letOwnedTupleGo target it v) (λ _ s₁'=>wpAny (model prog w) A (assign target env v) (λ _ s₂=>wpAny (model prog w) A (isTrue cnd env (eval cnd env)) (λ ok s₂'=>if ok=true then wpAny (model prog w) A (eval elt env) (λ x s₃ =>
     wpAny (model prog w) A (call (.builtin "list.append") [acc,x]) (λ _ s₄=>∃ m,m < n/\I m s₄) (λ _ _=>False) s₃) (λ _ _=>False) s₂' else ∃ m,m < n/\I m s₂') (λ _ _=>False) s₂) (λ _ _=>False) s₁') (λ _ _=>False) s₁) (λ _ _=>False) s)
  (n:Nat) (h:I n s) :
  codeAny (model prog w) A (.compLoop (.ListComp elt [⟨target,iter,[cnd],0⟩] scope pos) 0 it acc env) R s:=by
 refine codeAny_loop rfl I (λ n s hI=>?_) n h;refine wpAny_noted ?_
 rw [compTurn_list];refine Zl (wpAny_standAt (Zl (Z9 (turn n s hI) (λ r s₁ h₁=>?_) λ _ _ h'=>h'.elim)))
 cases r with
 | none=>exact Zx h₁
 | some v =>
  refine Zl (Z9 h₁ (λ _ s₁' h₁'=>?_) λ _ _ h'=>h'.elim);refine Zl (Z9 h₁' (λ _ s₂ h₂=>?_) λ _ _ h'=>h'.elim);refine Zl (Z9 (wpAny_tests_one h₂) (λ ok s₃ h₃=>?_) λ _ _ h'=>h'.elim)
  cases ok with
  | false =>
    rw [if_neg Zf] at h₃
    rw [if_neg Zf];exact Zl (Zx (Zx ⟨rfl,h₃⟩))
  | true =>
    rw [if_pos rfl] at h₃
    rw [if_pos rfl];exact Zl (Zl (Z9 h₃ (λ x s₄ h₄=>Zl (Z9 h₄ (λ _ s₅ h₅=>Zx (Zx ⟨rfl,h₅⟩)) λ _ _ h'=>h'.elim)) λ _ _ h'=>h'.elim))
end
def z4 (J:It) (tt:TT) (te:TE) (cs:List (Str×Nat)) (σ:St) (Q:VK) (H1:Hp):Prop:=∃ W:Nat->Nat->List V->Hp->Prop,(∃ m,W 0 m [] H1)/\∀ i m ys H',W i m ys H' ->
 (J.stop i H'/\ys.length<=sizeLine/\∀ p,H' p=none->Q (.ref p) (upd H' p (.lst ys))) \/
 (J.go i H'/\ys.length < sizeLine/\∀ v H2,J.yld i H' v H2->tt (some v::aF σ cs) H2 λ b H3=>if b=true then te (some v::aF σ cs) H3 λ y H4=>∃ m',m' < m/\W (i+1) m' (ys++[y]) H4 else ∃ m',m' < m/\W (i+1) m' ys H3)
def p7 (wi:TI) (tt:TT) (te:TE) (cs:List (Str×Nat)):TE:=λ σ H Q=>wi σ H λ J H1=>z4 J tt te cs σ Q H1
section
variable {X:Cx}
theorem kf {elt iter:Expr} {x:Str} {px pos:Pos} {scope:Scope} {cl:List (Str×Addr)} {cs:List (Str×Nat)} {te:TE} {tt:TT} {cnd:Expr} {pins:List (Addr×Obj)} {σ:St} {H:Hp} {s:Shared} {Q:VK} {it:Addr} {fp:List Addr} {tn:Nat->Heap->Prop} {J:It}
  {RR:Value->Addr->Result->Shared->Prop} {E:Value->Shared->Prop} (hc:X.calm=true) (O:cC X scope cl x cs) (hcd:∀ s H fp C,PT (bg X scope cl (x::cs.map (·.1)) s H fp C) cnd tt) (he:∀ s H fp C,PE (bg X scope cl (x::cs.map (·.1)) s H fp C) elt te)
  (I:Inv X pins σ H s) (T:Turn X.prog X.w X.K (.Name x px) J fp it tn) (st:tn 0 s.heap) (f2:∀ b ∈ fp,rD X pins H b)
  (h : ∃ W:Nat->Nat->List V->Hp->Prop,(∃ m,W 0 m [] H)/\∀ i m ys H',W i m ys H' ->
    (J.stop i H'/\ys.length<=sizeLine/\∀ p,H' p=none->Q (.ref p) (upd H' p (.lst ys))) \/
    (J.go i H'/\ys.length < sizeLine/\∀ v H2,J.yld i H' v H2->tt (some v::aF σ cs) H2 λ b H3=>if b=true then te (some v::aF σ cs) H3 λ y H4=>∃ m',m' < m/\W (i+1) m' (ys++[y]) H4 else ∃ m',m' < m/\W (i+1) m' ys H3))
  (hRR:∀ D C s' H' ys,s.heap.objs.size<=D->s.heap.objs.size<=C->D≠C->(∃ m,s'.heap.Ns C m)->Inv X pins σ (upd H' D (.lst ys)) s'->H' C=none->Q (.ref D) (upd H' D (.lst ys))->RR (.ref D) C (.ok .next) s') :
  wpAny (model X.prog X.w) X.A (newList []) (λ acc s₃=>wpAny (model X.prog X.w) X.A (newFunctionEnv scope X.env.globals cl [] X.env.qual none .none (some X.env)) (λ cenv s₄ =>
    codeAny (model X.prog X.w) X.A (.compStart (.ListComp elt [⟨.Name x px,iter,[cnd],0⟩] scope pos) 0 (.ref it) acc { cenv with scope:=relabel scope X.env }) (RR acc cenv.locals) s₄) E s₃) E s:=by
 obtain ⟨W,⟨m0,w0⟩,turn⟩:=h;refine Y7 (Xm O.fZ (by intro y hy; simp at hy) (λ h₁ hns₁ hsb₁=>?_) O.kind);generalize hH2:s.heap.push { cls:=.type "list",dict:=none,data:=.seq ([]:List Value).toArray }=H2 at hns₁ hsb₁ ⊢
 have hC:H2.objs.size=s.heap.objs.size+1:=by rw [<- hH2,Y3]
 have hDC:s.heap.objs.size≠H2.objs.size:=by rw [hC]; exact Zz (Xb _)
 have hCle:s.heap.objs.size<=H2.objs.size:=by rw [hC]; exact Nat.le_succ _
 have neC:∀ b,b < s.heap.objs.size->b≠H2.objs.size:=λ b hb=>by rw [hC]; exact Zz (Nat.lt_succ_of_lt hb)
 have old:∀ b o,s.heap.get? b=some o->h₁.get? b=some o:=λ b o e=>hsb₁.extBut b o (neC b (Zr e)) (Heap.get?_push_of_some _ (hH2 ▸ Heap.get?_push_of_some _ e))
 have hacc:=hsb₁.extBut _ _ hDC (Heap.get?_push_of_some _ (hH2 ▸ Heap.get?_push_size _ rfl))
 have there:∀ b ∈ fp,b < s.heap.objs.size:=λ b hb=>by
  obtain ⟨o,e,_⟩:=T.obj _ _ st b hb;exact Zr e
 have hns:h₁.Ns H2.objs.size λ _=>none:=by
  have e:(λ x=>List.lookup x ([]:List (Str×Value)).reverse)=λ _=>none:=by funext y; rfl
  rw [e] at hns₁
  exact hns₁
 generalize hD:s.heap.objs.size=D at hDC hCle hacc;generalize hCC:H2.objs.size=C at hDC hCle hns ⊢;have FD:=I.wU (b:=D) (by rw [<- hD]; exact Zk _) (I.hok.fresh (by rw [<- hD]; exact Zk _));have nfpD:∀ b ∈ fp,b≠D:=λ b hb=>by rw [<- hD]; exact Zz (there b hb)
 have nfpC:∀ b ∈ fp,b≠C:=λ b hb=>Zz (Z0 (there b hb) (by rw [hD]; exact hCle))
 have st1:=T.keep _ _ _ st λ b _ o e=>old b o e
 have I1:Inv (bg X scope cl (x::cs.map (·.1)) s H fp C) [] (none::aF σ cs) H { s with heap:=h₁,toks:=s.toks+([]:List (Str×Value)).length } :=
  lA O I f2 there (by rw [hD]; exact hCle) old hns
 generalize hY:bg X scope cl (x::cs.map (·.1)) s H fp C=Y at I1
 have pgx:PG Y (.Name x px) (mq 0):=by
  subst hY;exact jF O.nd rfl (.inl (Xn O.own)) (.inr (Xn O.own))
 have peY:PE Y elt te:=by subst hY; exact he _ _ _ _
 have ptY:PT Y cnd tt:=by subst hY; exact hcd _ _ _ _
 have Yx:Y.prog=X.prog/\Y.w=X.w/\Y.K=X.K/\Y.A=X.A/\Y.env=compEnvC scope cl C X.env/\Y.calm=X.calm/\Y.xe=(λ _ _=>False)/\Y.pn=[]/\Y.ex=fp/\Y.fs=frs X.stack/\Y.s₀=s/\Y.H₀=H:=by subst hY; exact ⟨rfl,rfl,rfl,rfl,rfl,rfl,rfl,rfl,rfl,rfl,rfl,rfl⟩
 obtain ⟨y1,y2,y3,y4,y5,y6,y7,y8,y9,y10,y11,y12⟩:=Yx;have nstk:∀ b,b≠X.env.locals->b ∉ X.fs->b ∉ Y.fs:=λ b h1 h2 z=>by rw [y10] at z; exact (Zh.mp (I.dF b z)).elim h1 h2
 have yl:Y.env.locals=C:=by rw [y5]; rfl
 have yc:∀ z c,Y.env.cells.lookup z=some c->X.env.cells.lookup z=some c:=λ z c e=>by rw [y5] at e; exact O.sub z c e
 have stat:∀ {ps:List (Addr×Obj)} {H':Hp},(∀ b ∈ fp,H' b=none)->(∀ p ∈ ps,p.1=D)->∀ b ∈ fp,rD Y ps H' b:=λ {ps H'} hn hp b hb =>
  ⟨hn b hb,by rw [yl]; exact nfpC b hb,nstk b (f2 b hb).2.1 (f2 b hb).2.2.1,.inl (by rw [y9]; exact hb),λ z c e=>(f2 b hb).2.2.2.2.1 z c (yc z c e),λ p hq=>by
    rw [y8,List.nil_append] at hq;rw [hp p hq]
    exact Ne.symm (nfpD b hb)⟩
 have pinD:∀ {σ':St} {H':Hp} {s':Shared} {ob:Obj},Inv Y [] σ' H' s'->H' D=none->s'.heap.get? D=some ob->(∀ v,ob.data≠.cell v)->Inv Y [(D,ob)] σ' H' s':=λ {σ' H' s' ob} I' hn e hd =>
  I'.gn λ p hp=>by
    have e1:p=(D,ob):=by simpa using hp
    subst e1;exact ⟨e,hn,by rw [yl]; exact hDC,nstk D FD.2.1 FD.2.2.1,hd⟩
 have loop:∀ s₃:Shared,s₃={ s with heap:=h₁,toks:=s.toks+([]:List (Str×Value)).length } ->
    codeAny (model X.prog X.w) X.A (.compLoop (.ListComp elt [⟨.Name x px,iter,[cnd],0⟩] scope pos) 0 (.ref it) (.ref D) (compEnvC scope cl C X.env)) (RR (.ref D) C) s₃:=by
  rintro s₃ rfl
  refine mD (λ n s'=>∃ i o H' ys its k,Inv Y [] (o::aF σ cs) H' s'/\tn i s'.heap/\(∀ b ∈ fp,H' b=none)/\H' D=none/\s'.heap.get? D=some { cls:=.type "list",data:=.seq (its:List Value).toArray k }/\a7 ys its/\W i n ys H') ?_ m0
    ⟨0,none,H,[],[],0,I1,st1,λ b hb=>(f2 b hb).1,FD.1,hacc,.nil,w0⟩
  rintro n s3 ⟨i,o,H3,ys,its,k,I3,st3,fr3,frD,e3,vs3,w3⟩
  have I3p:=pinD I3 frD e3 (by intro v z; cases z)
  have onlyD:∀ p ∈ [(D,({ cls:=.type "list",data:=.seq its.toArray k }:Obj))],p.1=D:=λ p hp=>by
    have e1:=Zo.mp hp;rw [e1]
  rcases turn i n ys H3 w3 with ⟨stop,hz,q⟩ | ⟨go,hz,step⟩
  · have dn:=T.done Y y1 y2 y3 (by rw [y6]; exact hc) i _ s3 (o::aF σ cs) H3 (λ _ _=>False) I3p (stat fr3 onlyD) st3 stop
    rw [y4] at dn;refine thn dn λ r s4 ⟨hr,I4⟩=>?_
    subst hr;obtain ⟨e4,_⟩:=I4.pin (D,_) (Zc _ (Zo.mpr rfl));have b4:=I4.base;rw [y9,y10,y11,y12] at b4;have hk4:=I4.hok;rw [y1,y2] at hk4;have hCn:H3 C=none:=by have:=I4.free; rw [yl] at this; exact this
    refine hRR D C s4 H3 ys (by rw [<- hD]; exact Zk _) (by rw [hD]; exact hCle) hDC (by obtain ⟨m,hm,_⟩:=I4.loc; rw [yl] at hm; exact ⟨m,hm⟩) ?_ hCn (q D frD);have neD:∀ b o,s.heap.get? b=some o->b≠D:=λ b o e=>by rw [<- hD]; exact Zz (Zr e)
    have neDH:∀ b u,H b=some u->b≠D:=λ b u e=>by rw [<- hD]; exact Zz (I.hok.lt e)
    refine I.yA (by have:=I4.os; rw [y11] at this; exact this) ⟨b4.keep,b4.slot,λ b o e n hx=>?_,b4.there,λ b xs e=>?_,λ b o u e=>?_,λ b ps e=>?_⟩ (λ b u e=>?_) I4.bare λ b hb=>?_
    · rw [af (neD b o e)]; exact b4.free b o e n hx
    · rw [af (neDH b _ e)]; exact b4.mK b xs e
    · rw [af (neDH b _ e)]; exact b4.mr b o u e
    · rw [af (neDH b _ e)]; exact b4.lR b ps e
    ·have t1:∀ c u,H3 c=some u->upd H3 D (.lst ys) c=some u:=λ c u z=>by
      rw [af (λ zz=>by rw [zz,frD] at z; cases z)];exact z
     by_cases hb:b=D
     ·subst hb
      rw [ai] at e;cases e;exact ⟨hz,its,k,vs3,e4⟩
     ·rw [af hb] at e
      exact (hk4 b u e).oT (λ _ _ _ z=>z) (λ c z=>t1 c _ z) λ c xs z=>t1 c _ z
    · exact ⟨(f2 b hb).2.2.2.1,(f2 b hb).2.1,(f2 b hb).2.2.2.2.1,(f2 b hb).2.2.2.2.2⟩
  · have im:=T.item Y y1 y2 y3 (by rw [y6]; exact hc) i _ s3 (o::aF σ cs) H3 (λ _ _=>False) I3p (stat fr3 onlyD) st3 go
    rw [y4] at im;refine thn im λ r s4 ⟨u,hr,h4⟩=>?_
    subst hr;refine thn h4 λ _ s5 ⟨v,H5,I5,r5,y5',st5,fr5⟩=>?_
    have I5':=I5.pinned (stat fr5 onlyD) (T.obj _ _ st5);have as:=pgx _ s5 (o::aF σ cs) H5 v u _ I5' r5 (show mq 0 v (o::aF σ cs) H5 (λ σ' H'=>σ'=some v::aF σ cs/\H'=H5) from ⟨rfl,rfl⟩);rw [y1,y2,y4,y5,y7] at as;refine thn as λ _ s6 ⟨σ6,H6,I6,e6,e6'⟩=>?_
    subst e6 e6';have ts:=ptY _ s6 _ H6 _ I6 (step v H6 y5');rw [y1,y2,y4,y5,y7] at ts;refine thn ts λ bb s7 ⟨H7,I7,q7⟩=>?_
    have fpk:∀ b ∈ fp,∀ o,s5.heap.get? b=some o->s7.heap.get? b=some o/\H7 b=none:=λ b hb o e=>by
     obtain ⟨z1,z2,_⟩:=I7.pin (b,o) (Zc _ (Zc _ (dR hb e)));exact ⟨z1,z2⟩
    cases bb with
    | false =>
     obtain ⟨m',hm',w7⟩:=(by rw [if_neg Zf] at q7; exact q7)
     rw [if_neg Zf];obtain ⟨e7,n7,_⟩:=I7.pin (D,_) (Zc _ (Zn _ (Zo.mpr rfl)));have I7n:Inv Y [] (some v::aF σ cs) H7 s7:=I7.gn λ p hp=>absurd hp (by simp)
     refine ⟨m',hm',i+1,some v,H7,ys,its,k,I7n,T.keep _ _ _ st5 λ b hb o e=>(fpk b hb o e).1,λ b hb=>?_,n7,e7,vs3,w7⟩;obtain ⟨o',e',_⟩:=T.obj _ _ st5 b hb;exact (fpk b hb o' e').2
    | true =>
    rw [if_pos rfl];have q7':=q7;rw [if_pos rfl] at q7';have el:=peY _ s7 _ H7 _ I7 q7';rw [y1,y2,y4,y5,y7] at el;refine thn el λ u8 s8 ⟨y8',H8,I8,r8,m',hm',w8⟩=>?_
    obtain ⟨e8,n8,_⟩:=I8.pin (D,_) (Zc _ (Zn _ (Zo.mpr rfl)));have hl3:=vs3.length;refine call_meets F.slot_list_append ⟨_,e8,rfl⟩ F.entry_list_append (F.args_list_append_2 _ _) (PySem.list_append D its.toArray k u8 (by rw [Zs]; omega)) ⟨e8,?_⟩;obtain ⟨k',up⟩:∃ k',(s8.heap.update D (Obj.mapSeq (·.push u8))).get? D=some { cls:=.type "list",data:=.seq (its.toArray.push u8) k' }:=⟨_,PySem.IsL.update e8 (·.push u8)⟩
    have fpk8:∀ b ∈ fp,∀ o,s5.heap.get? b=some o->s8.heap.get? b=some o/\H8 b=none:=λ b hb o e=>by
     obtain ⟨z1,z2,_⟩:=I8.pin (b,o) (Zc _ (Zc _ (dR hb e)));exact ⟨z1,z2⟩
    have I8n:Inv Y [] (some v::aF σ cs) H8 s8:=I8.gn λ p hp=>absurd hp (by simp)
    refine ⟨m',hm',i+1,some v,H8,ys++[y8'],its++[u8],k',?_,?_,?_,n8,?_,vs3.append (.cons r8 .nil),w8⟩
    ·refine I8n.turned (λ b o hb e=>(Heap.get?_update_other s8.heap (Obj.mapSeq (·.push u8)) (Ne.symm hb)).trans e) n8 (by rw [yl]; exact hDC) (.inr (by rw [y11,<- hD]; exact Zk _)) (λ z c e=>FD.2.2.2.2.1 z c (yc z c e)) λ p hp=>?_
     rw [y8] at hp;exact absurd hp (by simp)
    ·refine T.keep _ _ _ st5 λ b hb o e=>?_
     exact (Heap.get?_update_other s8.heap (Obj.mapSeq (·.push u8)) (Ne.symm (nfpD b hb))).trans (fpk8 b hb o e).1
    ·intro b hb
     obtain ⟨o',e',_⟩:=T.obj _ _ st5 b hb;exact (fpk8 b hb o' e').2
    ·rw [List.push_toArray] at up
     exact up
 exact codeAny_compStart_list (loop _ rfl) (T.self _ 0 _ _ _ st1 (loop _ rfl))
theorem l0 {elt iter:Expr} {x:Str} {px pos:Pos} {scope:Scope} {cl:List (Str×Addr)} {cs:List (Str×Nat)} {wi:TI} {te:TE} {tt:TT} {cnd:Expr} (hc:X.calm=true) (O:cC X scope cl x cs) (hi:PI X (.Name x px) iter wi)
  (hcd:∀ s H fp C,PT (bg X scope cl (x::cs.map (·.1)) s H fp C) cnd tt) (he:∀ s H fp C,PE (bg X scope cl (x::cs.map (·.1)) s H fp C) elt te) (hs:∀ x,foldedSetIterable iter X.env x=pure x:=by intro _; rfl) :
  PE X (.ListComp elt [⟨.Name x px,iter,[cnd],0⟩] scope pos) (p7 wi tt te cs):=by
 intro pins s σ H Q I h;rw [eval_ListComp];refine wpAny_comprehension_free rfl hs O.bD O.kind O.names (thn (hi pins s σ H _ I h) λ v s1 h1=>thn h1 λ itv s2 h2=>?_);obtain ⟨it,fp,tn,J,H2,rfl,I2,T,st2,f2,hw⟩:=h2;refine kf hc O hcd he I2 T st2 f2 hw λ D C s' H' ys hD hC hDC ⟨m,hm⟩ I' hn q=>?_
 refine ⟨m,hm,λ h' hs'=>?_⟩;have hn':upd H' D (.lst ys) C=none:=by rw [af (Ne.symm hDC)]; exact hn
 have FC:=I2.wU hC hn';exact ⟨.ref D,upd H' D (.lst ys),I'.turned (λ b o hb e=>(hs'.2 b hb).trans e) hn' FC.2.1 FC.2.2.2.1 FC.2.2.2.2.1 FC.2.2.2.2.2,rfl,q⟩
theorem lY {elt iter:Expr} {x y:Str} {px py pos spos:Pos} {i:Nat} {scope:Scope} {cl:List (Str×Addr)} {cs:List (Str×Nat)} {wi:TI} {te:TE} {tt:TT} {cnd:Expr} (hN:X.N.Nodup) (hy:X.N[i]?=some y) (hx:Loc X.env.scope y)
  (hc:X.calm=true) (O:cC X scope cl x cs) (hi:PI X (.Name x px) iter wi)
  (hcd:∀ s H fp C,PT (bg X scope cl (x::cs.map (·.1)) s H fp C) cnd tt) (he:∀ s H fp C,PE (bg X scope cl (x::cs.map (·.1)) s H fp C) elt te) (hs:∀ x,foldedSetIterable iter X.env x=pure x:=by intro _; rfl)
  (hsw:swapsWith (.ListComp elt [⟨.Name x px,iter,[cnd],0⟩] scope pos) (some (.Name y py)) spos.line X.env=pure true:=by rfl)
  (hf:X.fn y=true\/X.env.scope.names.lookup y=some .local:=by first | exact .inl rfl | exact .inr rfl | assumption) :
  PS X (.Assign [.Name y py] (.ListComp elt [⟨.Name x px,iter,[cnd],0⟩] scope pos) spos) (Gu (p7 wi tt te cs) (mq i)):=by
 intro pins s σ H Dd I h;rw [exec_Assign_Name_used _ _ _ _ hsw];refine Zl (wpAny_standAt (Zl ?_))
 refine Zl (Z9 (wpAny_comprehension_free rfl hs O.bD O.kind O.names (thn (hi pins s σ H _ I h) λ v s1 h1=>thn h1 λ itv s2 h2=>?_))
  (λ _ s' hq=>Zx (Zx hq)) λ _ _ e=>e)
 obtain ⟨it,fp,tn,J,H2,rfl,I2,T,st2,f2,hw⟩:=h2;refine kf (Q:=λ v H1=>mq i v σ H1 Dd.nx) hc O hcd he I2 T st2 f2 hw λ D C s' H' ys hD hC hDC ⟨m,hm⟩ I' hn q=>?_
 have hn':upd H' D (.lst ys) C=none:=by rw [af (Ne.symm hDC)]; exact hn
 have FC:=I2.wU hC hn';refine wpAny_assign_Name (mT I' hN hy hx (v:=.ref D) rfl (λ s'' I'' ⟨a,hsb,ha⟩=>?_) hf)
 have na:C≠a:=by
  rcases ha with ha | ha
  · rw [ha]; exact FC.2.1
  · exact Ne.symm (FC.2.2.2.2.1 y a ha)
 refine ⟨m,hm.sameBut hsb na,λ h' hs'=>?_⟩;exact ⟨σ.set i (some (.ref D)),upd H' D (.lst ys),I''.turned (λ b o hb e=>(hs'.2 b hb).trans e) hn' FC.2.1 FC.2.2.2.1 FC.2.2.2.2.1 FC.2.2.2.2.2,q⟩
end
def pJ (c:D->Option Bool) (g:D->Option D):List D->Option (List D)
 | []=>some []
 | d::ds=>(c d).bind λ b=>if b=true then (g d).bind λ x=>(pJ c g ds).bind λ xs=>some (x::xs) else pJ c g ds
def hW (it:DI) (c:DT) (g:DE) (cs:List (Str×Nat)):DE:=λ τ=>(it τ).bind λ ds=>if ds.length<=100000 then (pJ (λ d=>c (.shr d::dA τ cs)) (λ d=>g (.shr d::dA τ cs)) ds).map .lst else none
section
variable {X:Cx} {e:Expr} {es:List Expr} {pos:Pos}
theorem mC {K:W.Frag} {it:DI} {c:DT} {g:DE} {cs:List (Str×Nat)} {σ:St} {H:Hp} {Q:VK} (h:rdO K (hW it c g cs) σ H Q):p7 (rdI K it) (rdT K c) (rdE K g) cs σ H Q:=by
 obtain ⟨H0,Hs,τ,fp,d,st,sm,e,k⟩:=h;obtain ⟨ds,e1,e2⟩:=bind_some e;split at e2
 ·rename_i hl
  obtain ⟨full,e3,rfl⟩:=Zm e2;refine ⟨H0,Hs,τ,fp,ds,st,sm,e1,λ J Hs1 H1 g1 hJ=>?_⟩;refine ⟨λ i m ys H'=>m=ds.length - i/\i<=ds.length/\∃ Hs2 es rest,Ext Hs1 H1 Hs2 H'/\Rps K Hs2 ys es/\es.length<=i/\pJ (λ d=>c (.shr d::dA τ cs)) (λ d=>g (.shr d::dA τ cs)) (ds.drop i)=some rest/\es++rest=full,⟨ds.length,by simp,Yb _,Hs1,[],full,.refl g1.sh,.nil,Zk _,by simpa using e3,rfl⟩,?_⟩
  rintro i m ys H2 ⟨rfl,hi,Hs2,es,rest,g2,ry,ley,e4,e5⟩
  obtain ⟨hgo,hstop⟩:=hJ Hs2 H2 g2.ss g2.sh;have ly:ys.length<=i:=by rw [ry.length]; exact ley
  by_cases hlt:i < ds.length
  ·have ed:=Y1 hlt
   rw [ed] at e4;obtain ⟨b,q0,q0'⟩:=bind_some e4;obtain ⟨go,yl⟩:=hgo i ds[i] (List.getElem?_eq_getElem hlt);refine .inr ⟨go,le5 (by omega),λ v H3 y=>?_⟩;obtain ⟨Hs3,g3,rv⟩:=yl v H3 y;have g13:=(g1.trans g2).trans g3;refine ⟨H0,Hs3,.shr ds[i]::dA τ cs,[],b,.shr rv (iy (st.ext g13) cs),g3.sh,q0,λ Hs4 H4 g4=>?_⟩;have g14:=g13.trans g4
   cases b with
   | true =>
    refine zD ?_
    obtain ⟨x,q1,q2⟩:=bind_some (q0');obtain ⟨xs,q3,q4⟩:=bind_some q2;have eq:=Zj q4;subst eq;refine ⟨H0,Hs4,.shr ds[i]::dA τ cs,[],x,.shr (rv.same g4.ss) (iy (st.ext g14) cs),g4.sh,q1,λ v5 Hs5 H5 g5 r5=>?_⟩;exact ⟨ds.length - (i+1),by omega,rfl,hlt,Hs5,es++[x],xs,((g2.trans g3).trans g4).trans g5,(((ry.same g3.ss).same g4.ss).same g5.ss).append (.cons r5 .nil),by simp; omega,q3,by rw [<- e5]; simp⟩
   | false =>
    refine El ?_
    have q1:=q0';exact ⟨ds.length - (i+1),by omega,rfl,hlt,Hs4,es,rest,(g2.trans g3).trans g4,(ry.same g3.ss).same g4.ss,by omega,q1,e5⟩
  ·have e0:i=ds.length:=by omega
   subst e0;rw [Xr] at e4;have er:=Zj e4;subst er;rw [Z1] at e5;subst e5;refine .inl ⟨hstop _ (Zk _),pH (by omega),λ p hp=>?_⟩;have g12:=g1.trans g2;exact k p Hs2 _ ⟨g12.ss,g12.sh.trans (ar hp _),g12.hh.trans (ar hp _),g12.fr⟩ (.lst ai (g12.sh.free hp) ry) (g12.hh.free hp)
 · cases e2
end
def kL:D->Option Key
 | .int i=>some (.inl i)
 | .str x=>some (.inr x)
 | _=>none
def iV (kvs:List (Key×D)) (k:Key):Option D:=(kvs.find? λ kv=>decide (kv.1=k)).map (·.2)
theorem jY {K:W.Frag} {H:Hp} {v:V} {d:D} {k:Key} (r:Rp K H v d) (e:kL d=some k):v=kV k:=by
 cases r <;> simp [kL] at e <;> subst e <;> rfl
theorem RpK.val {K:W.Frag} {H:Hp} {k:Key}:∀ {kvs:List (Key×V)} {ds:List (Key×D)},RpK K H kvs ds->(∀ d,iV ds k=some d->∃ v,cB kvs k=some v/\Rp K H v d)/\(iV ds k=none->cB kvs k=none)
 | _,_,.nil=>⟨λ d e=>by simp [iV] at e,λ _=>rfl⟩
 | _,_,@RpK.cons _ _ j x d xs ds h r=>by
  obtain ⟨i1,i2⟩:=RpK.val (k:=k) r
  by_cases q:j=k
  ·subst q
   refine ⟨λ d' e=>?_,λ e=>?_⟩
   ·have:d=d':=by simpa [iV] using e
    subst this;exact ⟨x,by simp [cB],h⟩
   · simp [iV] at e
  ·have e1:iV ((j,d)::ds) k=iV ds k:=by simp [iV,q]
   have e2:cB ((j,x)::xs) k=cB xs k:=by simp [cB,q]
   rw [e1,e2];exact ⟨i1,i2⟩
theorem RpK.length {K:W.Frag} {H:Hp}:∀ {kvs:List (Key×V)} {ds:List (Key×D)},RpK K H kvs ds->kvs.length=ds.length
 | _,_,.nil=>rfl
 | _,_,.cons _ r=>Z7 (·+1) r.length
def dz:D->D->Option D
 | .dct kvs,y=>(kL y).bind λ k=>iV kvs k
 | .dfz kvs,y=>(kL y).bind λ k=>iV kvs k
 | _,_=>none
def Co:D->D->Option D
 | y,.dct kvs=>(kL y).map λ k=>.bl (iV kvs k).isSome
 | y,.dfz kvs=>(kL y).map λ k=>.bl (iV kvs k).isSome
 | _,_=>none
def jP:D->D->Option D
 | y,.dct kvs=>(kL y).map λ k=>.bl (!(iV kvs k).isSome)
 | y,.dfz kvs=>(kL y).map λ k=>.bl (!(iV kvs k).isSome)
 | _,_=>none
section
variable {X:Cx} {o i e value:Expr} {pos pos' apos cpos:Pos} {f g h:DE}
theorem vO {neg:Bool} {σ:St} {H:Hp} {Q:VK} (K:W.Frag) (h:rdE K (dOp (if neg then jP else Co) f g) σ H Q):rdE K f σ H λ y H1=>rdE K g σ H1 λ x H2=>∃ a o,x=.ref a/\sS H2 a y o/\Q (.bl (if neg then !o.isSome else o.isSome)) H2:=by
 have h':=kQ K h;obtain ⟨H0,Hs,τ,fp,x,st,sm,e1,kk⟩:=h';refine ⟨H0,Hs,τ,fp,x,st,sm,e1,λ v Hs1 H1 g1 r1=>?_⟩;obtain ⟨H0',Hs',τ',fp',y,st',sm',e2,kk2⟩:=kk v Hs1 H1 g1 r1;refine ⟨H0',Hs',τ',fp',y,st',sm',e2,λ u Hs2 H2 g2 r2=>?_⟩;obtain ⟨Hs3,dx,dy,d,sm3,rx,ry,eo,k⟩:=kk2 u Hs2 H2 g2 r2
 obtain ⟨ds,key,ey,ek,ev⟩:∃ ds key,(dy=.dct ds\/dy=.dfz ds)/\kL dx=some key/\D.bl (if neg then !(iV ds key).isSome else (iV ds key).isSome)=d:=by
  cases neg with
  | true =>
   have eo:jP dx dy=some d:=eo;unfold jP at eo;split at eo
   ·obtain ⟨key,a1,a2⟩:=Zm eo
    exact ⟨_,key,.inl rfl,a1,a2⟩
   ·obtain ⟨key,a1,a2⟩:=Zm eo
    exact ⟨_,key,.inr rfl,a1,a2⟩
   · cases eo
  | false =>
   have eo:Co dx dy=some d:=eo;unfold Co at eo;split at eo
   ·obtain ⟨key,a1,a2⟩:=Zm eo
    exact ⟨_,key,.inl rfl,a1,a2⟩
   ·obtain ⟨key,a1,a2⟩:=Zm eo
    exact ⟨_,key,.inr rfl,a1,a2⟩
   · cases eo
 obtain ⟨a,kvs,rfl,hH,rk⟩:∃ a kvs,u=.ref a/\Rd H2 a (.dK kvs)/\RpK K Hs3 kvs ds:=by
  rcases ey with rfl | rfl
  ·cases ry with
   | dct hH rk=>exact ⟨_,_,rfl,.inl (sm3 _ _ hH),rk⟩
  ·cases ry with
   | dfz hH rk=>exact ⟨_,_,rfl,hH.elim (λ z=>.inl (sm3 _ _ z)) λ ⟨o,z⟩=>.inr ⟨o,sm3 _ _ z⟩,rk⟩
 have:=jY rx ek;subst this;subst ev
 have is:(cB kvs key).isSome=(iV ds key).isSome:=by
  cases q:iV ds key with
  | none=>rw [(rk.val).2 q]; rfl
  | some d'=>obtain ⟨w,hw,_⟩:=(rk.val (k:=key)).1 d' q; rw [hw]; rfl
 refine ⟨a,cB kvs key,rfl,.inl ⟨kvs,key,hH,rfl,rfl⟩,?_⟩;rw [is];exact k _ Hs3 H2 (.refl sm3) (.bl _)
theorem zW (K:W.Frag) (h:rdT K (dT f) σ H Q):rdE K f σ H λ x H1=>∃ c,x=.bl c/\Q c H1:=by
 obtain ⟨H0,Hs,τ,fp,d,st,sm,e,k⟩:=h;obtain ⟨x,e1,e⟩:=bind_some e;have hx:x=.bl d:=by cases x <;> simp at e <;> subst e <;> rfl
 subst hx;refine ⟨H0,Hs,τ,fp,_,st,sm,e1,λ v Hs' H' g r=>?_⟩;cases r;exact ⟨d,rfl,k Hs' H' g⟩
end
def scD:D->Option V
 | .int i=>some (.int i)
 | .str x=>some (.str x)
 | .non=>some .non
 | _=>none
def Ab:List D->Option (List V)
 | []=>some []
 | d::ds=>(scD d).bind λ v=>(Ab ds).map (v::·)
def inS (x:D) (ys:List D):Option Bool:=(scD x).bind λ v=>(Ab ys).map λ vs=>inV v vs
def BD:D->Option (List D)
 | .lst ys=>some ys
 | .tup ys=>some ys
 | _=>none
def uK (x y:D):Option D:=(BD y).bind λ ys=>(inS x ys).map .bl
def jN (x y:D):Option D:=(BD y).bind λ ys=>(inS x ys).map λ b=>.bl !b
theorem C2 {K:W.Frag} {H:Hp} {v w:V} {d:D} (r:Rp K H v d) (e:scD d=some w):v=w/\kN v=true:=by
 cases r <;> simp [scD] at e <;> subst e <;> exact ⟨rfl,rfl⟩
theorem yT {K:W.Frag} {H:Hp}:∀ {vs ws:List V} {ds:List D},Rps K H vs ds->Ab ds=some ws->vs=ws/\vs.all kN=true
 | _,_,_,.nil,e=>by simp [Ab] at e; subst e; exact ⟨rfl,rfl⟩
 | _,_,_,.cons h r,e=>by
  obtain ⟨v,e1,e2⟩:=bind_some (show (scD _).bind _=_ from e);obtain ⟨ws,e3,e4⟩:=Zm e2;obtain ⟨q1,q2⟩:=C2 h e1;obtain ⟨q3,q4⟩:=yT r e3;subst q1 q3;exact ⟨e4,by rw [List.all_cons,q2,q4]; rfl⟩
section
variable {X:Cx}
theorem zE {K:W.Frag} {neg:Bool} {x y:V} {H:Hp} {Q:VK} (h:rdR K (if neg then jN else uK) x y H Q):rIn K neg x y H Q:=by
 obtain ⟨Hs,dx,dy,d,sm,rx,ry,e,k⟩:=h
 obtain ⟨ys,b,e1,e2,e3⟩:∃ ys b,BD dy=some ys/\inS dx ys=some b/\d=.bl (if neg then !b else b):=by
  cases neg with
  | true =>
   obtain ⟨ys,a1,a2⟩:=bind_some (e);obtain ⟨b,a3,a4⟩:=Zm a2;exact ⟨ys,b,a1,a3,a4.symm⟩
  | false =>
   obtain ⟨ys,a1,a2⟩:=bind_some (show (BD dy).bind _=some d from e);obtain ⟨b,a3,a4⟩:=Zm a2;exact ⟨ys,b,a1,a3,a4.symm⟩
 obtain ⟨v,e4,e5⟩:=bind_some e2;obtain ⟨vs,e6,e7⟩:=Zm e5;obtain ⟨q1,q2⟩:=C2 rx e4;subst q1 e3;have ry':=ry.same sm
 obtain ⟨p,xs,ep,hq,rs⟩:∃ p xs,y=.ref p/\(SqL K H p xs\/SqT K H p xs)/\Rps K H xs ys:=by
  cases ry' with
  | tup h r=>simp [BD] at e1; subst e1; exact ⟨_,_,rfl,.inr h,r⟩
  | lst h r=>simp [BD] at e1; subst e1; exact ⟨_,_,rfl,.inl (.of h),r⟩
  | _=>simp [BD] at e1
 obtain ⟨q3,q4⟩:=yT rs e6;subst q3;refine ⟨p,xs,ep,hq,q2,q4,?_⟩;rw [e7];exact k _ Hs H (.refl sm) (.bl _)
theorem DM:OpR X (compareOp .In) (rdR X.K uK):=uB.imp λ x y H Q h=>zE h
theorem xK:OpR X (compareOp .NotIn) (rdR X.K jN):=m8.imp λ x y H Q h=>zE h
end
section
variable {X:Cx} {a b c:Expr} {pos:Pos} {f g h:DE}
theorem yx (K:W.Frag) (hh:rdE K (oa (dOp o f g) (dOp o' g h)) σ H Q):tI (rdR K o) (rdR K o') (rdE K f) (rdE K g) (rdE K h) σ H Q:=by
 obtain ⟨H0,Hs,τ,fp,d,st,sm,e,k⟩:=hh;obtain ⟨r,e0,e⟩:=bind_some e;obtain ⟨x,e1,e0⟩:=bind_some e0;obtain ⟨y,e2,e0⟩:=bind_some e0;refine ⟨H0,Hs,τ,fp,x,st,sm,e1,λ v Hs1 H1 g1 r1=>?_⟩;refine ⟨H0,Hs1,τ,fp,y,st.ext g1,g1.sh,e2,λ u Hs2 H2 g2 r2=>?_⟩;refine ⟨Hs2,x,y,r,g2.sh,r1.same g2.ss,r2,e0,λ w Hs3 H3 g3 r3=>?_⟩
 cases r3 with
 | bl kb =>
  refine ⟨kb,rfl,?_⟩
  cases kb with
  | false =>
   rw [if_neg Zf];have e':D.bl false=d:=by simpa using e
   subst e';exact k _ Hs3 H3 ((g1.trans g2).trans g3) (.bl false)
  | true =>
   rw [if_pos rfl];obtain ⟨y',q1,q2⟩:=bind_some (e);have ey:y'=y:=by rw [e2] at q1; exact (Zj q1).symm
   subst ey;obtain ⟨z,q3,q4⟩:=bind_some q2;refine ⟨H0,Hs3,τ,fp,z,st.ext ((g1.trans g2).trans g3),g3.sh,q3,λ u' Hs4 H4 g4 r4=>?_⟩;exact ⟨Hs4,y',z,d,g4.sh,(r2.same g3.ss).same g4.ss,r4,q4,λ w' Hs5 H5 g5 r5=>k w' Hs5 H5 ((((g1.trans g2).trans g3).trans g4).trans g5) r5⟩
 | _=>exact nn e
end
inductive Tg where
 | l | d | o (C:Addr)
inductive Mt where
 | s (d:D)
 | n (t:Tg) (cs:List (Key×Mt))
def strOf:Key->Str
 | .inr x=>x
 | .inl _=>""
mutual
def frz:Mt->D
 | .s d=>d
 | .n .l cs=>.lst (vz cs)
 | .n .d cs=>.dct (Ez cs)
 | .n (.o C) cs=>.obj C (EA cs)
def vz:List (Key×Mt)->List D
 | []=>[]
 | (_,m)::r=>frz m::vz r
def Ez:List (Key×Mt)->List (Key×D)
 | []=>[]
 | (k,m)::r=>(k,frz m)::Ez r
def EA:List (Key×Mt)->List (Str×D)
 | []=>[]
 | (k,m)::r=>(strOf k,frz m)::EA r
end
theorem qH:∀ cs:List (Key×Mt),vz cs=cs.map λ c=>frz c.2
 | []=>rfl
 | (_,m)::r=>by rw [vz,qH r]; rfl
theorem mw:∀ cs:List (Key×Mt),Ez cs=cs.map λ c=>(c.1,frz c.2)
 | []=>rfl
 | (_,m)::r=>by rw [Ez,mw r]; rfl
theorem qJ:∀ cs:List (Key×Mt),EA cs=cs.map λ c=>(strOf c.1,frz c.2)
 | []=>rfl
 | (_,m)::r=>by rw [EA,qJ r]; rfl
inductive Stp where
 | k (k:Key) | i (n:Nat)
def ur (t:Tg) (cs:List (Key×Mt)) (st:Stp):Option Nat:=match t,st with
 | .l,.i n=>if n < cs.length then some n else none
 | .d,.k k=>cs.findIdx? λ c=>decide (c.1=k)
 | .o _,.k k=>cs.findIdx? λ c=>decide (c.1=k)
 | _,_=>none
def Mt.get:Mt->List Stp->Option Mt
 | m,[]=>some m
 | .s _,_::_=>none
 | .n t cs,st::p=>match ur t cs st with
  | none=>none
  | some i=>match cs[i]? with
   | none=>none
   | some c=>Mt.get c.2 p
def Mt.put:Mt->List Stp->Mt->Mt
 | _,[],m2=>m2
 | .s d,_::_,_=>.s d
 | .n t cs,st::p,m2=>match ur t cs st with
  | none=>.n t cs
  | some i=>match cs[i]? with
   | none=>.n t cs
   | some c=>.n t (cs.set i (c.1,Mt.put c.2 p m2))
inductive Lay:Tg->Addr->List (Key×V)->HO->Prop where
 | l {dx:Addr} (kvs:List (Key×V)):Lay .l dx kvs (.lst (kvs.map (·.2)))
 | d {dx:Addr} (kvs:List (Key×V)):Lay .d dx kvs (.dK kvs)
 | o {C dx:Addr} (fs:List (Str×V)):Lay (.o C) dx (fs.map λ f=>(.inr f.1,f.2)) (.ins C dx fs)
structure Kd where
 k:Key
 v:V
 m:Mt
 fp:List Addr
abbrev Kd.kv (t:Kd):Key×V:=(t.k,t.v)
abbrev Kd.km (t:Kd):Key×Mt:=(t.k,t.m)
def KU:Tg->List Kd->Prop
 | .l,_=>True
 | _,ts=>(ts.map Kd.k).Nodup
inductive Od (K:W.Frag) (Hs H:Hp):List Addr->V->Mt->Prop where
 | s {v:V} {d:D} (r:Rp K Hs v d):Od K Hs H [] v (.s d)
 | n {a dx:Addr} {t:Tg} {ts:List Kd} {u:HO} (h:H a=some u) (hl:Lay t dx (ts.map Kd.kv) u) (nh:Hs a=none) (ku:KU t ts) (nd:(a::ts.flatMap Kd.fp).Nodup) (r:∀ c ∈ ts,Od K Hs H c.fp c.v c.m):Od K Hs H (a::ts.flatMap Kd.fp) (.ref a) (.n t (ts.map Kd.km))
section
variable {K:W.Frag} {Hs H Hs' H':Hp} {fp:List Addr} {v:V} {m:Mt}
theorem Od.inv (h:Od K Hs H fp v (.n t cs)):∃ a dx ts u,v=.ref a/\fp=a::ts.flatMap Kd.fp/\cs=ts.map Kd.km/\H a=some u/\Lay t dx (ts.map Kd.kv) u/\Hs a=none/\KU t ts/\(a::ts.flatMap Kd.fp).Nodup/\∀ c ∈ ts,Od K Hs H c.fp c.v c.m:=by
 cases h with
 | n h hl nh ku nd r=>exact ⟨_,_,_,_,rfl,rfl,rfl,h,hl,nh,ku,nd,r⟩
theorem Od.live (h:Od K Hs H fp v m):∀ b ∈ fp,Hs b=none/\H b≠none:=by
 induction h with
 | s r=>intro b h; cases h
 | n h hl nh ku nd r ih =>
  intro b hb;rcases Zh.mp hb with e | e
  · subst e; exact ⟨nh,aR h⟩
  ·obtain ⟨c,hc,hb⟩:=Yr.mp e
   exact ih c hc b hb
theorem Od.nd (h:Od K Hs H fp v m):fp.Nodup:=by
 cases h with
 | s r=>exact .nil
 | n h hl nh ku nd r=>exact nd
theorem Od.mv (h:Od K Hs H fp v m) (g:ba Hs Hs'):(∀ b ∈ fp,Hs' b=none/\H' b=H b)->Od K Hs' H' fp v m:=by
 induction h with
 | s r=>exact λ _=>.s (r.same g)
 | n h hl nh ku nd r ih =>
  intro q;have qa:=q _ (Ze ..);exact .n (by rw [qa.2]; exact h) hl qa.1 ku nd λ c hc=>ih c hc λ b hb=>q b (Zd _ (Yr.mpr ⟨c,hc,hb⟩))
theorem tW:∀ {ts:List Kd},(∀ c ∈ ts,Rp K H c.v (frz c.m))->Rps K H ((ts.map Kd.kv).map (·.2)) (vz (ts.map Kd.km))
 | [],_=>.nil
 | c::ts,h=>.cons (h c (Ze ..)) (tW λ c hc=>h c (Zd _ hc))
theorem yY:∀ {ts:List Kd},(∀ c ∈ ts,Rp K H c.v (frz c.m))->RpK K H (ts.map Kd.kv) (Ez (ts.map Kd.km))
 | [],_=>.nil
 | c::ts,h=>.cons (h c (Ze ..)) (yY λ c hc=>h c (Zd _ hc))
theorem yZ:∀ {ts:List Kd} {fs:List (Str×V)},(ts.map Kd.kv=fs.map λ f=>(Sum.inr f.1,f.2))->(∀ c ∈ ts,Rp K H c.v (frz c.m))->RpF K H fs (EA (ts.map Kd.km))
 | [],[],_,_=>.nil
 | [],_::_,e,_=>by cases e
 | _::_,[],e,_=>by cases e
 | c::ts,f::fs,e,h=>by
  obtain ⟨e1,e2⟩:=List.cons.inj e;obtain ⟨e3,e4⟩:=Prod.mk.inj e1;obtain ⟨x,y⟩:=f;have hc:=h c (Ze ..);show RpF K H ((x,y)::fs) ((strOf c.k,frz c.m)::_);have e3':c.k=Sum.inr x:=e3;have e4':c.v=y:=e4;rw [e3',<- e4'];exact .cons hc (yZ e2 λ c hc=>h c (Zd _ hc))
theorem Od.rp (h:Od K Hs H fp v m) (sm:ba Hs H):Rp K H v (frz m):=by
 induction h with
 | s r=>exact r.same sm
 | @n a dx t ts u h hl nh ku nd r ih =>
  have ih':∀ c ∈ ts,Rp K H c.v (frz c.m):=λ c hc=>ih c hc
  generalize ek:ts.map Kd.kv=kvs at hl
  cases hl with
  | l=>exact .lst h (by rw [<- ek]; exact tW ih')
  | d=>exact .dct h (by rw [<- ek]; exact yY ih')
  | o fs=>exact .obj h (yZ ek ih')
end
def vAt (H:Hp):V->List Stp->Option V
 | v,[]=>some v
 | .ref a,.k k::p=>match H a with
  | some (.ins _ _ fs)=>(cB (fs.map λ f=>((Sum.inr f.1:Key),f.2)) k).bind λ v=>vAt H v p
  | some (.dK kvs)=>(cB kvs k).bind λ v=>vAt H v p
  | _=>none
 | .ref a,.i n::p=>match H a with
  | some (.lst xs)=>(xs[n]?).bind λ v=>vAt H v p
  | _=>none
 | _,_=>none
theorem lj {α:Type}:∀ {cs:List (Key×α)} {i:Nat},(cs.findIdx? λ c=>decide (c.1=k))=some i->∃ l1 x l2,cs=l1++(k,x)::l2/\l1.length=i/\∀ c ∈ l1,c.1≠k
 | [],_,e=>by simp at e
 | (k',x)::cs,i,e=>by
  rw [List.findIdx?_cons] at e
  by_cases h:k'=k
  ·simp only [h,decide_true] at e
   have e':0=i:=by simpa using e
   subst h e';exact ⟨[],x,cs,rfl,rfl,λ c hc=>by cases hc⟩
  ·simp only [h,decide_false] at e
   obtain ⟨j,e1,rfl⟩:=Zm (by simpa using e);obtain ⟨l1,y,l2,e2,e3,e4⟩:=lj e1
   exact ⟨(k',x)::l1,y,l2,by rw [e2]; rfl,by rw [Zv,e3],λ c hc=>by
    rcases Zh.mp hc with rfl | hc
    · exact h
    · exact e4 c hc⟩
theorem kP:∀ {l1 l2:List (Key×V)},(∀ c ∈ l1,c.1≠k)->cB (l1++(k,x)::l2) k=some x
 | [],_,_=>bN rfl
 | c::l1,l2,h=>by
  rw [List.cons_append,bO (h c (Ze ..))];exact kP λ c hc=>h c (Zd _ hc)
theorem uT:∀ {l1 l2:List (Key×Mt)} {c:Key×Mt},ts.map Kd.km=l1++c::l2->∃ t1 t t2,ts=t1++t::t2/\t1.map Kd.km=l1/\t.km=c/\t2.map Kd.km=l2:=by
 intro l1 l2 c e;obtain ⟨t1,r,rfl,e1,e2⟩:=List.map_eq_append_iff.mp e;obtain ⟨t,t2,rfl,e3,e4⟩:=List.map_eq_cons_iff.mp e2;exact ⟨t1,t,t2,rfl,e1,e3,e4⟩
theorem q8 {t:Tg} {dx a:Addr} {ts:List Kd} {u:HO} {st:Stp} {i:Nat} {c:Key×Mt} {H:Hp} (h:H a=some u) (hl:Lay t dx (ts.map Kd.kv) u) (e1:ur t (ts.map Kd.km) st=some i) (e2:(ts.map Kd.km)[i]?=some c) :
  ∃ t1 k t2,ts=t1++k::t2/\t1.length=i/\k.km=c/\∀ p,vAt H (.ref a) (st::p)=vAt H k.v p:=by
 have key:∀ {kk:Key},((ts.map Kd.km).findIdx? λ c=>decide (c.1=kk))=some i->∃ t1 k t2,ts=t1++k::t2/\t1.length=i/\k.km=c/\cB (ts.map Kd.kv) kk=some k.v:=λ {kk} e=>by
  obtain ⟨l1,x,l2,h1,h2,h3⟩:=lj e;obtain ⟨t1,k,t2,rfl,q1,q2,q3⟩:=uT h1;refine ⟨t1,k,t2,rfl,by rw [<- h2,<- q1,Za],?_,?_⟩
  ·rw [h1,<- h2,List.getElem?_append_right (Zk _),Xs] at e2
   rw [q2];exact Zj e2
  ·rw [Zp,Zg]
   have hk:k.k=kk:=(Prod.mk.inj q2).1;rw [show k.kv=(kk,k.v) by rw [<- hk]]
   exact kP λ c hc=>by
    obtain ⟨y,hy,rfl⟩:=Z2.mp hc;exact h3 y.km (by rw [<- q1]; exact Yc hy)
 generalize ek:ts.map Kd.kv=kvs at hl
 cases hl with
 | l kvs' =>
  cases st with
  | k k=>cases e1
  | i n =>
   have lt:n < (ts.map Kd.km).length/\n=i:=by
    have e1':(if n < (ts.map Kd.km).length then some n else none)=some i:=e1;split at e1'
    · rename_i h; exact ⟨h,Zj e1'⟩
    · cases e1'
   obtain ⟨lt,rfl⟩:=lt;rw [Za] at lt;have ets:ts=ts.take n++ts[n]::ts.drop (n+1):=by rw [List.getElem_cons_drop,List.take_append_drop]
   refine ⟨ts.take n,ts[n],ts.drop (n+1),ets,by rw [Xp]; omega,?_,λ p=>?_⟩
   ·rw [List.getElem?_map,List.getElem?_eq_getElem lt] at e2
    exact Zj e2
   ·show (match H a with | some (.lst xs)=>(xs[n]?).bind λ v=>vAt H v p | _=>none)=_
    rw [h];show (((kvs.map (·.2))[n]?).bind λ v=>vAt H v p)=_;rw [<- ek,List.getElem?_map,List.getElem?_map,List.getElem?_eq_getElem lt];rfl
 | d kvs' =>
  cases st with
  | i n=>cases e1
  | k kk =>
   obtain ⟨t1,k,t2,q1,q2,q3,q4⟩:=key e1;refine ⟨t1,k,t2,q1,q2,q3,λ p=>?_⟩;show (match H a with | some (.ins _ _ fs)=>(cB (fs.map λ (f:Str×V)=>((Sum.inr f.1:Key),f.2)) kk).bind λ v=>vAt H v p | some (.dK kvs)=>(cB kvs kk).bind λ v=>vAt H v p | _=>none)=_;rw [h];show ((cB kvs kk).bind λ v=>vAt H v p)=_;rw [<- ek,q4];rfl
 | o fs =>
  cases st with
  | i n=>cases e1
  | k kk =>
   obtain ⟨t1,k,t2,q1,q2,q3,q4⟩:=key e1;refine ⟨t1,k,t2,q1,q2,q3,λ p=>?_⟩;show (match H a with | some (.ins _ _ fs)=>(cB (fs.map λ (f:Str×V)=>((Sum.inr f.1:Key),f.2)) kk).bind λ v=>vAt H v p | some (.dK kvs)=>(cB kvs kk).bind λ v=>vAt H v p | _=>none)=_;rw [h];show ((cB (fs.map λ f=>((Sum.inr f.1:Key),f.2)) kk).bind λ v=>vAt H v p)=_;rw [<- ek,q4];rfl
theorem uM {α:Type} {a:α} {x y z:List α} (h:(a::(x++(y++z))).Nodup):a ∉ x/\a ∉ y/\a ∉ z/\(∀ b ∈ y,b ∉ x/\b ∉ z)/\x.Nodup/\z.Nodup/\(∀ b ∈ x,b ∉ z):=by
 rw [Zy,Yj,Yj] at h;simp only [Zi,not_or] at h;obtain ⟨⟨h1,h2,h3⟩,hx,⟨hy,hz,hyz⟩,hxyz⟩:=h;refine ⟨h1,h2,h3,λ b hb=>⟨λ hx'=>hxyz b hx' b (.inl hb) rfl,λ hz'=>hyz b hb b hz' rfl⟩,hx,hz,λ b hb hz'=>hxyz b hb b (.inr hz') rfl⟩
theorem kZ {α:Type} {a:α} {x y z:List α} (h1:a ∉ x) (h2:a ∉ y) (h3:a ∉ z) (hy:y.Nodup) (hd:∀ b ∈ y,b ∉ x/\b ∉ z) (hx:x.Nodup) (hz:z.Nodup) (hxz:∀ b ∈ x,b ∉ z):(a::(x++(y++z))).Nodup:=by
 rw [Zy,Yj,Yj];simp only [Zi,not_or];exact ⟨⟨h1,h2,h3⟩,hx,⟨hy,hz,λ b hb c hc e=>(hd b hb).2 (e ▸ hc)⟩,λ b hb c hc e=>hc.elim (λ q=>(hd c q).1 (e ▸ hb)) λ q=>hxz b hb (e ▸ q)⟩
theorem KU.swap (h:KU t (t1++k::t2)) (e:k'.k=k.k):KU t (t1++k'::t2):=by
 cases t with
 | l=>exact h
 | d =>
  show ((t1++k'::t2).map Kd.k).Nodup;rw [Zp,Zg,e,<- Zg,<- Zp];exact h
 | o C =>
  show ((t1++k'::t2).map Kd.k).Nodup;rw [Zp,Zg,e,<- Zg,<- Zp];exact h
section
variable {K:W.Frag} {Hs H:Hp}
theorem Od.sV:∀ (p:List Stp) {fp:List Addr} {v:V} {m m1:Mt},Od K Hs H fp v m->m.get p=some m1->∃ fp1 v1,vAt H v p=some v1/\Od K Hs H fp1 v1 m1/\(∀ b ∈ fp1,b ∈ fp) /\
  ∀ Hs' H' fp2 m2,ba Hs Hs'->(∀ b ∈ fp,b ∉ fp1->Hs' b=none/\H' b=H b)->Od K Hs' H' fp2 v1 m2->(∀ b ∈ fp2,b ∈ fp1\/b ∉ fp)->∃ fp',Od K Hs' H' fp' v (m.put p m2)/\∀ b,b ∈ fp'↔(b ∈ fp/\b ∉ fp1)\/b ∈ fp2
 | [],fp,v,m,m1,h,e=>by
  have e':m=m1:=by
   cases m <;> exact Zj e
  subst e';have ep:∀ m2,m.put [] m2=m2:=λ m2=>by cases m <;> rfl
  exact ⟨fp,v,by cases v <;> rfl,h,λ _ q=>q,λ Hs' H' fp2 m2 g k h2 j=>⟨fp2,by rw [ep]; exact h2,λ b=>⟨.inr,λ q=>q.elim (λ z=>absurd z.1 z.2) id⟩⟩⟩
 | st::p,fp,v,.s d,m1,h,e=>by cases e
 | st :: p,fp,v,.n t cs,m1,h,e=>by
  obtain ⟨a,dx,ts,u,rfl,rfl,rfl,ha,hl,nh,ku,nd,r⟩:=h.inv;have e':(match ur t (ts.map Kd.km) st with | none=>none | some i=>match (ts.map Kd.km)[i]? with | none=>none | some c=>Mt.get c.2 p)=some m1:=e
  cases e1:ur t (ts.map Kd.km) st with
  | none=>rw [e1] at e'; cases e'
  | some i =>
   rw [e1] at e'
   cases e2:(ts.map Kd.km)[i]? with
   | none=>simp only [e2] at e'; cases e'
   | some c =>
    simp only [e2] at e';obtain ⟨t1,k,t2,rfl,q2,q3,q4⟩:=q8 ha hl e1 e2;subst q3;obtain ⟨fp1,v1,w1,w2,w3,w4⟩:=Od.sV p (r k (Zc _ (Ze ..))) e';rw [Ym,Yg] at nd;obtain ⟨n1,n2,n3,n4,n5,n6,n7⟩:=uM nd
    have mem:∀ b,b ∈ a::(t1++k::t2).flatMap Kd.fp↔b=a\/b ∈ t1.flatMap Kd.fp\/b ∈ k.fp\/b ∈ t2.flatMap Kd.fp:=λ b=>by
     rw [Ym,Yg,Zh,Zi,Zi]
    refine ⟨fp1,v1,by rw [q4]; exact w1,w2,λ b hb=>(mem b).mpr (.inr (.inr (.inl (w3 b hb)))),λ Hs' H' fp2 m2 g kk h2 j=>?_⟩;have j2:∀ b ∈ fp2,b ∈ fp1\/b ∉ k.fp:=λ b hb=>(j b hb).imp id λ z q=>z ((mem b).mpr (.inr (.inr (.inl q))))
    obtain ⟨fp',o',i'⟩:=w4 Hs' H' fp2 m2 g (λ b hb hn=>kk b ((mem b).mpr (.inr (.inr (.inl hb)))) hn) h2 j2;have a1:a ∉ fp1:=λ z=>n2 (w3 _ z)
    have off:∀ b,b ∈ fp'->b≠a/\b ∉ t1.flatMap Kd.fp/\b ∉ t2.flatMap Kd.fp:=λ b hb=>by
     rcases (i' b).mp hb with ⟨z1,_⟩ | z
     · exact ⟨λ e=>n2 (e ▸ z1),(n4 b z1).1,(n4 b z1).2⟩
     ·rcases j b z with z1 | z1
      ·have z2:=w3 b z1
       exact ⟨λ e=>n2 (e ▸ z2),(n4 b z2).1,(n4 b z2).2⟩
      · exact ⟨λ e=>z1 ((mem b).mpr (.inl e)),λ q=>z1 ((mem b).mpr (.inr (.inl q))),λ q=>z1 ((mem b).mpr (.inr (.inr (.inr q))))⟩
    let k':Kd:=⟨k.k,k.v,k.m.put p m2,fp'⟩
    have eput:(Mt.n t ((t1++k::t2).map Kd.km)).put (st::p) m2=.n t ((t1++k'::t2).map Kd.km):=by
     show (match ur t ((t1++k::t2).map Kd.km) st with | none=>Mt.n t ((t1++k::t2).map Kd.km) | some i=>match ((t1++k::t2).map Kd.km)[i]? with | none=>Mt.n t ((t1++k::t2).map Kd.km) | some c=>.n t (((t1++k::t2).map Kd.km).set i (c.1,Mt.put c.2 p m2)))=_;simp only [e1,e2];rw [Zp,Zg,<- q2,<- Za (f:=Kd.km),List.set_append_right _ _ (Zk _),Xs,Zp,Zg];rfl
    have hkv:(t1++k'::t2).map Kd.kv=(t1++k::t2).map Kd.kv:=by rw [Zp,Zg,Zp,Zg]
    have qa:=kk a ((mem a).mpr (.inl rfl)) a1;refine ⟨a::(t1++k'::t2).flatMap Kd.fp,?_,λ b=>?_⟩
    ·rw [eput]
     refine .n (dx:=dx) (by rw [qa.2]; exact ha) (by rw [hkv]; exact hl) qa.1 (ku.swap rfl) ?_ λ c hc=>?_
     ·rw [Ym,Yg]
      exact kZ n1 (λ z=>(off _ z).1 rfl) n3 o'.nd (λ b hb=>(off b hb).2) n5 n6 n7
     ·rcases Zi.mp hc with hc | hc
      · exact (r c (Zn _ hc)).mv g λ b hb=>kk b ((mem b).mpr (.inr (.inl (Yr.mpr ⟨c,hc,hb⟩)))) λ z=>(n4 b (w3 b z)).1 (Yr.mpr ⟨c,hc,hb⟩)
      ·rcases Zh.mp hc with rfl | hc
       · exact o'
       · exact (r c (Zc _ (Zd _ hc))).mv g λ b hb=>kk b ((mem b).mpr (.inr (.inr (.inr (Yr.mpr ⟨c,hc,hb⟩))))) λ z=>(n4 b (w3 b z)).2 (Yr.mpr ⟨c,hc,hb⟩)
    ·rw [Ym,Yg,Zh,Zi,Zi,mem b,i' b]
     constructor
     ·rintro (rfl | z | (⟨z1,z2⟩ | z) | z)
      · exact .inl ⟨.inl rfl,a1⟩
      · exact .inl ⟨.inr (.inl z),λ q=>(n4 b (w3 b q)).1 z⟩
      · exact .inl ⟨.inr (.inr (.inl z1)),z2⟩
      · exact .inr z
      · exact .inl ⟨.inr (.inr (.inr z)),λ q=>(n4 b (w3 b q)).2 z⟩
     ·rintro (⟨rfl | z | z | z,z2⟩ | z)
      · exact .inl rfl
      · exact .inr (.inl z)
      · exact .inr (.inr (.inl (.inl ⟨z,z2⟩)))
      · exact .inr (.inr (.inr z))
      · exact .inr (.inr (.inl (.inr z)))
end
inductive Sm where
 | no | shr (d:D) | mu (b:Bool) (m:Mt)
def C0:Sm->Sl
 | .no=>.no
 | .shr d=>.shr d
 | .mu _ m=>.shr (frz m)
def er1:Sm->Sl
 | .shr d=>.shr d
 | _=>.no
abbrev aQ (τ:List Sm):List Sl:=τ.map C0
abbrev er (τ:List Sm):List Sl:=τ.map er1
inductive StM (K:W.Frag) (H0 Hs H:Hp):List (Option Addr)->List (Option V)->List Sm->List Addr->Prop where
 | nil:StM K H0 Hs H [] [] [] []
 | no {p:Option Addr} {o:Option V} {ρ:List (Option Addr)} {σ:List (Option V)} {τ:List Sm} {fp:List Addr} (r:StM K H0 Hs H ρ σ τ fp):StM K H0 Hs H (p::ρ) (o::σ) (.no::τ) fp
 | shr {p:Option Addr} {v:V} {d:D} {ρ:List (Option Addr)} {σ:List (Option V)} {τ:List Sm} {fp:List Addr} (h:Rp K Hs v d) (r:StM K H0 Hs H ρ σ τ fp):StM K H0 Hs H (p::ρ) (some v::σ) (.shr d::τ) fp
 | mu {p:Option Addr} {v:V} {b:Bool} {m:Mt} {ρ:List (Option Addr)} {σ:List (Option V)} {τ:List Sm} {fq fp:List Addr} (h:Od K Hs H fq v m) (hp:b=true->∃ a,p=some a/\v=.ref a) (z:∀ c ∈ fq,H0 c=none) (j:∀ c ∈ fq,c ∉ fp) (r:StM K H0 Hs H ρ σ τ fp):StM K H0 Hs H (p::ρ) (some v::σ) (.mu b m::τ) (fq++fp)
section
variable {K:W.Frag} {H0 Hs H Hs' H':Hp} {ρ:List (Option Addr)} {σ:List (Option V)} {τ:List Sm} {fp:List Addr}
theorem StM.mv (h:StM K H0 Hs H ρ σ τ fp) (g:ba Hs Hs'):(∀ b ∈ fp,Hs' b=none/\H' b=H b)->StM K H0 Hs' H' ρ σ τ fp:=by
 induction h with
 | nil=>exact λ _=>.nil
 | no _ ih=>exact λ q=>.no (ih q)
 | shr h _ ih=>exact λ q=>.shr (h.same g) (ih q)
 | mu h hp z j _ ih=>exact λ q=>.mu (h.mv g λ b hb=>q b (Zn _ hb)) hp z j (ih λ b hb=>q b (Zc _ hb))
theorem StM.live (h:StM K H0 Hs H ρ σ τ fp):∀ b ∈ fp,Hs b=none/\H b≠none/\H0 b=none:=by
 induction h with
 | nil=>intro b h; cases h
 | no _ ih=>exact ih
 | shr _ _ ih=>exact ih
 | mu h hp z j _ ih =>
  intro b hb;rcases Zi.mp hb with q | q
  · exact ⟨(h.live b q).1,(h.live b q).2,z b q⟩
  · exact ih b q
theorem StM.ext (g:Ext Hs H Hs' H') (h:StM K H0 Hs H ρ σ τ fp):StM K H0 Hs' H' ρ σ τ fp:=h.mv g.ss λ b hb=>by
 obtain ⟨h1,h2,_⟩:=h.live b hb;refine ⟨g.fr b h1 h2,?_⟩
 cases q:H b with
 | none=>exact absurd q h2
 | some u=>exact g.hh _ _ q
theorem StM.len (h:StM K H0 Hs H ρ σ τ fp):σ.length=τ.length:=by
 induction h with
 | nil=>rfl
 | no _ ih=>exact Z7 (·+1) ih
 | shr _ _ ih=>exact Z7 (·+1) ih
 | mu _ _ _ _ _ ih=>exact Z7 (·+1) ih
theorem StM.aQ (h:StM K H0 Hs H ρ σ τ fp) (sm:ba Hs H):StR K H H H σ (aQ τ) []:=by
 induction h with
 | nil=>exact .nil
 | no _ ih=>exact .no ih
 | shr h _ ih=>exact .shr (h.same sm) ih
 | mu h _ _ _ _ ih=>exact .shr (h.rp sm) ih
theorem StM.er (h:StM K H0 Hs H ρ σ τ fp):StR K H0 Hs H σ (er τ) []:=by
 induction h with
 | nil=>exact .nil
 | no _ ih=>exact .no ih
 | shr h _ ih=>exact .shr h ih
 | mu h _ _ _ _ ih=>exact .no ih
theorem StM.sV (h:StM K H0 Hs H ρ σ τ fp):τ[i]?=some (.mu b m)->m.get q=some m1->∃ v fp1 v1,σ[i]?=some (some v)/\vAt H v q=some v1/\Od K Hs H fp1 v1 m1/\(∀ c ∈ fp1,c ∈ fp) /\
  ∀ Hs' H' fp2 m2,ba Hs Hs'->(∀ c ∈ fp,c ∉ fp1->Hs' c=none/\H' c=H c)->Od K Hs' H' fp2 v1 m2->(∀ c ∈ fp2,c ∈ fp1\/(c ∉ fp/\H0 c=none))->∃ fp',StM K H0 Hs' H' ρ σ (τ.set i (.mu b (m.put q m2))) fp'/\∀ c,c ∈ fp'↔(c ∈ fp/\c ∉ fp1)\/c ∈ fp2:=by
 induction h generalizing i with
 | nil=>intro e; simp at e
 | no r ih =>
  intro e eg
  cases i with
  | zero=>simp at e
  | succ i =>
   obtain ⟨v,fp1,v1,h1,h2,h3,h4,h5⟩:=ih (i:=i) (by simpa using e) eg
   exact ⟨v,fp1,v1,by simpa using h1,h2,h3,h4,λ Hs' H' fp2 m2 g k o j=>by
    obtain ⟨fp',s,mem⟩:=h5 Hs' H' fp2 m2 g k o j
    exact ⟨fp',.no s,mem⟩⟩
 | shr hr r ih =>
  intro e eg
  cases i with
  | zero=>simp at e
  | succ i =>
   obtain ⟨v,fp1,v1,h1,h2,h3,h4,h5⟩:=ih (i:=i) (by simpa using e) eg
   exact ⟨v,fp1,v1,by simpa using h1,h2,h3,h4,λ Hs' H' fp2 m2 g k o j=>by
    obtain ⟨fp',s,mem⟩:=h5 Hs' H' fp2 m2 g k o j
    exact ⟨fp',.shr (hr.same g) s,mem⟩⟩
 | @mu p v b' m' ρ σ τ fq fp ho hp z j r ih =>
  intro e eg
  cases i with
  | zero =>
   have e':Sm.mu b' m'=.mu b m:=by simpa using e
   injection e' with e1 e2
   subst e1 e2;obtain ⟨fp1,v1,w1,w2,w3,w4⟩:=ho.sV q eg;refine ⟨v,fp1,v1,rfl,w1,w2,λ c hc=>Zn _ (w3 c hc),λ Hs' H' fp2 m2 g k o jj=>?_⟩;obtain ⟨fp',o',i'⟩:=w4 Hs' H' fp2 m2 g (λ c hc hn=>k c (Zn _ hc) hn) o λ c hc=>(jj c hc).imp id λ y q=>y.1 (Zn _ q)
   refine ⟨fp'++fp,.mu o' hp (λ c hc=>?_) (λ c hc=>?_) (r.mv g λ c hc=>k c (Zc _ hc) λ y=>j c (w3 c y) hc),λ c=>?_⟩
   ·rcases (i' c).mp hc with y | y
    · exact z c y.1
    ·rcases jj c y with y | y
     · exact z c (w3 c y)
     · exact y.2
   ·rcases (i' c).mp hc with y | y
    · exact j c y.1
    ·rcases jj c y with y | y
     · exact j c (w3 c y)
     · exact λ q=>y.1 (Zc _ q)
   ·rw [Zi,Zi,i' c]
    constructor
    ·rintro ((y | y) | y)
     · exact .inl ⟨.inl y.1,y.2⟩
     · exact .inr y
     · exact .inl ⟨.inr y,λ q=>j c (w3 c q) y⟩
    ·rintro (⟨y | y,y2⟩ | y)
     · exact .inl (.inl ⟨y,y2⟩)
     · exact .inr y
     · exact .inl (.inr y)
  | succ i =>
   obtain ⟨v',fp1,v1,h1,h2,h3,h4,h5⟩:=ih (i:=i) (by simpa using e) eg;refine ⟨v',fp1,v1,by simpa using h1,h2,h3,λ c hc=>Zc _ (h4 c hc),λ Hs' H' fp2 m2 g k o jj=>?_⟩;obtain ⟨fp',s,mem⟩:=h5 Hs' H' fp2 m2 g (λ c hc hn=>k c (Zc _ hc) hn) o λ c hc=>(jj c hc).imp id λ y=>⟨λ q=>y.1 (Zc _ q),y.2⟩
   have nf:∀ c ∈ fq,c ∉ fp1:=λ c hc q=>j c hc (h4 c q)
   refine ⟨fq++fp',.mu (ho.mv g λ c hc=>k c (Zn _ hc) (nf c hc)) hp z (λ c hc q=>?_) s,λ c=>?_⟩
   ·rcases (mem c).mp q with y | y
    · exact j c hc y.1
    ·rcases jj c y with y | y
     · exact nf c hc y
     · exact y.1 (Zn _ hc)
   ·rw [Zi,Zi,mem c]
    constructor
    ·rintro (y | y | y)
     · exact .inl ⟨.inl y,nf c y⟩
     · exact .inl ⟨.inr y.1,y.2⟩
     · exact .inr y
    ·rintro (⟨y | y,y2⟩ | y)
     · exact .inl y
     · exact .inr (.inl ⟨y,y2⟩)
     · exact .inr (.inr y)
theorem StM.out (h:StM K H0 Hs H ρ σ τ fp):τ[i]?=some (.mu b m)->∃ v fq fp',σ[i]?=some (some v)/\Od K Hs H fq v m/\StM K H0 Hs H ρ σ (τ.set i .no) fp'/\(∀ c ∈ fq,c ∉ fp'/\c ∈ fp)/\(∀ c,c ∈ fp↔c ∈ fq\/c ∈ fp'):=by
 induction h generalizing i with
 | nil=>intro e; simp at e
 | no r ih =>
  intro e
  cases i with
  | zero=>simp at e
  | succ i =>
   obtain ⟨v,fq,fp',h1,h2,h3,h4,h5⟩:=ih (i:=i) (by simpa using e);exact ⟨v,fq,fp',by simpa using h1,h2,.no h3,h4,h5⟩
 | shr hr r ih =>
  intro e
  cases i with
  | zero=>simp at e
  | succ i =>
   obtain ⟨v,fq,fp',h1,h2,h3,h4,h5⟩:=ih (i:=i) (by simpa using e);exact ⟨v,fq,fp',by simpa using h1,h2,.shr hr h3,h4,h5⟩
 | @mu p v b' m' ρ σ τ fq fp ho hp z j r ih =>
  intro e
  cases i with
  | zero =>
   have e':Sm.mu b' m'=.mu b m:=by simpa using e
   injection e' with e1 e2
   subst e1 e2;exact ⟨v,fq,fp,rfl,ho,.no r,λ c hc=>⟨j c hc,Zn _ hc⟩,λ c=>Zi⟩
  | succ i =>
   obtain ⟨v',fq',fp',h1,h2,h3,h4,h5⟩:=ih (i:=i) (by simpa using e);refine ⟨v',fq',fq++fp',by simpa using h1,h2,.mu ho hp z (λ c hc q=>j c hc ((h5 c).mpr (.inr q))) h3,λ c hc=>⟨λ q=>?_,Zc _ (h4 c hc).2⟩,λ c=>?_⟩
   ·rcases Zi.mp q with q | q
    · exact j c q (h4 c hc).2
    · exact (h4 c hc).1 q
   ·rw [Zi,Zi,h5 c]
    constructor
    ·rintro (y | y | y)
     · exact .inr (.inl y)
     · exact .inl y
     · exact .inr (.inr y)
    ·rintro (y | y | y)
     · exact .inr (.inl y)
     · exact .inl y
     · exact .inr (.inr y)
theorem StM.oV (h:StM K H0 Hs H ρ σ τ fp) (hv:Rp K Hs v d):∃ fp',StM K H0 Hs H ρ (σ.set i (some v)) (τ.set i (.shr d)) fp'/\∀ c ∈ fp',c ∈ fp:=by
 induction h generalizing i with
 | nil=>exact ⟨[],.nil,λ _ h=>h⟩
 | no r ih =>
  cases i with
  | zero=>exact ⟨_,.shr hv r,λ _ h=>h⟩
  | succ i=>obtain ⟨fp',h1,h2⟩:=ih (i:=i); exact ⟨fp',.no h1,h2⟩
 | shr h r ih =>
  cases i with
  | zero=>exact ⟨_,.shr hv r,λ _ h=>h⟩
  | succ i=>obtain ⟨fp',h1,h2⟩:=ih (i:=i); exact ⟨fp',.shr h h1,h2⟩
 | mu h hp z j r ih =>
  cases i with
  | zero=>exact ⟨_,.shr hv r,λ _ h=>Zc _ h⟩
  | succ i =>
   obtain ⟨fp',h1,h2⟩:=ih (i:=i);exact ⟨_,.mu h hp z (λ c hc q=>j c hc (h2 c q)) h1,λ c hc=>(Zi.mp hc).elim (Zn _) λ q=>Zc _ (h2 c q)⟩
theorem StM.setM (h:StM K H0 Hs H ρ σ τ fp) (hv:Od K Hs H fq v m) (z:∀ c ∈ fq,H0 c=none/\c ∉ fp) (hi:i < τ.length):∃ fp',StM K H0 Hs H ρ (σ.set i (some v)) (τ.set i (.mu false m)) fp'/\∀ c ∈ fp',c ∈ fq\/c ∈ fp:=by
 induction h generalizing i with
 | nil=>exact absurd hi (by simp)
 | no r ih =>
  cases i with
  | zero=>exact ⟨_,.mu hv (λ e=>by cases e) (λ c hc=>(z c hc).1) (λ c hc=>(z c hc).2) r,λ c h=>Zi.mp h⟩
  | succ i=>obtain ⟨fp',h1,h2⟩:=ih (i:=i) z (by simpa using hi); exact ⟨fp',.no h1,h2⟩
 | shr h r ih =>
  cases i with
  | zero=>exact ⟨_,.mu hv (λ e=>by cases e) (λ c hc=>(z c hc).1) (λ c hc=>(z c hc).2) r,λ c h=>Zi.mp h⟩
  | succ i=>obtain ⟨fp',h1,h2⟩:=ih (i:=i) z (by simpa using hi); exact ⟨fp',.shr h h1,h2⟩
 | @mu p v' b' m' ρ σ τ fq' fp h hp z' j r ih =>
  have zr:∀ c ∈ fq,H0 c=none/\c ∉ fp:=λ c hc=>⟨(z c hc).1,λ q=>(z c hc).2 (Zc _ q)⟩
  cases i with
  | zero=>exact ⟨_,.mu hv (λ e=>by cases e) (λ c hc=>(z c hc).1) (λ c hc=>(zr c hc).2) r,λ c h=>(Zi.mp h).imp id λ q=>Zc _ q⟩
  | succ i =>
   obtain ⟨fp',h1,h2⟩:=ih (i:=i) zr (by simpa using hi);refine ⟨_,.mu h hp z' (λ c hc q=>?_) h1,λ c hc=>?_⟩
   ·rcases h2 c q with y | y
    · exact (z c y).2 (Zn _ hc)
    · exact j c hc y
   ·rcases Zi.mp hc with y | y
    · exact .inr (Zn _ y)
    · exact (h2 c y).imp id λ q=>Zc _ q
end
structure be (K:W.Frag) (Hs0 H0:Hp) (ρ:List (Option Addr)) (Hs H:Hp) (σ:St) (τ:List Sm):Prop where
 ext:Ext Hs0 H0 Hs H
 st:∃ fp,StM K H0 Hs H ρ σ τ fp
section
variable {K:W.Frag} {Hs0 H0 Hs H Hs' H':Hp} {ρ:List (Option Addr)} {σ:St} {τ:List Sm}
theorem be.ext' (r:be K Hs0 H0 ρ Hs H σ τ) (g:Ext Hs H Hs' H'):be K Hs0 H0 ρ Hs' H' σ τ:=by
 obtain ⟨fp,h⟩:=r.st;refine ⟨⟨r.ext.ss.trans g.ss,g.sh,r.ext.hh.trans g.hh,λ b h1 h2=>g.fr b (r.ext.fr b h1 h2) (r.ext.hh.live h2)⟩,fp,h.ext g⟩
theorem be.grow (r:be K Hs0 H0 ρ Hs H σ τ) (g:ba H H'):be K Hs0 H0 ρ Hs H' σ τ:=r.ext' ⟨.refl _,r.ext.sh.trans g,g,λ _ h _=>h⟩
theorem be.sm (r:be K Hs0 H0 ρ Hs H σ τ):ba Hs H:=r.ext.sh
end
def Nf (N H0:Hp):Prop:=∀ d o u,N d=some (.frz o u)->H0 d≠none
theorem Nf.upd (h:Nf N H0):Nf N (upd H0 p u):=λ d o w e=>by
 by_cases z:d=p
 · rw [z,ai]; simp
 · rw [af z]; exact h d o w e
inductive wX where
 | next (τ:List Sm) | ret (s:Sm) (τ:List Sm) | brk (τ:List Sm) | cnt (τ:List Sm)
abbrev DSm:=List Sm->Option wX
abbrev DEm:=List Sm->Option (Sm×List Sm)
abbrev DTm:=List Sm->Option (Bool×List Sm)
abbrev DPx:=List Sm->Option (Nat×List Stp)
def F2 (K:W.Frag) (Hs0 H0:Hp) (ρ:List (Option Addr)) (E:Ends):wX->Prop
 | .next τ=>∀ σ Hs H,be K Hs0 H0 ρ Hs H σ τ->E.nx σ H
 | .brk τ=>∀ σ Hs H,be K Hs0 H0 ρ Hs H σ τ->E.bk σ H
 | .cnt τ=>∀ σ Hs H,be K Hs0 H0 ρ Hs H σ τ->E.ct σ H
 | .ret s τ=>∀ v σ Hs H,be K Hs0 H0 (none::ρ) Hs H (some v::σ) (s::τ)->E.rt v H
def Jn (N:Hp) (K:W.Frag) (f:DSm):TS:=λ E σ H=>∃ (Hs0 H0:Hp),∃ (_:Nf N H0),∃ ρ Hs τ o,be K Hs0 H0 ρ Hs H σ τ/\f τ=some o/\F2 K Hs0 H0 ρ E o
def KJ (N:Hp) (K:W.Frag) (f:DEm):TE:=λ σ H Q=>∃ (Hs0 H0:Hp),∃ (_:Nf N H0),∃ ρ Hs τ s τ',be K Hs0 H0 ρ Hs H σ τ/\f τ=some (s,τ')/\∀ v Hs' H',be K Hs0 H0 (none::ρ) Hs' H' (some v::σ) (s::τ')->Q v H'
def KG (N:Hp) (K:W.Frag) (f:DTm):TT:=λ σ H Q=>∃ (Hs0 H0:Hp),∃ (_:Nf N H0),∃ ρ Hs τ b τ',be K Hs0 H0 ρ Hs H σ τ/\f τ=some (b,τ')/\∀ Hs' H',be K Hs0 H0 ρ Hs' H' σ τ'->Q b H'
def PSm (X:Cx) (s:Stmt) (f:DSm):Prop:=PS X s (Jn X.H₀ X.K f)
def rC (X:Cx) (s:List Stmt) (f:DSm):Prop:=PSs X s (Jn X.H₀ X.K f)
def PEm (X:Cx) (e:Expr) (f:DEm):Prop:=PE X e (KJ X.H₀ X.K f)
def PTm (X:Cx) (e:Expr) (f:DTm):Prop:=PT X e (KG X.H₀ X.K f)
def aT (τ:List Sm) (i:Nat) (q:List Stp):Option Mt:=match τ[i]? with
 | some (.mu _ m)=>m.get q
 | _=>none
def cR (τ:List Sm) (i:Nat) (q:List Stp) (m2:Mt):List Sm:=match τ[i]? with
 | some (.mu b m)=>τ.set i (.mu b (m.put q m2))
 | _=>τ
def rdX (N:Hp) (K:W.Frag) (f:DPx):TE:=λ σ H Q=>∃ (Hs0 H0:Hp),∃ (_:Nf N H0),∃ ρ Hs τ i q m,be K Hs0 H0 ρ Hs H σ τ/\f τ=some (i,q)/\aT τ i q=some m/\∀ v v1 H',ba H H'->σ[i]?=some (some v)->vAt H' v q=some v1->Q v1 H'
def PXm (X:Cx) (e:Expr) (f:DPx):Prop:=PE X e (rdX X.H₀ X.K f)
section
variable {X:Cx} {pins:List (Addr×Obj)} {σ:St} {H:Hp} {s:Shared} {h':Heap}
theorem Inv.zV {t':Nat} {wr:List Addr} {T:Addr} {xs:List V} (I:Inv X pins σ H s) (hw:∀ b ∈ wr,rD X pins H b) (k:∀ b o,b ∉ wr->s.heap.get? b=some o->h'.get? b=some o)
  (hT:s.heap.objs.size<=T) (new:bT X.prog X.w (upd H T (.tup xs)) h' T (.tup xs)):Inv X pins σ (upd H T (.tup xs)) { s with heap:=h',toks:=t' }:=by
 have hn:=I.hok.fresh hT;have neT:∀ b u,H b=some u->b≠T:=λ b u e z=>by rw [z,hn] at e; cases e
 have neS:∀ b o,s.heap.get? b=some o->b≠T:=λ b o e z=>by
  have:=Zr e;rw [z] at this;exact absurd (Z0 this hT) (Yp _)
 have nw:∀ b u,H b=some u->b ∉ wr:=λ b u e z=>by rw [(hw b z).1] at e; cases e
 refine I.step (λ b hb=>?_) (λ b o _ _ hc e _=>k b o hc e) (λ b o _ _ hc e _=>⟨o.slots,k b o hc e⟩) (λ b o _ e n=>by rw [af (neS b o e)]; exact n)
  (λ b o hc e=>⟨o,k b o hc e⟩) (λ b ys e=>by rw [af (neT b _ e)]; exact e) (λ b o u e=>by rw [af (neT b _ e)]; exact e) (λ b ps e=>⟨#[],by rw [af (neT b _ e),e]; simp⟩) (λ m hm=>?_) (λ b u e=>?_) I.bare
 ·obtain ⟨f0,f1,f2,f3,f4,f5⟩:=hw b hb
  exact ⟨f3,f1,f4,f5⟩
 ·obtain ⟨o,es,ep,ho,r⟩:=hm
  exact ⟨o,es,ep,k _ o (λ z=>(hw _ z).2.1 rfl) ho,r⟩
 ·by_cases hb:b=T
  ·subst hb
   rw [ai] at e;cases e;exact new
  ·rw [af hb] at e
   refine (I.hok b u e).oT (λ c v hc q=>k c v ?_ q) (λ c q=>by rw [af (neT c _ q)]; exact q) λ c ys q=>by rw [af (neT c _ q)]; exact q
   rcases hc with z | z
   · rw [z]; exact nw b u e
   · exact nw c _ z
end
structure Bx (p:Prop):Prop where
 out:p
def Ite (K:W.Frag) (l:Addr):It where
 go:=λ i H=>∃ xs x,SqL K H l xs/\xs[i]?=some x
 yld:=λ i H v H'=>∃ T x,v=.ref T/\H T=none/\H'=upd H T (.tup [.int (i:Int),x])/\∀ xs,SqL K H l xs->xs[i]?=some x
 stop:=λ i H=>∃ xs,SqL K H l xs/\xs.length<=i
def ESt (e it l:Addr) (i:Nat) (h:Heap):Prop:=(∃ old,IsEnum h e it ((i:Nat):Int) old)/\h.IsListIter it l i
theorem tz {P:Program} {w:World} {K:W.Frag} {elts:List Expr} {k:Nat} {pos:Pos} {e it l:Addr} (ne:e≠it) :
  Turn P w K (.Tuple elts k pos) (Ite K l) [e,it] e (ESt e it l) where
 mem:=by simp
 obj:=λ i h st b hb=>by
  obtain ⟨⟨old,s1⟩,⟨o4,e4,c4,d4⟩⟩:=st;simp only [Zh,Yd,or_false] at hb;rcases hb with rfl | rfl
  · exact ⟨_,s1,λ v z=>by cases z⟩
  · exact ⟨o4,e4,λ v z=>by rw [d4] at z; cases z⟩
 keep:=λ i h h' st k=>by
  obtain ⟨⟨old,s1⟩,s4⟩:=st;exact ⟨⟨old,k _ (by simp) _ s1⟩,s4.at λ o e=>k _ (by simp) o e⟩
 item:=by
  intro X hP hw hK hc i pins s σ H E I hf st hg;subst hP hw hK;obtain ⟨xs,x,hq,hx⟩:=hg;obtain ⟨its,rv,p,hz⟩:=I.list hq;obtain ⟨u,hu,ru⟩:=rv.get hx;obtain ⟨⟨old,s1⟩,s4⟩:=st;refine wpAny_pyNext_enum_item s1 s4 p.isList (by simpa using hu) ne λ h' a1 a2 a3 a4 hk=>?_
  have hk':∀ b o,b ∉ [e,it]->s.heap.get? b=some o->h'.get? b=some o:=λ b o hb e'=>hk b o (λ q=>hb (by simp [q])) (λ q=>hb (by simp [q])) e'
  have I1:Inv X pins σ (upd H s.heap.objs.size (.tup [.int (i:Int),x])) { s with heap:=h',toks:=s.toks+1 }:=I.zV hf hk' (Zk _) ⟨by show 2<=sizeLine; decide,[.int i s.toks,u],.cons ⟨_,rfl⟩ (.cons ru .nil),_,a3,rfl,_,rfl⟩;have hn:=I.hok.fresh (Zk _);refine ⟨.ref s.heap.objs.size,rfl,wpAny_letOwnedTupleGo_enum a1 λ h2 hz2 sb=>?_⟩
  have neT:∀ b ∈ [e,it],b≠s.heap.objs.size:=λ b hb q=>by
   have lt:∃ o,s.heap.get? b=some o:=by
    obtain ⟨o4,e4,_⟩:=s4;simp only [Zh,Yd,or_false] at hb;rcases hb with rfl | rfl
    · exact ⟨_,s1⟩
    · exact ⟨_,e4⟩
   obtain ⟨o,e'⟩:=lt;rw [q] at e';exact absurd (Zr e') (Yp _)
  obtain ⟨f0,f1,f2,f3,f4,f5⟩:=hf e (by simp);have I2:=I1.turned (t':=s.toks+1) (λ b o hb e'=>(sb.2 b hb).trans e') (by rw [af (neT e (by simp))]; exact f0) f1 f3 f4 f5;refine ⟨.ref s.heap.objs.size,_,I2,rfl,⟨s.heap.objs.size,x,rfl,hn,rfl,λ zs hz=>by rw [I.qx hz hq]; exact hx⟩,?_,λ b hb=>by rw [af (neT b hb)]; exact (hf b hb).1⟩;exact ⟨⟨_,hz2⟩,a2.extBut sb.extBut (Ne.symm ne)⟩
 done:=by
  intro X hP hw hK hc i pins s σ H E I hf st hg;subst hP hw hK;obtain ⟨xs,hq,hx⟩:=hg;obtain ⟨its,rv,p,hz⟩:=I.list hq;obtain ⟨⟨old,s1⟩,s4⟩:=st;have l1:=rv.length;refine wpAny_pyNext_enum_end (I.ok.hd hc) s1 s4 p.isList (by simp; omega) λ h' eb=>⟨rfl,?_⟩
  obtain ⟨f0,f1,f2,f3,f4,f5⟩:=hf it (by simp);exact I.turned (λ b o hb e=>eb b o hb e) f0 f1 f3 f4 f5
 self:=λ _ _ _ _ _ st h=>by
  obtain ⟨⟨old,s1⟩,s4⟩:=st;exact wpAny_pyIter_enum s1 h
theorem wH:bootBuiltins "enumerate"=some (.type "enumerate"):=by rfl
def II (K:W.Frag) (ta:TA):TI:=λ σ H R=>ta σ H λ vs H1=>∃ l xs,vs=[.ref l]/\SqL K H1 l xs/\R (Ite K l) H1
theorem AB {X:Cx} {a:Expr} {ta:TA} {elts:List Expr} {k:Nat} {pt p pos:Pos} (hg:Gl X "enumerate") (hm:X.mg "enumerate"=none) (ha:PA X [a] ta) (hs:starEach [a] X.env=[(false,eval a X.env)]:=by rfl) :
  PI X (.Tuple elts k pt) (.Call (.Name "enumerate" p) [a] [] pos) (II X.K ta):=by
 intro pins s σ H R I h;refine Call_ (jW I hg hm wH (Yy (thn (ha pos pins s σ H _ I h) λ us s1 ⟨vs,H1,I1,r1,q1⟩=>?_) (by rw [hs]; rfl) (by rfl)));obtain ⟨l,xs,e,q1,q⟩:=q1;subst e
 cases r1 with
 | cons r rr =>
  cases rr;cases r;obtain ⟨its1,rv1,p1,hz1⟩:=I1.list q1;refine call_enumerate_list p1.isList λ h' hE hI hsz hk=>?_
  refine wpAny_pyIter_enum hE ?_
  refine ⟨_,[s1.heap.objs.size+1,s1.heap.objs.size],_,_,H1,rfl,I1.kept hk,tz (Nat.succ_ne_self _),⟨⟨_,hE⟩,hI⟩,λ b hb=>?_,q⟩
  have hb':s1.heap.objs.size<=b:=by
   simp only [Zh,Yd,or_false] at hb;rcases hb with rfl | rfl
   · exact Nat.le_add_right _ 1
   · exact Zk _
  exact I1.wU hb' (I1.hok.fresh hb')
def iL (ds:List D):List D:=ds.mapIdx λ i d=>D.tup [.int (i:Int),d]
theorem qA {K:W.Frag} {a:Addr} {xs:List V} {Hs:Hp} {as:List D} (h1:SqL K Hs a xs) (r1:Rps K Hs xs as):ItR K (Ite K a) Hs (iL as):=λ Hs1 H g1 g2=>by
 have hq1:=g2.seq (g1.seq h1);have l1:=r1.length;refine ⟨λ i d e=>?_,λ i hi=>⟨xs,hq1,?_⟩⟩
 ·unfold iL at e
  rw [List.getElem?_mapIdx] at e;obtain ⟨p,ea,ed⟩:=Zm e;obtain ⟨x,hx,rx⟩:=r1.get ea;subst ed;refine ⟨⟨xs,x,hq1,hx⟩,λ v H' ⟨T,vx,e1,hn,e2,f1⟩=>?_⟩;subst e1 e2;have ex:=f1 xs hq1;rw [hx] at ex;cases ex;have g:=Ext.new g2 hn (.tup [.int (i:Int),x]);exact ⟨_,g,.tup (SqT.of ai) (.cons (.int _) (.cons ((rx.same g1).same g.ss) .nil))⟩
 ·have hl:(iL as).length=as.length:=by simp [iL]
  omega
def vp (f:DA):DI:=λ τ=>(f τ).bind λ ds=>match ds with | [.lst as]=>some (iL as) | [.fz as]=>some (iL as) | _=>none
section
variable {X:Cx} {a b e o:Expr} {es:List Expr} {pos apos cpos:Pos} {f g:DE}
def rK:List D->Option (List Str)
 | []=>some []
 | .str x::ds=>(rK ds).map (x::·)
 | _::_=>none
theorem mS:∀ {ds:List D} {ts:List Str},rK ds=some ts->ds=ts.map .str
 | [],ts,h=>by cases h; rfl
 | .str x::ds,ts,h=>by
  obtain ⟨us,e,rfl⟩:=Zm h;rw [mS e]; rfl
theorem Rps.jz {K:W.Frag} {H:Hp}:∀ {ts:List Str} {xs:List V},Rps K H xs (ts.map D.str)->xs=ts.map V.str
 | [],_,.nil=>rfl
 | x::ts,_,.cons h r=>by
  cases h;rw [Rps.jz r]; rfl
def BX (f g:DE):DE:=λ τ=>(f τ).bind λ x=>(g τ).bind λ y=>match x,y with
 | .str z,.lst ds=>(rK ds).bind λ ts=>if (ts.map (·.length)).sum+ts.length * z.length<=100000 then some (.str (Txt.join z ts)) else none
 | _,_=>none
end
end L2
end
section
namespace PySem
section
variable {prog:Program} {w:World} {A:Around} {E:Value->Shared->Prop} {s:Shared}
theorem uW:typeLookup (.type "list_reverseiterator") "__len__"=pure none:=by rfl
theorem xW:typeLookup (.type "list_reverseiterator") "__length_hint__"=pure (some (.builtin "list_reverseiterator.__length_hint__")):=by rfl
theorem rZ (hit:s.heap.IsRevIter it l i) (h:Q false s):wpAny (model prog w) A (Builtin.List.listLengthHint (.ref it)) Q E s:=by
 refine Zl (wpAny_specialOf hit.typeIs uW ?_);refine Zl (wpAny_specialOf hit.typeIs xW ?_);generalize hid:("list_reverseiterator.__length_hint__":String)=id0
 wp_delta
 rw [show splitId id0=some ("list_reverseiterator","__length_hint__") from by subst hid; decide +kernel];subst hid;refine Zl (wpAny_isInstance (b:=true) hit.typeIs (by rw [isSubtype_type]; kernel_rfl) ?_);exact Zx h
theorem r6 (hh:A.handled=none) (hit:s.heap.IsRevIter it l ((items.size:Int) - 1)) (hl:s.heap.IsList l items)
  (hlen:items.size<=sizeLine) (hne:l≠it) (S:Addr) (res:Value) (c₀:Nat) (hS:s.heap.get? S=some { cls:=.type "list",data:=.seq #[] c₀ }) (hSl:S≠l) (hSi:S≠it)
  (hR:∀ h' tk acc' c',(∀ b o,b≠S->b≠it->s.heap.get? b=some o->h'.get? b=some o)->h'.get? S=some { cls:=.type "list",dict:=none,data:=.seq acc' c',slots:=#[] } ->
    ItemsOf (λ i v=>items[items.size - 1 - i]?=some v) acc' items.size->R (.ok (.ret res)) { s with heap:=h',toks:=tk }) :
  wpAny (model prog w) A.in1 (Builtin.List.listExtendWith (.ref S) (.ref it) res)
    (λ fin s'=>match fin with | .done f=>R (.ok f) s' | .again c'=>c'.quiet=true/\codeAny (model prog w) A c' R s') (λ e s'=>R (.error e) s') s:=by
 have W:=(Walks.listRev (prog:=prog) (w:=w) (A:=A.in1) hh it l hne items).toS
 have hSf:S ∉ [it,l]:=λ hm=>by
  rcases Zh.mp hm with e | hm
  · exact hSi e
  · exact hSl (Zo.mp hm)
 refine Zl (wpAny_typeOf hit.typeIs ?_);have h1:Builtin.List.listSameRef (.ref S) (.ref it)=false:=by simp [Builtin.List.listSameRef,hSi]
 have h2:(Value.type "list_reverseiterator" == Value.type "list")=false:=by decide
 have h3:(Value.type "list_reverseiterator" == Value.type "tuple")=false:=by decide
 simp only [h1,h2,h3,Bool.or_false,Bool.false_eq_true,if_false];refine Zl (wpAny_pyIter_revIter hit ?_);refine Zl (wpAny_holding (rZ hit ?_));refine wpAny_ite_split (λ hab=>absurd hab (by decide)) (λ _=>?_);refine Zx ⟨plainId_quiet F.plain_extend_loop _,?_⟩
 have hit0:s.heap.IsRevIter it l ((items.size:Int) - 1 - ((0:Nat):Int)):=by
  simpa using hit
 refine codeAny_extend_loopS W hlen S hSf res items.size 0 _ #[] c₀ rfl (Yb _) ⟨Yb _,hit0,hl⟩ hS (ItemsOf.nil _) λ s' acc' c' hm hS' hacc=>?_
 rw [Moved.eq_with hm];refine hR s'.heap s'.toks acc' c' (λ b o hb hb2 e=>hm.heap b o (λ hmem=>?_) e) hS' hacc;rcases Zh.mp hmem with e' | hmem
 · exact hb e'
 · exact hb2 (Zo.mp hmem)
theorem xV (hh:A.handled=none) (hit:s.heap.IsRevIter it l ((items.size:Int) - 1)) (hl:s.heap.IsList l items)
  (hlen:items.size<=sizeLine) (hne:l≠it) (S:Addr) (hS:s.heap.get? S=some { cls:=.type "list",data:=.seq #[] }) (hSl:S≠l) (hSi:S≠it)
  (hR:∀ h' tk acc' c',(∀ b o,b≠S->b≠it->s.heap.get? b=some o->h'.get? b=some o)->h'.get? S=some { cls:=.type "list",dict:=none,data:=.seq acc' c',slots:=#[] } ->
    ItemsOf (λ i v=>items[items.size - 1 - i]?=some v) acc' items.size->R (.ok (.ret .none)) { s with heap:=h',toks:=tk }) :
  wpAny (model prog w) A.in1 (Builtin.«list.__init__» ⟨[.ref S,.ref it],[]⟩)
    (λ fin s'=>match fin with | .done f=>R (.ok f) s' | .again c'=>c'.quiet=true/\codeAny (model prog w) A c' R s') (λ e s'=>R (.error e) s') s:=by
 refine Zl ?_
 refine Zl (wpAny_seqItems hS rfl (Zx ?_));refine Zl (wpAny_updateSeq hS rfl ?_);have hS₂:=Heap.get?_update_self (Obj.mapSeq (λ _=>(#[]:Array Value))) hS rfl
 have oth:∀ b o,b≠S->s.heap.get? b=some o->(s.heap.update S (Obj.mapSeq (λ _=>(#[]:Array Value)))).get? b=some o :=
  λ b o hb e=>(Heap.get?_update_other _ _ (Ne.symm hb)).trans e
 refine Zl (wpAny_letGo ?_);refine r6 hh (hit.at λ o e=>oth it o (Ne.symm hSi) e) (hl.at λ o e=>oth l o (Ne.symm hSl) e) hlen hne S .none _ hS₂ hSl hSi λ h' tk acc' c' hk hS' hacc=>?_
 exact hR h' tk acc' c' (λ b o hb hb2 e=>hk b o hb hb2 (oth b o hb e)) hS' hacc
theorem mF (hh:A.handled=none) (hit:s.heap.IsRevIter it l ((items.size:Int) - 1)) (hl:s.heap.IsList l items)
  (hlen:items.size<=sizeLine) (hne:l≠it)
  (hQ:∀ h' tk acc' c',(∀ b o,b≠it->s.heap.get? b=some o->h'.get? b=some o) ->
    h'.get? s.heap.objs.size=some { cls:=.type "list",dict:=none,data:=.seq acc' c',slots:=#[] }->ItemsOf (λ i v=>items[items.size - 1 - i]?=some v) acc' items.size->Q (.ref s.heap.objs.size) { s with heap:=h',toks:=tk }) :
  wpAny (model prog w) A (call (.type "list") [.ref it]) Q E s:=by
 refine callType_codes (Q₁:=λ obj s₁=>obj=.ref s.heap.objs.size/\s₁={ s with heap:=s.heap.push { cls:=.type "list",data:=.seq #[] } }) F.called_list (F.typeCall_list_1 _) F.entry_list_init
  (code_list_new _ ⟨rfl,rfl⟩) λ obj s₁ h₁=>?_
 obtain ⟨rfl,rfl⟩:=h₁;have hS:(s.heap.push { cls:=.type "list",data:=.seq #[] }).get? s.heap.objs.size=some { cls:=.type "list",data:=.seq #[] }:=Heap.get?_push_size _ rfl
 have hSl:s.heap.objs.size≠l:=λ e=>by
  obtain ⟨o,ho,_⟩:=hl;exact Yp _ (Nat.lt_of_lt_of_eq (Zr ho) e)
 have hSi:s.heap.objs.size≠it:=λ e=>by
  obtain ⟨o,ho,_⟩:=hit;exact Yp _ (Nat.lt_of_lt_of_eq (Zr ho) e)
 refine ⟨⟨_,hS,rfl⟩,F.args_list_init_2 _ _,xV (A:=A.in1) hh (hit.at λ o e=>Heap.get?_push_of_some _ e) (hl.at λ o e=>Heap.get?_push_of_some _ e) hlen hne _ hS hSl hSi λ h' tk acc' c' hk hS' hacc=>?_⟩;exact ⟨rfl,hQ h' tk acc' c' (λ b o hb e=>hk b o (Zz (Zr e)) hb (Heap.get?_push_of_some _ e)) hS' hacc⟩
end
end PySem
namespace L2
open PySem PySem.Spec PyProof.Rows
section
variable {X:Cx} {a:Expr} {p p2 pos pos2:Pos}
def Kf (K:W.Frag) (ta:TE):TE:=λ σ H Q=>ta σ H λ x H1=>∃ q ys,x=.ref q/\SqL K H1 q ys/\∀ l,H1 l=none->Q (.ref l) (upd H1 l (.lst ys.reverse))
theorem vi {its:List Value} {acc:Array Value} (h:ItemsOf (λ i v=>its.toArray[its.toArray.size - 1 - i]?=some v) acc its.toArray.size):acc=its.reverse.toArray:=by
 obtain ⟨hs,hv⟩:=h;refine Array.ext (by simpa using hs) λ i h1 h2=>?_
 have h3:=hv i acc[i] (Array.getElem?_eq_getElem h1);have h4:i < its.length:=by simpa using h2
 have h5:its[its.length - 1 - i]?=some acc[i]:=by simpa using h3
 rw [<- List.getElem?_reverse h4] at h5;have h6:its.reverse[i]?=some (its.reverse[i]'(by simpa using h4)):=List.getElem?_eq_getElem _;rw [h6] at h5
 simpa using (Zj h5).symm
theorem zh {ta:TE} {x y:Str} (hc:X.calm=true) (hg:Gl X x) (hm:X.mg x=none) (hv:bootBuiltins x=some (.type "list")) (hg2:Gl X y) (hm2:X.mg y=none) (hv2:bootBuiltins y=some (.type "reversed")) (ha:PE X a ta)
  (hn:x≠"__name__":=by decide) (hdb:(x == ("__debug__":Str))=false:=by decide) (hn2:y≠"__name__":=by decide) (hdb2:(y == ("__debug__":Str))=false:=by decide)
  (he:starEach [.Call (.Name y p2) [a] [] pos2] X.env=(false,eval (.Call (.Name y p2) [a] [] pos2) X.env)::starEach [] X.env:=by rfl) (hpl:(backTo pos (starEach [] X.env)).any (·.1)=false:=by rfl)
  (he2:starEach [a] X.env=(false,eval a X.env)::starEach [] X.env:=by rfl) (hpl2:(backTo pos2 (starEach [] X.env)).any (·.1)=false:=by rfl) :
  PE X (.Call (.Name x p) [.Call (.Name y p2) [a] [] pos2] [] pos) (Kf X.K ta):=by
 intro pins s σ H Q I h;refine Yo (jW I hg hm hv ?_ hn hdb);refine Yy ?_ he hpl;rw [he];refine Calls.spliced_cons ?_
 refine Yo (jW I hg2 hm2 hv2 ?_ hn2 hdb2);refine Yy (thn (au ha aV he2 pos2 pins s σ H (λ vs H1=>match vs with | [x]=>(∃ q ys,x=V.ref q/\SqL X.K H1 q ys/\∀ l,H1 l=none->Q (.ref l) (upd H1 l (.lst ys.reverse))) | _=>False) I h) λ us s1 ⟨vs,H1,I1,r1,q1⟩=>?_) he2 hpl2
 match vs,r1,q1 with
 | [],_,q1=>exact q1.elim
 | _::_::_,_,q1=>exact q1.elim
 | [v],.cons r .nil,q1 =>
  obtain ⟨q,ys,ev,hq,k⟩:=q1;subst ev;cases r;obtain ⟨its,r',pl,hz⟩:=I1.list hq;have hlen:=r'.length
  have hql:q < s1.heap.objs.size:=by
   obtain ⟨o,ho,_⟩:=pl.isList;exact Zr ho
  refine call_reversed_list pl.isList ?_
  refine Calls.spliced_nil ?_
  refine mF (I1.ok.hd hc) ⟨_,Heap.get?_push_size _ rfl,rfl,rfl⟩ (pl.isList.at λ o e=>Heap.get?_push_of_some _ e) (by simp only [Zs]; omega) (Zz hql) λ h' tk acc' c' kp e hacc=>?_
  have ea:=vi hacc;subst ea;have hS:s1.heap.objs.size<=(s1.heap.push (revObj q ((its.toArray.size:Int) - 1))).objs.size:=Yk (Nat.lt_of_lt_of_eq (Xb _) (Y3 _ _).symm)
  exact ⟨.ref _,_,I1.laid (λ b o eb=>kp b o (Zz (Zr eb)) (Heap.get?_push_of_some _ eb)) hS
   (show bT X.prog X.w _ h' _ (.lst ys.reverse) from ⟨by rw [List.length_reverse]; exact hz,its.reverse,c',r'.reverse,e⟩),rfl,k _ (I1.hok.fresh hS)⟩
def EO (f:DE):DE:=λ τ=>(f τ).bind λ x=>match x with
 | .lst ds=>some (.lst ds.reverse)
 | .fz ds=>some (.lst ds.reverse)
 | _=>none
theorem Rps.reverse {K:W.Frag} {H:Hp} {xs:List V} {ds:List D} (h:Rps K H xs ds):Rps K H xs.reverse ds.reverse:=by
 match xs,ds,h with
 | _,_,.nil=>exact .nil
 | _,_,.cons r t =>
  rw [Xi,Xi];exact (Rps.reverse t).append (.cons r .nil)
end
end L2
end
section
namespace L2
open PySem PySem.Spec PyProof.Rows
def ES (f g:DE):DE:=λ τ=>(f τ).bind λ x=>(g τ).bind λ y=>match x,y with
 | .lst a,.lst b=>if a.length+b.length<=100000 then some (.lst (a++b)) else none
 | _,_=>none
section
variable {X:Cx} {pins:List (Addr×Obj)} {σ:St} {H:Hp}
def kJ:List D->Option D
 | [.dct kvs]=>some (.int kvs.length)
 | _=>none
theorem lB:fJ X (.builtin "len") (rdL X.K kJ):=by
 intro pins s σ H xs us Q I rr h;obtain ⟨Hs,ds,d,sm,r,e,k⟩:=h
 match ds,r,e with
 | [x],.cons hx .nil,e =>
  obtain ⟨u,rfl,ru⟩:=vals1 rr
  cases hx with
  | @dct a kvs ds hH rk =>
   have e':=Zj e;subst e';cases (ru);exact IZ I (.inl (sm _ _ hH)) λ t s' I'=>⟨.int kvs.length,H,I',⟨t,rfl⟩,by rw [rk.length]; exact k _ Hs H (.refl sm) (.int _)⟩
  | _=>exact nn e
 | [],_,e=>simp [kJ] at e
 | _::_::_,_,e=>simp [kJ] at e
end
section
variable {X:Cx} {tg a e:Expr} {p p2 pos pos2:Pos}
def Cm (i:Nat) (f:DE):DS:=λ τ=>(f τ).bind λ d=>match d,τ[i]? with
 | .lst es,some (.own (.lst ds))=>if ds.length+es.length<=100000 then some (.next (τ.set i (.own (.lst (ds++es))))) else none
 | _,_=>none
theorem EH (h:Cm i f τ=some o):∃ es ds,f τ=some (.lst es)/\τ[i]?=some (.own (.lst ds))/\ds.length+es.length<=100000/\o=.next (τ.set i (.own (.lst (ds++es)))):=by
 obtain ⟨d,e1,e⟩:=bind_some h
 cases d with
 | lst es =>
  cases q:τ[i]? with
  | none=>rw [q] at e; cases e
  | some s =>
   rw [q] at e
   cases s with
   | own d=>cases d with
    | lst ds =>
     simp only at e;split at e
     ·rename_i hl
      cases e;exact ⟨es,ds,e1,rfl,hl,rfl⟩
     · cases e
    | _=>simp at e
   | _=>simp at e
 | _=>simp at e
end
def chD (z:Str):List D:=z.cps.toList.map λ c=>D.str ⟨#[c]⟩
def BH (f:DE):DI:=λ τ=>(f τ).bind λ d=>match d with | .str z=>some (chD z) | _=>none
theorem BE {K:W.Frag} {z:Str} {Hs:Hp}:ItR K (Its z) Hs (chD z):=λ Hs1 H g1 g2=>by
 refine ⟨λ i d e=>?_,λ i hi=>?_⟩
 ·unfold chD at e
  rw [List.getElem?_map] at e
  cases q:z.cps.toList[i]? with
  | none=>rw [q] at e; cases e
  | some c =>
   rw [q] at e;have ed:=Zj e;subst ed
   have hi:i < z.cps.size:=by
    have:=(List.getElem?_eq_some_iff.mp q).1
    simpa using this
   have q':z.cps[i]?=some c:=by rw [<- Array.getElem?_toList]; exact q
   refine ⟨hi,?_⟩
   rintro x H' ⟨rfl,c',hc,rfl⟩
   rw [q'] at hc;cases hc;exact ⟨Hs1,.refl g2,.str _⟩
 ·show z.cps.size<=i
  unfold chD at hi;rw [Za] at hi
  simpa using hi
section
variable {X:Cx} {tg l:Expr} {f g:DE}
def G3:D->D->Option D
 | .str i,.str j=>some (.bl (!decide (j.cps.toList < i.cps.toList)))
 | _,_=>none
theorem DL:OpR X (compareOp .LtE) (rdR X.K G3):=uA.imp λ x y H Q ⟨Hs,dx,dy,d,sm,rx,ry,e,k⟩=>by
 unfold G3 at e;split at e
 ·cases rx
  cases ry;have e':=Zj e;subst e';exact ⟨_,_,rfl,rfl,k _ Hs H (.refl sm) (.bl _)⟩
 · cases e
def Cc:List D->Option (List Bool)
 | []=>some []
 | .bl b::ds=>(Cc ds).map (b::·)
 | _::_=>none
theorem iq:∀ {ds:List D} {bs:List Bool},Cc ds=some bs->ds=bs.map .bl
 | [],_,e=>by cases e; rfl
 | .bl b::ds,_,e=>by
  obtain ⟨bs,e1,rfl⟩:=Zm (show (Cc ds).map _=_ from e);rw [iq e1]; rfl
theorem Rps.zQ {K:W.Frag} {H:Hp}:∀ {bs:List Bool} {xs:List V},Rps K H xs (bs.map D.bl)->xs=bs.map V.bl
 | [],_,.nil=>rfl
 | b::bs,_,.cons h r=>by
  cases h;rw [Rps.zQ r]; rfl
def K2:List D->Option D
 | [.lst ds]=>(Cc ds).map λ bs=>.bl (bs.all id)
 | _=>none
theorem Jd (hc:X.calm=true):fJ X (.builtin "all") (rdL X.K K2):=(yz hc).imp λ xs H Q ⟨Hs,ds,d,sm,r,e,k⟩=>by
 match ds,r,e with
 | [x],.cons hx .nil,e =>
  cases hx with
  | @lst a ys ds h r =>
   obtain ⟨bs,e1,e2⟩:=Zm (e);have ed:=iq e1;subst ed;have ey:=r.zQ;subst ey;subst e2;exact ⟨a,bs,rfl,SqL.of (sm _ _ h),k _ Hs H (.refl sm) (.bl _)⟩
  | _=>exact nn e
 | [],_,e=>exact nn e
 | x::y::_,_,e=>cases x <;> exact nn e
end
theorem mh {κ:Type}:∀ {kvs:List (κ×V)} {vs:List (κ×Value)},KV kvs vs->vs.map (·.1)=kvs.map (·.1)
 | _,_,.nil=>rfl
 | _,_,.cons h r=>by rw [Zg,Zg,mh r,h.1]
def ub:V->List V->Hp->VK->Prop:=λ x vs H Q=>∃ l xs i y,x=.ref l/\vs=[.int i,y]/\H l=some (.lst xs)/\0<=i/\i<=xs.length/\xs.length < sizeLine/\i < 2 ^ 62/\Q .non (upd H l (.lst (xs.take i.toNat++y::xs.drop i.toNat)))
section
variable {X:Cx}
theorem uQ:MtM X "list.insert" ub:=by
 intro pins s σ H x vs v us Q I rx rv h;obtain ⟨l,xs,i,y,rfl,rfl,hH,h0,h1,hz,h62,q⟩:=h;cases rx
 cases rv with
 | cons ri rv=>cases rv with
  | cons ry rv =>
 cases rv;obtain ⟨t,rfl⟩:=ri;rename_i u;obtain ⟨z,its,n,r,hl,e⟩:=I.zx hH;refine call_meets F.slot_list_insert ⟨_,e,rfl⟩ F.entry_list_insert (F.args_list_insert_3 _ _ _) (PySem.AutoSeq1.list_insert_list_int_val_1 l its.toArray n i t u (by rw [fitsIndex_both (by omega) (by omega)]; simp) (by rw [Zs]; omega)) ⟨e,?_⟩;refine ⟨.non,_,I.D6 (its':=its.take i.toNat++u::its.drop i.toNat) hH e ?_ ((r.take _).append (.cons ry (r.drop _))) ?_,rfl,q⟩
 · have hk:(if i < 0 then (i+(its.toArray.size:Int)).toNat else min i.toNat its.toArray.size)=i.toNat:=by
    rw [if_neg (by omega),Zs];omega
   show (its.toArray.extract 0 (if i < 0 then (i+(its.toArray.size:Int)).toNat else min i.toNat its.toArray.size)).push u++its.toArray.extract (if i < 0 then (i+(its.toArray.size:Int)).toNat else min i.toNat its.toArray.size)=_;rw [hk];exact PySem.W.kl_ins_eq its i.toNat u
 · rw [Z3,Zv,Xp,List.length_drop]; omega
theorem Dw {KK:W.Frag} (hK:X.K=KK) {o i e:Expr} {apos cpos:Pos} {to ti te:TE} (ho:PE X o to) (hi:PE X i ti) (he:PE X e te)
  (hbase:attributeBase o "insert" X.env (eval o X.env)=eval o X.env:=by rfl)
  (hfew:((backTo cpos (starEach [i,e] X.env)).all (λ x=>!x.1)&&(backToKw cpos (keywordEach [] X.env)).all (λ x=>x.1.isSome)
    && decide ([i,e].length+([]:List Keyword).length+(if ([]:List Keyword).isEmpty then 0 else 1) < 30))=true:=by rfl)
  (hline:(apos.endLine == cpos.line)=true:=by rfl) (hst:starEach [i,e] X.env=(false,eval i X.env)::starEach [e] X.env:=by rfl) (hst2:starEach [e] X.env=(false,eval e X.env)::starEach [] X.env:=by rfl) (hplain:(backTo cpos (starEach [e] X.env)).any (·.1)=false:=by rfl) :
  PE X (.Call (.Attribute o "insert" apos) [i,e] [] cpos) (tBM KK "list" ub to (iw ti (iw te yO))):=by
 subst hK;exact pb Yn PySem.F.slot_list_insert PySem.F.type_list_insert uQ ho (au hi (au he aV hst2) hst) hbase hfew hline hst hplain
end
def ItK (d:Addr) (o:Obj) (kvs:List (Key×V)):It where
 go:=λ i H=>H d=some (.frz o (.dK kvs))/\i < kvs.length
 yld:=λ i H v H'=>H'=H/\∃ k w,kvs[i]?=some (k,w)/\v=kV k
 stop:=λ i H=>H d=some (.frz o (.dK kvs))/\kvs.length<=i
section
variable {X:Cx} {pins:List (Addr×Obj)} {σ:St} {H:Hp} {s:Shared}
theorem Inv.freeze (I:Inv X pins σ H s) (hd:H d=some (.dK kvs)) (ho:s.heap.get? d=some o):Inv X pins σ (upd H d (.frz o (.dK kvs))) s:=by
 have ne:∀ b u,H b=some u->(∀ k,u≠.dK k)->b≠d:=λ b u e n z=>by rw [z,hd] at e; cases e; exact n _ rfl
 have n0:∀ b,H b=none->b≠d:=λ b e z=>by rw [z,hd] at e; cases e
 refine I.un (h':=s.heap) (t':=s.toks) ⟨λ b o e _ _ _=>e,λ b o e _ _ _=>⟨o.slots,e⟩,λ b o _ z _=>by rw [af (n0 b z)]; exact z,λ b o e _=>⟨o,e⟩,λ b xs e=>by rw [af (ne b _ e λ _ y=>nomatch y)]; exact e,λ b o xs e=>by rw [af (ne b _ e λ _ y=>nomatch y)]; exact e,λ b ps e=>⟨#[],by rw [af (ne b _ e λ _ y=>nomatch y),e]; simp⟩⟩ λ b u e=>?_
 by_cases z:b=d
 ·subst z
  rw [ai] at e;cases e;exact ⟨ho,I.hok b _ hd⟩
 ·rw [af z] at e
  exact (I.hok b u e).oT (λ _ _ _ q=>q) (λ c q=>by rw [af (ne c _ q λ _ y=>nomatch y)]; exact q) λ c xs q=>by rw [af (ne c _ q λ _ y=>nomatch y)]; exact q
theorem Inv.J9 (I:Inv X pins σ H s) (hd:H d=some (.frz o (.dK kvs))) (h0:∀ o' u',X.H₀ d≠some (.frz o' u')):Inv X pins σ (upd H d (.dK kvs)) s:=by
 have ne:∀ b u,H b=some u->(∀ o k,u≠.frz o k)->b≠d:=λ b u e n z=>by rw [z,hd] at e; cases e; exact n _ _ rfl
 have n0:∀ b,H b=none->upd H d (.dK kvs) b=none:=λ b e=>by rw [af (λ z=>by rw [z,hd] at e; cases e)]; exact e
 refine ⟨I.ok,I.os,I.bare,⟨I.base.keep,I.base.slot,λ b ob e z hx=>n0 b (I.base.free b ob e z hx),I.base.there,λ b xs e=>?_,λ b ob xs e=>?_,λ b ps e=>?_⟩,I.loc,I.cell,n0 _ I.free,λ x c e=>n0 _ (I.dS x c e),λ p hp=>⟨(I.pin p hp).1,n0 _ (I.pin p hp).2.1,(I.pin p hp).2.2⟩,λ b u e=>?_,I.len⟩
 ·have q:=I.base.mK b xs e
  rw [af (ne b _ q λ _ _ y=>nomatch y)]; exact q
 ·have q:=I.base.mr b ob xs e
  rw [af (λ z=>h0 _ _ (by rw [<- z]; exact e))]; exact q
 ·obtain ⟨more,q⟩:=I.base.lR b ps e
  exact ⟨more,by rw [af (ne b _ q λ _ _ y=>nomatch y)]; exact q⟩
 ·by_cases z:b=d
  ·subst z
   rw [ai] at e;cases e;exact (I.hok b _ hd).2
  ·rw [af z] at e
   exact (I.hok b u e).oT (λ _ _ _ q=>q) (λ c q=>by rw [af (ne c _ q λ _ _ y=>nomatch y)]; exact q) λ c xs q=>by rw [af (ne c _ q λ _ _ y=>nomatch y)]; exact q
end
theorem tD {P:Program} {w:World} {K:W.Frag} {tg:Expr} (d it:Addr) (o:Obj) (kvs:List (Key×V)) (es:Array DictEntry) (ep:Nat) (hdat:o.data=.dict es ep):Turn P w K tg (ItK d o kvs) [it] it (λ i h=>h.IsKeyIter it d i kvs.length ep) where
 mem:=by simp
 obj:=λ i h st b hb=>by
  have e:b=it:=by simpa using hb
  subst e;obtain ⟨o,e,c,d⟩:=st;exact ⟨o,e,λ v z=>by rw [d] at z; cases z⟩
 keep:=λ i h h' st k=>by
  obtain ⟨o,e,r⟩:=st;exact ⟨o,k it (by simp) o e,r⟩
 item:=by
  intro X hP hw hK hc i pins s σ H E I hf st hg;subst hP hw hK;obtain ⟨hd,hi⟩:=hg;obtain ⟨g,ok⟩:=I.hok d _ hd;obtain ⟨sz,lo,vs,kv,o',es',ep',h1,h2,h3,h4⟩:=ok;rw [g] at h1;cases h1;rw [hdat] at h3;cases h3;have lv:vs.length=kvs.length:=kv.length.symm;have dat:s.heap.DictAt (bf X.prog X.w) d vs ep:=⟨o,es,g,h2,hdat,h4⟩
  obtain ⟨f0,f1,f2,f3,f4,f5⟩:=hf it (by simp);have hx:vs[i]?=some (vs[i]'(by omega)):=List.getElem?_eq_getElem (by omega)
  have hk:(kvs[i]'hi).1=(vs[i]'(by omega)).1:=by
   have e1:(vs.map (·.1))[i]?=(kvs.map (·.1))[i]?:=by rw [mh kv]
   rw [List.getElem?_map,List.getElem?_map,hx,List.getElem?_eq_getElem hi] at e1;exact (Zj e1).symm
  refine wpAny_pyNext_dict_item (k:=(vs[i]'(by omega)).1) (v:=(vs[i]'(by omega)).2) (by rw [lv]; exact st) dat hx λ key h' ik st' sb=>?_
  have I1:Inv X pins σ H { s with heap:=h' }:=I.turned (t':=s.toks) (λ b o hb e=>(sb.2 b hb).trans e) f0 f1 f3 f4 f5;obtain ⟨o2,e2,c2,d2⟩:=id st';rw [lv] at st';refine ⟨key,rfl,vw (s:={ s with heap:=h' }) e2 c2 d2 (by decide) ⟨kV (kvs[i]'hi).1,H,I1,?_,⟨rfl,_,_,List.getElem?_eq_getElem hi,rfl⟩,st',λ b hb=>(hf b hb).1⟩⟩;rw [hk];rcases aU (show mi _ key=true from ik) with ⟨j,t,e4,e5⟩ | ⟨y,t,e4,e5⟩
  · rw [e4,e5]; exact ⟨t,rfl⟩
  · rw [e4,e5]; exact ⟨t,rfl⟩
 done:=by
  intro X hP hw hK hc i pins s σ H E I hf st hg;subst hP hw hK;obtain ⟨hd,hi⟩:=hg;obtain ⟨g,ok⟩:=I.hok d _ hd;obtain ⟨sz,lo,vs,kv,o',es',ep',h1,h2,h3,h4⟩:=ok;rw [g] at h1;cases h1;rw [hdat] at h3;cases h3;have lv:vs.length=kvs.length:=kv.length.symm;have dat:s.heap.DictAt (bf X.prog X.w) d vs ep:=⟨o,es,g,h2,hdat,h4⟩
  obtain ⟨f0,f1,f2,f3,f4,f5⟩:=hf it (by simp);exact wpAny_pyNext_dict_end (I.ok.hd hc) (by rw [lv]; exact st) dat (List.getElem?_eq_none (by omega)) λ h' eb=>⟨rfl,I.turned (t':=s.toks) (λ b o hb e=>eb b o hb e) f0 f1 f3 f4 f5⟩
 self:=λ _ _ _ _ _ st h=>wpAny_pyIter_keyiter st h
def IJ (td:TE):TI:=λ σ H R=>td σ H λ v H1=>∃ d kvs,v=.ref d/\H1 d=some (.dK kvs)/\∀ o,R (ItK d o kvs) (upd H1 d (.frz o (.dK kvs)))
theorem AD {X:Cx} {tg l:Expr} {tl:TE} (hl:PE X l tl):PI X tg l (IJ tl):=by
 intro pins s σ H R I h;refine thn (hl pins s σ H _ I h) λ v s1 ⟨x,H1,I1,r1,q1⟩=>?_
 obtain ⟨d,kvs,e,hd,q⟩:=q1;subst e;cases r1;obtain ⟨sz,lo,vs,kv,o,es,ep,h1,h2,h3,h4⟩:=vN I1.hok hd;have lv:vs.length=kvs.length:=kv.length.symm;refine wpAny_pyIter_dict lo ⟨o,es,h1,h2,h3,h4⟩ ?_
 have I2:=(I1.freeze hd h1).kept (t':=s1.toks) (h':=s1.heap.push { cls:=.type "dict_keyiterator",data:=.fields #[.ref d,.int 0 0,.int vs.length 0,.int ep 0] }) λ b o e=>Heap.get?_push_of_some _ e
 refine ⟨s1.heap.objs.size,[s1.heap.objs.size],_,_,_,rfl,I2,tD d _ o kvs es ep h3,⟨_,Heap.get?_push_size _ rfl,rfl,by rw [lv]; rfl⟩,λ b hb=>?_,q o⟩;have e:b=s1.heap.objs.size:=by simpa using hb
 subst e;exact (I1.freeze hd h1).wU (Zk _) ((I1.freeze hd h1).hok.fresh (Zk _))
def Gk (H0:Hp) (t:TS):TS:=λ D σ H=>t { D with nx:=λ σ1 H1=>∃ d o kvs,H1 d=some (.frz o (.dK kvs))/\(∀ o' u',H0 d≠some (.frz o' u'))/\D.nx σ1 (upd H1 d (.dK kvs)) } σ H
theorem As {X:Cx} {st:Stmt} {t:TS} (h:PS X st t):PS X st (Gk X.H₀ t):=by
 intro pins s σ H D I hh;refine Z9 (h pins s σ H _ I hh) (λ f s1 q=>?_) λ _ _ z=>z
 cases f with
 | next =>
  obtain ⟨σ',H',I',d,o,kvs,hd,h0,q⟩:=q;exact ⟨σ',_,I'.J9 hd h0,q⟩
 | ret v=>exact q
 | brk=>exact q
 | cont=>exact q
def sca:D->Bool
 | .non=>true | .bl _=>true | .int _=>true | .str _=>true | .ty _=>true | _=>false
theorem mV {K:W.Frag} {H H':Hp} {v:V} {d:D} (h:Rp K H v d) (e:sca d=true):Rp K H' v d:=by
 cases h <;> first | exact .non | exact .bl _ | exact .int _ | exact .str _ | exact .ty _ | (simp [sca] at e)
theorem iB {K:W.Frag} {H H':Hp} {vs:List V} {ds:List D} (h:Rps K H vs ds):ds.all sca=true->Rps K H' vs ds:=by
 induction ds generalizing vs with
 | nil=>intro _; cases h; exact .nil
 | cons d ds ih =>
  intro e
  cases h with
  | cons h r =>
   rw [List.all_cons,Z8] at e;exact .cons (mV h e.1) (ih r e.2)
def toM:Sm->Option Mt
 | .shr d=>some (.s d)
 | .mu false m=>some m
 | _=>none
def KD (N:Hp) (K:W.Frag) (f:DEm):TE:=λ σ H Q=>∃ (Hs0 H0:Hp),∃ (_:Nf N H0),∃ ρ Hs τ s τ',be K Hs0 H0 ρ Hs H σ τ/\f τ=some (s,τ')/\∀ v Hs' H',ba H H'->be K Hs0 H0 (none::ρ) Hs' H' (some v::σ) (s::τ')->Q v H'
def PVm (X:Cx) (e:Expr) (f:DEm):Prop:=PE X e (KD X.H₀ X.K f)
def eS (g:DE):DEm:=λ τ=>(g (aQ τ)).bind λ d=>if sca d=true then some (.shr d,τ) else none
def eN (g:DE):DEm:=λ τ=>(g (er τ)).map λ d=>(.shr d,τ)
def lM (ds:List D):Mt:=.n .l (ds.map λ d=>(.inl 0,.s d))
def eO (g:DE):DEm:=λ τ=>(g (aQ τ)).bind λ d=>match d with
 | .lst ds=>if ds.all sca=true then some (.mu false (lM ds),τ) else none
 | _=>none
def eV (i:Nat):DEm:=λ τ=>match τ[i]? with
 | some (.mu false m)=>some (.mu false m,τ.set i .no)
 | some (.shr d)=>some (.shr d,τ)
 | _=>none
section
variable {K:W.Frag} {Hs0 H0 Hs H Hs' H':Hp} {ρ:List (Option Addr)} {σ:St} {τ:List Sm}
theorem be.push (r:be K Hs0 H0 ρ Hs H σ τ) (h:Rp K Hs v d):be K Hs0 H0 (none::ρ) Hs H (some v::σ) (.shr d::τ):=⟨r.ext,let ⟨fp,s⟩:=r.st; ⟨fp,.shr h s⟩⟩
theorem be.pop (r:be K Hs0 H0 (p::ρ) Hs H (v::σ) (s::τ)):be K Hs0 H0 ρ Hs H σ τ:=⟨r.ext,by
 obtain ⟨fp,s⟩:=r.st
 cases s with
 | no r=>exact ⟨_,r⟩
 | shr h r=>exact ⟨_,r⟩
 | mu h hp z j r=>exact ⟨_,r⟩⟩
theorem be.old (r:be K Hs0 H0 ρ Hs H σ τ) (h:H p=none):H0 p=none:=r.ext.hh.free h
theorem StM.new (h:StM K H0 Hs H ρ σ τ fp) (hp:H p=none):p ∉ fp:=λ q=>(h.live p q).2.1 hp
theorem Ls {i:Nat} {d:D} {fp:List Addr} (h:StM K H0 Hs H ρ σ τ fp) (e:τ[i]?=some (.shr d)):∃ v,σ[i]?=some (some v)/\Rp K Hs v d:=h.er.get (by rw [List.getElem?_map,e]; rfl)
theorem Iz (h:Rps K Hs vs ds):∃ ts:List Kd,(ts.map Kd.kv).map (·.2)=vs/\ts.map Kd.km=ds.map (λ d=>((.inl 0:Key),Mt.s d))/\ts.flatMap Kd.fp=[]/\∀ H,∀ c ∈ ts,Od K Hs H c.fp c.v c.m:=by
 induction ds generalizing vs with
 | nil=>cases h; exact ⟨[],rfl,rfl,rfl,λ _ c hc=>by cases hc⟩
 | cons d ds ih =>
  cases h with
  | @cons x _ _ _ h r =>
   obtain ⟨ts,h1,h2,h3,h4⟩:=ih r;refine ⟨⟨.inl 0,x,.s d,[]⟩::ts,by rw [Zg,Zg,h1],by rw [Zg,Zg,h2],by rw [Yg,h3]; rfl,λ H c hc=>?_⟩;rcases Zh.mp hc with rfl | hc
   · exact .s h
   · exact h4 H c hc
theorem Od.lst (h:H a=some (.lst vs)) (n:Hs a=none) (r:Rps K Hs vs ds):Od K Hs H [a] (.ref a) (lM ds):=by
 obtain ⟨ts,h1,h2,h3,h4⟩:=Iz r;have:=Od.n (K:=K) (Hs:=Hs) (H:=H) (a:=a) (dx:=0) (t:=.l) (ts:=ts) (u:=.lst vs) h (by rw [<- h1]; exact .l _) n trivial (by rw [h3]; simp) (h4 H);rw [h2,h3] at this;exact this
theorem be.Aq (r:be K Hs0 H0 ρ Hs H σ τ) (g:ba H H') (h:Od K Hs H' fq v m) (z:∀ c ∈ fq,H c=none):be K Hs0 H0 (none::ρ) Hs H' (some v::σ) (.mu false m::τ):=by
 obtain ⟨fp,s⟩:=r.st;exact ⟨(r.grow g).ext,fq++fp,.mu h (λ e=>by cases e) (λ c hc=>r.old (z c hc)) (λ c hc=>s.new (z c hc)) (s.ext ⟨.refl _,r.ext.sh.trans g,g,λ _ h _=>h⟩)⟩
theorem be.into (r:be K Hs0 H0 (none::ρ) Hs H (some v::σ) (s::τ)) (hf:i < τ.length) (hs:(toM s).isSome=true):be K Hs0 H0 ρ Hs H (σ.set i (some v)) (τ.set i s):=⟨r.ext,by
 obtain ⟨fp,st⟩:=r.st
 cases st with
 | no r=>cases hs
 | shr h s=>obtain ⟨fp',h1,_⟩:=s.oV (i:=i) h; exact ⟨fp',h1⟩
 | @mu p v b m ρ σ τ fq fp h hp z j s =>
  cases b with
  | true=>cases hs
  | false=>obtain ⟨fp',h1,_⟩:=s.setM (i:=i) h (λ c hc=>⟨z c hc,j c hc⟩) hf; exact ⟨fp',h1⟩⟩
theorem lT {ts' ts:List Kd} (h:ts'.Sublist ts):(ts'.flatMap Kd.fp).Sublist (ts.flatMap Kd.fp):=by
 induction h with
 | slnil=>exact .slnil
 | cons a _ ih=>rw [Yg]; exact ih.trans (List.sublist_append_right _ _)
 | cons_cons a _ ih=>rw [Yg,Yg]; exact (List.Sublist.refl _).append ih
theorem StM.node {i:Nat} {q:List Stp} {t:Tg} {cs:List (Key×Mt)} {rt v1:V} {fp:List Addr} (rx:Ext Hs0 H0 Hs H) (st:StM K H0 Hs H ρ σ τ fp) (hg:aT τ i q=some (.n t cs)) (hi:σ[i]?=some (some rt)) (hv:vAt H rt q=some v1) :
  ∃ a dx ts u,v1=.ref a/\cs=ts.map Kd.km/\H a=some u/\Lay t dx (ts.map Kd.kv) u/\KU t ts/\Hs a=none/\H0 a=none /\
  (∀ fq l1 (k:Kd) l2 u',(l1++l2).Sublist ts->k.fp=fq->Od K Hs H fq k.v k.m->(∀ c ∈ fq,H0 c=none/\c ∉ fp)->Lay t dx ((l1++k::l2).map Kd.kv) u'->KU t (l1++k::l2)->be K Hs0 H0 ρ Hs (upd H a u') σ (cR τ i q (.n t ((l1++k::l2).map Kd.km)))) /\
  (∀ ts' u',ts'.Sublist ts->Lay t dx (ts'.map Kd.kv) u'->KU t ts'->be K Hs0 H0 ρ Hs (upd H a u') σ (cR τ i q (.n t (ts'.map Kd.km)))):=by
 unfold aT at hg;split at hg
 ·rename_i b m em
  obtain ⟨v,fp1,v1',w1,w2,w3,w4,w5⟩:=st.sV em hg;rw [hi] at w1;cases w1;rw [hv] at w2;cases w2;obtain ⟨a,dx,ts,u,rfl,rfl,rfl,ha,hl,nh,ku,nd,rr⟩:=w3.inv;have afp:a ∈ fp:=w4 a (Ze ..);have h0:=(st.live a afp).2.2;have ep:∀ m2,cR τ i q m2=τ.set i (.mu b (m.put q m2)):=λ m2=>by unfold cR; rw [em]
  have ex:∀ u',Ext Hs0 H0 Hs (upd H a u'):=λ u'=>by
   refine ⟨rx.ss,λ c o e=>?_,λ c o e=>?_,rx.fr⟩
   · rw [af (λ z=>by rw [z,nh] at e; cases e)]; exact rx.sh c o e
   · rw [af (λ z=>by rw [z,h0] at e; cases e)]; exact rx.hh c o e
  have nd1:=Zy.mp nd;refine ⟨a,dx,ts,u,rfl,rfl,ha,hl,ku,nh,h0,λ fq l1 k l2 u' hsub hk hod hz hl' ku'=>?_,λ ts' u' hsub hl' ku'=>?_⟩
  ·subst hk
   have zz:=hz;have sf:=lT hsub;rw [Ym] at sf;have nd2:=nd1.2.sublist sf;rw [Yj] at nd2;have inl:∀ c,c ∈ l1.flatMap Kd.fp\/c ∈ l2.flatMap Kd.fp->c ∈ fp:=λ c hc=>w4 c (Zd _ (sf.subset (Zi.mpr hc)))
   have nda:(a::(l1.flatMap Kd.fp++(k.fp++l2.flatMap Kd.fp))).Nodup:=kZ (λ z=>nd1.1 (sf.subset (Zn _ z))) (λ z=>(zz a z).2 afp) (λ z=>nd1.1 (sf.subset (Zc _ z))) hod.nd (λ c hc=>⟨λ z=>(zz c hc).2 (inl c (.inl z)),λ z=>(zz c hc).2 (inl c (.inr z))⟩) nd2.1 nd2.2.1 λ c hc z=>nd2.2.2 c hc c z rfl
   have nda':(a::(l1++k::l2).flatMap Kd.fp).Nodup:=by rw [Ym,Yg]; exact nda
   have od:Od K Hs (upd H a u') (a::(l1++k::l2).flatMap Kd.fp) (.ref a) (.n t ((l1++k::l2).map Kd.km)):=by
    refine .n ai hl' nh ku' nda' λ c hc=>?_
    have off:∀ fp',Od K Hs H fp' c.v c.m->a ∉ fp'->Od K Hs (upd H a u') fp' c.v c.m:=λ fp' o n=>o.mv (.refl _) λ x hx=>⟨(o.live x hx).1,af λ z=>n (z ▸ hx)⟩
    have na:a ∉ c.fp:=λ z=>(Zy.mp nda').1 (Yr.mpr ⟨c,hc,z⟩)
    rcases Zi.mp hc with hc | hc
    · exact off _ (rr c (hsub.subset (Zn _ hc))) na
    ·rcases Zh.mp hc with rfl | hc
     · exact off _ hod na
     · exact off _ (rr c (hsub.subset (Zc _ hc))) na
   obtain ⟨fp',s',_⟩:=w5 Hs (upd H a u') _ _ (.refl _) (λ c hc hn=>⟨(st.live c hc).1,af λ z=>hn (by rw [z]; exact Ze ..)⟩) od λ c hc=>by
    rcases Zh.mp hc with rfl | hc
    · exact .inl (Ze ..)
    ·rw [Ym,Yg,Zi,Zi] at hc
     rcases hc with hc | hc | hc
     · exact .inl (Zd _ (sf.subset (Zn _ hc)))
     · exact .inr ⟨(zz c hc).2,(zz c hc).1⟩
     · exact .inl (Zd _ (sf.subset (Zc _ hc)))
   exact ⟨ex u',fp',by rw [ep]; exact s'⟩
  ·have sf:=lT hsub
   have nda':(a::ts'.flatMap Kd.fp).Nodup:=Zy.mpr ⟨λ z=>nd1.1 (sf.subset z),nd1.2.sublist sf⟩
   have od:Od K Hs (upd H a u') (a::ts'.flatMap Kd.fp) (.ref a) (.n t (ts'.map Kd.km)):=by
    refine .n ai hl' nh ku' nda' λ c hc=>?_
    have o:=rr c (hsub.subset hc);exact o.mv (.refl _) λ x hx=>⟨(o.live x hx).1,af λ z=>(Zy.mp nda').1 (Yr.mpr ⟨c,hc,z ▸ hx⟩)⟩
   obtain ⟨fp',s',_⟩:=w5 Hs (upd H a u') _ _ (.refl _) (λ c hc hn=>⟨(st.live c hc).1,af λ z=>hn (by rw [z]; exact Ze ..)⟩) od λ c hc=>by
    rcases Zh.mp hc with rfl | hc
    · exact .inl (Ze ..)
    · exact .inl (Zd _ (sf.subset hc))
   exact ⟨ex u',fp',by rw [ep]; exact s'⟩
 · cases hg
theorem be.uN (r:be K Hs0 H0 (none::ρ) Hs H (some v::σ) (s::τ)) (hs:toM s=some mv) (hg:aT τ i q=some (.n t cs)) (hi:σ[i]?=some (some rt)) (hv:vAt H rt q=some v1) :
  ∃ a dx ts u fv,v1=.ref a/\cs=ts.map Kd.km/\H a=some u/\Lay t dx (ts.map Kd.kv) u/\KU t ts /\
  ∀ l1 kk l2 u',(l1++l2).Sublist ts->Lay t dx ((l1++⟨kk,v,mv,fv⟩::l2).map Kd.kv) u'->KU t (l1++⟨kk,v,mv,fv⟩::l2)->be K Hs0 H0 ρ Hs (upd H a u') σ (cR τ i q (.n t ((l1++⟨kk,v,mv,fv⟩::l2).map Kd.km))):=by
 obtain ⟨fp0,st⟩:=r.st
 cases st with
 | no st=>cases hs
 | shr h st =>
  cases hs;obtain ⟨a,dx,ts,u,h1,h2,h3,h4,h5,h6,h7,h8,_⟩:=StM.node r.ext st hg hi hv;exact ⟨a,dx,ts,u,[],h1,h2,h3,h4,h5,λ l1 kk l2 u' e1 e2 e3=>h8 [] l1 ⟨kk,v,_,[]⟩ l2 u' e1 rfl (.s h) (λ c hc=>by cases hc) e2 e3⟩
 | @mu p v b m ρ σ τ fq fp h hp z j st =>
  cases b with
  | true=>cases hs
  | false =>
   cases hs;obtain ⟨a,dx,ts,u,h1,h2,h3,h4,h5,h6,h7,h8,_⟩:=StM.node r.ext st hg hi hv;exact ⟨a,dx,ts,u,fq,h1,h2,h3,h4,h5,λ l1 kk l2 u' e1 e2 e3=>h8 fq l1 ⟨kk,v,_,fq⟩ l2 u' e1 rfl h (λ c hc=>⟨z c hc,j c hc⟩) e2 e3⟩
end
theorem dQ (h:aT τ i q=some m1):∃ b m,τ[i]?=some (.mu b m)/\m.get q=some m1:=by
 unfold aT at h;split at h
 · exact ⟨_,_,‹_›,h⟩
 · cases h
theorem vy {st:Stp}:∀ (q:List Stp) {m m2:Mt},m.get (q++[st])=some m2->∃ m1,m.get q=some m1/\m1.get [st]=some m2
 | [],m,m2,h=>⟨m,by cases m <;> rfl,h⟩
 | s::q,.s d,m2,h=>by cases h
 | s :: q,.n t cs,m2,h=>by
  have h':(match ur t cs s with | none=>none | some i=>match cs[i]? with | none=>none | some c=>Mt.get c.2 (q++[st]))=some m2:=h
  cases e1:ur t cs s with
  | none=>rw [e1] at h'; cases h'
  | some i =>
   rw [e1] at h'
   cases e2:cs[i]? with
   | none=>simp only [e2] at h'; cases h'
   | some c =>
    simp only [e2] at h';obtain ⟨m1,h1,h2⟩:=vy q h';refine ⟨m1,?_,h2⟩;show (match ur t cs s with | none=>none | some i=>match cs[i]? with | none=>none | some c=>Mt.get c.2 q)=some m1;simp only [e1,e2];exact h1
theorem lL {H:Hp} {st:Stp}:∀ (q:List Stp) {v v1:V},vAt H v q=some v1->vAt H v (q++[st])=vAt H v1 [st]
 | [],v,v1,h=>by
  have e:v=v1:=by cases v <;> exact Zj h
  rw [e]; rfl
 | .k k::q,v,v1,h=>by
  cases v with
  | ref a =>
   have h':(match H a with | some (.ins _ _ fs)=>(cB (fs.map λ (f:Str×V)=>((Sum.inr f.1:Key),f.2)) k).bind λ v=>vAt H v q | some (.dK kvs)=>(cB kvs k).bind λ v=>vAt H v q | _=>none)=some v1:=h;show (match H a with | some (.ins _ _ fs)=>(cB (fs.map λ (f:Str×V)=>((Sum.inr f.1:Key),f.2)) k).bind λ v=>vAt H v (q++[st]) | some (.dK kvs)=>(cB kvs k).bind λ v=>vAt H v (q++[st]) | _=>none)=_;split at h'
   ·obtain ⟨w,h1,h2⟩:=bind_some h'
    rw [h1]; exact lL q h2
   ·obtain ⟨w,h1,h2⟩:=bind_some h'
    rw [h1]; exact lL q h2
   · cases h'
  | _=>cases h
 | .i n::q,v,v1,h=>by
  cases v with
  | ref a =>
   have h':(match H a with | some (.lst xs)=>(xs[n]?).bind λ v=>vAt H v q | _=>none)=some v1:=h;show (match H a with | some (.lst xs)=>(xs[n]?).bind λ v=>vAt H v (q++[st]) | _=>none)=_;split at h'
   ·obtain ⟨w,h1,h2⟩:=bind_some h'
    rw [h1]; exact lL q h2
   · cases h'
  | _=>cases h
theorem ck (g:ba H H'):∀ (q:List Stp) {v v1:V},vAt H v q=some v1->vAt H' v q=some v1
 | [],v,v1,h=>by cases v <;> exact h
 | .k k::q,v,v1,h=>by
  cases v with
  | ref a =>
   have h':(match H a with | some (.ins _ _ fs)=>(cB (fs.map λ (f:Str×V)=>((Sum.inr f.1:Key),f.2)) k).bind λ v=>vAt H v q | some (.dK kvs)=>(cB kvs k).bind λ v=>vAt H v q | _=>none)=some v1:=h;show (match H' a with | some (.ins _ _ fs)=>(cB (fs.map λ (f:Str×V)=>((Sum.inr f.1:Key),f.2)) k).bind λ v=>vAt H' v q | some (.dK kvs)=>(cB kvs k).bind λ v=>vAt H' v q | _=>none)=_;split at h'
   ·rename_i e
    obtain ⟨w,h1,h2⟩:=bind_some h';simp only [g _ _ e];rw [h1]; exact ck g q h2
   ·rename_i e
    obtain ⟨w,h1,h2⟩:=bind_some h';simp only [g _ _ e];rw [h1]; exact ck g q h2
   · cases h'
  | _=>cases h
 | .i n::q,v,v1,h=>by
  cases v with
  | ref a =>
   have h':(match H a with | some (.lst xs)=>(xs[n]?).bind λ v=>vAt H v q | _=>none)=some v1:=h;show (match H' a with | some (.lst xs)=>(xs[n]?).bind λ v=>vAt H' v q | _=>none)=_;split at h'
   ·rename_i e
    obtain ⟨w,h1,h2⟩:=bind_some h';simp only [g _ _ e];rw [h1]; exact ck g q h2
   · cases h'
  | _=>cases h
theorem lK:∀ (fs:List (Str×V)),cB (fs.map λ f=>((Sum.inr f.1:Key),f.2)) (.inr x)=fs.lookup x
 | []=>rfl
 | (y,v)::fs=>by
  rw [Zg,Yq]
  by_cases h:y=x
  · rw [bN (by rw [h]),h]; simp
  ·rw [bO (λ z=>h (by injection z)),lK fs]
   have:(x == y)=false:=by simpa using λ z=>h z.symm
   rw [this]
def cD (i:Nat):DPx:=λ _=>some (i,[])
def jg (C:Addr) (x:Str) (f:DPx):DPx:=λ τ=>(f τ).bind λ p=>match aT τ p.1 p.2 with
 | some (.n (.o C') _)=>if C'=C then some (p.1,p.2++[.k (.inr x)]) else none
 | _=>none
def xr (f:DPx) (g:DE):DPx:=λ τ=>(f τ).bind λ p=>(g (aQ τ)).bind λ d=>(kL d).bind λ k=>match aT τ p.1 p.2 with
 | some (.n .d _)=>some (p.1,p.2++[.k k])
 | _=>none
section
variable {K:W.Frag} {Hs0 H0 Hs H Hs' H':Hp} {ρ:List (Option Addr)} {σ:St} {τ:List Sm}
theorem be.child {i:Nat} {q:List Stp} {st:Stp} {t:Tg} {cs:List (Key×Mt)} {m2:Mt} {rt v1:V} (r:be K Hs0 H0 ρ Hs H σ τ) (hg:aT τ i q=some (.n t cs)) (hg2:aT τ i (q++[st])=some m2) (hi:σ[i]?=some (some rt)) (hv:vAt H rt q=some v1) :
  ∃ (a dx:Addr) (ts:List Kd) (u:HO) (w:V),v1=.ref a/\cs=ts.map Kd.km/\H a=some u/\Lay t dx (ts.map Kd.kv) u/\vAt H rt (q++[st])=some w/\vAt H (.ref a) [st]=some w:=by
 obtain ⟨fp,s⟩:=r.st;obtain ⟨a,dx,ts,u,rfl,rfl,ha,hl,_⟩:=StM.node r.ext s hg hi hv;obtain ⟨b,m,e1,e2⟩:=dQ hg2;obtain ⟨m1,e3,e4⟩:=vy q e2;have e5:aT τ i q=m.get q:=by unfold aT; rw [e1]
 rw [e5,e3] at hg;cases hg;have e':(match ur t (ts.map Kd.km) st with | none=>none | some i=>match (ts.map Kd.km)[i]? with | none=>none | some c=>Mt.get c.2 [])=some m2:=e4
 cases e6:ur t (ts.map Kd.km) st with
 | none=>rw [e6] at e'; cases e'
 | some j =>
  rw [e6] at e'
  cases e7:(ts.map Kd.km)[j]? with
  | none=>simp only [e7] at e'; cases e'
  | some c =>
   obtain ⟨t1,k,t2,_,_,_,q4⟩:=q8 ha hl e6 e7;have w:vAt H (.ref a) [st]=some k.v:=by rw [q4]; cases k.v <;> rfl
   exact ⟨a,dx,ts,u,k.v,rfl,rfl,ha,hl,by rw [lL q hv]; exact w,w⟩
end
section
variable {X:Cx} {a b c e o:Expr} {es:List Expr} {pos apos cpos pos':Pos} {x:Str}
theorem PVm.em (h:PVm X e f):PEm X e f:=PE.imp h λ σ H Q ⟨Hs0,H0,nf,ρ,Hs,τ,s,τ',r,e,k⟩=>⟨Hs0,H0,nf,ρ,Hs,τ,s,τ',r,e,λ v Hs' H' _ r'=>k v Hs' H' r'⟩
end
section
variable {X:Cx}
theorem qC:∀ {ns:List Int} {us:List Value},a7 (ns.map V.int) us->IntsAre us ns
 | [],_,.nil=>.nil
 | n::ns,_,.cons r t=>by
  obtain ⟨tk,rfl⟩:=r;exact .cons n tk (qC t)
variable {o e:Expr} {f g:DE} {apos cpos:Pos}
end
def Aj:V->List V->Hp->VK->Prop:=λ x vs H Q=>∃ l ns k,x=.ref l/\vs=[.int k]/\H l=some (.lst (List.map V.int ns))/\ns.length<=1000/\k ∈ ns/\Q .non (upd H l (.lst ((ns.eraseIdx (ns.idxOf k)).map V.int)))
section
variable {X:Cx}
theorem a7.del:∀ {xs:List V} {us:List Value} (j:Nat),a7 xs us->a7 (xs.eraseIdx j) (us.eraseIdx j)
 | _,_,_,.nil=>.nil
 | _,_,0,.cons _ r=>r
 | _,_,j+1,.cons h r=>.cons h (a7.del j r)
theorem jS {α β:Type} (f:α->β):∀ (l:List α) (j:Nat),(l.eraseIdx j).map f=(l.map f).eraseIdx j
 | [],_=>rfl
 | _::_,0=>rfl
 | x::l,j+1=>Z7 (f x::·) (jS f l j)
theorem uP:MtM X "list.remove" Aj:=by
 intro pins s σ H x vs v us Q I rx rv h;obtain ⟨l,ns,k,rfl,rfl,hH,hz,hk,q⟩:=h;cases rx;obtain ⟨u,rfl,tu,rfl⟩:=vals1 rv;obtain ⟨z,its,n,r,hl,e⟩:=I.zx hH;have hi:=qC r;have hln:=hi.length;have hj:ns.idxOf k < ns.length:=List.idxOf_lt_length_iff.mpr hk
 refine call_meets PySem.F.slot_list_remove ⟨_,e,rfl⟩ PySem.F.entry_list_remove (PySem.F.args_list_remove_2 _ _)
  (MeetsSeq.list_remove l its.toArray n (.int k tu) (isInt k) (λ y hy=>eq_isInt k tu hi y (by simpa using hy)) (ns.idxOf k) (by rw [Zs,hln]; exact hj) ?_ (λ m h1 h2=>?_) (by rw [Zs,hln]; exact Z5 hz (by decide))) ⟨e,?_⟩
 ·show isInt k its[ns.idxOf k]=true
  rw [isInt_at k hi _ (by omega) hj]
  simpa using List.getElem_idxOf hj
 ·have h1':m < its.length:=by simpa using h1
  show isInt k its[m]=false;rw [isInt_at k hi m h1' (by omega)];exact ne_of_lt_idxOf h2 _
 ·refine ⟨.non,_,I.D6 (its':=its.eraseIdx (ns.idxOf k)) hH e ?_ (by rw [jS]; exact a7.del _ r) ?_,rfl,q⟩
  ·show its.toArray.eraseIdxIfInBounds (ns.idxOf k)=(its.eraseIdx (ns.idxOf k)).toArray
   rw [List.eraseIdxIfInBounds_toArray]
  · rw [Za]; exact Z5 (List.length_eraseIdx_le ..) (by rw [Za] at z; exact z)
end
def kT:DSm:=λ τ=>some (.next τ)
def Ad:DSm:=λ _=>none
def gP (f g:DSm):DSm:=λ τ=>match f τ with
 | some (.next τ')=>g τ'
 | r=>r
def tR (t:DTm) (f g:DSm):DSm:=λ τ=>(t τ).bind λ x=>if x.1=true then f x.2 else g x.2
def mX (i:Nat) (f:DEm):DSm:=λ τ=>(f τ).bind λ x=>if i < x.2.length/\(toM x.1).isSome=true then some (.next (x.2.set i x.1)) else none
def mY (f:DEm):DSm:=λ τ=>(f τ).map λ x=>.ret x.1 x.2
def mZ (f:DEm):DSm:=λ τ=>(f τ).map λ x=>.next x.2
def tS (g:DT):DTm:=λ τ=>(g (aQ τ)).map λ b=>(b,τ)
def tE (f:DEm):DTm:=λ τ=>(f τ).bind λ x=>match x.1 with
 | .shr (.bl b)=>some (b,x.2)
 | _=>none
def tNt (f:DTm):DTm:=λ τ=>(f τ).map λ x=>(!x.1,x.2)
section
variable {X:Cx} {a b c e o:Expr} {es:List Expr} {pos apos cpos pos':Pos} {x:Str} {st:Stmt} {rest:List Stmt} {f g:DSm}
def tU (g:DE):DSm:=λ τ=>(g (aQ τ)).map λ _=>.next τ
def eZ (cs:List (Key×Mt)) (k:Key) (m:Mt):List (Key×Mt):=if cs.any (λ c=>decide (c.1=k)) then cs.map (λ c=>if c.1=k then (c.1,m) else c) else cs++[(k,m)]
theorem jC (k:Key) (nd:(ts.map Kd.k).Nodup):∃ l1 l2,(l1++l2).Sublist ts/\∀ n:Kd,n.k=k->(l1++n::l2).map Kd.kv=putK (ts.map Kd.kv) k n.v/\(l1++n::l2).map Kd.km=eZ (ts.map Kd.km) k n.m/\((l1++n::l2).map Kd.k).Nodup:=by
 have ea:∀ {α:Type} (g:Kd->α),k ∈ ts.map Kd.k->((ts.map λ t=>(t.k,g t)).any λ c=>decide (c.1=k))=true:=λ g h=>by
  rw [List.any_map,List.any_eq_true];obtain ⟨t,ht,rfl⟩:=Z2.mp h;exact ⟨t,ht,by simp⟩
 have en:∀ {α:Type} (g:Kd->α),k ∉ ts.map Kd.k->((ts.map λ t=>(t.k,g t)).any λ c=>decide (c.1=k))=false:=λ g h=>by
  rw [List.any_map,List.any_eq_false];exact λ t ht z=>h (Z2.mpr ⟨t,ht,by simpa using z⟩)
 by_cases h:k ∈ ts.map Kd.k
 ·obtain ⟨t,ht,et⟩:=Z2.mp h
  obtain ⟨l1,l2,rfl⟩:=List.append_of_mem ht;have nd':=nd;rw [Zp,Zg,Yj,Zy] at nd';have n1:∀ c ∈ l1,c.k≠k:=λ c hc z=>nd'.2.2 c.k (Yc hc) t.k (Ze ..) (by rw [z,et])
  have n2:∀ c ∈ l2,c.k≠k:=λ c hc z=>nd'.2.1.1 (by rw [et,<- z]; exact Yc hc)
  refine ⟨l1,l2,List.Sublist.append (.refl _) (List.sublist_cons_self ..),λ n hn=>⟨?_,?_,?_⟩⟩
  ·unfold putK
   rw [show ((l1++t::l2).map Kd.kv).any (λ kv=>decide (kv.1=k))=_ from ea Kd.v h,if_pos rfl,Zw,Zp,Zp,Zg,Zg];congr 1
   · exact Zt λ c hc=>(if_neg (n1 c hc)).symm
   ·rw [show ((λ kv=>if kv.1=k then (kv.1,n.v) else kv) ∘ Kd.kv) t=(t.k,n.v) from if_pos et,et,<- hn]
    congr 1;exact Zt λ c hc=>(if_neg (hn.symm ▸ n2 c hc)).symm
  ·unfold eZ
   rw [show ((l1++t::l2).map Kd.km).any (λ kv=>decide (kv.1=k))=_ from ea Kd.m h,if_pos rfl,Zw,Zp,Zp,Zg,Zg];congr 1
   · exact Zt λ c hc=>(if_neg (n1 c hc)).symm
   ·rw [show ((λ c=>if c.1=k then (c.1,n.m) else c) ∘ Kd.km) t=(t.k,n.m) from if_pos et,et,<- hn]
    congr 1;exact Zt λ c hc=>(if_neg (hn.symm ▸ n2 c hc)).symm
  ·rw [Zp,Zg,hn,<- et,<- Zg,<- Zp]
   exact nd
 ·refine ⟨ts,[],by rw [Z1]; exact .refl _,λ n hn=>⟨?_,?_,?_⟩⟩
  ·unfold putK
   rw [show (ts.map Kd.kv).any (λ kv=>decide (kv.1=k))=_ from en Kd.v h,if_neg (by simp),Zp,<- hn];rfl
  ·unfold eZ
   rw [show (ts.map Kd.km).any (λ kv=>decide (kv.1=k))=_ from en Kd.m h,if_neg (by simp),Zp,<- hn];rfl
  ·rw [Zp,Zg,Yj,hn]
   exact ⟨nd,by simp,λ c hc c' hc' z=>h (by rw [<- Zo.mp hc',<- z]; exact hc)⟩
theorem qj:∀ {fs:List (Str×V)},(fs.map Prod.fst).Nodup->(kG x v fs).map (λ f=>((Sum.inr f.1:Key),f.2))=putK (fs.map λ f=>((Sum.inr f.1:Key),f.2)) (.inr x) v
 | [],_=>rfl
 | (y,w)::fs,nd=>by
  rw [Zg,Zy] at nd
  by_cases h:y=x
  ·subst h
   rw [show kG y v ((y,w)::fs)=(y,v)::fs from if_pos rfl];unfold putK;rw [show ((((y,w)::fs).map λ f=>((Sum.inr f.1:Key),f.2)).any λ kv=>decide (kv.1=Sum.inr y))=true from by simp,if_pos rfl,Zg,Zg,Zg,Zw];congr 1
   · simp
   · exact Zt λ c hc=>(if_neg (λ z=>nd.1 (by injection z with z; exact Z2.mpr ⟨c,hc,z⟩))).symm
  ·rw [show kG x v ((y,w)::fs)=(y,w)::kG x v fs from if_neg h,Zg,qj nd.2]
   unfold putK;rw [Zg,Xh,show decide ((Sum.inr y:Key)=Sum.inr x)=false from Zq (λ z=>h (by injection z)),Bool.false_or];split
   · rw [Zg,if_neg (λ z=>h (by injection z))]
   · rfl
def cJ (px:DPx) (gk:DE) (fv:DEm):DSm:=λ τ=>(fv τ).bind λ x=>(px x.2).bind λ p=>(gk (aQ x.2)).bind λ d=>(kL d).bind λ k=>(toM x.1).bind λ mv=>match aT x.2 p.1 p.2 with
 | some (.n .d cs)=>if cs.length < 100000 then some (.next (cR x.2 p.1 p.2 (.n .d (eZ cs k mv)))) else none
 | _=>none
def tT (C:Addr) (x:Str) (px:DPx) (fv:DEm):DSm:=λ τ=>(fv τ).bind λ y=>(px y.2).bind λ p=>(toM y.1).bind λ mv=>match aT y.2 p.1 p.2 with
 | some (.n (.o C') cs)=>if C'=C/\cs.length < 1000 then some (.next (cR y.2 p.1 p.2 (.n (.o C) (eZ cs (.inr x) mv)))) else none
 | _=>none
end
section
variable {K:W.Frag} {Hs0 H0 Hs H Hs' H':Hp} {ρ:List (Option Addr)} {σ:St} {τ:List Sm}
theorem yb {dx:Addr} {ts:List Kd} {u:HO} (h:Lay .l dx (ts.map Kd.kv) u):u=.lst (ts.map Kd.v):=by
 generalize ek:ts.map Kd.kv=kvs at h
 cases h with
 | l _=>rw [<- ek,Zw]; rfl
theorem va {dx:Addr} {ts:List Kd}:Lay .l dx (ts.map Kd.kv) (.lst (ts.map Kd.v)):=by
 have:=Lay.l (dx:=dx) (ts.map Kd.kv);rw [Zw] at this;exact this
theorem Bu {dx:Addr} {ts:List Kd} {u:HO} (h:Lay .d dx (ts.map Kd.kv) u):u=.dK (ts.map Kd.kv):=by
 generalize ek:ts.map Kd.kv=kvs at h
 cases h with
 | d _=>rfl
theorem be.A4 (r:be K Hs0 H0 ρ Hs H σ τ) (hg:aT τ i q=some (.n t cs)) (hi:σ[i]?=some (some rt)) (hv:vAt H rt q=some v1) :
  ∃ (a dx:Addr) (ts:List Kd) (u:HO),v1=.ref a/\cs=ts.map Kd.km/\H a=some u/\Lay t dx (ts.map Kd.kv) u/\KU t ts/\(∀ c ∈ ts,Rp K H c.v (frz c.m)) /\
  ∀ ts' ks u',ts'.Sublist ts->(∀ k ∈ ks,k.fp=[]/\Od K Hs H [] k.v k.m)->Lay t dx ((ts'++ks).map Kd.kv) u'->KU t (ts'++ks)->be K Hs0 H0 ρ Hs (upd H a u') σ (cR τ i q (.n t ((ts'++ks).map Kd.km))):=by
 obtain ⟨fp,st⟩:=r.st;obtain ⟨b,m,em,eg⟩:=dQ hg;obtain ⟨v,fp1,v1',w1,w2,w3,w4,w5⟩:=st.sV em eg;rw [hi] at w1;cases w1;rw [hv] at w2;cases w2;obtain ⟨a,dx,ts,u,rfl,rfl,rfl,ha,hl,nh,ku,nd,rr⟩:=w3.inv;have afp:a ∈ fp:=w4 a (Ze ..);have h0:=(st.live a afp).2.2;have nd1:=Zy.mp nd;refine ⟨a,dx,ts,u,rfl,rfl,ha,hl,ku,λ c hc=>(rr c hc).rp r.sm,λ ts' ks u' hsub hks hl' ku'=>?_⟩
 have ex:Ext Hs0 H0 Hs (upd H a u'):=by
  refine ⟨r.ext.ss,λ c o e=>?_,λ c o e=>?_,r.ext.fr⟩
  · rw [af (λ z=>by rw [z,nh] at e; cases e)]; exact r.ext.sh c o e
  · rw [af (λ z=>by rw [z,h0] at e; cases e)]; exact r.ext.hh c o e
 have kz:ks.flatMap Kd.fp=[]:=by
  rw [List.flatMap_eq_nil_iff];exact λ c hc=>(hks c hc).1
 have sf:=lT hsub
 have nda':(a::(ts'++ks).flatMap Kd.fp).Nodup:=by
  rw [Ym,kz,Z1];exact Zy.mpr ⟨λ z=>nd1.1 (sf.subset z),nd1.2.sublist sf⟩
 have od:Od K Hs (upd H a u') (a::(ts'++ks).flatMap Kd.fp) (.ref a) (.n t ((ts'++ks).map Kd.km)):=by
  refine .n ai hl' nh ku' nda' λ c hc=>?_
  have na:a ∉ c.fp:=λ z=>(Zy.mp nda').1 (Yr.mpr ⟨c,hc,z⟩)
  rcases Zi.mp hc with hc | hc
  ·have o:=rr c (hsub.subset hc)
   exact o.mv (.refl _) λ x hx=>⟨(o.live x hx).1,af λ z=>na (z ▸ hx)⟩
  ·obtain ⟨k1,k2⟩:=hks c hc
   rw [k1];exact k2.mv (.refl _) λ x hx=>by cases hx
 obtain ⟨fp',s',_⟩:=w5 Hs (upd H a u') _ _ (.refl _) (λ c hc hn=>⟨(st.live c hc).1,af λ z=>hn (by rw [z]; exact Ze ..)⟩) od λ c hc=>by
  rw [Ym,kz,Z1] at hc;rcases Zh.mp hc with rfl | hc
  · exact .inl (Ze ..)
  · exact .inl (Zd _ (sf.subset hc))
 exact ⟨ex,fp',by unfold cR; rw [em]; exact s'⟩
theorem be.isList (r:be K Hs0 H0 ρ Hs H σ τ) (hg:aT τ i q=some (.n .l cs)) (hi:σ[i]?=some (some rt)) (hv:vAt H rt q=some v1):tyV K "list" v1 H:=by
 obtain ⟨a,dx,ts,u,rfl,rfl,ha,hl,_⟩:=r.A4 hg hi hv;rw [yb hl] at ha;exact .inl ⟨rfl,_,SqL.of ha⟩
end
def xo (px:DPx) (fv:DEm):DSm:=λ τ=>(px τ).bind λ p=>match aT τ p.1 p.2 with
 | some (.n .l _)=>(fv τ).bind λ x=>(toM x.1).bind λ mv=>match aT x.2 p.1 p.2 with
  | some (.n .l cs)=>if cs.length < 100000 then some (.next (cR x.2 p.1 p.2 (.n .l (cs++[(.inl 0,mv)])))) else none
  | _=>none
 | _=>none
def FX (cs:List (Key×Mt)) (i:Nat) (m:Mt):List (Key×Mt):=cs.take i++(.inl 0,m)::cs.drop i
def Ae (px:DPx) (gi:DE) (fv:DEm):DSm:=λ τ=>(px τ).bind λ p=>match aT τ p.1 p.2 with
 | some (.n .l _)=>(gi (aQ τ)).bind λ d=>(fv τ).bind λ x=>(toM x.1).bind λ mv=>match d,aT x.2 p.1 p.2 with
  | .int i,some (.n .l cs)=>if 0<=i/\i<=cs.length/\cs.length < 100000 then some (.next (cR x.2 p.1 p.2 (.n .l (FX cs i.toNat mv)))) else none
  | _,_=>none
 | _=>none
def xk (px:DPx) (g:DE):DSm:=λ τ=>(px τ).bind λ p=>(g (aQ τ)).bind λ d=>match d,aT τ p.1 p.2 with
 | .int k,some (.n .l cs)=>(cZ (vz cs)).bind λ ns=>if ns.length<=1000/\k ∈ ns then some (.next (cR τ p.1 p.2 (.n .l (cs.eraseIdx (ns.idxOf k))))) else none
 | _,_=>none
def off (H:Hp) (fp:List Addr):Hp:=λ b=>if b ∈ fp then none else H b
def Jp:V->Option Addr
 | .ref a=>some a
 | _=>none
abbrev gQ (vs:List V):List (Option Addr):=vs.map Jp
def spM (F:List Sm->Option (Sm×List Sm)) (K:W.Frag):Sp:=λ vs H Q _=>∃ Hs fp as s as',ba Hs H/\StM K (off H fp) Hs H (gQ vs) (vs.map some) as fp/\F as=some (s,as') /\
 ∀ v Hs' H' fp',Ext Hs (off H fp) Hs' H'->StM K (off H fp) Hs' H' (none::gQ vs) (some v::vs.map some) (s::as') fp'->Q v H'
inductive Am where
 | v (d:D) | p (i:Nat) (q:List Stp)
inductive oI (K:W.Frag) (Hs H:Hp) (σ:St):List V->List Am->Prop where
 | nil:oI K Hs H σ [] []
 | v {x:V} {d:D} {vs:List V} {as:List Am} (h:Rp K Hs x d) (r:oI K Hs H σ vs as):oI K Hs H σ (x::vs) (.v d::as)
 | p {x rt:V} {i:Nat} {q:List Stp} {vs:List V} {as:List Am} (h1:σ[i]?=some (some rt)) (h2:vAt H rt q=some x) (r:oI K Hs H σ vs as):oI K Hs H σ (x::vs) (.p i q::as)
theorem oI.ext {K:W.Frag} {Hs H Hs' H':Hp} {σ:St} {vs:List V} {as:List Am} (g1:ba Hs Hs') (g2:ba H H') (h:oI K Hs H σ vs as):oI K Hs' H' σ vs as:=by
 induction h with
 | nil=>exact .nil
 | v h _ ih=>exact .v (h.same g1) ih
 | p h1 h2 _ ih=>exact .p h1 (ck g2 _ h2) ih
def lend:List Sm->List Am->Option (List Sm)
 | _,[]=>some []
 | τ,.v d::r=>(lend τ r).map (.shr d::·)
 | τ,.p i q::r=>match aT τ i q with
  | some (.n t cs)=>(lend (τ.set i .no) r).map (.mu true (.n t cs)::·)
  | _=>none
def back:List Sm->List Am->List Sm->Option (List Sm)
 | τ,[],_=>some τ
 | τ,.v _::r,_::as=>back τ r as
 | τ,.p i q::r,.mu true m2::as=>(back (τ.set i .no) r as).bind λ τ'=>match τ[i]? with
  | some (.mu b m)=>some (τ'.set i (.mu b (m.put q m2)))
  | _=>none
 | _,_,_=>none
section
variable {K:W.Frag} {H0 Hs H Hs' H':Hp} {ρ:List (Option Addr)} {σ:List (Option V)} {τ:List Sm} {fp:List Addr}
theorem StM.rebase (h:StM K H0 Hs H ρ σ τ fp):(∀ c ∈ fp,H1 c=none)->StM K H1 Hs H ρ σ τ fp:=by
 induction h with
 | nil=>exact λ _=>.nil
 | no _ ih=>exact λ q=>.no (ih q)
 | shr h _ ih=>exact λ q=>.shr h (ih q)
 | mu h hp z j _ ih=>exact λ q=>.mu h hp (λ c hc=>q c (Zn _ hc)) j (ih λ c hc=>q c (Zc _ hc))
theorem StM.pin {i:Nat} {b:Bool} {m:Mt} {v:V} (h:StM K H0 Hs H ρ σ τ fp):τ[i]?=some (.mu b m)->σ[i]?=some (some v)->b=true->∃ a,ρ[i]?=some (some a)/\v=.ref a:=by
 induction h generalizing i with
 | nil=>intro e; simp at e
 | no _ ih =>
  intro e e2 hb
  cases i with
  | zero=>simp at e
  | succ i=>simpa using ih (i:=i) (by simpa using e) (by simpa using e2) hb
 | shr h _ ih =>
  intro e e2 hb
  cases i with
  | zero=>simp at e
  | succ i=>simpa using ih (i:=i) (by simpa using e) (by simpa using e2) hb
 | @mu p v' b' m' ρ σ τ fq fp h hp z j _ ih =>
  intro e e2 hb
  cases i with
  | zero =>
   have e':Sm.mu b' m'=.mu b m:=by simpa using e
   injection e' with e1 _
   have e3:v'=v:=by simpa using e2
   subst e3;obtain ⟨a,h1,h2⟩:=hp (e1.trans hb);exact ⟨a,by rw [h1]; rfl,h2⟩
  | succ i=>simpa using ih (i:=i) (by simpa using e) (by simpa using e2) hb
theorem StM.fill (h:StM K H0 Hs H ρ σ τ fp) (hv:Od K Hs H fq v m) (z:∀ c ∈ fq,H0 c=none/\c ∉ fp):i < τ.length->σ[i]?=some (some v)->(b=true->∃ a,ρ[i]?=some (some a)/\v=.ref a)->∃ fp',StM K H0 Hs H ρ σ (τ.set i (.mu b m)) fp'/\∀ c ∈ fp',c ∈ fq\/c ∈ fp:=by
 induction h generalizing i with
 | nil=>intro hi; exact absurd hi (by simp)
 | @no p o ρ σ τ fp r ih =>
  intro hi e hp
  cases i with
  | zero =>
   have e':o=some v:=by simpa using e
   subst e';exact ⟨_,.mu hv (λ hb=>by obtain ⟨a,h1,h2⟩:=hp hb; exact ⟨a,by simpa using h1,h2⟩) (λ c hc=>(z c hc).1) (λ c hc=>(z c hc).2) r,λ c h=>Zi.mp h⟩
  | succ i =>
   obtain ⟨fp',h1,h2⟩:=ih z (i:=i) (by simpa using hi) (by simpa using e) (by simpa using hp);exact ⟨fp',.no h1,h2⟩
 | @shr p v' d ρ σ τ fp h r ih =>
  intro hi e hp
  cases i with
  | zero =>
   have e':v'=v:=by simpa using e
   subst e';exact ⟨_,.mu hv (λ hb=>by obtain ⟨a,h1,h2⟩:=hp hb; exact ⟨a,by simpa using h1,h2⟩) (λ c hc=>(z c hc).1) (λ c hc=>(z c hc).2) r,λ c h=>Zi.mp h⟩
  | succ i =>
   obtain ⟨fp',h1,h2⟩:=ih z (i:=i) (by simpa using hi) (by simpa using e) (by simpa using hp);exact ⟨fp',.shr h h1,h2⟩
 | @mu p v' b' m' ρ σ τ fq' fp h hp' z' j r ih =>
  intro hi e hp;have zr:∀ c ∈ fq,H0 c=none/\c ∉ fp:=λ c hc=>⟨(z c hc).1,λ q=>(z c hc).2 (Zc _ q)⟩
  cases i with
  | zero =>
   have e':v'=v:=by simpa using e
   subst e';exact ⟨_,.mu hv (λ hb=>by obtain ⟨a,h1,h2⟩:=hp hb; exact ⟨a,by simpa using h1,h2⟩) (λ c hc=>(z c hc).1) (λ c hc=>(zr c hc).2) r,λ c h=>(Zi.mp h).imp id λ q=>Zc _ q⟩
  | succ i =>
   obtain ⟨fp',h1,h2⟩:=ih zr (i:=i) (by simpa using hi) (by simpa using e) (by simpa using hp);refine ⟨_,.mu h hp' z' (λ c hc q=>?_) h1,λ c hc=>?_⟩
   ·rcases h2 c q with y | y
    · exact (z c y).2 (Zn _ hc)
    · exact j c hc y
   ·rcases Zi.mp hc with y | y
    · exact .inr (Zn _ y)
    · exact (h2 c y).imp id λ q=>Zc _ q
theorem rA:back τ [] ss=some τ:=by cases ss <;> rw [back]
theorem mJ:∀ {as:List Am} {τ ss τ':List Sm},back τ as ss=some τ'->τ'.length=τ.length
 | [],τ,ss,τ',e=>by rw [rA] at e; cases e; rfl
 | .v _::r,τ,[],τ',e=>by cases e
 | .v _::r,τ,_::as,τ',e=>mJ (as:=r) e
 | .p i q::r,τ,[],τ',e=>by cases e
 | .p i q::r,τ,s::as,τ',e=>by
  cases s with
  | no=>cases e
  | shr d=>cases e
  | mu b m2 =>
   cases b with
   | false=>cases e
   | true =>
    obtain ⟨τ1,e1,e2⟩:=bind_some (show (back (τ.set i .no) r as).bind _=_ from e);have l1:=mJ e1;rw [Ye] at l1;split at e2
    ·cases e2
     rw [Ye,l1]
    · cases e2
abbrev BI:Hp:=λ _=>none
theorem mf : ∀ {as : List Am} {τ ss:List Sm} {fp:List Addr} {vs:List V},StM K H0 Hs H ρ σ τ fp->oI K Hs H σ vs as->lend τ as=some ss ->
    ∃ fpa,StM K BI Hs H (gQ vs) (vs.map some) ss fpa/\(∀ c ∈ fpa,c ∈ fp) /\
    ∀ Hs' H' ss' fpa' τ',ba Hs Hs'->(∀ c ∈ fp,c ∉ fpa->Hs' c=none/\H' c=H c)->StM K BI Hs' H' (gQ vs) (vs.map some) ss' fpa'->(∀ c ∈ fpa',c ∈ fpa\/(c ∉ fp/\H0 c=none))->back τ as ss'=some τ' ->
      ∃ fp',StM K H0 Hs' H' ρ σ τ' fp'/\∀ c ∈ fp',(c ∈ fp/\c ∉ fpa)\/c ∈ fpa'
  | [],τ,ss,fp,[],st,.nil,e=>by
    cases e;refine ⟨[],.nil,λ c hc=>(nomatch hc),λ Hs' H' ss' fpa' τ' g k sa j eb=>?_⟩;rw [rA] at eb;cases eb;exact ⟨fp,st.mv g λ c hc=>k c hc (by simp),λ c hc=>.inl ⟨hc,by simp⟩⟩
  | .v d :: r,τ,ss,fp,_,st,.v h rr,e=>by
    obtain ⟨ss1,e1,rfl⟩:=Zm (show (lend τ r).map _=_ from e);obtain ⟨fpa,s1,w1,w2⟩:=mf st rr e1;refine ⟨fpa,.shr h s1,w1,λ Hs' H' ss' fpa' τ' g k sa j eb=>?_⟩
    cases ss' with
    | nil=>cases eb
    | cons s as' =>
      cases sa with
      | no sa=>exact w2 Hs' H' as' _ τ' g k sa j eb
      | shr _ sa=>exact w2 Hs' H' as' _ τ' g k sa j eb
      | mu _ _ _ _ sa =>
        obtain ⟨fp',h1,h2⟩:=w2 Hs' H' as' _ τ' g k sa (λ c hc=>j c (Zc _ hc)) eb;exact ⟨fp',h1,λ c hc=>(h2 c hc).imp id λ y=>Zc _ y⟩
  | .p i q :: r, τ, ss, fp,_,st,@oI.p _ _ _ _ x rt _ _ vs _ h1 h2 rr,e=>by
    have e':(match aT τ i q with | some (.n t cs)=>(lend (τ.set i .no) r).map (.mu true (.n t cs)::·) | _=>none)=some ss:=e;split at e'
    · rename_i t cs eg
      obtain ⟨ss1,e1,rfl⟩:=Zm e';obtain ⟨b,m,em,egm⟩:=dQ eg;obtain ⟨v0,fq,fp0,o1,o2,o3,o4,o5⟩:=st.out em;rw [h1] at o1;cases o1;obtain ⟨fp1,v1,w1,w2,w3,w4⟩:=o2.sV q egm;rw [h2] at w1;cases w1;obtain ⟨a,dx,ts,u,rfl,_⟩:=w2.inv;obtain ⟨fpa,s1,a1,a2⟩:=mf o3 rr e1;have dj:∀ c ∈ fp1,c ∉ fpa:=λ c hc y=>(o4 c (w3 c hc)).1 (a1 c y)
      refine ⟨fp1++fpa,.mu w2 (λ _=>⟨a,rfl,rfl⟩) (λ _ _=>rfl) dj s1,λ c hc=>?_,λ Hs' H' ss' fpa' τ' g k sa j eb=>?_⟩
      · rcases Zi.mp hc with y | y
        · exact (o5 c).mpr (.inl (w3 c y))
        · exact (o5 c).mpr (.inr (a1 c y))
      · cases ss' with
        | nil=>cases eb
        | cons s as' =>
          cases s with
          | no=>cases eb
          | shr d=>cases eb
          | mu b2 m2 =>
            cases b2 with
            | false=>cases eb
            | true =>
              obtain ⟨τ1,eb1,eb2⟩:=bind_some (show (back (τ.set i .no) r as').bind _=_ from eb);simp only [em] at eb2;cases eb2
              cases sa with
              | @mu _ _ _ _ _ _ _ fq2 fpr od2 _ _ jj sr =>
                obtain ⟨fpx,x1,x2⟩:=a2 Hs' H' as' fpr τ1 g (λ c hc hn=>k c ((o5 c).mpr (.inr hc)) λ y=>(Zi.mp y).elim (λ y=>(o4 c (w3 c y)).1 hc) hn) sr (λ c hc=>by
                  rcases j c (Zc _ hc) with y | y
                  · rcases Zi.mp y with y | y
                    · exact .inr ⟨(o4 c (w3 c y)).1,(st.live c (o4 c (w3 c y)).2).2.2⟩
                    · exact .inl y
                  · exact .inr ⟨λ z=>y.1 ((o5 c).mpr (.inr z)),y.2⟩) eb1
                obtain ⟨fpo,y1,y2⟩:=w4 Hs' H' fq2 m2 g (λ c hc hn=>k c ((o5 c).mpr (.inl hc)) λ y=>(Zi.mp y).elim hn λ y=>(o4 c hc).1 (a1 c y)) od2 (λ c hc=>by
                  rcases j c (Zn _ hc) with y | y
                  · rcases Zi.mp y with y | y
                    · exact .inl y
                    · exact .inr λ z=>(o4 c z).1 (a1 c y)
                  · exact .inr λ z=>y.1 ((o5 c).mpr (.inl z)))
                have hlen:i < τ1.length:=by
                  rw [mJ eb1,Ye];exact (List.getElem?_eq_some_iff.mp em).1
                obtain ⟨fp',z1,z2⟩:=x1.fill (i:=i) (b:=b) y1 (λ c hc=>by
                  rcases (y2 c).mp hc with y | y
                  · refine ⟨(st.live c (o4 c y.1).2).2.2,λ z=>?_⟩
                    rcases x2 c z with z | z
                    · exact (o4 c y.1).1 z.1
                    · rcases j c (Zc _ z) with w | w
                      · rcases Zi.mp w with w | w
                        · exact y.2 w
                        · exact (o4 c y.1).1 (a1 c w)
                      · exact w.1 (o4 c y.1).2
                  · refine ⟨?_,λ z=>?_⟩
                    · rcases j c (Zn _ y) with w | w
                      · rcases Zi.mp w with w | w
                        · exact (st.live c (o4 c (w3 c w)).2).2.2
                        · exact (st.live c ((o5 c).mpr (.inr (a1 c w)))).2.2
                      · exact w.2
                    · rcases x2 c z with z | z
                      · rcases j c (Zn _ y) with w | w
                        · rcases Zi.mp w with w | w
                          · exact (o4 c (w3 c w)).1 z.1
                          · exact z.2 w
                        · exact w.1 ((o5 c).mpr (.inr z.1))
                      · exact jj c y z) hlen h1 (λ hb=>st.pin em h1 hb)
                refine ⟨fp',z1,λ c hc=>?_⟩;rcases z2 c hc with y | y
                · rcases (y2 c).mp y with y | y
                  · exact .inl ⟨(o4 c y.1).2,λ w=>(Zi.mp w).elim y.2 λ w=>(o4 c y.1).1 (a1 c w)⟩
                  · exact .inr (Zn _ y)
                · rcases x2 c y with y | y
                  · exact .inl ⟨(o5 c).mpr (.inr y.1),λ w=>(Zi.mp w).elim (λ w=>(o4 c (w3 c w)).1 y.1) y.2⟩
                  · exact .inr (Zc _ y)
    · cases e'
end
abbrev DAm:=List Sm->Option (List Am)
def KL (N:Hp) (K:W.Frag) (g:DAm):TA:=λ σ H Q=>∃ (Hs0 H0:Hp),∃ (_:Nf N H0),∃ ρ Hs τ as,be K Hs0 H0 ρ Hs H σ τ/\g τ=some as/\∀ vs Hs' H',ba H H'->be K Hs0 H0 ρ Hs' H' σ τ->ba Hs Hs'->oI K Hs' H' σ vs as->Q vs H'
def PAm (X:Cx) (es:List Expr) (g:DAm):Prop:=PA X es (KL X.H₀ X.K g)
def KH (N:Hp) (K:W.Frag) (g:List Sm->Option Am):TE:=λ σ H Q=>∃ (Hs0 H0:Hp),∃ (_:Nf N H0),∃ ρ Hs τ a,be K Hs0 H0 ρ Hs H σ τ/\g τ=some a/\∀ v Hs' H',ba H H'->be K Hs0 H0 ρ Hs' H' σ τ->ba Hs Hs'->oI K Hs' H' σ [v] [a]->Q v H'
def PQm (X:Cx) (e:Expr) (g:List Sm->Option Am):Prop:=PE X e (KH X.H₀ X.K g)
def qS (g:DE):List Sm->Option Am:=λ τ=>(g (aQ τ)).bind λ d=>if sca d=true then some (.v d) else none
def qN (g:DE):List Sm->Option Am:=λ τ=>(g (er τ)).map .v
def qX (f:DPx):List Sm->Option Am:=λ τ=>(f τ).bind λ p=>match aT τ p.1 p.2 with
 | some (.n _ _)=>some (.p p.1 p.2)
 | some (.s d)=>some (.v d)
 | none=>none
def yI:DAm:=λ _=>some []
def cP (h:List Sm->Option Am) (g:DAm):DAm:=λ τ=>(h τ).bind λ a=>(g τ).map (a::·)
theorem oI.app {K:W.Frag} {Hs H:Hp} {σ:St} {v:V} {a:Am} {vs:List V} {as:List Am} (h:oI K Hs H σ [v] [a]) (r:oI K Hs H σ vs as):oI K Hs H σ (v::vs) (a::as):=by
 cases h with
 | v h _=>exact .v h r
 | p h1 h2 _=>exact .p h1 h2 r
def pT (F:List Sm->Option (Sm×List Sm)) (τ:List Sm) (as:List Am):Option (Sm×List Sm):=(lend τ as).bind λ ss=>(F ss).bind λ x=>(back τ as x.2).map λ τ'=>(x.1,τ')
section
variable {K:W.Frag} {Hs0 H0 Hs H Hs' H':Hp} {ρ:List (Option Addr)} {σ:St} {τ:List Sm}
theorem jJ (h:off H fp c=none):c ∈ fp\/H c=none:=by
 unfold off at h;split at h
 · exact .inl ‹_›
 · exact .inr h
theorem xJ:ba (off H fp) H:=λ b o e=>by
 unfold off at e;split at e
 · cases e
 · exact e
theorem uG (h:c ∈ fp):off H fp c=none:=if_pos h
theorem iG (h:c ∉ fp):off H fp c=H c:=if_neg h
theorem be.call (r:be K Hs0 H0 ρ Hs H σ τ) (ha:oI K Hs H σ vs as) (e:pT F τ as=some (s,τ'))
  (k:∀ v Hs' H',be K Hs0 H0 (none::ρ) Hs' H' (some v::σ) (s::τ')->Q v H'):spM F K vs H Q E:=by
 obtain ⟨ss,e1,e⟩:=bind_some e;obtain ⟨⟨s0,ss'⟩,e2,e⟩:=bind_some e;obtain ⟨τ0,e3,e4⟩:=Zm e;obtain ⟨e4,e5⟩:=Prod.mk.inj e4;have e4':s0=s:=e4;subst e4' e5;obtain ⟨fp,st⟩:=r.st;obtain ⟨fpa,sA,sub,sV⟩:=mf st ha e1;refine ⟨Hs,fpa,ss,s0,ss',r.sm,sA.rebase λ c hc=>uG hc,e2,λ v Hs' H' fp2 g s2=>?_⟩
 have far:∀ c ∈ fp,c ∉ fpa->Hs' c=none/\H' c=H c:=λ c hc hn=>by
  obtain ⟨l1,l2,_⟩:=st.live c hc;have ho:off H fpa c=H c:=iG hn;refine ⟨g.fr c l1 (by rw [ho]; exact l2),?_⟩
  cases q:H c with
  | none=>exact absurd q l2
  | some u=>exact g.hh _ _ (ho.trans q)
 have ex:Ext Hs0 H0 Hs' H':=by
  have nf:∀ c,H0 c≠none->c ∉ fpa:=λ c h q=>h (st.live c (sub c q)).2.2
  refine ⟨r.ext.ss.trans g.ss,g.sh,λ c o e=>?_,λ c h1 h2=>?_⟩
  · exact g.hh _ _ ((iG (nf c (aR e))).trans (r.ext.hh _ _ e))
  · exact g.fr c (r.ext.fr c h1 h2) (by rw [iG (nf c h2)]; exact r.ext.hh.live h2)
 have fin:∀ fpr,StM K (off H fpa) Hs' H' (gQ vs) (vs.map some) ss' fpr->∃ fp',StM K H0 Hs' H' ρ σ τ0 fp'/\∀ c ∈ fp',(c ∈ fp/\c ∉ fpa)\/c ∈ fpr:=λ fpr sr=>by
  refine sV Hs' H' ss' fpr τ0 g.ss far (sr.rebase λ _ _=>rfl) (λ c hc=>?_) e3;rcases jJ (sr.live c hc).2.2 with y | y
  · exact .inl y
  · exact .inr ⟨st.new y,r.old y⟩
 cases s2 with
 | no sr =>
  obtain ⟨fp',h1,_⟩:=fin _ sr;exact k v Hs' H' ⟨ex,_,.no h1⟩
 | shr h sr =>
  obtain ⟨fp',h1,_⟩:=fin _ sr;exact k v Hs' H' ⟨ex,_,.shr h h1⟩
 | @mu _ _ b m _ _ _ fq fpr od hp z j sr =>
  obtain ⟨fp',h1,h2⟩:=fin _ sr;refine k v Hs' H' ⟨ex,_,.mu od (λ hb=>by obtain ⟨a,q,_⟩:=hp hb; cases q) (λ c hc=>?_) (λ c hc y=>?_) h1⟩
  ·rcases jJ (z c hc) with y | y
   · exact (st.live c (sub c y)).2.2
   · exact r.old y
  ·rcases h2 c y with w | w
   ·rcases jJ (z c hc) with y | y
    · exact w.2 y
    · exact (st.live c w.1).2.1 y
   · exact j c hc w
end
def eC (F:List Sm->Option (Sm×List Sm)) (g:DAm):DEm:=λ τ=>(g τ).bind λ as=>pT F τ as
def eM (C:Addr) (m:Str) (F:List Sm->Option (Sm×List Sm)) (f:DPx) (g:DAm):DEm:=λ τ=>(f τ).bind λ p=>match aT τ p.1 p.2 with
 | some (.n (.o C') cs)=>if C'=C/\(cs.any λ c=>decide (c.1=.inr m))=false then (g τ).bind λ as=>pT F τ (.p p.1 p.2::as) else none
 | _=>none
def eK (C:Addr) (F:List Sm->Option (Sm×List Sm)) (g:DAm):DEm:=λ τ=>(g τ).bind λ as=>(lend τ as).bind λ ss=>(F (.mu true (.n (.o C) [])::ss)).bind λ x=>match x.1,x.2 with
 | .shr .non,.mu true m::r=>(back τ as r).map λ τ'=>(.mu false m,τ')
 | _,_=>none
section
variable {X:Cx} {a b c e o:Expr} {es:List Expr} {pos apos cpos pos' p:Pos} {x m:Str} {k:Nat} {f fa C:Addr} {fd:FuncData} {ps:List Str} {F:List Sm->Option (Sm×List Sm)} {g:DAm}
theorem AA (Fo:gL X.prog X.w X.K X.mg X.base CX0 k f fd ps (spM F X.K)) (hr:cg k X.A) (hg:Gl X x) (hm:X.mg x=some (.ref f)) (hk:W.keepIn X.K (.ref f)=true) (hb:Binds X.K fd ps [])
  (ha:PAm X (e::es) g) (hdb:(x == ("__debug__":Str))=false:=by decide) (he:starEach (e::es) X.env=(false,eval e X.env)::starEach es X.env:=by rfl) (hpl:(backTo pos (starEach es X.env)).any (·.1)=false:=by rfl) :
  PEm X (.Call (.Name x p) (e::es) [] pos) (eC F g):=(gq Fo hr hg hm hk hb .nil iE ha hdb he hpl).imp λ σ H Q ⟨Hs0,H0,nf,ρ,Hs,τ,s,τ',r,e,k⟩=>by
 obtain ⟨as,e1,e2⟩:=bind_some e;refine ⟨Hs0,H0,nf,ρ,Hs,τ,as,r,e1,λ vs Hs1 H1 g1 r1 s1 a1=>?_⟩;show spM F X.K (vs++[]) H1 Q E0;rw [Z1];exact r1.call a1 e2 k
theorem Ay (ho:PXm X o fx) (c:Cls X.K C) (hm:yK X.K C m fa) (Fo:gL X.prog X.w X.K X.mg X.base CX0 k fa fd ps (spM F X.K)) (hr:cg k X.A) (hb:Binds X.K fd ps []) (ha:PAm X (e::es) g)
  (hst:starEach (e::es) X.env=(false,eval e X.env)::starEach es X.env:=by rfl) (hpl:(backTo pos (starEach es X.env)).any (·.1)=false:=by rfl)
  (ht:eval (.Call (.Attribute o m apos) (e::es) [] pos) X.env=(do
    let ov <- eval o X.env
    standAt apos.atName
    let (f,first) <- holding [ov] (getMethod ov m pl)
    callWith pos f first (backTo pos (starEach (e::es) X.env)) (backToKw pos (keywordEach [] X.env))):=by rfl) :
  PEm X (.Call (.Attribute o m apos) (e::es) [] pos) (eM C m F fx g):=(oZ (pl:=pl) ho c hm Fo hr hb .nil iE ha hst hpl ht).imp λ σ H Q ⟨Hs0,H0,nf,ρ,Hs,τ,s,τ',r,e,k⟩=>by
 obtain ⟨⟨i,q⟩,e1,e2⟩:=bind_some e;split at e2
 ·rename_i C' cs en
  split at e2
  · rename_i hc
    obtain ⟨hc,hn⟩:=hc;subst hc;obtain ⟨as,e3,e4⟩:=bind_some e2;refine ⟨Hs0,H0,nf,ρ,Hs,τ,i,q,_,r,e1,en,λ rt v1 H1 g1 hrt hq=>?_⟩;have r1:=r.grow g1;obtain ⟨a,dx,ts,u,rfl,rfl,hu,hl,_⟩:=r1.A4 en hrt hq;generalize ek:ts.map Kd.kv=kvs at hl
    cases hl with
    | o fs =>
     refine ⟨a,dx,fs,rfl,hu,?_,Hs0,H0,nf,ρ,Hs,τ,as,r1,e3,λ vs Hs2 H2 g2 r2 s2 a2=>?_⟩
     ·rw [<- lK,<- ek]
      have:=gM (Sum.inr m) (ts.map Kd.kv);rw [List.any_map] at this hn;have h2:(cB (ts.map Kd.kv) (Sum.inr m)).isSome=false:=this.symm.trans hn
      cases q:cB (ts.map Kd.kv) (Sum.inr m) with
      | none=>rfl
      | some y=>rw [q] at h2; cases h2
     ·show spM F X.K (V.ref a::(vs++[])) H2 Q E0
      rw [Z1];exact r2.call (.p hrt (ck g2 q hq) a2) e4 k
  · cases e2
 · cases e2
theorem Az (M:Mk X.K C fa) (Fo:gL X.prog X.w X.K X.mg X.base CX0 k fa fd ps (spM F X.K)) (hr:cg (k+1) X.A) (hg:Gl X x) (hm:X.mg x=some (.ref C)) (hb:Binds X.K fd ps [])
  (ha:PAm X (e::es) g) (hdb:(x == ("__debug__":Str))=false:=by decide) (he:starEach (e::es) X.env=(false,eval e X.env)::starEach es X.env:=by rfl) (hpl:(backTo pos (starEach es X.env)).any (·.1)=false:=by rfl) :
  PEm X (.Call (.Name x p) (e::es) [] pos) (eK C F g):=(AG M Fo hr hg hm hb .nil iE ha hdb he hpl).imp λ σ H Q ⟨Hs0,H0,nf,ρ,Hs,τ,s,τ',r,e,k⟩=>by
 obtain ⟨as,e1,e2⟩:=bind_some e;obtain ⟨ss,e3,e4⟩:=bind_some e2;obtain ⟨⟨s0,ss'⟩,e5,e6⟩:=bind_some e4;refine ⟨Hs0,H0,nf,ρ,Hs,τ,as,r,e1,λ vs Hs1 H1 g1 r1 s1 a1 y dx hy hdx ne=>?_⟩;rw [Z1];split at e6
 ·rename_i m0 r0 q1 q2
  have q1':s0=.shr .non:=q1;have q2':ss'=.mu true m0::r0:=q2;subst q1' q2';obtain ⟨τ0,e7,e8⟩:=Zm e6;cases e8
  let H2:Hp:=upd (upd H1 dx (.own y)) y (.ins C dx [])
  have hy1:upd H1 dx (.own y) y=none:=(af (Ne.symm ne)).trans hy;have g2:ba H1 H2:=(ar hdx _).trans (ar hy1 _);have r2:=r1.grow g2;obtain ⟨fp,st⟩:=r1.st;have st2:StM X.K H0 Hs1 H2 ρ σ τ fp:=st.ext ⟨.refl _,r1.ext.sh.trans g2,g2,λ _ h _=>h⟩;obtain ⟨fpa,sA,sub,sV⟩:=mf st2 (a1.ext (.refl _) g2) e3;have yfp:y ∉ fp:=st.new hy;have od:Od X.K Hs1 H2 [y] (.ref y) (.n (.o C) []):=Od.n (ts:=[]) (dx:=dx) (u:=.ins C dx []) ai (.o []) (r1.sm.free hy) (by show ([]:List Key).Nodup; exact .nil) (by simp) (λ c hc=>by cases hc);have sN:StM X.K (off H2 (y::fpa)) Hs1 H2 (gQ (.ref y::vs)) ((V.ref y::vs).map some) (.mu true (.n (.o C) [])::ss) ([y]++fpa):=.mu od (λ _=>⟨y,rfl,rfl⟩) (λ c hc=>uG (by rw [Zo.mp hc]; exact Ze ..)) (λ c hc q=>yfp (sub y (by rw [<- Zo.mp hc]; exact q))) (sA.rebase λ c hc=>uG (Zd _ hc));refine ⟨Hs1,y::fpa,_,_,_,r2.sm,sN,e5,λ v Hs' H' fp2 g s2=>⟨?_,?_⟩⟩
  ·cases s2 with
   | shr h _=>cases h; rfl
  ·cases s2 with
   | shr h sr =>
   cases sr with
   | @mu _ _ _ _ _ _ _ fq fpr od2 hp z j sr =>
   have far:∀ c ∈ fp,c ∉ fpa->Hs' c=none/\H' c=H2 c:=λ c hc hn=>by
    obtain ⟨l1,l2,_⟩:=st2.live c hc;have ho:off H2 (y::fpa) c=H2 c:=iG λ q=>(Zh.mp q).elim (λ q=>yfp (q ▸ hc)) hn
    refine ⟨g.fr c l1 (by rw [ho]; exact l2),?_⟩
    cases q:H2 c with
    | none=>exact absurd q l2
    | some u=>exact g.hh _ _ (ho.trans q)
   have h0y:H0 y=none:=r1.old hy
   have ex:Ext Hs0 H0 Hs' H':=by
    have nf:∀ c,H0 c≠none->c ∉ y::fpa:=λ c h q=>(Zh.mp q).elim (λ q=>h (q ▸ h0y)) λ q=>h (st.live c (sub c q)).2.2
    refine ⟨r1.ext.ss.trans g.ss,g.sh,λ c o e=>?_,λ c h1 h2=>?_⟩
    · exact g.hh _ _ ((iG (nf c (aR e))).trans (r2.ext.hh _ _ e))
    · exact g.fr c (r1.ext.fr c h1 h2) (by rw [iG (nf c h2)]; exact r2.ext.hh.live h2)
   obtain ⟨fp',h1,h2⟩:=sV Hs' H' r0 fpr _ g.ss far (sr.rebase λ _ _=>rfl) (λ c hc=>by
    rcases jJ (sr.live c hc).2.2 with w | w
    ·rcases Zh.mp w with w | w
     ·subst w
      exact .inr ⟨yfp,h0y⟩
     · exact .inl w
    · exact .inr ⟨st2.new w,r2.old w⟩) e7
   refine k (.ref y) Hs' H' ⟨ex,_,.mu od2 (λ hb=>by cases hb) (λ c hc=>?_) (λ c hc q=>?_) h1⟩
   ·rcases jJ (z c hc) with w | w
    ·rcases Zh.mp w with w | w
     · rw [w]; exact h0y
     · exact (st.live c (sub c w)).2.2
    · exact r2.old w
   ·rcases h2 c q with w | w
    ·rcases jJ (z c hc) with y' | y'
     ·rcases Zh.mp y' with y' | y'
      · exact yfp (y' ▸ w.1)
      · exact w.2 y'
     · exact (st2.live c w.1).2.1 y'
    · exact j c hc w
 · cases e6
end
def vg:Sm->Sm
 | .mu true m=>.mu true m
 | _=>.no
def kU (n m:Nat) (b:DSm) (as:List Sm):Option (Sm×List Sm):=if as.length=m then (match b (as++List.replicate (n - as.length) .no) with
 | some (.ret s τ)=>some (s,(τ.take m).map vg)
 | some (.next τ)=>some (.shr .non,(τ.take m).map vg)
 | _=>none) else none
section
variable {K:W.Frag} {H0 Hs H:Hp}
theorem StM.startM (k:Nat) (h:StM K H0 Hs H ρ σ τ fp):StM K H0 Hs H (ρ++List.replicate k none) (σ++List.replicate k none) (τ++List.replicate k .no) fp:=by
 induction h with
 | nil =>
  induction k with
  | zero=>exact .nil
  | succ k ih=>rw [Xa,Xa,Xa]; exact .no ih
 | no _ ih=>exact .no ih
 | shr h _ ih=>exact .shr h ih
 | mu h hp z j _ ih=>exact .mu h hp z j ih
theorem StM.pZ:∀ {vs:List V} {ρ:List (Option Addr)} {σ:List (Option V)} {τ:List Sm} {fp:List Addr},StM K H0 Hs H (gQ vs++ρ) σ τ fp->∃ fp',StM K H0 Hs H (gQ vs) (vs.map some) ((τ.take vs.length).map vg) fp'/\∀ c ∈ fp',c ∈ fp
 | [],ρ,σ,τ,fp,h=>⟨[],.nil,λ c hc=>(nomatch hc)⟩
 | v :: vs,ρ,σ,τ,fp,h=>by
  cases h with
  | no r =>
   obtain ⟨fp',h1,h2⟩:=StM.pZ r;exact ⟨fp',.no h1,h2⟩
  | shr _ r =>
   obtain ⟨fp',h1,h2⟩:=StM.pZ r;exact ⟨fp',.no h1,h2⟩
  | @mu _ w b m _ _ _ fq fr od hp z j r =>
   obtain ⟨fp',h1,h2⟩:=StM.pZ r
   cases b with
   | false=>exact ⟨fp',.no h1,λ c hc=>Zc _ (h2 c hc)⟩
   | true =>
    obtain ⟨a,p1,p2⟩:=hp rfl
    have ev:v=.ref a:=by
     cases v <;> simp [Jp] at p1
     rw [p1]
    subst p2;subst ev;exact ⟨fq++fp',.mu od (λ _=>⟨a,rfl,rfl⟩) z (λ c hc q=>j c hc (h2 c q)) h1,λ c hc=>(Zi.mp hc).elim (Zn _) λ q=>Zc _ (h2 c q)⟩
theorem Od.A2 (h:Od K Hs H fp v m):∀ c ∈ fp,∀ o u,H c≠some (.frz o u):=by
 induction h with
 | s r=>intro c h; cases h
 | @n a dx t ts u h hl nh ku nd r ih =>
  intro c hc o w;rcases Zh.mp hc with e | e
  ·subst e
   rw [h];generalize ts.map Kd.kv=kvs at hl;cases hl <;> (intro z; cases z)
  ·obtain ⟨k,hk,hb⟩:=Yr.mp e
   exact ih k hk c hb o w
theorem StM.A2 (h:StM K H0 Hs H ρ σ τ fp):∀ c ∈ fp,∀ o u,H c≠some (.frz o u):=by
 induction h with
 | nil=>intro c h; cases h
 | no _ ih=>exact ih
 | shr _ _ ih=>exact ih
 | mu h hp z j _ ih=>exact λ c hc=>(Zi.mp hc).elim (h.A2 c) (ih c)
variable {P:Program} {w:World} {mg:Str->Option Value} {base:Heap}
theorem Fun.okM {x qual:Str} {st:Stmt} {f:Addr} {fd:FuncData} {N ps:List Str} {k:Nat} {b:DSm} (F:Fun K x qual st f fd) (S:dt N ps (ax st))
  (hbody:∀ (cdv:Value) (A:Around) (outer:List Env) (s:Shared) (H:Hp) (E:XK),cg k (A.deeper (envOfC qual (ax st) s.heap.objs.size f cdv)) ->
    rC (lr CX0 P w K mg base N qual (ax st) f cdv A outer s H E).nox (aO st) b):gL P w K mg base CX0 (k+1) f fd ps (spM (kU N.length ps.length b) K):=by
 refine F.ok S (λ vs H Q E h=>?_) (λ cdv A outer s H vs Q E hr h=>?_)
 ·obtain ⟨Hs,fp,as,s,as',sm,r,e,_⟩:=h
  unfold kU at e;split at e
  · rename_i hl
    have:=r.len;rw [Za] at this;rw [this]; exact hl
  · cases e
 obtain ⟨Hs,fp,as,sl,as',sm,r,e,q⟩:=h;refine ⟨_,hbody cdv A outer s H E hr,?_⟩;have lv:vs.length=as.length:=by have:=r.len; rw [Za] at this; exact this
 unfold kU at e;split at e
 ·rename_i hl
  have h0:be K Hs (off H fp) (gQ vs++List.replicate (N.length - vs.length) none) Hs H (start N vs) (as++List.replicate (N.length - as.length) .no):=⟨⟨.refl _,sm,xJ,λ _ h _=>h⟩,fp,by unfold start; rw [lv]; exact r.startM _⟩
  have nf:Nf H (off H fp):=λ d o u e z=>by
    rcases jJ z with q | q
    · exact r.A2 d q o u e
    · rw [q] at e; cases e
  cases q2:b (as++List.replicate (N.length - as.length) .no) with
  | none=>rw [q2] at e; cases e
  | some o =>
    rw [q2] at e;refine ⟨Hs,off H fp,nf,_,Hs,_,o,h0,q2,?_⟩
    cases o with
    | next τ =>
     cases e;intro σ Hs' H' r';obtain ⟨fp1,s1⟩:=r'.st;obtain ⟨fp2,s2,_⟩:=s1.pZ;rw [lv,hl] at s2;exact q .non Hs' H' fp2 r'.ext (.shr .non s2)
    | ret s τ =>
     cases e;intro v σ Hs' H' r';obtain ⟨fp1,s1⟩:=r'.st
     cases s1 with
     | no s1 =>
      obtain ⟨fp2,s2,_⟩:=s1.pZ;rw [lv,hl] at s2;exact q v Hs' H' fp2 r'.ext (.no s2)
     | shr h s1 =>
      obtain ⟨fp2,s2,_⟩:=s1.pZ;rw [lv,hl] at s2;exact q v Hs' H' fp2 r'.ext (.shr h s2)
     | mu h hp z j s1 =>
      obtain ⟨fp2,s2,sub⟩:=s1.pZ;rw [lv,hl] at s2;exact q v Hs' H' _ r'.ext (.mu h hp z (λ c hc y=>j c hc (sub c y)) s2)
    | brk τ=>cases e
    | cnt τ=>cases e
 · cases e
end
section
variable {K:W.Frag} {Hs0 H0 Hs H Hs' H':Hp} {ρ:List (Option Addr)} {σ:St} {τ:List Sm}
theorem be.rebase (r:be K Hs0 H0 ρ Hs H σ τ):be K Hs H0 ρ Hs H σ τ:=⟨⟨.refl _,r.sm,r.ext.hh,λ _ h _=>h⟩,r.st⟩
theorem be.iX (a:Ext Hs0 H0 Hs1 H1) (r:be K Hs1 H0 ρ Hs H σ τ):be K Hs0 H0 ρ Hs H σ τ:=⟨a.sub r.ext,r.st⟩
theorem F2.rebase (a:Ext Hs0 H0 Hs1 H1) (h:F2 K Hs0 H0 ρ E o):F2 K Hs1 H0 ρ E o:=by
 cases o with
 | next τ=>exact λ σ Hs H r=>h σ Hs H (r.iX a)
 | brk τ=>exact λ σ Hs H r=>h σ Hs H (r.iX a)
 | cnt τ=>exact λ σ Hs H r=>h σ Hs H (r.iX a)
 | ret s τ=>exact λ v σ Hs H r=>h v σ Hs H (r.iX a)
theorem be.oV (r:be K Hs0 H0 ρ Hs H σ τ) (h:Rp K Hs v d):be K Hs0 H0 ρ Hs H (σ.set i (some v)) (τ.set i (.shr d)):=⟨r.ext,by
 obtain ⟨fp,st⟩:=r.st;obtain ⟨fp',h1,_⟩:=st.oV (i:=i) h
 exact ⟨fp',h1⟩⟩
theorem be.hold (r:be K Hs0 H0 ρ Hs H σ τ) (hp:H p=none):be K Hs0 (upd H0 p u) ρ Hs (upd H p u) σ τ:=by
 obtain ⟨fp,st⟩:=r.st;refine ⟨⟨r.ext.ss,r.sm.trans (ar hp u),λ b o e=>?_,λ b h1 h2=>?_⟩,fp,?_⟩
 ·by_cases z:b=p
  · subst z; rw [ai] at e ⊢; exact e
  · rw [af z] at e ⊢; exact r.ext.hh b o e
 ·by_cases z:b=p
  · subst z; exact r.sm.free hp
  · rw [af z] at h2; exact r.ext.fr b h1 h2
 ·refine (st.rebase λ c hc=>?_).ext ⟨.refl _,r.sm.trans (ar hp u),ar hp u,λ _ h _=>h⟩
  rw [af (show c≠p from λ z=>(st.live c hc).2.1 (by rw [z]; exact hp))];exact (st.live c hc).2.2
theorem be.Cz (r:be K Hs0 (upd H0 p u) ρ Hs H σ τ) (h0:H0 p=none) (hs:Hs0 p=none):Ext Hs0 H0 Hs H/\Hs p=none/\H p=some u/\∃ fp,p ∉ fp/\StM K H0 Hs H ρ σ τ fp:=by
 obtain ⟨fp,st⟩:=r.st;have np:p ∉ fp:=λ q=>by have:=(st.live p q).2.2; rw [ai] at this; cases this
 refine ⟨⟨r.ext.ss,r.sm,λ b o e=>?_,λ b h1 h2=>?_⟩,r.ext.fr p hs (by rw [ai]; simp),r.ext.hh _ _ ai,fp,np,st.rebase λ c hc=>?_⟩
 · exact r.ext.hh b o (by rw [af (show b≠p from λ z=>by rw [z,h0] at e; cases e)]; exact e)
 · exact r.ext.fr b h1 (by rw [af (show b≠p from λ z=>h2 (by rw [z]; exact h0))]; exact h2)
 ·have:=(st.live c hc).2.2
  rw [af (show c≠p from λ z=>np (by rw [<- z]; exact hc))] at this;exact this
end
def eD0:DEm:=λ τ=>some (.mu false (.n .d []),τ)
def eD1 (kc:Key) (fv:DEm):DEm:=λ τ=>(fv τ).bind λ x=>(toM x.1).map λ mv=>(.mu false (.n .d [(kc,mv)]),x.2)
def eF (g:DE):DEm:=λ τ=>(g (aQ τ)).bind λ d=>match d with
 | .lst ds=>if ds.all sca=true then some (.shr (.lst ds),τ) else none
 | _=>none
section
variable {X:Cx} {a b c e o:Expr} {es:List Expr} {pos apos cpos pos' p:Pos} {x m:Str}
theorem K0 (h:PEo X e g):PVm X e (eF g):=PE.imp h λ σ H Q ⟨Hs0,H0,nf,ρ,Hs,τ,s,τ',r,e,k⟩=>by
 obtain ⟨d,e1,e2⟩:=bind_some e;split at e2
 ·split at e2
  ·rename_i hs
   cases e2;obtain ⟨fp,st⟩:=r.st;refine ⟨H,H,aQ τ,[],_,st.aQ r.sm,.refl H,e1,λ a Hs' H' g1 ow hn=>?_⟩
   cases ow with
   | @lst xs ds h n rr =>
    have ha:Hs a=none:=r.sm.free hn
    have ex:Ext Hs H (upd Hs a (.lst xs)) H':=by
     refine ⟨ar ha _,λ b u q=>?_,g1.hh,λ b h1 h2=>?_⟩
     ·by_cases z:b=a
      · subst z; rw [ai] at q; cases q; exact h
      · rw [af z] at q; exact g1.hh _ _ (r.sm _ _ q)
     · rw [af (show b≠a from λ z=>h2 (by rw [z]; exact hn))]; exact h1
    exact k _ _ H' g1.hh ((r.ext' ex).push (.lst ai (iB rr hs)))
  · cases e2
 · cases e2
end
abbrev DGm:=D->List Sm->Option (List Sm)
def KI (N:Hp) (K:W.Frag) (g:DGm):TG:=λ v σ H Q=>∃ (Hs0 H0:Hp),∃ (_:Nf N H0),∃ ρ Hs τ τ' d,be K Hs0 H0 ρ Hs H σ τ/\Rp K Hs v d/\g d τ=some τ'/\∀ σ',be K Hs0 H0 ρ Hs H σ' τ'->Q σ' H
def PGm (X:Cx) (tg:Expr) (g:DGm):Prop:=PG X tg (KI X.H₀ X.K g)
abbrev Ct:=List D->List Sm->Option (List Sm)
def GF (N:Hp) (K:W.Frag) (g:Ct):TGs:=λ v σ H Q=>∃ (Hs0 H0:Hp),∃ (_:Nf N H0),∃ ρ Hs τ τ' d,be K Hs0 H0 ρ Hs H σ τ/\Rps K Hs v d/\g d τ=some τ'/\∀ σ',be K Hs0 H0 ρ Hs H σ' τ'->Q σ' H
def F0 (X:Cx) (tg:List Expr) (g:Ct):Prop:=PGs X tg (GF X.H₀ X.K g)
def gNm (i:Nat):DGm:=λ d τ=>some (τ.set i (.shr d))
def qG:Ct:=λ ds τ=>if ds.isEmpty=true then some τ else none
def iJ (g:DGm) (h:Ct):Ct:=λ ds τ=>match ds with | d::r=>(g d τ).bind λ τ'=>h r τ' | []=>none
def gTm (n:Nat) (g:Ct):DGm:=λ d τ=>match d with | .tup ds=>if ds.length=n then g ds τ else none | _=>none
def forM (b:D->DSm):List D->DSm
 | [],τ=>some (.next τ)
 | d::ds,τ=>match b d τ with
  | some (.next τ')=>forM b ds τ'
  | some (.cnt τ')=>forM b ds τ'
  | some (.brk τ')=>some (.next τ')
  | r=>r
def C7 (it:DI) (g:DGm) (b:DSm):DSm:=λ τ=>(it (er τ)).bind λ ds=>forM (λ d τ=>(g d τ).bind b) ds τ
def BW (i:Nat):DT:=λ τ=>match τ[i]? with
 | some (.own (.lst ds))=>some (!ds.isEmpty)
 | _=>none
def rO (i j:Nat):DS:=λ τ=>match τ[j]? with
 | some (.own (.lst ds))=>(ds[ds.length - 1]?).map λ d=>.next ((τ.set j (.own (.lst ds.dropLast))).set i (.shr d))
 | _=>none
theorem Rps.dropLast {K:W.Frag} {H:Hp} {xs:List V} {ds:List D} (r:Rps K H xs ds):Rps K H xs.dropLast ds.dropLast:=by
 rw [List.dropLast_eq_take,List.dropLast_eq_take,r.length];exact r.take _
theorem Rps.emp {K:W.Frag} {H:Hp} {xs:List V} {ds:List D} (r:Rps K H xs ds):xs.isEmpty=ds.isEmpty:=by cases r <;> rfl
def kD:Key->D
 | .inl i=>.int i
 | .inr x=>.str x
theorem By {K:W.Frag} {H:Hp} (k:Key):Rp K H (kV k) (kD k):=by
 cases k with
 | inl i=>exact .int i
 | inr x=>exact .str x
def Di:List V->Hp->VK->Prop:=λ xs H Q=>∃ (a:Addr) (kvs:List (Key×V)),xs=[.ref a]/\H a=some (.dK kvs)/\∀ l,H l=none->Q (.ref l) (upd H l (.lst (kvs.map λ kv=>kV kv.1)))
theorem tj:∀ {us:List Value} {ks:List Key},us.length=ks.length->(∀ (j:Nat) (v:Value),us[j]?=some v->∃ k,ks[j]?=some k/\mi k v=true)->a7 (ks.map kV) us
 | [],[],_,_=>.nil
 | [],_::_,e,_=>by cases e
 | _::_,[],e,_=>by cases e
 | u::us,k::ks,e,h=>by
  obtain ⟨k',e1,e2⟩:=h 0 u rfl;cases e1;refine .cons ?_ (tj (Nat.succ.inj e) λ j v ev=>h (j+1) v ev)
  rcases aU e2 with ⟨i,t,rfl,rfl⟩ | ⟨y,t,rfl,rfl⟩
  · exact ⟨t,rfl⟩
  · exact ⟨t,rfl⟩
theorem sD (hh:X.A.handled=none):fJ X (.type "list") Di:=by
 intro pins s σ H xs us Q I r h;obtain ⟨a,kvs,rfl,ha,q⟩:=h;obtain ⟨u,rfl,ru⟩:=vals1 r;cases (show u=Value.ref a from ru);obtain ⟨sz,lo,vs,kv,dd⟩:=vN I.hok ha;obtain ⟨ep,hat⟩:=dd.dictAt;have lv:vs.length=kvs.length:=kv.length.symm;refine PySem.W.kdl_call (PySem.W.kdl_dict (knd:=bf X.prog X.w) (kvs:=vs) (ep:=ep) lo) hh hat (by rw [lv]; exact sz) λ h' tk acc' c' hk hS hacc=>?_
 have hv:a7 ((kvs.map (·.1)).map kV) acc'.toList:=by
  refine tj (by rw [Y9,hacc.1,Za,lv]) λ j v hj=>?_
  obtain ⟨k,x,e1,e2⟩:=hacc.2 j v (by rw [<- Array.getElem?_toList]; exact hj);exact ⟨k,by rw [<- mh kv,List.getElem?_map,e1]; rfl,e2⟩
 rw [Zw] at hv;exact ⟨.ref s.heap.objs.size,_,I.laid (t':=tk) hk (Zk _) (show bT X.prog X.w _ h' _ (.lst (kvs.map λ kv=>kV kv.1)) from ⟨by rw [Za]; exact sz,acc'.toList,c',hv,by rw [Array.toArray_toList]; exact hS⟩),rfl,q _ (I.hok.fresh (Zk _))⟩
def zM (f:DE):DE:=λ τ=>(f τ).bind λ d=>match d with | .dct ds=>some (.lst (ds.map λ p=>kD p.1)) | _=>none
theorem qg {K:W.Frag} {H H':Hp}:∀ {kvs:List (Key×V)} {ds:List (Key×D)},RpK K H kvs ds->Rps K H' (kvs.map λ kv=>kV kv.1) (ds.map λ p=>kD p.1)
 | _,_,.nil=>.nil
 | _,_,.cons _ r=>.cons (By _) (qg r)
def yW (j i:Nat) (c:DT) (g:DE) (cs:List (Str×Nat)):DSm:=λ τ=>match τ[i]? with
 | some (.mu _ (.n .d ks))=>if ks.length<=100000/\j < τ.length then (pJ (λ d=>c (.shr d::dA (aQ (τ.set i .no)) cs)) (λ d=>g (.shr d::dA (aQ (τ.set i .no)) cs)) (ks.map λ p=>kD p.1)).bind λ es=>if es.all sca=true then some (.next (τ.set j (.shr (.lst es)))) else none else none
 | _=>none
end L2
end
section
namespace L2
open PySem
section
variable {τ τ' τ1:List Sm} {f g:DSm} {s:Sm} {o:wX} {b:Bool} {d:D} {i j:Nat} {q:List Stp} {m m2 mv:Mt} {cs:List (Key×Mt)} {k:Key}
theorem aG (h:f τ=some (.next τ')) (h2:g τ'=some o):gP f g τ=some o:=by unfold gP; rw [h]; exact h2
theorem bS {f:DEm} (h:f τ=some (s,τ')) (hi:i < τ'.length) (hs:(toM s).isSome=true):mX i f τ=some (.next (τ'.set i s)):=by unfold mX; rw [h]; exact if_pos ⟨hi,hs⟩
theorem D4 {f:DEm} (h:f τ=some (s,τ')):mZ f τ=some (.next τ'):=by unfold mZ; rw [h]; rfl
theorem d7 {g:DE} (h:g (aQ τ)=some d):tU g τ=some (.next τ):=by unfold tU; rw [h]; rfl
theorem rY (h:t τ=some (true,τ')) (h2:f τ'=some o):tR t f g τ=some o:=by unfold tR; rw [h]; show (if true=true then f τ' else g τ')=_; rw [if_pos rfl]; exact h2
theorem iH (h:t τ=some (false,τ')) (h2:g τ'=some o):tR t f g τ=some o:=by unfold tR; rw [h]; show (if false=true then f τ' else g τ')=_; rw [if_neg (by simp)]; exact h2
theorem pF {f:DEm} (h:f τ=some (s,τ')):mY f τ=some (.ret s τ'):=by unfold mY; rw [h]; rfl
theorem v_S {g:DE} (h:g (aQ τ)=some d) (hs:sca d=true):eS g τ=some (.shr d,τ):=by unfold eS; rw [h]; exact if_pos hs
theorem v_N {g:DE} (h:g (er τ)=some d):eN g τ=some (.shr d,τ):=by unfold eN; rw [h]; rfl
theorem v_O {g:DE} {ds:List D} (h:g (aQ τ)=some (.lst ds)) (hs:ds.all sca=true):eO g τ=some (.mu false (lM ds),τ):=by unfold eO; rw [h]; exact if_pos hs
theorem v_F {g:DE} {ds:List D} (h:g (aQ τ)=some (.lst ds)) (hs:ds.all sca=true):eF g τ=some (.shr (.lst ds),τ):=by unfold eF; rw [h]; exact if_pos hs
theorem v_V (h:τ[i]?=some (.mu false m)):eV i τ=some (.mu false m,τ.set i .no):=by unfold eV; rw [h]
theorem Jj {f:DEm} (h:f τ=some (s,τ')) (hs:toM s=some mv):eD1 k f τ=some (.mu false (.n .d [(k,mv)]),τ'):=by unfold eD1; rw [h]; show (toM s).map _=_; rw [hs]; rfl
theorem t_S {g:DT} (h:g (aQ τ)=some b):tS g τ=some (b,τ):=by unfold tS; rw [h]; rfl
theorem t_E {f:DEm} (h:f τ=some (.shr (.bl b),τ')):tE f τ=some (b,τ'):=by unfold tE; rw [h]; rfl
theorem Jl {f:DTm} (h:f τ=some (b,τ')):tNt f τ=some (!b,τ'):=by unfold tNt; rw [h]; rfl
theorem ny (h:τ[i]?=some (.mu b m)):aT τ i q=m.get q:=by unfold aT; rw [h]
theorem gV (h:τ[i]?=some (.mu b m)):cR τ i q m2=τ.set i (.mu b (m.put q m2)):=by unfold cR; rw [h]
theorem bU:cD i τ=some (i,[]):=rfl
theorem kF {C:Addr} {x:Str} {f:DPx} (h:f τ=some (i,q)) (hm:aT τ i q=some (.n (.o C) cs)):jg C x f τ=some (i,q++[.k (.inr x)]):=by
 unfold jg;rw [h];show (match aT τ i q with | some (.n (.o C') _)=>if C'=C then some (i,q++[Stp.k (.inr x)]) else none | _=>none)=_;rw [hm];exact if_pos rfl
theorem sZ {f:DPx} {gk:DE} (h:f τ=some (i,q)) (hk:gk (aQ τ)=some d) (he:kL d=some k) (hm:aT τ i q=some (.n .d cs)):xr f gk τ=some (i,q++[.k k]):=by
 unfold xr;rw [h];show (gk (aQ τ)).bind _=_;rw [hk];show (kL d).bind _=_;rw [he];show (match aT τ i q with | some (.n .d _)=>some (i,q++[Stp.k k]) | _=>none)=_;rw [hm]
theorem eR (h1:fv τ=some (s,τ1)) (h2:px τ1=some (i,q)) (h3:gk (aQ τ1)=some d) (h4:kL d=some k) (h5:toM s=some mv) (h6:aT τ1 i q=some (.n .d cs)) (h7:cs.length < 100000):cJ px gk fv τ=some (.next (cR τ1 i q (.n .d (eZ cs k mv)))):=by
 unfold cJ;simp only [h1,h2,h3,h4,h5,h6,Ys];exact if_pos h7
theorem D3 (h1:fv τ=some (s,τ1)) (h2:px τ1=some (i,q)) (h5:toM s=some mv) (h6:aT τ1 i q=some (.n (.o C) cs)) (h7:cs.length < 1000):tT C x px fv τ=some (.next (cR τ1 i q (.n (.o C) (eZ cs (.inr x) mv)))):=by
 unfold tT;simp only [h1,h2,h5,h6,Ys];exact if_pos ⟨trivial,h7⟩
theorem xU {px:DPx} {gi:DE} {fv:DEm} {cs0:List (Key×Mt)} {n:Int} (h1:px τ=some (i,q)) (h2:aT τ i q=some (.n .l cs0)) (h3:gi (aQ τ)=some (.int n)) (h4:fv τ=some (s,τ1)) (h5:toM s=some mv) (h6:aT τ1 i q=some (.n .l cs)) (h7:0<=n/\n<=cs.length/\cs.length < 100000):Ae px gi fv τ=some (.next (cR τ1 i q (.n .l (FX cs n.toNat mv)))):=by
 unfold Ae;simp only [h1,h2,h3,h4,h5,h6,Ys];exact if_pos h7
theorem D2 (h1:px τ=some (i,q)) (h2:gk (aQ τ)=some (.int n)) (h3:aT τ i q=some (.n .l cs)) (h4:cZ (vz cs)=some ns) (h5:ns.length<=1000/\n ∈ ns):xk px gk τ=some (.next (cR τ i q (.n .l (cs.eraseIdx (ns.idxOf n))))):=by
 unfold xk;simp only [h1,h2,h3,h4,Ys];exact if_pos h5
theorem q_N {g:DE} (h:g (er τ)=some d):qN g τ=some (.v d):=by unfold qN; rw [h]; rfl
theorem q_X {f:DPx} {t:Tg} (h:f τ=some (i,q)) (hm:aT τ i q=some (.n t cs)):qX f τ=some (.p i q):=by
 unfold qX;rw [h];show (match aT τ i q with | some (.n _ _)=>some (Am.p i q) | some (.s d)=>some (.v d) | none=>none)=_;rw [hm]
theorem bF {h:List Sm->Option Am} {g:DAm} {a:Am} {as:List Am} (h1:h τ=some a) (h2:g τ=some as):cP h g τ=some (a::as):=by unfold cP; rw [h1]; show (g τ).map _=_; rw [h2]; rfl
theorem v_C {F:List Sm->Option (Sm×List Sm)} {g:DAm} {as:List Am} {ss ss':List Sm} (h1:g τ=some as) (h2:lend τ as=some ss) (h3:F ss=some (s,ss')) (h4:back τ as ss'=some τ'):eC F g τ=some (s,τ'):=by
 unfold eC;rw [h1];show pT F τ as=_;unfold pT;simp only [h2,h3,h4,Ys,Xg]
theorem v_M {C:Addr} {x:Str} {F:List Sm->Option (Sm×List Sm)} {f:DPx} {g:DAm} {as:List Am} {ss ss':List Sm} (h0:f τ=some (i,q)) (hm:aT τ i q=some (.n (.o C) cs)) (hn:(cs.any λ c=>decide (c.1=.inr x))=false) (h1:g τ=some as) (h2:lend τ (.p i q::as)=some ss) (h3:F ss=some (s,ss')) (h4:back τ (.p i q::as) ss'=some τ'):eM C x F f g τ=some (s,τ'):=by
 unfold eM;simp only [h0,hm,Ys];rw [if_pos ⟨trivial,hn⟩,h1];show pT F τ _=_;unfold pT;simp only [h2,h3,h4,Ys,Xg]
theorem v_K {C:Addr} {F:List Sm->Option (Sm×List Sm)} {g:DAm} {as:List Am} {ss r:List Sm} (h1:g τ=some as) (h2:lend τ as=some ss) (h3:F (.mu true (.n (.o C) [])::ss)=some (.shr .non,.mu true m::r)) (h4:back τ as r=some τ'):eK C F g τ=some (.mu false m,τ'):=by
 unfold eK;simp only [h1,h2,h3,Ys];rw [h4];rfl
theorem gm (h:bd (as++List.replicate (n - as.length) .no)=some (.ret s τ)) (hl:as.length=mm:=by rfl):kU n mm bd as=some (s,(τ.take mm).map vg):=by unfold kU; rw [if_pos hl,h]
theorem C8 (h:bd (as++List.replicate (n - as.length) .no)=some (.next τ)) (hl:as.length=mm:=by rfl):kU n mm bd as=some (.shr .non,(τ.take mm).map vg):=by unfold kU; rw [if_pos hl,h]
theorem yu:(Mt.n .d cs).get [.k k]=(cs.find? λ c=>decide (c.1=k)).map (·.2):=by
 show (match cs.findIdx? (λ c=>decide (c.1=k)) with | none=>none | some i=>match cs[i]? with | none=>none | some c=>Mt.get c.2 [])=_;have e:∀ m:Mt,m.get []=some m:=λ m=>by cases m <;> rfl
 rw [List.find?_eq_bind_findIdx?_getElem?]
 cases h:cs.findIdx? (λ c=>decide (c.1=k)) with
 | none=>rfl
 | some i =>
  show (match cs[i]? with | none=>none | some c=>Mt.get c.2 [])=(cs[i]?).map (·.2)
  cases cs[i]? with
  | none=>rfl
  | some c=>exact e c.2
end
end L2
end
section
namespace L2
open PySem PySem.Spec PyProof.Rows
def nuI (ns:List Int) (i:Nat):Int:=(ns[i]?).getD 0
def mxI (ns:List Int):Int:=nuI ns (argBest (λ i j=>decide (nuI ns i > nuI ns j)) (ns.length - 1))
def xM:List D->Option D
 | [.lst ds]=>(cZ ds).bind λ ns=>if 0 < ns.length then some (.int (mxI ns)) else none
 | _=>none
theorem Bg (h:0 < ns.length):mxI ns ∈ ns:=by
 unfold mxI nuI;have:=(argBest_gt (nuI ns) (ns.length - 1)).1;have hl:argBest (λ i j=>decide (nuI ns i > nuI ns j)) (ns.length - 1) < ns.length:=by omega
 have e:ns[argBest (λ i j=>decide (nuI ns i > nuI ns j)) (ns.length - 1)]?=some (ns[argBest (λ i j=>decide (nuI ns i > nuI ns j)) (ns.length - 1)]):=List.getElem?_eq_getElem hl;unfold nuI at e;rw [e];exact Y2 _
theorem DV (h:a ∈ ns):a<=mxI ns:=by
 obtain ⟨i,hi,e⟩:=List.mem_iff_getElem.mp h;have:=(argBest_gt (nuI ns) (ns.length - 1)).2 i (by omega)
 have e':nuI ns i=a:=by
  unfold nuI;rw [List.getElem?_eq_getElem hi,e];rfl
 rw [e'] at this;exact this
section
variable {X:Cx}
theorem wg (hc:X.calm=true):fJ X (.builtin "max") (λ xs H Q=>∃ (p:Addr) (ns:List Int),xs=[.ref p]/\H p=some (.lst (ns.map V.int))/\0 < ns.length/\Q (.int (mxI ns)) H):=by
 intro pins s σ H xs us Q I r h;obtain ⟨p,ns,rfl,hH,hs,q⟩:=h;obtain ⟨u,rfl,ru⟩:=vals1 r;cases (show u=Value.ref p from ru);obtain ⟨its,rv,pl,hz⟩:=I.list (SqL.of hH);have hl:=pl.isList;have hlen:=rv.length;rw [Za] at hlen;have hlt:p < s.heap.objs.size:=by obtain ⟨_,e,_⟩:=hl; exact Zr e
 refine call_max_walk (wpAny_pyIter_list hl ?_)
 refine ⟨s.heap.objs.size,[s.heap.objs.size,p],[s.heap.objs.size],its.toArray.size,_,_,_,rfl,Walks.list (A:=X.A.in1) (I.ok.hd hc) _ p (Zz hlt) its.toArray,
  ⟨⟨_,Heap.get?_push_size _ rfl,rfl,rfl⟩,hl.push _⟩,λ b hb=>?_,by rw [Zs,<- hlen]; exact hs,CmpOf.ints_gt (nuI ns) (λ i v hP=>gy rv i v (by simpa using hP)),λ v h' tk hP hk=>?_⟩
 ·rw [Y3]
  simp only [Zh,Yd,or_false] at hb;rcases hb with rfl | rfl
  · exact Xb _
  · exact Nat.lt_succ_of_lt hlt
 ·rw [Zs,<- hlen] at hP
  obtain ⟨t,e⟩:=gy rv _ v (by simpa using hP);refine ⟨.int (mxI ns),H,I.kept (t':=tk) λ b x ex=>hk b x (λ hm=>?_) (Heap.get?_push_of_some _ ex),⟨t,e⟩,q⟩;rw [Zo.mp hm] at ex;exact Yp _ (Zr ex)
theorem zN (hc:X.calm=true):fJ X (.builtin "max") (rdL X.K xM):=(wg hc).imp λ xs H Q ⟨Hs,ds,d,sm,r,e,k⟩=>by
 match ds,r,e with
 | [x],.cons hx .nil,e =>
  cases hx with
  | @lst a ys ds h r =>
   obtain ⟨ns,e1,e2⟩:=bind_some (show (cZ ds).bind _=some d from e);have ed:=j0 e1;subst ed;have ey:=r.gy;subst ey;split at e2
   ·rename_i hs
    have e':D.int (mxI ns)=d:=Zj e2;subst e';exact ⟨a,ns,rfl,sm _ _ h,hs,k _ Hs H (.refl sm) (.int _)⟩
   · cases e2
  | _=>exact nn e
 | [],_,e=>simp [xM] at e
 | _::_::_,_,e=>simp [xM] at e
end
section
variable {X:Cx} {pos:Pos}
theorem um (hN:X.N.Nodup) (hy:X.N[i]?=some y) (hx:Loc X.env.scope y)
  (hc:X.calm=true) (O:cC X scope cl x cs) (hi:PId X (.Name x px) iter it)
  (hcd:∀ s H fp C,PTd (bg X scope cl (x::cs.map (·.1)) s H fp C) cnd c) (he:∀ s H fp C,PEd (bg X scope cl (x::cs.map (·.1)) s H fp C) elt g) (hs:∀ x,foldedSetIterable iter X.env x=pure x:=by intro _; rfl)
  (hsw:swapsWith (.ListComp elt [⟨.Name x px,iter,[cnd],0⟩] scope pos) (some (.Name y py)) spos.line X.env=pure true:=by rfl)
  (hf:X.fn y=true\/X.env.scope.names.lookup y=some .local:=by first | exact .inl rfl | exact .inr rfl | assumption) :
  PSm X (.Assign [.Name y py] (.ListComp elt [⟨.Name x px,iter,[cnd],0⟩] scope pos) spos) (mX i (eO (hW it c g cs))):=(lY (te:=rdE X.K g) (tt:=rdT X.K c) hN hy hx hc O hi hcd he hs hsw hf).imp λ E σ H ⟨Hs0,H0,nf,ρ,Hs,τ,o,r,e,k⟩=>by
 obtain ⟨⟨s,τ1⟩,e1,e2⟩:=bind_some e;split at e2
 ·rename_i h
  cases e2;obtain ⟨d,e3,e4⟩:=bind_some e1;split at e4
  ·split at e4
   ·rename_i hsc
    cases e4;obtain ⟨fp,st⟩:=r.st;refine mC ⟨H,H,aQ τ,[],_,st.aQ r.sm,.refl H,e3,λ a Hs' H' g1 ow hn=>?_⟩
    cases ow with
    | lst h' n rr=>exact k _ Hs H' ((r.Aq g1.hh (Od.lst h' (r.sm.free hn) (iB rr hsc)) λ c hc=>by rw [Zo.mp hc]; exact hn).into h.1 h.2)
   · cases e4
  · cases e4
 · cases e2
theorem rQ (hN:X.N.Nodup) (hy:X.N[i]?=some y) (hx:Loc X.env.scope y)
  (hc:X.calm=true) (O:cC X scope cl x cs) (hi:PId X (.Name x px) iter it)
  (hcd:∀ s H fp C,PTd (bg X scope cl (x::cs.map (·.1)) s H fp C) cnd c) (he:∀ s H fp C,PEd (bg X scope cl (x::cs.map (·.1)) s H fp C) elt g) (hs:∀ x,foldedSetIterable iter X.env x=pure x:=by intro _; rfl)
  (hsw:swapsWith (.ListComp elt [⟨.Name x px,iter,[cnd],0⟩] scope pos) (some (.Name y py)) spos.line X.env=pure true:=by rfl)
  (hf:X.fn y=true\/X.env.scope.names.lookup y=some .local:=by first | exact .inl rfl | exact .inr rfl | assumption) :
  PSm X (.Assign [.Name y py] (.ListComp elt [⟨.Name x px,iter,[cnd],0⟩] scope pos) spos) (mX i (eF (hW it c g cs))):=(lY (te:=rdE X.K g) (tt:=rdT X.K c) hN hy hx hc O hi hcd he hs hsw hf).imp λ E σ H ⟨Hs0,H0,nf,ρ,Hs,τ,o,r,e,k⟩=>by
 obtain ⟨⟨s,τ1⟩,e1,e2⟩:=bind_some e;split at e2
 ·rename_i hh
  cases e2;obtain ⟨d,e3,e4⟩:=bind_some e1;split at e4
  ·split at e4
   ·rename_i hsc
    cases e4;obtain ⟨fp,st⟩:=r.st;refine mC ⟨H,H,aQ τ,[],_,st.aQ r.sm,.refl H,e3,λ a Hs' H' g1 ow hn=>?_⟩
    cases ow with
    | @lst xs ds h n rr =>
     have ha:Hs a=none:=r.sm.free hn
     have ex:Ext Hs H (upd Hs a (.lst xs)) H':=by
      refine ⟨ar ha _,λ b u q=>?_,g1.hh,λ b h1 h2=>?_⟩
      ·by_cases z:b=a
       · subst z; rw [ai] at q; cases q; exact h
       · rw [af z] at q; exact g1.hh _ _ (r.sm _ _ q)
      · rw [af (show b≠a from λ z=>h2 (by rw [z]; exact hn))]; exact h1
     exact k _ _ H' (((r.ext' ex).push (.lst ai (iB rr hsc))).into hh.1 hh.2)
   · cases e4
  · cases e4
 · cases e2
end
def eT (g:DA):DEm:=λ τ=>(g (aQ τ)).bind λ ds=>if ds.all sca=true/\ds.length<=100000 then some (.shr (.tup ds),τ) else none
theorem v_T (h:g (aQ τ)=some ds) (hs:ds.all sca=true) (hl:ds.length<=100000):eT g τ=some (.shr (.tup ds),τ):=by unfold eT; rw [h]; exact if_pos ⟨hs,hl⟩
section
variable {X:Cx} {es:List Expr} {pos:Pos}
theorem KZ {x1} (h:PAd X es g):PVm X (.Tuple es x1 pos) (eT g):=(zf h).imp λ σ H Q ⟨Hs0,H0,nf,ρ,Hs,τ,s,τ',r,e,k⟩=>by
 obtain ⟨ds,e1,e2⟩:=bind_some e;split at e2
 ·rename_i hs
  cases e2;obtain ⟨fp,st⟩:=r.st;refine ⟨H,H,aQ τ,[],ds,st.aQ r.sm,.refl H,e1,λ vs Hs1 H1 g1 r1=>⟨by rw [r1.length]; exact pH hs.2,λ p hp=>?_⟩⟩;have hp1:H p=none:=g1.hh.free hp;have hp0:Hs p=none:=r.sm.free hp1
  have ex:Ext Hs H (upd Hs p (.tup vs)) (upd H1 p (.tup vs)):=by
   refine ⟨ar hp0 _,λ b u q=>?_,g1.hh.trans (ar hp _),λ b h1 h2=>?_⟩
   ·by_cases z:b=p
    · subst z; rw [ai] at q ⊢; exact q
    · rw [af z] at q ⊢; exact g1.hh _ _ (r.sm _ _ q)
   · rw [af (show b≠p from λ z=>h2 (by rw [z]; exact hp1))]; exact h1
  exact k _ _ _ (g1.hh.trans (ar hp _)) ((r.ext' ex).push (.tup (SqT.of ai) (iB r1 hs.1)))
 · cases e2
end
def rB (i j:Nat) (gk1:DE) (i2:Nat) (gk2:DE) (g2:DA) (g3:DE):DSm:=λ τ=>match τ[j]? with
 | some (.mu false m)=>match cJ (cD i) gk1 (eV j) τ with
  | some (.next τ1)=>match cJ (cD i2) gk2 (eT g2) τ1 with
   | some (.next τ2)=>(g3 ((aQ τ2).set j (.shr (frz m)))).bind λ d=>if sca d=true/\i≠i2 then some (.ret (.shr d) τ2) else none
   | _=>none
  | _=>none
 | _=>none
theorem jQ (h:aT τ i []=some m):∃ b,τ[i]?=some (.mu b m):=by
 unfold aT at h;split at h
 ·rename_i b m' e
  have:m'=m:=by cases m' <;> exact Zj h
  subst this;exact ⟨b,e⟩
 · cases h
theorem Ap (cs:List (Key×Mt)) (k:Key) (m:Mt):(k,m) ∈ eZ cs k m:=by
 unfold eZ;split
 ·rename_i h
  obtain ⟨c,hc,e⟩:=List.any_eq_true.mp h;have e':c.1=k:=Xj e;exact Z2.mpr ⟨c,hc,by rw [if_pos e',e']⟩
 · exact Zc _ (Zo.mpr rfl)
theorem Cy {kvs:List (Key×V)} {k:Key} {v:V} (h:cB kvs k=some v):(k,v) ∈ kvs:=by
 unfold cB at h;obtain ⟨c,hc,rfl⟩:=Zm h;have e:c.1=k:=by simpa using List.find?_some hc
 rw [<- e];exact List.mem_of_find?_eq_some hc
theorem Dk (h:τ[i]?=some (.mu b m)):(cR τ i [] m2)[i]?=some (.mu b m2):=by
 unfold cR;rw [h];have e:m.put [] m2=m2:=by cases m <;> rfl
 show (τ.set i (.mu b (m.put [] m2)))[i]?=_;rw [e,List.getElem?_set_self (List.getElem?_eq_some_iff.mp h).1]
theorem Al (h:τ[i]?=some (.mu b m)) (ne:i≠k):(cR τ i [] m2)[k]?=τ[k]?:=by
 unfold cR;rw [h];show (τ.set i (.mu b (m.put [] m2)))[k]?=_;rw [List.getElem?_set_ne ne]
theorem set_same {α:Type} {l:List α} {x:α} (h:l[j]?=some x):l.set j x=l:=by
 apply List.ext_getElem?;intro n;rw [List.getElem?_set];split
 ·rename_i e
  subst e;split
  · exact h.symm
  ·rename_i hn
   rw [List.getElem?_eq_none (by omega)] at h;cases h
 · rfl
section
variable {K:W.Frag} {Hs0 H0 Hs H:Hp} {ρ:List (Option Addr)} {σ:St} {τ:List Sm} {i:Nat} {s:Sm} {v:V} {mv m:Mt} {cs:List (Key×Mt)} {b:Bool} {a:Addr} {kvs:List (Key×V)} {ky:Key}
theorem jm (r:be K Hs0 H0 (none::ρ) Hs H (some v::σ) (s::τ)) (hs:toM s=some mv) (hg:aT τ i []=some (.n .d cs)):∃ a kvs,σ[i]?=some (some (.ref a))/\H a=some (.dK kvs)/\kvs.length=cs.length/\∀ ky,be K Hs0 H0 ρ Hs (upd H a (.dK (putK kvs ky v))) σ (cR τ i [] (.n .d (eZ cs ky mv))):=by
 obtain ⟨b,eb⟩:=jQ hg;obtain ⟨fp,st⟩:=r.pop.st;obtain ⟨rt,fq,fp',h1,_⟩:=st.out eb;obtain ⟨a,dx,ts,u,fv,rfl,rfl,ha,hl,ku,fin⟩:=r.uN hs hg h1 rfl;rw [Bu hl] at ha;refine ⟨a,_,h1,ha,by rw [Za,Za],λ ky=>?_⟩;obtain ⟨l1,l2,hsub,spl⟩:=jC ky ku;obtain ⟨p1,p2,p3⟩:=spl ⟨ky,v,mv,fv⟩ rfl;generalize ek:ts.map Kd.kv=kvs at hl
 cases hl with
 | d _ =>
  have:=fin l1 ky l2 (.dK (putK kvs ky v)) hsub (by rw [p1,ek]; exact .d _) p3;rw [p2] at this;exact this
theorem Ji {cs0:List (Key×Mt)} (r:be K Hs0 H0 ρ Hs H σ τ) (hi:τ[i]?=some (.mu b (.n .d (eZ cs0 ky m)))) (ha:σ[i]?=some (some (.ref a))) (hH:H a=some (.dK kvs)) (hv:cB kvs ky=some v):Rp K H v (frz m):=by
 obtain ⟨fp,st⟩:=r.st;obtain ⟨rt,fq,fp',h1,h2,_⟩:=st.out hi;rw [ha] at h1;cases h1;obtain ⟨a',dx,ts,u,e1,_,e2,hu,hl,_,ku,_,rr⟩:=h2.inv;cases e1;rw [hH] at hu;cases hu;have e3:=Bu hl;injection e3 with e3
 have i1:=Cy hv;rw [e3] at i1;obtain ⟨c,hc,ec⟩:=Z2.mp i1;have i2:=Ap cs0 ky m;rw [e2] at i2;obtain ⟨c',hc',ec'⟩:=Z2.mp i2;have k1:c.k=ky/\c.v=v:=by injection ec with z1 z2; exact ⟨z1,z2⟩
 have k2:c'.k=ky/\c'.m=m:=by injection ec' with z1 z2; exact ⟨z1,z2⟩
 have ecc:c=c':=by
  have ku':(ts.map Kd.k).Nodup:=ku
  have:∀ {l:List Kd},(l.map Kd.k).Nodup->c ∈ l->c' ∈ l->c.k=c'.k->c=c':=λ {l}=>by
   induction l with
   | nil=>intro _ h; cases h
   | cons z l ih =>
    intro nd h h' e;rw [Zg,Zy] at nd;rcases Zh.mp h with e1 | g
    ·rcases Zh.mp h' with e2 | g'
     · rw [e1,e2]
     · exact absurd (Z2.mpr ⟨c',g',by rw [<- e,e1]⟩) nd.1
    ·rcases Zh.mp h' with e2 | g'
     · exact absurd (Z2.mpr ⟨c,g,by rw [e,e2]⟩) nd.1
     · exact ih nd.2 g g' e
  exact this ku' hc hc' (by rw [k1.1,k2.1])
 have o:=(rr c hc).rp r.sm;rw [k1.2,ecc,k2.2] at o;exact o
theorem tp (r:be K Hs0 H0 ρ Hs H σ τ) (hi:τ[i]?=some (.mu b (.n t cs))) (hi2:τ[i2]?=some (.mu b2 (.n t2 cs2))) (ne:i≠i2) (ha:σ[i]?=some (some (.ref a))) (ha2:σ[i2]?=some (some (.ref a2))):a≠a2:=by
 obtain ⟨fp,st⟩:=r.st;obtain ⟨v,fq,fp',h1,h2,h3,h4,_⟩:=st.out hi;rw [ha] at h1;cases h1;obtain ⟨v2,fq2,fp2,k1,k2,_,k4,_⟩:=h3.out (i:=i2) (b:=b2) (m:=.n t2 cs2) (by rw [List.getElem?_set_ne ne]; exact hi2);rw [ha2] at k1;cases k1;obtain ⟨_,_,_,_,e1,e2,_⟩:=h2.inv;obtain ⟨_,_,_,_,e3,e4,_⟩:=k2.inv;cases e1;cases e3;intro z;subst z;exact (h4 a (by rw [e2]; exact Ze ..)).1 (k4 a (by rw [e4]; exact Ze ..)).2
end
section
variable {X:Cx} {posA posB posC pd pf px ps1 ps2 pt:Pos} {k1 k2 e3:Expr} {es:List Expr} {d f x:Str} {i j i2:Nat} {gk1 gk2 g3:DE} {g2:DA}
theorem uk {x1} (hu:X.A.units+1 < cLine) (hd:PE X (.Name d pd) (oS i)) (hk1:PEd X k1 gk1) (hx:PE X (.Name x px) (oS j)) (hf:PE X (.Name f pf) (oS i2)) (hk2:PEd X k2 gk2) (h2:PAd X es g2) (h3:PEd X e3 g3)
  (hsA:swapsWith (.Name x px) (some (.Subscript (.Name d pd) k1 ps1)) posA.line X.env=pure false:=by rfl) (hsB:swapsWith (.Tuple es x1 pt) (some (.Subscript (.Name f pf) k2 ps2)) posB.line X.env=pure false:=by rfl) :
  rC X [.Assign [.Subscript (.Name d pd) k1 ps1] (.Name x px) posA,.Assign [.Subscript (.Name f pf) k2 ps2] (.Tuple es x1 pt) posB,.Return (some e3) posC] (rB i j gk1 i2 gk2 g2 g3) :=
 PSs.imp (aX (oY hu hd hk1 hx hsA) (aX (oY hu hf hk2 (KZ h2) hsB) (br (dG h3)))) λ E σ H ⟨Hs0,H0,nf,ρ,Hs,τ,o,r,e,k⟩=>by
  unfold rB at e;split at e
  ·rename_i m ej
   split at e
   ·rename_i τ1 eA
    split at e
    ·rename_i τ2 eB
     obtain ⟨d3,e3,e4⟩:=bind_some e;split at e4
     ·rename_i hs
      obtain ⟨hs,hne⟩:=hs;cases e4;obtain ⟨⟨s,τa⟩,a1,eA⟩:=bind_some eA;obtain ⟨⟨ia,qa⟩,a2,eA⟩:=bind_some eA;obtain ⟨da,a3,eA⟩:=bind_some eA;obtain ⟨ky,a4,eA⟩:=bind_some eA;obtain ⟨mv,a5,eA⟩:=bind_some eA;have a1':eV j τ=some (.mu false m,τ.set j .no):=by unfold eV; rw [ej]
      rw [a1'] at a1;cases a1;cases a2;cases a5;split at eA
      ·rename_i cs en
       split at eA
       ·rename_i hz
        have eA':=Zj eA;injection eA' with eA'
        obtain ⟨fp,st⟩:=r.st;obtain ⟨v,fq,fp',h1,h2',h3',h4,h5⟩:=st.out ej;have r1:be X.K Hs0 H0 (none::ρ) Hs H (some v::σ) (.mu false m::τ.set j .no):=⟨r.ext,fq++fp',.mu h2' (λ e=>by cases e) (λ c hc=>(st.live c (h4 c hc).2).2.2) (λ c hc=>(h4 c hc).1) h3'⟩
        refine ⟨v,h1,?_⟩;obtain ⟨a,kvs,g1,g2',g3',fin⟩:=jm r1 rfl en;refine ⟨.ref a,g1,?_⟩;refine ⟨H,H,aQ (τ.set j .no),[],da,h3'.aQ r.sm,.refl H,a3,λ y Hs3 H3 gg ry=>?_⟩;have hy:=jY ry a4;subst hy;obtain ⟨a',kvs',g1',g2'',g3'',fin'⟩:=jm (r1.grow gg.hh) rfl en;rw [g1] at g1';cases g1';refine ⟨a,_,rfl,Cj.k g2'' (by rw [g3'']; exact le5 (Yk hz)),?_⟩;have r4:=fin' ky;rw [eA'] at r4;obtain ⟨⟨s5,τ5⟩,b1,eB1⟩:=bind_some eB;obtain ⟨⟨ib,qb⟩,b2,eB2⟩:=bind_some eB1;obtain ⟨db,b3,eB3⟩:=bind_some eB2;obtain ⟨ky2,b4,eB4⟩:=bind_some eB3;obtain ⟨mv2,b5,eB5⟩:=bind_some eB4;clear eB eB1 eB2 eB3 eB4;cases b2
        have e5:τ5=τ1:=by
         unfold eT at b1;obtain ⟨ds,_,b1⟩:=bind_some b1;split at b1
         · cases b1; rfl
         · cases b1
        subst e5;split at eB5
        ·rename_i cs2 en2
         split at eB5
         ·rename_i hz2
          have eB':=Zj eB5;injection eB' with eB'
          refine ⟨Hs0,H0,nf,ρ,Hs,_,s5,_,r4,b1,λ v5 Hs5 H5 s5' r5=>?_⟩;obtain ⟨a2,kvs2,q1,q2,q3,fin2⟩:=jm r5 b5 en2;refine ⟨.ref a2,q1,?_⟩;obtain ⟨fp5,st5⟩:=r5.pop.st;refine ⟨H5,H5,aQ _,[],db,st5.aQ r5.sm,.refl H5,b3,λ y2 Hs6 H6 gg6 ry2=>?_⟩;have hy2:=jY ry2 b4;subst hy2;obtain ⟨a2',kvs2',q1',q2',q3',fin2'⟩:=jm (r5.grow gg6.hh) b5 en2;rw [q1] at q1';cases q1';refine ⟨a2,_,rfl,Cj.k q2' (by rw [q3']; exact le5 (Yk hz2)),?_⟩;have r8:=fin2' ky2;rw [eB'] at r8;obtain ⟨b0,t0⟩:=jQ en
          have t1:τ5[i]?=some (.mu b0 (.n .d (eZ cs ky m))):=by
           rw [<- eA'];exact Dk t0
          obtain ⟨b2,t2⟩:=jQ en2;have nea:=tp r5.pop t1 t2 hne g1 q1
          have hA:upd H6 a2 (.dK (putK kvs2' ky2 v5)) a=some (.dK (putK kvs' ky v)):=by
           rw [af nea];exact gg6.hh _ _ (s5' _ _ ai)
          have t3:τ2[i]?=some (.mu b0 (.n .d (eZ cs ky m))):=by
           rw [<- eB'];exact (Al t2 (Ne.symm hne)).trans t1
          have rp:=Ji r8 t3 g1 hA (by rw [xa,if_pos rfl]);obtain ⟨fp8,st8⟩:=r8.st;obtain ⟨fp9,n9,st9⟩:=StR.oV (i:=j) rp (st8.aQ r8.sm);have e9:fp9=[]:=List.eq_nil_iff_forall_not_mem.mpr λ c hc=>nomatch n9 c hc
          subst e9;rw [set_same h1] at st9;exact ⟨_,_,_,[],d3,st9,.refl _,e3,λ v9 Hs9 H9 g9 r9=>k v9 σ Hs5 H9 ((r8.grow g9.hh).push (mV r9 hs))⟩
         · cases eB5
        · cases eB5
       · cases eA
      · cases eA
     · cases e4
    · cases e
   · cases e
  · cases e
end

def leS (a b:Str):Bool:=!decide (b.cps.toList < a.cps.toList)
theorem gw:leS a b=true↔a.cps.toList<=b.cps.toList:=by
 unfold leS;rw [Yz,decide_eq_false_iff_not];exact List.not_lt
theorem nF (a b c:Str) (h1:leS a b=true) (h2:leS b c=true):leS a c=true:=gw.mpr (List.le_trans (gw.mp h1) (gw.mp h2))
theorem uZ (a b:Str):(leS a b||leS b a)=true:=by
 rcases List.le_total a.cps.toList b.cps.toList with h | h
 · rw [gw.mpr h]; rfl
 · rw [gw.mpr h,Bool.or_true]
theorem xZ (h1:leS a b=true) (h2:leS b a=true):a=b:=by
 have e:=List.le_antisymm (gw.mp h1) (gw.mp h2);cases a;cases b;exact Z7 Str.mk (Array.toList_inj.mp e)
noncomputable def wN (ss:List Str):List Str:=ss.mergeSort leS
theorem pw_rising:∀ (p:Str) (l:List Str),risingS p l=true->(p::l).Pairwise (λ a b=>leS a b=true)
 | p,[],_=>List.pairwise_singleton ..
 | p,x::r,h=>by
  have h':(!ltCps x.cps.toList p.cps.toList&&risingS x r)=true:=h;rw [Z8,ltCps_eq] at h';have ih:=pw_rising x r h'.2;have px:leS p x=true:=h'.1;refine List.pairwise_cons.mpr ⟨λ y hy=>?_,ih⟩;rcases Zh.mp hy with rfl | hy
  · exact px
  · exact nF _ _ _ px (List.rel_of_pairwise_cons ih hy)
theorem pw_sorted:∀ {l:List Str},sortedS l=true->l.Pairwise (λ a b=>leS a b=true)
 | [],_=>.nil
 | x::r,h=>pw_rising x r h
theorem CY (h1:ss'.Perm ss) (h2:sortedS ss'=true):ss'=wN ss :=
 List.Perm.eq_of_pairwise (λ a b _ _=>xZ) (pw_sorted h2) (List.pairwise_mergeSort nF uZ ss) (h1.trans (List.mergeSort_perm ss leS).symm)
def Dh:List V->Hp->VK->Prop:=λ xs H Q=>∃ (a:Addr) (kvs:List (Key×V)) (ss:List Str),xs=[.ref a]/\H a=some (.dK kvs)/\kvs.map (·.1)=ss.map Sum.inr/\kvs.length < 64 /\
 ∀ (p:Addr),H p=none->Q (.ref p) (upd H p (.lst ((wN ss).map .str)))
theorem tJ:∀ {us:List Value} {ss:List Str},us.length=ss.length->(∀ (j:Nat) (v:Value),us[j]?=some v->∃ n t,ss[j]?=some n/\v=.str n t)->StrsAre us ss
 | [],[],_,_=>.nil
 | [],_::_,e,_=>by cases e
 | _::_,[],e,_=>by cases e
 | u::us,n::ns,e,h=>by
  obtain ⟨n',t,e1,e2⟩:=h 0 u rfl;cases e1;subst e2;exact .cons n t (tJ (Nat.succ.inj e) λ j v ev=>h (j+1) v ev)
theorem mP:∀ {us:List Value} {ss:List Str},StrsAre us ss->a7 (ss.map V.str) us
 | _,_,.nil=>.nil
 | _,_,.cons x t h=>.cons ⟨t,rfl⟩ (mP h)
theorem oi (hh:X.A.handled=none):fJ X (.builtin "sorted") Dh:=by
 intro pins s σ H xs us Q I r h;obtain ⟨a,kvs,ss,rfl,ha,ek,h64,q⟩:=h;obtain ⟨u,rfl,ru⟩:=vals1 r;cases (show u=Value.ref a from ru);obtain ⟨sz,lo,vs,kv,dd⟩:=vN I.hok ha;obtain ⟨ep,hat⟩:=dd.dictAt;have lv:vs.length=kvs.length:=kv.length.symm
 have ev:vs.map (·.1)=ss.map Sum.inr:=by
  rw [<- ek];exact mh kv
 refine Calls.call_function_entry kind_sorted plain_sorted entry_sorted (args_sorted1 _) ?_
 unfold Builtin.«sorted»;refine Zl (m:=checkCount "sorted" 1 1 _) (Zx ?_);refine Zl (PySem.W.kdu_collect (A:=X.A.in1) (PySem.W.kdl_dict (knd:=bf X.prog X.w) (kvs:=vs) (ep:=ep) lo) hh hat (by rw [lv]; exact sz) λ h' tk acc hk hacc=>?_)
 have hI:StrsAre acc.toList ss:=by
  refine tJ (by rw [Y9,hacc.1,<- Za (f:=(Sum.inr:Str->Key)),<- ev,Za]) λ j v hj=>?_
  obtain ⟨k,x,e1,e2⟩:=hacc.2 j v (by rw [<- Array.getElem?_toList]; exact hj);have e3:(vs.map (·.1))[j]?=some k:=by rw [List.getElem?_map,e1]; rfl
  rw [ev,List.getElem?_map] at e3
  cases q:ss[j]? with
  | none=>rw [q] at e3; cases e3
  | some n =>
   rw [q] at e3;cases e3;rcases aU (show mi (Sum.inr n) v=true from e2) with ⟨i,t,e4,e5⟩ | ⟨y,t,e4,e5⟩
   · cases e4
   · cases e4; exact ⟨_,t,rfl,e5⟩
 have la:acc.toList.length < 64:=by rw [Y9,hacc.1,lv]; exact h64
 refine Zl (wpAny_newList ?_ (Z5 (Yk la) (by decide)));have hoL:(h'.push (seqObj "list" acc.toList.toArray 0)).get? h'.objs.size=some (seqObj "list" acc.toList.toArray 0):=Heap.get?_push_size _ rfl;refine Zl (wpAny_holding (wpAny_call_entry slot_list_sort ⟨_,hoL,rfl⟩ entry_list_sort (list_sort_treeK strKind_oneLt hoL hI.keysOf (λ v₁ v₂ rest e=>keyKind_strs (by rw [<- e]; exact hI)) la λ st' hp hs=>⟨_,rfl,?_⟩) (args_list_sort _)));obtain ⟨ss',a1,a2,a3⟩:=sorted_out_str hI hp hs;have a4:=CY a2 a3;subst a4;generalize (arrOf st').map (·.2)=out at a1 ⊢;refine Zx ⟨_,rfl,?_⟩;have I1:=I.kept (t':=tk) hk
 have old:∀ b o,h'.get? b=some o->(sortedHeap (h'.push (seqObj "list" acc.toList.toArray 0)) h'.objs.size acc.toList out).get? b=some o:=λ b o e1=>by
  rw [sortedHeap_old (Zz (Zr e1)) (by rw [size_push']; exact Nat.lt_succ_of_lt (Zr e1))];exact Heap.get?_push_of_some _ e1
 obtain ⟨e,he⟩:=sortedHeap_at (out:=out) hoL;have I2:=I1.laid (a:=h'.objs.size) (o:=.lst ((wN ss).map .str)) (t':=tk) old (Zk _) ⟨by rw [Za,a2.length_eq,<- StrsAre.length hI]; exact Z5 (Yk la) (by decide),out.toList,e,mP a1,by rw [he,Array.toArray_toList]⟩;exact ⟨.ref h'.objs.size,_,I2,rfl,q _ (I1.hok.fresh (Zk _))⟩
def nI:List (Key×D)->Option (List Str)
 | []=>some []
 | (.inr x,_)::r=>(nI r).map (x::·)
 | _=>none
theorem nG:∀ {ds:List (Key×D)} {ss:List Str},nI ds=some ss->ds.map (·.1)=ss.map Sum.inr
 | [],_,e=>by cases e; rfl
 | (.inr x,_)::r,_,e=>by
  obtain ⟨ss,e1,rfl⟩:=Zm (show (nI r).map _=_ from e);rw [Zg,nG e1];rfl
 | (.inl _,_)::_,_,e=>by cases e
theorem RpK.keys {K:W.Frag} {H:Hp}:∀ {kvs:List (Key×V)} {ds:List (Key×D)},RpK K H kvs ds->kvs.map (·.1)=ds.map (·.1)
 | _,_,.nil=>rfl
 | _,_,.cons h r=>by rw [Zg,Zg,RpK.keys r]
noncomputable def v7 (f:DE):DE:=λ τ=>(f τ).bind λ d=>match d with | .dct kvs=>(nI kvs).bind λ ss=>if ss.length < 64 then some (.lst ((wN ss).map .str)) else none | _=>none
theorem yF (hh:X.A.handled=none) (hg:Gl X "sorted") (hm:X.mg "sorted"=none) (he:Bx (PEd X e f)) (hst:starEach [e] X.env=(false,eval e X.env)::starEach [] X.env:=by rfl) (hpl:(backTo pos (starEach [] X.env)).any (·.1)=false:=by rfl):Bx (PEo X (.Call (.Name "sorted" p) [e] [] pos) (v7 f)) :=
 ⟨(qr (oi hh) hg hm (by decide +kernel) (au he.out aV hst) (by decide) (by decide) hst hpl).imp λ σ H Q h=>by
   obtain ⟨H0,Hs,τ,fp,d,st,sm,e,q⟩:=h;obtain ⟨x,e1,e2⟩:=bind_some e;refine ⟨H0,Hs,τ,fp,x,st,sm,e1,λ v Hs1 H1 g1 rv=>?_⟩
   cases rv with
   | @dct a kvs ds h r =>
    obtain ⟨ss,e3,e4⟩:=bind_some (show (nI ds).bind _=some d from e2);split at e4
    ·rename_i h64
     have e5:=Zj e4;subst e5;have ek:kvs.map (·.1)=ss.map Sum.inr:=r.keys.trans (nG e3);refine ⟨a,kvs,ss,rfl,g1.sh _ _ h,ek,?_,λ p hp=>?_⟩
     ·have:=Z7 List.length ek
      rw [Za,Za] at this;omega
     ·have hHp:=g1.hh.free hp
      refine q p Hs1 _ ⟨g1.ss,g1.sh.trans (ar hp _),g1.hh.trans (ar hp _),g1.fr⟩ (.lst ai (g1.sh.free hp) (Rps.strs _)) hHp
    · cases e4
   | _=>exact nn e2⟩
theorem lV {α:Type} {l:List α} {i:Nat} {x:α} (h:l[i]?=some x):l.set i x=l:=by
 obtain ⟨h1,h2⟩:=List.getElem?_eq_some_iff.mp h;rw [<- h2,List.set_getElem_self]
abbrev Fn0 (K:W.Frag) (x:Str) (st:Stmt) (f:Addr):Prop:=∃ (od an:Option Addr) (sl:Array (Option Value)) (oc kV dc pm cd ct:Value),PySem.W.nsIn K mainGlobals x=some (some (.ref f))/\K.lookup f=some ⟨oc,od,.func (PySem.W.fnOf x x (bA st) (aO st) (ax st) .none kV dc pm an cd ct),sl⟩/\PySem.W.codeIn K cd x=true/\W.keepIn K (.ref f)=true
theorem Fn0.mk {K:W.Frag} {x:Str} {st:Stmt} {f:Addr} {h:Heap} {mg:Str->Option Value} {ps:List Str} (e:Fn0 K x st f) (X:K.In h) (G:h.Ns mainGlobals mg) (hb:∀ (kV doc pm:Value) (an:Option Addr) (cdv ct:Value) (us:List Value),us.length=ps.length->bindArgs (PySem.W.fnOf x x (bA st) (aO st) (ax st) .none kV doc pm an cdv ct) ⟨us,[]⟩=pure (ps.zip us)):∃ fd,Fun K x x st f fd/\mg x=some (.ref f)/\Binds K fd ps []:=by
 obtain ⟨od,an,sl,oc,kV,dc,pm,cd,ct,a,l,c,k⟩:=e;exact ⟨_,gc (st:=st) l c k,PySem.W.mg_of X G a,(gc (st:=st) l c k).binds hb⟩
theorem DN {as:List Addr} {h:Heap}:∀ {K:W.Frag},as=K.map (·.1)->as.map h.get?=K.map (λ p=>some p.2)->∀ p ∈ K,h.get? p.1=some p.2:=by
 intro K e q;subst e;rw [Zw] at q;intro p hp;exact List.map_inj_left.mp q p hp
theorem zu:∀ {K:W.Frag},List.lookup a K=some o->(a,o) ∈ K
 | [],h=>by cases h
 | (b,u)::K,h=>by
  rw [Yq] at h
  cases q:a == b with
  | true =>
   rw [q] at h;have e1:a=b:=eq_of_beq q;have e2:u=o:=Zj h;subst e1 e2;exact Ze ..
  | false =>
   rw [q] at h;exact Zd _ (zu h)
theorem w6 {q:Program} {loose:List Str} {XP:(Str->Option Value)->Heap->Prop} {as:List Addr} {K:Params->W.Frag} {n t:Nat} {r:PySem.W.RowW} {d:PySem.DefRec} {kwd:List (Str×Expr)} {run:Value->List Value->Sem Value}
  (e:∀ P,as=(K P).map (·.1)) (h:PySem.W.WalkO q loose XP (PySem.W.InK K) r d kwd run):PySem.W.WalkX q loose XP (PySem.W.X.obsZ as) (PySem.W.X.valZ K n t) r d kwd run:=by
 intro w s₀ s₁ mg mb G y a o pm cd doc dV kV ho hd hcd hD hmg hg args vals bs L hpre hlay hrd hwl hlo;have y1:as.map s₀.heap.get?=(K w.params).map (λ p=>some p.2):=Z7 Prod.fst y;have KX:(K w.params).In s₁.heap:=λ b o' e'=>L.keeps b o' (DN (e w.params) y1 (b,o') (zu e'))
 exact h w s₀ s₁ mg mb G KX a o pm cd doc dV kV ho hd hcd hD hmg hg args vals bs hpre hlay hrd hwl hlo
end L2
end
section
local macro_rules | `(tactic| walk_at "v")=>`(tactic| first | exact .inl rfl | exact .inr rfl | assumption)
local macro_rules | `(tactic| walk_at "w")=>`(tactic| first | exact .inl rfl | exact .inr (.inl rfl) | exact .inr (.inr rfl))
namespace L2
open PySem PySem.Spec PyProof.Rows
abbrev Dg (x:Str):Prop:=(x == ("__debug__":Str))=false
abbrev Dc (x:Str):Prop:=(x == ("__classdict__":Str))=false
abbrev Se (X:Cx) (e:Expr) (es:List Expr):Prop:=starEach (e::es) X.env=(false,eval e X.env)::starEach es X.env
abbrev Sb (X:Cx) (pos:Pos) (es:List Expr):Prop:=(backTo pos (starEach es X.env)).any (·.1)=false
abbrev Fs (X:Cx) (i:Expr):Prop:=∀ x,foldedSetIterable i X.env x=pure x
abbrev Xl (X:Cx) (x:Str):Prop:=X.fn x=true\/X.env.scope.names.lookup x=some .local
abbrev Sw (X:Cx) (e:Expr) (x:Str) (p pos:Pos):Prop:=swapsWith e (some (.Name x p)) pos.line X.env=pure false
def Df (K:W.Frag) (mg:Str->Option Value) (x:Str) (st:Stmt) (ps:List Str):Prop:=∃ a d,Fun K x x st a d/\mg x=some (.ref a)/\Binds K d ps []
def Mf (K:W.Frag) (C:Addr) (x q:Str) (st:Stmt) (ps:List Str):Prop:=∃ a d,Fun K x q st a d/\yK K C x a/\Binds K d ps []
def If (K:W.Frag) (C:Addr) (q:Str) (st:Stmt) (ps:List Str):Prop:=∃ a d,Fun K "__init__" q st a d/\Mk K C a/\Binds K d ps []
structure Go (P:Program) (w:World) (K:W.Frag) (mg:Str->Option Value) (base:Heap) (k:Nat) (x:Str) (sp:Sp):Prop where
 go:∃ f fd ps,mg x=some (.ref f)/\W.keepIn K (.ref f)=true/\Binds K fd ps []/\gL P w K mg base CX0 k f fd ps sp
structure GoM (P:Program) (w:World) (K:W.Frag) (mg:Str->Option Value) (base:Heap) (k:Nat) (C:Addr) (x:Str) (sp:Sp):Prop where
 go:∃ f fd ps,yK K C x f/\Binds K fd ps []/\gL P w K mg base CX0 k f fd ps sp
structure GoI (P:Program) (w:World) (K:W.Frag) (mg:Str->Option Value) (base:Heap) (k:Nat) (C:Addr) (sp:Sp):Prop where
 go:∃ f fd ps,Mk K C f/\Binds K fd ps []/\gL P w K mg base CX0 k f fd ps sp
theorem aa (i:Nat) (hN:X.N[i]?=some x:=by exact rfl) (hv:Vis X.env.scope x:=by walk_at "w") (hd:Dg x:=by decide) (hcd:Dc x:=by decide):Bx (PEd X (.Name x pos) (aH i)):=⟨(dH hN hv hd hcd).imp λ σ H Q ⟨H0,Hs,τ,fp,d,st,sm,e,k⟩=>by
 have e':τ[i]?=some (.shr d):=by
  unfold aH at e;split at e
  · rename_i d' q; rw [q]; simpa using e
  · cases e
 obtain ⟨v,h1,h2⟩:=st.get e'
 exact ⟨v,h1,k v Hs H (.refl sm) h2⟩⟩
theorem aj  : Bx (PEd X (.Constant (.int i) j pos) (dC (.int i))):=⟨fO m5 λ _=>.int i⟩
theorem bZ  : Bx (PEd X (.Constant (.bool i) j pos) (dC (.bl i))):=⟨fO rR λ _=>.bl i⟩
theorem ju  : Bx (PEd X (.Constant .none j pos) (dC .non)):=⟨fO Dv λ _=>.non⟩
theorem js  : Bx (PEd X (.Constant (.str x) j pos) (dC (.str x))):=⟨fO zg λ _=>.str x⟩
theorem kr (hm:X.mg x=none) (hg:Gl X x:=by rfl) (hv:bootBuiltins x=some (.type n):=by decide +kernel) (hn:x≠"__name__":=by decide) (hd:Dg x:=by decide):Bx (PEd X (.Name x pos) (dC (.ty n))):=⟨fO (v:=.ty n) (AO hg hm hv (rfl) hn hd) λ _=>.ty n⟩
theorem iO (ho:OpR X (binaryOp op) (rdR X.K o)) (ha:Bx (PEd X a f)) (hb:Bx (PEd X b g)):Bx (PEd X (.BinOp a op b pos) (dOp o f g)):=⟨have ha:=ha.out; have hb:=hb.out; (AF ho ha hb).imp λ σ H Q h=>kQ X.K h⟩
theorem B9 (ho:UnR X (unaryOp op) (rdU X.K o)) (ha:Bx (PEd X a f)):Bx (PEd X (.UnaryOp op a pos) (dUn o f)):=⟨have ha:=ha.out; (GK ho ha).imp λ σ H Q ⟨H0,Hs,τ,fp,d,st,sm,e,k⟩=>by
 obtain ⟨x,e1,e⟩:=bind_some e
 exact ⟨H0,Hs,τ,fp,x,st,sm,e1,λ v Hs1 H1 g1 r1=>⟨Hs1,x,d,g1.sh,r1,e,λ w Hs3 H3 g3 r3=>k w Hs3 H3 (g1.trans g3) r3⟩⟩⟩
theorem ip (ho:OpR X (compareOp op) (rdR X.K o)) (ha:Bx (PEd X a f)) (hb:Bx (PEd X b g)) (hm:behindInMarks op b=false:=by first | exact zm _ | rfl):Bx (PEd X (.Compare a [op] [b] pos) (dOp o f g)):=⟨have ha:=ha.out; have hb:=hb.out; (AN ho ha hb hm).imp λ σ H Q h=>kQ X.K h⟩
theorem cL (ho:OpR X (compareOp op) (rdR X.K o)) (ha:Bx (PEd X a f)) (hb:Bx (PEd X b g)) (hm:behindInMarks op b=false:=by first | exact zm _ | rfl):Bx (PTd X (.Compare a [op] [b] pos) (dT (dOp o f g))):=⟨have ha:=ha.out; have hb:=hb.out; (Ar ho ha hb hm).imp λ σ H Q ⟨H0,Hs,τ,fp,d,st,sm,e,k⟩=>by
 obtain ⟨x,e1,e⟩:=bind_some e;have hx:x=.bl d:=by cases x <;> simp at e <;> subst e <;> rfl
 subst hx;refine kQ X.K ⟨H0,Hs,τ,fp,_,st,sm,e1,λ v Hs' H' g r=>?_⟩;cases r
 exact ⟨d,rfl,k Hs' H' g⟩⟩
theorem sQ (ho:OpR X (compareOp op) (rdR X.K o)) (ho':OpR X (compareOp op') (rdR X.K o')) (ha:Bx (PEd X a f)) (hb:Bx (PEd X b g)) (hc:Bx (PEd X c h)) (hm:lastMarks [op,op'] [b,c]=false:=by with_unfolding_all rfl):Bx (PEd X (.Compare a [op,op'] [b,c] pos) (oa (dOp o f g) (dOp o' g h))):=⟨have ha:=ha.out; have hb:=hb.out; have hc:=hc.out; (xI ho ho' ha hb hc hm).imp λ σ H Q ⟨H0,Hs,τ,fp,d,st,sm,e,k⟩=>by
 obtain ⟨r,e0,e⟩:=bind_some e;obtain ⟨x,e1,e0⟩:=bind_some e0;obtain ⟨y,e2,e0⟩:=bind_some e0;refine ⟨H0,Hs,τ,fp,x,st,sm,e1,λ v Hs1 H1 g1 r1=>?_⟩;refine ⟨H0,Hs1,τ,fp,y,st.ext g1,g1.sh,e2,λ u Hs2 H2 g2 r2=>?_⟩;refine ⟨Hs2,x,y,r,g2.sh,r1.same g2.ss,r2,e0,λ w Hs3 H3 g3 r3=>?_⟩
 cases r3 with
 | bl kb =>
  refine ⟨kb,rfl,?_⟩
  cases kb with
  | false =>
   rw [if_neg Zf];have e':D.bl false=d:=by simpa using e
   subst e';exact k _ Hs3 H3 ((g1.trans g2).trans g3) (.bl false)
  | true =>
   rw [if_pos rfl];obtain ⟨y',q1,q2⟩:=bind_some (e);have ey:y'=y:=by rw [e2] at q1; exact (Zj q1).symm
   subst ey;obtain ⟨z,q3,q4⟩:=bind_some q2;refine ⟨H0,Hs3,τ,fp,z,st.ext ((g1.trans g2).trans g3),g3.sh,q3,λ u' Hs4 H4 g4 r4=>?_⟩;exact ⟨Hs4,y',z,d,g4.sh,(r2.same g3.ss).same g4.ss,r4,q4,λ w' Hs5 H5 g5 r5=>k w' Hs5 H5 ((((g1.trans g2).trans g3).trans g4).trans g5) r5⟩
 | _=>exact nn e⟩
theorem bK  : Bx (PAd X [] d8):=⟨aV.imp λ σ H Q ⟨H0,Hs,τ,fp,d,st,sm,e,k⟩=>by
 have e':=Zj e;subst e'
 exact k [] Hs H (.refl sm) .nil⟩
theorem cf (ha:Bx (PEd X e f)) (hr:Bx (PAd X es g)) (hs:Se X e es:=by rfl):Bx (PAd X (e::es) (aK f g)):=⟨have ha:=ha.out; have hr:=hr.out; (au ha hr hs).imp λ σ H Q ⟨H0,Hs,τ,fp,d,st,sm,e,k⟩=>by
 obtain ⟨x,e1,e⟩:=bind_some e;obtain ⟨xs,e2,e⟩:=bind_some e;have e':=Zj e;subst e';refine ⟨H0,Hs,τ,fp,x,st,sm,e1,λ v Hs1 H1 g1 r1=>?_⟩
 exact ⟨H0,Hs1,τ,fp,xs,st.ext g1,g1.sh,e2,λ u Hs2 H2 g2 r2=>k _ Hs2 H2 (g1.trans g2) (.cons (r1.same g2.ss) r2)⟩⟩
theorem mH (h:Bx (PAd X es g)):Bx (PEd X (.Tuple es x1 pos) (I0 g)):=⟨have h:=h.out; (zf h).imp λ σ H Q ⟨H0,Hs,τ,fp,d,st,sm,e,k⟩=>by
 obtain ⟨xs,e1,e⟩:=bind_some e
 by_cases hl:xs.length<=100000
 ·rw [if_pos hl] at e
  have e':=Zj e;subst e';refine ⟨H0,Hs,τ,fp,xs,st,sm,e1,λ v Hs1 H1 g1 r1=>?_⟩;refine ⟨by rw [r1.length]; exact pH hl,λ p hp=>?_⟩;have g2:=Ext.new g1.sh hp (.tup v);exact k _ _ _ (g1.trans g2) (.tup (SqT.of ai) (r1.same g2.ss))
 · rw [if_neg hl] at e; cases e⟩
theorem bV (h:Bx (PAd X es g)):Bx (PEo X (.List es pos) (FY g)):=⟨have h:=h.out; (qp h).imp λ σ H Q ⟨H0,Hs,τ,fp,d,st,sm,e,k⟩=>by
 obtain ⟨xs,e1,e⟩:=bind_some e
 by_cases hl:xs.length<=100000
 ·rw [if_pos hl] at e
  have e':=Zj e;subst e';refine ⟨H0,Hs,τ,fp,xs,st,sm,e1,λ v Hs1 H1 g1 r1=>?_⟩;refine ⟨by rw [r1.length]; exact pH hl,λ p hp=>?_⟩;refine k p Hs1 _ ⟨g1.ss,g1.sh.trans (ar hp _),g1.hh.trans (ar hp _),g1.fr⟩ (.lst ai (g1.sh.free hp) r1) (g1.hh.free hp)
 · rw [if_neg hl] at e; cases e⟩
theorem aN (h:Bx (PEo X e f)):Bx (PEd X e f):=⟨PEo.shr h.out⟩
theorem dU (h:Bx (PEd X e f)) (he:∀ whole,isTrue e X.env whole=(do let v <- whole; standAt e.pos; holding [v] (truthy v)):=by intro _; rfl):Bx (PTd X e (dT f)):=⟨have h:=h.out; (qk h he).imp λ σ H Q ⟨H0,Hs,τ,fp,d,st,sm,e,k⟩=>by
 obtain ⟨x,e1,e⟩:=bind_some e;have hx:x=.bl d:=by cases x <;> simp at e <;> subst e <;> rfl
 subst hx;refine ⟨H0,Hs,τ,fp,_,st,sm,e1,λ v Hs' H' g r=>?_⟩;cases r
 exact ⟨d,rfl,k Hs' H' g⟩⟩
theorem cK (h:Bx (PTd X e f)):Bx (PTd X (.UnaryOp .Not e pos) (ER f)):=⟨have h:=h.out; (zb h).imp λ σ H Q ⟨H0,Hs,τ,fp,d,st,sm,e,k⟩=>by
 obtain ⟨x,e1,e⟩:=Zm e;subst e
 exact ⟨H0,Hs,τ,fp,x,st,sm,e1,λ Hs' H' g=>k Hs' H' g⟩⟩
theorem sG (h:Bx (PTd X a f)):Bx (PWd X (.BoolOp .And [a] pos) f):=⟨have h:=h.out; pw_and1 h⟩
theorem fg (h:Bx (PTd X a f)):Bx (PWd X (.BoolOp .Or [a] pos) f):=⟨have h:=h.out; pw_or1 h⟩
theorem wk (ha:Bx (PTd X a f)) (hb:Bx (PWd X (.BoolOp .And (b::es) pos) g)):Bx (PWd X (.BoolOp .And (a::b::es) pos) (Jb f g)):=⟨have ha:=ha.out; have hb:=hb.out; PW.imp (pw_and ha hb) λ σ H Q ⟨H0,Hs,τ,fp,d,st,sm,e,k⟩=>by
 obtain ⟨x,e1,e⟩:=bind_some e;refine ⟨H0,Hs,τ,fp,x,st,sm,e1,λ Hs' H' g1=>?_⟩
 cases x with
 | true=>exact ⟨H0,Hs',τ,fp,d,st.ext g1,g1.sh,e,λ Hs2 H2 g2=>k Hs2 H2 (g1.trans g2)⟩
 | false =>
  have e':false=d:=by simpa using e
  subst e'
  exact k Hs' H' g1⟩
theorem fR (ha:Bx (PTd X a f)) (hb:Bx (PWd X (.BoolOp .Or (b::es) pos) g)):Bx (PWd X (.BoolOp .Or (a::b::es) pos) (dOr f g)):=⟨have ha:=ha.out; have hb:=hb.out; PW.imp (pw_or ha hb) λ σ H Q ⟨H0,Hs,τ,fp,d,st,sm,e,k⟩=>by
 obtain ⟨x,e1,e⟩:=bind_some e;refine ⟨H0,Hs,τ,fp,x,st,sm,e1,λ Hs' H' g1=>?_⟩
 cases x with
 | false=>exact ⟨H0,Hs',τ,fp,d,st.ext g1,g1.sh,e,λ Hs2 H2 g2=>k Hs2 H2 (g1.trans g2)⟩
 | true =>
  have e':true=d:=by simpa using e
  subst e'
  exact k Hs' H' g1⟩
theorem dX (h:Bx (PWd X e f)):Bx (PTd X e f):=⟨PWd.ptd h.out⟩
theorem jt (h:Bx (PEd X a f)):Bx (PEd X (.BoolOp op [a] pos) f):=⟨have h:=h.out; zi h⟩
theorem jv (ha:Bx (PEd X a f)) (hb:Bx (PEd X (.BoolOp .And (b::es) pos) g)):Bx (PEd X (.BoolOp .And (a::b::es) pos) (oa f g)):=⟨have ha:=ha.out; have hb:=hb.out; (zj ha hb).imp λ σ H Q ⟨H0,Hs,τ,fp,d,st,sm,e,k⟩=>by
 obtain ⟨x,e1,e⟩:=bind_some e;refine ⟨H0,Hs,τ,fp,x,st,sm,e1,λ v Hs' H' g1 r=>?_⟩
 cases r with
 | bl kb =>
  refine ⟨kb,rfl,?_⟩
  cases kb with
  | true=>exact ⟨H0,Hs',τ,fp,d,st.ext g1,g1.sh,e,λ v Hs2 H2 g2 r=>k v Hs2 H2 (g1.trans g2) r⟩
  | false =>
   have e':D.bl false=d:=by simpa using e
   subst e';exact k _ Hs' H' g1 (.bl false)
 | _=>exact nn e⟩
theorem Ca (ha:Bx (PEd X a f)) (hb:Bx (PEd X (.BoolOp .Or (b::es) pos) g)):Bx (PEd X (.BoolOp .Or (a::b::es) pos) (I9 f g)):=⟨have ha:=ha.out; have hb:=hb.out; (GL ha hb).imp λ σ H Q ⟨H0,Hs,τ,fp,d,st,sm,e,k⟩=>by
 obtain ⟨x,e1,e⟩:=bind_some e;refine ⟨H0,Hs,τ,fp,x,st,sm,e1,λ v Hs' H' g1 r=>?_⟩
 cases r with
 | bl kb =>
  refine ⟨kb,rfl,?_⟩
  cases kb with
  | false=>exact ⟨H0,Hs',τ,fp,d,st.ext g1,g1.sh,e,λ v Hs2 H2 g2 r=>k v Hs2 H2 (g1.trans g2) r⟩
  | true =>
   have e':D.bl true=d:=by simpa using e
   subst e';exact k _ Hs' H' g1 (.bl true)
 | _=>exact nn e⟩
theorem yD (ha:Bx (PEd X a f)):Bx (PEd X (.UnaryOp .Not a pos) (Ja f)):=⟨have ha:=ha.out; (Du ha).imp λ σ H Q ⟨H0,Hs,τ,fp,d,st,sm,e,k⟩=>by
 obtain ⟨x,e1,e⟩:=bind_some e;refine ⟨H0,Hs,τ,fp,x,st,sm,e1,λ v Hs' H' g1 r=>?_⟩
 cases r with
 | bl kb =>
  have e':D.bl (!kb)=d:=by simpa using e
  subst e';exact ⟨kb,rfl,k _ Hs' H' g1 (.bl _)⟩
 | _=>exact nn e⟩
theorem bJ (ha:Bx (PEd X a f)) (hb:Bx (PEd X b g)) (hs:wK b:=by exact λ _ _=>rfl):Bx (PEd X (.Subscript a b pos) (dOp oIx f g)):=⟨have ha:=ha.out; have hb:=hb.out; (GN ixd ha hb hs).imp λ σ H Q h=>kQ X.K h⟩
theorem lH (h:Bx (PEd X e f)):Bx (POd X (some e) (dP f)):=⟨have h:=h.out; (Av h).imp λ σ H Q ⟨H0,Hs,τ,fp,d,st,sm,e,k⟩=>by
 obtain ⟨x,e1,e⟩:=bind_some e;refine ⟨H0,Hs,τ,fp,x,st,sm,e1,λ v Hs' H' g r=>?_⟩
 cases r with
 | int i =>
  have e':=Zj e;subst e';exact ⟨i,rfl,k Hs' H' g⟩
 | _=>exact nn e⟩
section
variable {X:Cx} {a b c e:Expr} {es:List Expr} {pos:Pos} {f g h:DE}
theorem B7 {lo hi:Option Expr} {p2:Pos} {l u:DO} (ha:Bx (PEd X a f)) (hl:Bx (POd X lo l)) (hh:Bx (POd X hi u)):Bx (PEo X (.Subscript a (.Slice lo hi none p2) pos) (dSl f l u)):=⟨have ha:=ha.out; have hl:=hl.out; have hh:=hh.out; (xF z8 ha hl hh).imp λ σ H Q ⟨H0,Hs,τ,fp,d,st,sm,e,k⟩=>by
 obtain ⟨x,e1,e⟩:=bind_some e;obtain ⟨l',e2,e⟩:=bind_some e;obtain ⟨u',e3,e⟩:=bind_some e;refine ⟨H0,Hs,τ,fp,x,st,sm,e1,λ v Hs1 H1 g1 r1=>?_⟩;refine ⟨H0,Hs1,τ,fp,l',st.ext g1,g1.sh,e2,λ Hs2 H2 g2=>?_⟩;refine ⟨H0,Hs2,τ,fp,u',(st.ext g1).ext g2,g2.sh,e3,λ Hs3 H3 g3=>?_⟩;have g13:=(g1.trans g2).trans g3;have r3:=(r1.same g2.ss).same g3.ss
 have fin:∀ (p:Addr) (ys:List V) (ds:List D),H3 p=none->Rps X.K Hs3 ys ds->d=.lst ds->Q (.ref p) (upd H3 p (.lst ys)):=λ p ys ds hp r ed=>by
  subst ed;exact k p Hs3 _ ⟨g13.ss,g13.sh.trans (ar hp _),g13.hh.trans (ar hp _),g13.fr⟩ (.lst ai (g13.sh.free hp) r) (g13.hh.free hp)
 cases r3 with
 | @lst a xs ds h r =>
  have e':=Zj e;exact ⟨a,xs,rfl,SqL.of (g3.sh _ _ h),λ p hp=>fin p _ _ hp (v8 l' u' r) e'.symm⟩
 | @fz a xs ds h r =>
  have e':D.lst (cutD ds l' u')=d:=Zj e;exact ⟨a,xs,rfl,g3.sh.seq h,λ p hp=>fin p _ _ hp (v8 l' u' r) e'.symm⟩
 | _=>exact nn e⟩
end
section
variable {X:Cx} {a b c e:Expr} {es:List Expr} {pos:Pos} {f g h:DE}
theorem aA {x:Str} {id:String} {p:Pos} {o:List D->Option D} {g:DA} (hc:fJ X (.builtin id) (rdL X.K o)) (hm:X.mg x=none) (ha:Bx (PAd X (e::es) g)) (hg:Gl X x:=by rfl) (hv:bootBuiltins x=some (.builtin id):=by decide +kernel) (hn:x≠"__name__":=by decide) (hdb:Dg x:=by decide) (he:Se X e es:=by rfl) (hpl:Sb X pos es:=by rfl):Bx (PEd X (.Call (.Name x p) (e::es) [] pos) (gB o g)):=⟨have ha:=ha.out; (qr hc hg hm hv ha hn hdb he hpl).imp λ σ H Q h=>call_of X.K h⟩
end
theorem wz (hm:X.mg x=none) (ha:Bx (PAd X (e::es) g)) (hg:Gl X x:=by rfl) (hv:bootBuiltins x=some (.type "list"):=by decide +kernel) (hn:x≠"__name__":=by decide) (hdb:Dg x:=by decide) (he:Se X e es:=by rfl) (hpl:Sb X pos es:=by rfl):Bx (PEo X (.Call (.Name x p) (e::es) [] pos) (gB A0 g)):=⟨have ha:=ha.out; (m6 oj hg hm hv ha hn hdb he hpl).imp λ σ H Q ⟨H0,Hs,τ,fp,d,st,sm,e,k⟩=>by
 obtain ⟨xs,e1,e⟩:=bind_some e;refine ⟨H0,Hs,τ,fp,xs,st,sm,e1,λ v Hs1 H1 g1 r1=>?_⟩
 have fin:∀ (p:Addr) (ys:List V) (ds:List D),H1 p=none->Rps X.K Hs1 ys ds->d=.lst ds->Q (.ref p) (upd H1 p (.lst ys)):=λ p ys ds hp r ed=>by
  subst ed;exact k p Hs1 _ ⟨g1.ss,g1.sh.trans (ar hp _),g1.hh.trans (ar hp _),g1.fr⟩ (.lst ai (g1.sh.free hp) r) (g1.hh.free hp)
 match xs,r1,e with
 | [x],.cons hx .nil,e =>
  cases hx with
  | @tup a ys ds h r=>exact ⟨_,_,rfl,.inr (g1.sh.tup h),λ l hl=>fin l ys ds hl r (Zj e).symm⟩
  | @lst a ys ds h r=>exact ⟨_,_,rfl,.inl (SqL.of (g1.sh _ _ h)),λ l hl=>fin l ys ds hl r (Zj e).symm⟩
  | @fz a ys ds h r=>exact ⟨_,_,rfl,.inl (g1.sh.seq h),λ l hl=>fin l ys ds hl r (Zj e).symm⟩
  | _=>exact nn e
 | [],_,e=>simp [A0] at e
 | _::_::_,_,e=>simp [A0] at e⟩
theorem wo (i:Nat) (h:Bx (PTd X e f)):Bx (PTd X e (CU i f)):=⟨have h:=h.out; PT.imp h λ σ H Q ⟨H0,Hs,τ,fp,d,st,sm,e,k⟩=>by
 unfold CU at e;split at e
 ·rename_i d0 q
  obtain ⟨a,o,fp',h1,h2,h3,h4,h5,h6,h7,h8⟩:=st.frz q;exact ⟨H0,upd Hs a o,_,fp',d,h4,sm.frz h1,e,λ Hs' H' g=>k (vq a Hs') H' (g.Gb h2 h1)⟩
 · exact ⟨H0,Hs,τ,fp,d,st,sm,e,k⟩⟩
theorem b8  : Bx (wL X [] rP):=⟨iC.imp λ E σ H ⟨Hs0,H0,Hs,τ,o,r,e,k⟩=>by
 have e':=Zj e;subst e'
 exact k σ Hs H r⟩
section
variable {X:Cx} {a b c e:Expr} {es:List Expr} {pos:Pos} {st:Stmt} {rest:List Stmt} {f g:DS}
theorem aw (h:Bx (PSd X st f)):Bx (wL X [st] f):=⟨have h:=h.out; br h⟩
end
section
variable {X:Cx} {a b c e:Expr} {es:List Expr} {pos:Pos} {st:Stmt} {rest:List Stmt} {f g:DS}
theorem aq (h1:Bx (PSd X st f)) (h2:Bx (wL X rest g)):Bx (wL X (st::rest) (mL f g)):=⟨have h1:=h1.out; have h2:=h2.out; (aX h1 h2).imp λ E σ H ⟨Hs0,H0,Hs,τ,o,r,e,k⟩=>by
 unfold mL at e
 cases q:f τ with
 | none=>rw [q] at e; cases e
 | some o1 =>
  rw [q] at e;refine ⟨Hs0,H0,Hs,τ,o1,r,q,?_⟩
  cases o1 with
  | next τ'=>exact λ σ' Hs' H' r'=>⟨Hs0,H0,Hs',τ',o,r',e,k⟩
  | ret s=>cases e; exact k
  | brk τ'=>cases e; exact k
  | cnt τ'=>cases e; exact k⟩
end
section
variable {X:Cx} {a b c e:Expr} {es:List Expr} {pos:Pos} {st:Stmt} {rest:List Stmt} {f g:DS}
theorem gD  : Bx (PSd X st C6):=⟨λ _ _ _ _ _ _ ⟨_,_,_,_,_,_,e,_⟩=>by cases e⟩
end
theorem dI (hc:Bx (PTd X c t)) (ha:Bx (wL X x f)) (hb:Bx (wL X y g)):Bx (PSd X (.If c x y pos) (sIf t f g)):=⟨have hc:=hc.out; have ha:=ha.out; have hb:=hb.out; (xC hc ha hb).imp λ E σ H ⟨Hs0,H0,Hs,τ,o,r,e,k⟩=>by
 obtain ⟨bb,e1,e2⟩:=bind_some e;obtain ⟨fp,h⟩:=r.st;refine ⟨H0,Hs,τ,fp,bb,h,r.same,e1,λ Hs' H' g1=>?_⟩
 cases bb with
 | true=>exact ⟨Hs0,H0,Hs',τ,o,r.ext' g1,by simpa using e2,k⟩
 | false=>exact ⟨Hs0,H0,Hs',τ,o,r.ext' g1,by simpa using e2,k⟩⟩
theorem a8 (h:Bx (PEd X e f)):Bx (PSd X (.Return (some e) pos) (Fb f)):=⟨have h:=h.out; (dG h).imp λ E σ H ⟨Hs0,H0,Hs,τ,o,r,e,k⟩=>by
 obtain ⟨d,e1,rfl⟩:=Zm e;obtain ⟨fp,h⟩:=r.st
 exact ⟨H0,Hs,τ,fp,d,h,r.same,e1,λ v Hs' H' g1 rv=>k v Hs' H' (r.ext.trans g1) rv⟩⟩
theorem lF (h:Bx (PEo X e f)):Bx (PSd X (.Return (some e) pos) (Ac f)):=⟨have h:=h.out; (dG h).imp λ E σ H ⟨Hs0,H0,Hs,τ,o,r,e,k⟩=>by
 obtain ⟨d,e1,rfl⟩:=Zm e;obtain ⟨fp,h⟩:=r.st
 exact ⟨H0,Hs,τ,fp,d,h,r.same,e1,λ v Hs' H' g1 rv z=>k _ Hs' H' (r.ext.trans g1) ⟨v,rfl,rv,r.old z⟩⟩⟩
theorem fS (i:Nat) (hN:X.N[i]?=some x:=by exact rfl) (hv:Vis X.env.scope x:=by walk_at "w") (hd:Dg x:=by decide) (hcd:Dc x:=by decide):Bx (PSd X (.Return (some (.Name x p)) pos) (xj i)):=⟨(dG (dH hN hv hd hcd)).imp λ E σ H ⟨Hs0,H0,Hs,τ,o,r,e,k⟩=>by
 obtain ⟨fp,h⟩:=r.st;unfold xj at e;split at e
 ·rename_i d q
  cases e;obtain ⟨a,h1,h2,h3,h4⟩:=h.BK q;exact ⟨_,h1,k _ Hs H r.ext ⟨a,rfl,h2,h3⟩⟩
 ·rename_i d q
  cases e;obtain ⟨v,h1,h2⟩:=h.get q;exact ⟨_,h1,k _ Hs H r.ext h2⟩
 · cases e⟩
theorem wu (i:Nat) (hN:X.N.Nodup) (hi:X.N[i]?=some x:=by exact rfl) (he:Bx (PEd X e f)) (hx:Loc X.env.scope x:=by walk_at "v") (hs:Sw X e x pos' pos:=by rfl) (hf:Xl X x:=by walk_at "v"):Bx (PSd X (.Assign [.Name x pos'] e pos) (wO i f)):=⟨have he:=he.out; (fY hN hi hx he hs hf).imp λ E σ H ⟨Hs0,H0,Hs,τ,o,r,e,k⟩=>by
 obtain ⟨d,e1,rfl⟩:=Zm e;obtain ⟨fp,h⟩:=r.st;refine ⟨H0,Hs,τ,fp,d,h,r.same,e1,λ v Hs' H' g1 rv=>?_⟩;obtain ⟨fp',_,h'⟩:=(h.ext g1).oV rv
 exact k _ Hs' H' ⟨r.ext.trans g1,fp',h'⟩⟩
theorem cV (i:Nat) (hN:X.N.Nodup) (hi:X.N[i]?=some x:=by exact rfl) (he:Bx (PEo X e f)) (hx:Loc X.env.scope x:=by walk_at "v") (hs:Sw X e x pos' pos:=by rfl) (hf:Xl X x:=by walk_at "v"):Bx (PSd X (.Assign [.Name x pos'] e pos) (xi i f)):=⟨have he:=he.out; (fY hN hi hx he hs hf).imp λ E σ H ⟨Hs0,H0,Hs,τ,o,r,e,k⟩=>by
 unfold xi at e;split at e
 ·rename_i hl
  obtain ⟨d,e1,rfl⟩:=Zm e;obtain ⟨fp,h⟩:=r.st;refine ⟨H0,Hs,τ,fp,d,h,r.same,e1,λ v Hs' H' g1 rv z=>?_⟩;obtain ⟨fp',_,h'⟩:=(h.ext g1).Kz rv (r.old z) (uy h z) hl;exact k _ Hs' H' ⟨r.ext.trans g1,fp',h'⟩
 · cases e⟩
theorem fT (he:Bx (PEd X e f)) (hs:swapsWith e none pos.line X.env=pure false:=by rfl):Bx (PSd X (.Expr e pos) (xn f)):=⟨have he:=he.out; (bX he hs).imp λ E σ H ⟨Hs0,H0,Hs,τ,o,r,e,k⟩=>by
 obtain ⟨d,e1,rfl⟩:=Zm e;obtain ⟨fp,h⟩:=r.st
 exact ⟨H0,Hs,τ,fp,d,h,r.same,e1,λ v Hs' H' g1 rv=>k _ Hs' H' (r.ext' g1)⟩⟩
theorem c8 (i:Nat) (hN:X.N[i]?=some x:=by exact rfl) (he:Bx (PEd X e f)) (hv:Vis X.env.scope x:=by walk_at "w") (hd:Dg x:=by decide) (hcd:Dc x:=by decide) (hbase:attributeBase (.Name x p) "append" X.env (eval (.Name x p) X.env)=eval (.Name x p) X.env:=by rfl) (hfew:((backTo cpos (starEach [e] X.env)).all (λ x=>!x.1)&&(backToKw cpos (keywordEach [] X.env)).all (λ x=>x.1.isSome)
  && decide ([e].length+([]:List Keyword).length+(if ([]:List Keyword).isEmpty then 0 else 1) < 30))=true:=by rfl) (hline:(apos.endLine == cpos.line)=true:=by rfl) (hst:starEach [e] X.env=(false,eval e X.env)::starEach [] X.env:=by rfl) (hplain:(backTo cpos (starEach [] X.env)).any (·.1)=false:=by rfl) (hs:swapsWith (.Call (.Attribute (.Name x p) "append" apos) [e] [] cpos) none pos.line X.env=pure false:=by rfl):Bx (PSd X (.Expr (.Call (.Attribute (.Name x p) "append" apos) [e] [] cpos) pos) (Af i f)):=⟨have he:=he.out; (bX (pb Yn PySem.F.slot_list_append PySem.F.type_list_append jR (dH hN hv hd hcd) (au he aV hst) hbase hfew hline hst hplain) hs).imp λ E σ H ⟨Hs0,H0,Hs,τ,o,r,e,k⟩=>by
 obtain ⟨d,e1,e2⟩:=bind_some e;obtain ⟨fp,h⟩:=r.st;split at e2
 ·rename_i ds q
  split at e2
  ·rename_i hl
   cases e2;obtain ⟨a,h1,h2,h3,h4⟩:=h.BK q
   cases h2 with
   | @lst xs _ hH hn hr =>
    refine ⟨_,h1,.inl ⟨rfl,_,SqL.of hH⟩,?_⟩;refine ⟨H0,Hs,τ,fp,d,h,r.same,e1,λ v Hs' H' g1 rv=>?_⟩;have hH':=g1.hh _ _ hH;have h':=h.ext g1;have n':=g1.fr a hn (aR hH);refine ⟨a,xs,v,rfl,rfl,hH',by rw [hr.length]; exact le5 (Yk hl),?_⟩;refine k σ Hs' _ ⟨⟨r.ext.ss.trans g1.ss,λ b u z=>?_,λ b u z=>?_,λ b k1 k2=>?_⟩,fp,h'.mut q h1 (.lst ai n' ((hr.same g1.ss).append (.cons rv .nil)))⟩
    ·have ne:b≠a:=λ y=>by subst y; rw [n'] at z; cases z
     rw [af ne]; exact g1.sh b u z
    ·have ne:b≠a:=λ y=>by subst y; rw [h3] at z; cases z
     rw [af ne]; exact g1.hh b u (r.ext.hh b u z)
    · exact g1.fr b (r.ext.fr b k1 k2) (r.ext.hh.live k2)
  · cases e2
 · cases e2⟩
theorem bI (h:Bx (PEd X l f)):Bx (PId X tg l (Cp f)):=⟨have h:=h.out; (uu h).imp λ σ H R ⟨H0,Hs,τ,fp,ds,st,sm,e,k⟩=>by
 obtain ⟨x,e1,e2⟩:=bind_some e;refine ⟨H0,Hs,τ,fp,x,st,sm,e1,λ v Hs' H' g r=>?_⟩
 cases r with
 | @lst a xs ds' h r =>
  have e':=Zj e2;subst e';exact ⟨a,rfl,⟨xs,SqL.of (g.sh _ _ h)⟩,k _ Hs' H' g (qz (SqL.of h) r)⟩
 | @fz a xs ds' h r =>
  have e':ds'=ds:=Zj e2;subst e';exact ⟨a,rfl,⟨xs,g.sh.seq h⟩,k _ Hs' H' g (qz h r)⟩
 | _=>exact nn e2⟩
theorem je (hm:X.mg "range"=none) (ha:Bx (PAd X [a] f)) (hg:Gl X "range":=by rfl) (hs:starEach [a] X.env=[(false,eval a X.env)]:=by rfl):Bx (PId X tg (.Call (.Name "range" p) [a] [] pos) (qF f)):=⟨have ha:=ha.out; (m4 hg hm ha hs).imp λ σ H R ⟨H0,Hs,τ,fp,ds,st,sm,e,k⟩=>by
 obtain ⟨x,e1,e2⟩:=bind_some e;refine ⟨H0,Hs,τ,fp,x,st,sm,e1,λ v Hs' H' g r=>?_⟩
 match x,r,e2 with
 | [y],.cons hy .nil,e2 =>
  cases hy with
  | int j =>
   simp only at e2;split at e2
   ·rename_i hj
    have e':=Zj e2;subst e';exact ⟨j,rfl,hj.1,hj.2,k _ Hs' H' g (vh _ _)⟩
   · cases e2
  | _=>exact nn e2
 | [],_,e2=>simp at e2
 | _::_::_,_,e2=>simp at e2⟩
theorem sP (i:Nat) (hN:X.N.Nodup) (hi:X.N[i]?=some x:=by exact rfl) (hx:Loc X.env.scope x:=by walk_at "v") (hf:Xl X x:=by walk_at "v"):Bx (PGd X (.Name x pos) (gN i)):=⟨(jF hN hi hx hf).imp λ v σ H Q ⟨Hs0,H0,Hs,τ,τ',d,r,rv,e,k⟩=>by
 have e':=Zj e;subst e';obtain ⟨fp,h⟩:=r.st;obtain ⟨fp',_,h'⟩:=h.oV rv
 exact k _ ⟨r.ext,fp',h'⟩⟩
theorem wx (hi:Bx (PId X tg iter it)) (hg:Bx (PGd X tg g)) (hb:Bx (wL X body b)) (hp:PassesOwn (model X.prog X.w) X.A X.env X.xe:=by exact .never) (hc:X.calm=true:=by rfl) (hs:Fs X iter:=by intro _; rfl):Bx (PSd X (.For tg iter body [] pos) (Fc it g b)):=⟨have hi:=hi.out; have hg:=hg.out; have hb:=hb.out; (uo hp hc hi hg hb hs).imp λ E σ H ⟨Hs0,H0,Hs,τ,o,r,e,k⟩=>by
 obtain ⟨ds,e1,e2⟩:=bind_some e;obtain ⟨fp,hst⟩:=r.st;refine ⟨H0,Hs,τ,fp,ds,hst,r.same,e1,λ J Hs1 H1 g1 hJ=>?_⟩;have r1:=r.ext' g1;have kk:=k.rebase r1.ext;refine ⟨λ i m σ H=>m=ds.length - i/\i<=ds.length/\∃ Hs2 τ2,Rep X.K Hs1 H0 Hs2 H σ τ2/\wV (λ d τ=>(g d τ).bind b) (ds.drop i) τ2=some o,⟨ds.length,by simp,Yb _,Hs1,τ,r1.rebase,by simpa using e2⟩,?_⟩
 rintro i m σ2 H2 ⟨rfl,hi,Hs2,τ2,r2,e3⟩
 obtain ⟨hgo,hstop⟩:=hJ Hs2 H2 r2.ext.ss r2.same
 by_cases hlt:i < ds.length
 ·have ed:=Y1 hlt
  rw [ed] at e3;obtain ⟨go,yl⟩:=hgo i ds[i] (List.getElem?_eq_getElem hlt);refine .inr ⟨go,λ σ' H'=>∃ Hs' τ',Rep X.K Hs1 H0 Hs' H' σ' τ'/\wV (λ d τ=>(g d τ).bind b) (ds.drop (i+1)) τ'=some o,?_,?_⟩
  ·rintro σ' H' ⟨Hs',τ',r',e'⟩
   exact ⟨ds.length - (i+1),by omega,rfl,hlt,Hs',τ',r',e'⟩
  ·intro x H' y
   obtain ⟨Hs3,g3,rx⟩:=yl x H' y;have r3:=r2.ext' g3;unfold wV at e3
   cases q:(g ds[i] τ2).bind b with
   | none=>simp only [q] at e3; cases e3
   | some o1 =>
    simp only [q] at e3;obtain ⟨τ3,q1,q2⟩:=bind_some q;refine ⟨Hs1,H0,Hs3,τ2,τ3,ds[i],r3,rx,q1,λ σ' r'=>?_⟩;refine ⟨Hs1,H0,Hs3,τ3,o1,r',q2,?_⟩
    cases o1 with
    | next τ'=>exact λ σ4 Hs4 H4 r4=>⟨Hs4,τ',r4,e3⟩
    | cnt τ'=>exact λ σ4 Hs4 H4 r4=>⟨Hs4,τ',r4,e3⟩
    | brk τ'=>cases e3; exact kk
    | ret s=>cases e3; exact kk
 ·have e0:i=ds.length:=by omega
  subst e0;rw [Xr] at e3;have e':Out.next τ2=o:=by simpa [wV] using e3
  subst e'
  exact .inl ⟨hstop _ (Zk _),kk σ2 Hs2 H2 r2⟩⟩
theorem eD (hc:Bx (PTd X c t)) (hb:Bx (wL X body b)) (hp:PassesOwn (model X.prog X.w) X.A X.env X.xe:=by exact .never):Bx (PSd X (.While c body [] pos) (mW t b)):=⟨have hc:=hc.out; have hb:=hb.out; (xA hp hc hb).imp λ E σ H ⟨Hs0,H0,Hs,τ,o,r,e,k⟩=>by
 obtain ⟨n,e⟩:=tP e;refine ⟨λ m σ H=>∃ Hs2 τ2,Rep X.K Hs0 H0 Hs2 H σ τ2/\bB t b m τ2=some o,⟨n,Hs,τ,r,e⟩,?_⟩
 rintro m σ2 H2 ⟨Hs2,τ2,r2,e2⟩
 obtain ⟨fp,hst⟩:=r2.st
 cases m with
 | zero=>simp [bB] at e2
 | succ m =>
  unfold bB at e2
  cases q:t τ2 with
  | none=>rw [q] at e2; cases e2
  | some bb =>
   rw [q] at e2;refine ⟨H0,Hs2,τ2,fp,bb,hst,r2.same,q,λ Hs3 H3 g3=>?_⟩;have r3:=r2.ext' g3
   cases bb with
   | false =>
    have e':Out.next τ2=o:=by simpa using e2
    subst e';exact El (k σ2 Hs3 H3 r3)
   | true =>
    refine zD ?_
    refine ⟨λ σ' H'=>∃ Hs' τ',Rep X.K Hs0 H0 Hs' H' σ' τ'/\bB t b m τ'=some o,?_,?_⟩
    ·rintro σ' H' ⟨Hs',τ',r',e'⟩
     exact ⟨m,by omega,Hs',τ',r',e'⟩
    ·cases q2:b τ2 with
     | none=>rw [q2] at e2; cases e2
     | some o1 =>
      rw [q2] at e2;refine ⟨Hs0,H0,Hs3,τ2,o1,r3,q2,?_⟩
      cases o1 with
      | next τ'=>exact λ σ4 Hs4 H4 r4=>⟨Hs4,τ',r4,e2⟩
      | cnt τ'=>exact λ σ4 Hs4 H4 r4=>⟨Hs4,τ',r4,e2⟩
      | brk τ'=>cases e2; exact k
      | ret s=>cases e2; exact k⟩
theorem av (Fo:Go X.prog X.w X.K X.mg X.base k x (spF F X.K)) (hr:cg jj X.A) (ha:Bx (PAd X (e::es) g)) (hj:k<=jj:=by decide) (hg:Gl X x:=by rfl) (hdb:Dg x:=by decide) (he:Se X e es:=by rfl) (hpl:Sb X pos es:=by rfl):Bx (PEd X (.Call (.Name x p) (e::es) [] pos) (dFn F g)):=by
 have ⟨f',fd',ps',hm,hk,hb,Fo⟩:=Fo.go;have hr:=hr.mono hj;exact ⟨AS Fo hr hg hm hk hb ha.out hdb he hpl⟩
theorem fh (Fo:Go X.prog X.w X.K X.mg X.base k x (spF F X.K)) (hr:cg jj X.A) (ha:Bx (PAd X (e::es) g)) (hj:k<=jj:=by decide) (hg:Gl X x:=by rfl) (hdb:Dg x:=by decide) (he:Se X e es:=by rfl) (hpl:Sb X pos es:=by rfl):Bx (PEo X (.Call (.Name x p) (e::es) [] pos) (BY F g)):=by
 have ⟨f',fd',ps',hm,hk,hb,Fo⟩:=Fo.go;have hr:=hr.mono hj;exact ⟨Ax Fo hr hg hm hk hb ha.out hdb he hpl⟩
theorem ij (O:cC X scope cl x cs) (hi:Bx (PId X (.Name x px) iter it)) (he:∀ s H fp C,Bx (PEd (bg X scope cl (x::cs.map (·.1)) s H fp C) elt g):=by intros; walk_at "g") (hc:X.calm=true:=by rfl) (hs:Fs X iter:=by intro _; rfl):Bx (PEo X (.ListComp elt [⟨.Name x px,iter,[],0⟩] scope pos) (yv it g cs)):=⟨have hi:=hi.out; have he:=(λ s H fp C=>(he s H fp C).out); (AM (te:=rdE X.K g) hc O hi he hs).imp λ σ H Q h=>B0 h⟩
theorem bW (c:Cls X.K C) (n:cQ X.K C f) (he:Bx (PEd X e g)) (hb:attributeBase e f X.env (eval e X.env)=eval e X.env:=by rfl):Bx (PEd X (.Attribute e f pos) (dUn (xN C f) g)):=⟨have he:=he.out; (uv he hb).imp λ σ H Q ⟨H0,Hs,τ,fp,d,st,sm,e,k⟩=>by
 obtain ⟨x,e1,e2⟩:=bind_some e;refine ⟨H0,Hs,τ,fp,x,st,sm,e1,λ v Hs' H' g' r=>?_⟩
 cases r with
 | @obj a C' dx fs ds h r =>
  simp only [xN] at e2;split at e2
  ·rename_i hc
   subst hc;obtain ⟨v,h1,h2⟩:=r.look e2;exact ⟨a,C',dx,fs,v,rfl,g'.sh _ _ h,c,n,h1,k v Hs' H' g' h2⟩
  · cases e2
 | _=>exact nn e2⟩
theorem bc (c:Cls X.K C) (Fo:GoM X.prog X.w X.K X.mg X.base k C m (spF F X.K)) (hr:cg jj X.A) (he:Bx (PEd X o g)) (ha:Bx (PAd X (e::es) ga)) (hj:k<=jj:=by decide) (hst:Se X e es:=by rfl) (hpl:Sb X pos es:=by rfl) (ht:eval (.Call (.Attribute o m apos) (e::es) [] pos) X.env=(do
  let ov <- eval o X.env
  standAt apos.atName
  let (f,first) <- holding [ov] (getMethod ov m pl)
  callWith pos f first (backTo pos (starEach (e::es) X.env)) (backToKw pos (keywordEach [] X.env))):=by rfl):Bx (PEd X (.Call (.Attribute o m apos) (e::es) [] pos) (j9 C m F g ga)):=by
 have ⟨f',fd',ps',hm,hb,Fo⟩:=Fo.go;have hr:=hr.mono hj;exact ⟨AQ he.out c hm Fo hr hb ha.out hst hpl ht⟩
theorem wy (c:Cls X.K C) (Fo:GoM X.prog X.w X.K X.mg X.base k C m (spF F X.K)) (hr:cg jj X.A) (he:Bx (PEd X o g)) (ha:Bx (PAd X (e::es) ga)) (hj:k<=jj:=by decide) (hst:Se X e es:=by rfl) (hpl:Sb X pos es:=by rfl) (ht:eval (.Call (.Attribute o m apos) (e::es) [] pos) X.env=(do
  let ov <- eval o X.env
  standAt apos.atName
  let (f,first) <- holding [ov] (getMethod ov m pl)
  callWith pos f first (backTo pos (starEach (e::es) X.env)) (backToKw pos (keywordEach [] X.env))):=by rfl):Bx (PEo X (.Call (.Attribute o m apos) (e::es) [] pos) (nZ C m F g ga)):=by
 have ⟨f',fd',ps',hm,hb,Fo⟩:=Fo.go;have hr:=hr.mono hj;exact ⟨Aw he.out c hm Fo hr hb ha.out hst hpl ht⟩
theorem dW (O:cC X scope cl x cs) (hi:Bx (PId X (.Name x px) iter it)) (hcd:∀ s H fp C,Bx (PTd (bg X scope cl (x::cs.map (·.1)) s H fp C) cnd c):=by intros; walk_at "h") (he:∀ s H fp C,Bx (PEd (bg X scope cl (x::cs.map (·.1)) s H fp C) elt g):=by intros; walk_at "g") (hc:X.calm=true:=by rfl) (hs:Fs X iter:=by intro _; rfl):Bx (PEo X (.ListComp elt [⟨.Name x px,iter,[cnd],0⟩] scope pos) (hW it c g cs)):=⟨have hi:=hi.out; have hcd:=(λ s H fp C=>(hcd s H fp C).out); have he:=(λ s H fp C=>(he s H fp C).out); (l0 (te:=rdE X.K g) (tt:=rdT X.K c) hc O hi hcd he hs).imp λ σ H Q h=>mC h⟩
theorem aM (hu:X.A.units+64 < cLine) (hs:F1 i) (ho:Bx (PEd X o f)) (hi:Bx (PEd X i g)):Bx (PEd X (.Subscript o i pos) (dOp dz f g)):=⟨have ho:=ho.out; have hi:=hi.out; (uw (by omega) ho hi hs).imp λ σ H Q h=>by
 have h':=kQ X.K h;obtain ⟨H0,Hs,τ,fp,x,st,sm,e1,kk⟩:=h';refine ⟨H0,Hs,τ,fp,x,st,sm,e1,λ v Hs1 H1 g1 r1=>?_⟩;obtain ⟨H0',Hs',τ',fp',y,st',sm',e2,kk2⟩:=kk v Hs1 H1 g1 r1;refine ⟨H0',Hs',τ',fp',y,st',sm',e2,λ u Hs2 H2 g2 r2=>?_⟩;obtain ⟨Hs3,dx,dy,d,sm3,rx,ry,eo,k⟩:=kk2 u Hs2 H2 g2 r2
 cases rx with
 | @dct a kvs ds hH rk =>
  obtain ⟨key,ek,ev⟩:=bind_some (eo);obtain ⟨w,hw,rw'⟩:=(rk.val).1 d ev;have:=jY ry ek;subst this;exact ⟨a,w,rfl,by rw [<- hw]; exact sS.k (sm3 _ _ hH),k w Hs3 H2 (.refl sm3) rw'⟩
 | @dfz a kvs ds hH rk =>
  obtain ⟨key,ek,ev⟩:=bind_some (show (kL dy).bind _=some d from eo);obtain ⟨w,hw,rw'⟩:=(rk.val (k:=key)).1 d ev;have:=jY ry ek;subst this;refine ⟨a,w,rfl,.inl ⟨_,key,hH.elim (λ z=>.inl (sm3 _ _ z)) (λ ⟨o,z⟩=>.inr ⟨o,sm3 _ _ z⟩),rfl,hw.symm⟩,k w Hs3 H2 (.refl sm3) rw'⟩
 | _=>simp [dz] at eo⟩
theorem wm (hu:X.A.units+64 < cLine) (hm:behindInMarks .In o=false) (hi:Bx (PEd X i f)) (ho:Bx (PEd X o g)):Bx (PTd X (.Compare i [.In] [o] pos) (dT (dOp Co f g))):=⟨have hi:=hi.out; have ho:=ho.out; (uj (Dy (by omega) hi ho) hm).imp λ σ H Q h=>vO (neg:=false) X.K (zW X.K h)⟩
theorem om (hu:X.A.units+64 < cLine) (hm:behindInMarks .NotIn o=false) (hi:Bx (PEd X i f)) (ho:Bx (PEd X o g)):Bx (PTd X (.Compare i [.NotIn] [o] pos) (dT (dOp jP f g))):=⟨have hi:=hi.out; have ho:=ho.out; (uj (m7 (by omega) hi ho) hm).imp λ σ H Q h=>vO (neg:=true) X.K (zW X.K h)⟩
theorem kj (ho:OpR X (compareOp op) (rdR X.K o)) (ho':OpR X (compareOp op') (rdR X.K o')) (ha:Bx (PEd X a f)) (hb:Bx (PEd X b g)) (hc:Bx (PEd X c h)) (hm:lastMarks [op,op'] [b,c]=false:=by with_unfolding_all rfl):Bx (PTd X (.Compare a [op,op'] [b,c] pos) (dT (oa (dOp o f g) (dOp o' g h)))):=⟨have ha:=ha.out; have hb:=hb.out; have hc:=hc.out; (xy ho ho' ha hb hc hm).imp λ σ H Q hh=>yx X.K (zW X.K hh)⟩
theorem sM (hm:X.mg "enumerate"=none) (ha:Bx (PAd X [a] f)) (hg:Gl X "enumerate":=by rfl) (hs:starEach [a] X.env=[(false,eval a X.env)]:=by rfl):Bx (PId X (.Tuple elts k pt) (.Call (.Name "enumerate" p) [a] [] pos) (vp f)):=⟨have ha:=ha.out; (AB hg hm ha hs).imp λ σ H R ⟨H0,Hs,τ,fp,ds,st,sm,e,k⟩=>by
 obtain ⟨x,e1,e2⟩:=bind_some e;refine ⟨H0,Hs,τ,fp,x,st,sm,e1,λ v Hs' H' g r=>?_⟩
 match x,r,e2 with
 | [y],.cons hy .nil,e2 =>
  cases hy with
  | @lst a1 xs1 ds1 h1 r1 =>
   have e':=Zj e2;subst e';exact ⟨a1,xs1,rfl,SqL.of (g.sh _ _ h1),k _ Hs' H' g (qA (SqL.of h1) r1)⟩
  | @fz a1 xs1 ds1 h1 r1 =>
   have e':iL ds1=ds:=Zj e2;subst e';exact ⟨a1,xs1,rfl,g.sh.seq h1,k _ Hs' H' g (qA h1 r1)⟩
  | _=>exact nn e2
 | [],_,e2=>simp at e2
 | _::_::_,_,e2=>simp at e2⟩
theorem wG (ho:Bx (PEd X o f)) (he:Bx (PEd X e g)) (hbase:attributeBase o "join" X.env (eval o X.env)=eval o X.env:=by rfl) (hfew:((backTo cpos (starEach [e] X.env)).all (λ x=>!x.1)&&(backToKw cpos (keywordEach [] X.env)).all (λ x=>x.1.isSome)
  && decide ([e].length+([]:List Keyword).length+(if ([]:List Keyword).isEmpty then 0 else 1) < 30))=true:=by rfl) (hline:(apos.endLine == cpos.line)=true:=by rfl) (hst:starEach [e] X.env=(false,eval e X.env)::starEach [] X.env:=by rfl) (hplain:(backTo cpos (starEach [] X.env)).any (·.1)=false:=by rfl):Bx (PEd X (.Call (.Attribute o "join" apos) [e] [] cpos) (BX f g)):=⟨have ho:=ho.out; have he:=he.out; (pb PySem.F.plainAttrs_str PySem.F.slot_str_join PySem.F.type_str_join Bi ho (au he aV hst) hbase hfew hline hst hplain).imp λ σ H Q ⟨H0,Hs,τ,fp,d,st,sm,e,k⟩=>by
 obtain ⟨x,e1,e⟩:=bind_some e;obtain ⟨y,e2,e⟩:=bind_some e
 obtain ⟨z,ds,rfl,rfl⟩:∃ z ds,x=.str z/\y=.lst ds:=by
  split at e
  · exact ⟨_,_,rfl,rfl⟩
  · cases e
 refine ⟨H0,Hs,τ,fp,_,st,sm,e1,λ v Hs1 H1 g1 r1=>?_⟩
 cases r1 with
 | str _ =>
  refine ⟨rfl,H0,Hs1,τ,fp,_,st.ext g1,g1.sh,e2,λ u Hs2 H2 g2 r2=>?_⟩
  cases r2 with
  | @lst p xs _ h r =>
   obtain ⟨ts,e3,e4⟩:=bind_some (e);have ed:=mS e3;subst ed;have ex:=r.jz;subst ex;split at e4
   ·rename_i hs
    have e':=Zj e4;subst e';exact ⟨z,p,ts,rfl,rfl,SqL.of (g2.sh _ _ h),Z5 hs (by decide),k _ Hs2 H2 (g1.trans g2) (.str _)⟩
   · cases e4⟩
theorem mG (hm:X.mg x=none) (hm2:X.mg y=none) (ha:Bx (PEd X a f)) (hc:X.calm=true:=by rfl) (hg:Gl X x:=by rfl) (hv:bootBuiltins x=some (.type "list"):=by decide +kernel) (hg2:Gl X y:=by rfl) (hv2:bootBuiltins y=some (.type "reversed"):=by decide +kernel) (hn:x≠"__name__":=by decide) (hdb:Dg x:=by decide) (hn2:y≠"__name__":=by decide) (hdb2:(y == ("__debug__":Str))=false:=by decide) (he:starEach [.Call (.Name y p2) [a] [] pos2] X.env=(false,eval (.Call (.Name y p2) [a] [] pos2) X.env)::starEach [] X.env:=by rfl) (hpl:(backTo pos (starEach [] X.env)).any (·.1)=false:=by rfl) (he2:starEach [a] X.env=(false,eval a X.env)::starEach [] X.env:=by rfl) (hpl2:(backTo pos2 (starEach [] X.env)).any (·.1)=false:=by rfl):Bx (PEo X (.Call (.Name x p) [.Call (.Name y p2) [a] [] pos2] [] pos) (EO f)):=⟨have ha:=ha.out; (zh hc hg hm hv hg2 hm2 hv2 ha hn hdb hn2 hdb2 he hpl he2 hpl2).imp λ σ H Q ⟨H0,Hs,τ,fp,d,st,sm,e,k⟩=>by
 obtain ⟨x,e1,e⟩:=bind_some e;refine ⟨H0,Hs,τ,fp,x,st,sm,e1,λ v Hs1 H1 g1 r1=>?_⟩
 have fin:∀ (p:Addr) (ys:List V) (ds:List D),H1 p=none->Rps X.K Hs1 ys ds->d=.lst ds->Q (.ref p) (upd H1 p (.lst ys)):=λ p ys ds hp r ed=>by
  subst ed;exact k p Hs1 _ ⟨g1.ss,g1.sh.trans (ar hp _),g1.hh.trans (ar hp _),g1.fr⟩ (.lst ai (g1.sh.free hp) r) (g1.hh.free hp)
 cases r1 with
 | @lst a ys ds h r=>exact ⟨_,_,rfl,SqL.of (g1.sh _ _ h),λ l hl=>fin l _ _ hl r.reverse (Zj e).symm⟩
 | @fz a ys ds h r=>exact ⟨_,_,rfl,g1.sh.seq h,λ l hl=>fin l _ _ hl r.reverse (Zj e).symm⟩
 | _=>exact nn e⟩
theorem wA (ha:Bx (PEd X a f)) (hb:Bx (PEd X b g)):Bx (PEo X (.BinOp a .Add b pos) (ES f g)):=⟨have ha:=ha.out; have hb:=hb.out; (AF uC ha hb).imp λ σ H Q ⟨H0,Hs,τ,fp,d,st,sm,e,k⟩=>by
 obtain ⟨x,e1,e⟩:=bind_some e;obtain ⟨y,e2,e⟩:=bind_some e
 obtain ⟨ds,es,rfl,rfl⟩:∃ ds es,x=.lst ds/\y=.lst es:=by
  split at e
  · exact ⟨_,_,rfl,rfl⟩
  · cases e
 refine ⟨H0,Hs,τ,fp,_,st,sm,e1,λ v Hs1 H1 g1 r1=>?_⟩;refine ⟨H0,Hs1,τ,fp,_,st.ext g1,g1.sh,e2,λ u Hs2 H2 g2 r2=>?_⟩
 cases r1 with
 | @lst p xs _ h r=>cases r2 with
  | @lst p' ys _ h' r' =>
   simp only at e;split at e
   ·rename_i hh
    have e':=Zj e;subst e';have g12:=g1.trans g2;refine ⟨p,p',xs,ys,rfl,rfl,g2.sh _ _ (g2.ss _ _ h),g2.sh _ _ h',by rw [r.length,r'.length]; exact pH hh,λ q hq=>?_⟩;exact k q Hs2 _ ⟨g12.ss,g12.sh.trans (ar hq _),g12.hh.trans (ar hq _),g12.fr⟩ (.lst ai (g12.sh.free hq) ((r.same g2.ss).append r')) (g12.hh.free hq)
   · cases e⟩
theorem ot (i:Nat) (hN:X.N[i]?=some x:=by exact rfl) (he:Bx (PEd X e f)) (hv:Vis X.env.scope x:=by walk_at "w") (hd:Dg x:=by decide) (hcd:Dc x:=by decide) (hbase:attributeBase (.Name x p) "extend" X.env (eval (.Name x p) X.env)=eval (.Name x p) X.env:=by rfl) (hfew:((backTo cpos (starEach [e] X.env)).all (λ x=>!x.1)&&(backToKw cpos (keywordEach [] X.env)).all (λ x=>x.1.isSome)
  && decide ([e].length+([]:List Keyword).length+(if ([]:List Keyword).isEmpty then 0 else 1) < 30))=true:=by rfl) (hline:(apos.endLine == cpos.line)=true:=by rfl) (hst:starEach [e] X.env=(false,eval e X.env)::starEach [] X.env:=by rfl) (hplain:(backTo cpos (starEach [] X.env)).any (·.1)=false:=by rfl) (hs:swapsWith (.Call (.Attribute (.Name x p) "extend" apos) [e] [] cpos) none pos.line X.env=pure false:=by rfl):Bx (PSd X (.Expr (.Call (.Attribute (.Name x p) "extend" apos) [e] [] cpos) pos) (Cm i f)):=⟨have he:=he.out; (bX (pb Yn PySem.F.slot_list_extend PySem.F.type_list_extend uR (dH hN hv hd hcd) (au he aV hst) hbase hfew hline hst hplain) hs).imp λ E σ H ⟨Hs0,H0,Hs,τ,o,r,e,k⟩=>by
 obtain ⟨es,ds,e1,q,hl,rfl⟩:=EH e;obtain ⟨fp,h⟩:=r.st;obtain ⟨a,h1,h2,h3,h4⟩:=h.BK q
 cases h2 with
 | @lst xs _ hH hn hr =>
  refine ⟨_,h1,.inl ⟨rfl,_,SqL.of hH⟩,?_⟩;refine ⟨H0,Hs,τ,fp,_,h,r.same,e1,λ v Hs' H' g1 rv=>?_⟩;have hH':=g1.hh _ _ hH;have h':=h.ext g1;have n':=g1.fr a hn (aR hH)
  cases rv with
  | @lst b ys _ hB rb =>
   refine ⟨a,b,xs,ys,rfl,rfl,hH',g1.sh _ _ hB,by rw [hr.length,rb.length]; exact pH hl,?_⟩;refine k σ Hs' _ ⟨⟨r.ext.ss.trans g1.ss,λ b u z=>?_,λ b u z=>?_,λ b k1 k2=>?_⟩,fp,h'.mut q h1 (.lst ai n' ((hr.same g1.ss).append rb))⟩
   ·have ne:b≠a:=λ y=>by subst y; rw [n'] at z; cases z
    rw [af ne]; exact g1.sh b u z
   ·have ne:b≠a:=λ y=>by subst y; rw [h3] at z; cases z
    rw [af ne]; exact g1.hh b u (r.ext.hh b u z)
   · exact g1.fr b (r.ext.fr b k1 k2) (r.ext.hh.live k2)⟩
theorem wD (h:Bx (PEd X l f)):Bx (PId X tg l (BH f)):=⟨have h:=h.out; (Dq h).imp λ σ H R ⟨H0,Hs,τ,fp,ds,st,sm,e,k⟩=>by
 obtain ⟨x,e1,e2⟩:=bind_some e;refine ⟨H0,Hs,τ,fp,x,st,sm,e1,λ v Hs' H' g r=>?_⟩
 cases r with
 | str z =>
  have e':=Zj e2;subst e';exact ⟨z,rfl,k _ Hs' H' g BE⟩
 | _=>exact nn e2⟩
theorem ao (h:Bx (PVm X e f)):Bx (PEm X e f):=⟨PVm.em h.out⟩
theorem il (h:Bx (PEd X e g)):Bx (PVm X e (eS g)):=⟨have h:=h.out; PE.imp h λ σ H Q ⟨Hs0,H0,nf,ρ,Hs,τ,s,τ',r,e,k⟩=>by
 obtain ⟨d,e1,e2⟩:=bind_some e;split at e2
 ·rename_i hs
  cases e2;obtain ⟨fp,st⟩:=r.st;exact ⟨H,H,aQ τ,[],d,st.aQ r.sm,.refl H,e1,λ v Hs' H' g1 rv=>k v Hs H' g1.hh ((r.grow g1.hh).push (mV rv hs))⟩
 · cases e2⟩
theorem aS (h:Bx (PEd X e g)):Bx (PVm X e (eN g)):=⟨have h:=h.out; PE.imp h λ σ H Q ⟨Hs0,H0,nf,ρ,Hs,τ,s,τ',r,e,k⟩=>by
 obtain ⟨d,e1,e2⟩:=Zm e;cases e2;obtain ⟨fp,st⟩:=r.st
 exact ⟨H0,Hs,er τ,[],d,st.er,r.sm,e1,λ v Hs' H' g1 rv=>k v Hs' H' g1.hh ((r.ext' g1).push rv)⟩⟩
theorem ou (h:Bx (PEo X e g)):Bx (PVm X e (eO g)):=⟨have h:=h.out; PE.imp h λ σ H Q ⟨Hs0,H0,nf,ρ,Hs,τ,s,τ',r,e,k⟩=>by
 obtain ⟨d,e1,e2⟩:=bind_some e;split at e2
 ·split at e2
  ·rename_i hs
   cases e2;obtain ⟨fp,st⟩:=r.st;refine ⟨H,H,aQ τ,[],_,st.aQ r.sm,.refl H,e1,λ a Hs' H' g1 ow hn=>?_⟩
   cases ow with
   | lst h n rr=>exact k _ Hs H' g1.hh (r.Aq g1.hh (Od.lst h (r.sm.free hn) (iB rr hs)) λ c hc=>by rw [Zo.mp hc]; exact hn)
  · cases e2
 · cases e2⟩
theorem EV (i:Nat) (hN:X.N[i]?=some x:=by exact rfl) (hv:Vis X.env.scope x:=by walk_at "w") (hd:Dg x:=by decide) (hcd:Dc x:=by decide):Bx (PVm X (.Name x p) (eV i)):=⟨(dH hN hv hd hcd).imp λ σ H Q ⟨Hs0,H0,nf,ρ,Hs,τ,s,τ',r,e,k⟩=>by
 obtain ⟨fp,st⟩:=r.st;unfold eV at e;split at e
 ·rename_i m em
  cases e;obtain ⟨v,fq,fp',h1,h2,h3,h4,h5⟩:=st.out em;exact ⟨v,h1,k v Hs H (.refl H) ⟨r.ext,fq++fp',.mu h2 (λ e=>by cases e) (λ c hc=>(st.live c (h4 c hc).2).2.2) (λ c hc=>(h4 c hc).1) h3⟩⟩
 ·rename_i d ed
  cases e;obtain ⟨v,h1,h2⟩:=Ls st ed;exact ⟨v,h1,k v Hs H (.refl H) (r.push h2)⟩
 · cases e⟩
theorem aB (i:Nat) (hN:X.N[i]?=some x:=by exact rfl) (hv:Vis X.env.scope x:=by walk_at "w") (hd:Dg x:=by decide) (hcd:Dc x:=by decide):Bx (PXm X (.Name x p) (cD i)):=⟨(dH hN hv hd hcd).imp λ σ H Q ⟨Hs0,H0,nf,ρ,Hs,τ,i',q,m,r,e,eg,k⟩=>by
 cases e;obtain ⟨b,m',e3,e4⟩:=dQ eg;obtain ⟨fp,st⟩:=r.st;obtain ⟨v,fp1,v1,w1,w2,_⟩:=st.sV e3 e4
 exact ⟨v,w1,k v v H (.refl H) w1 (by cases v <;> rfl)⟩⟩
theorem cu (cl:Cls X.K C) (n:cQ X.K C x) (he:Bx (PXm X e f)) (hb:attributeBase e x X.env (eval e X.env)=eval e X.env:=by rfl):Bx (PXm X (.Attribute e x pos) (jg C x f)):=⟨have he:=he.out; (uv he hb).imp λ σ H Q ⟨Hs0,H0,nf,ρ,Hs,τ,i',q',m,r,e,eg,k⟩=>by
 obtain ⟨⟨i,q⟩,e1,e2⟩:=bind_some e;split at e2
 ·rename_i C' cs en
  split at e2
  ·rename_i hc
   subst hc;cases e2;refine ⟨Hs0,H0,nf,ρ,Hs,τ,i,q,_,r,e1,en,λ v v1 H' g hv hq=>?_⟩;obtain ⟨a,dx,ts,u,w,rfl,rfl,ha,hl,w1,w2⟩:=(r.grow g).child en eg hv hq;generalize ek:ts.map Kd.kv=kvs at hl
   cases hl with
   | o fs =>
    have w3:((cB (fs.map λ f=>((Sum.inr f.1:Key),f.2)) (.inr x)).bind λ v=>vAt H' v [])=some w:=by
     have:=w2;simp only [vAt,ha] at this;exact this
    obtain ⟨y,h1,h2⟩:=bind_some w3;have ey:y=w:=by cases y <;> exact Zj h2
    subst ey;rw [lK] at h1;exact ⟨a,C',dx,fs,y,rfl,ha,cl,n,h1,k v y H' g hv w1⟩
  · cases e2
 · cases e2⟩
theorem ic (hu:X.A.units+1 < cLine) (hs:F1 b) (he:Bx (PXm X a f)) (hk:Bx (PEd X b g)):Bx (PXm X (.Subscript a b pos) (xr f g)):=⟨have he:=he.out; have hk:=hk.out; (uw hu he hk hs).imp λ σ H Q ⟨Hs0,H0,nf,ρ,Hs,τ,i',q',m,r,e,eg,k⟩=>by
 obtain ⟨⟨i,q⟩,e1,e2⟩:=bind_some e;obtain ⟨d,e3,e4⟩:=bind_some e2;obtain ⟨ky,e5,e6⟩:=bind_some e4;split at e6
 ·rename_i cs en
  cases e6;refine ⟨Hs0,H0,nf,ρ,Hs,τ,i,q,_,r,e1,en,λ v v1 H1 g1 hv hq=>?_⟩;have r1:=r.grow g1;obtain ⟨fp,st⟩:=r1.st;refine ⟨H1,H1,aQ τ,[],d,st.aQ r1.sm,.refl H1,e3,λ y Hs2 H2 g2 ry=>?_⟩;have hy:=jY ry e5;subst hy;obtain ⟨a,dx,ts,u,w,rfl,rfl,ha,hl,w1,w2⟩:=(r1.grow g2.hh).child en eg hv (ck g2.hh q hq);generalize ek:ts.map Kd.kv=kvs at hl
  cases hl with
  | d _ =>
   have w3:((cB kvs ky).bind λ v=>vAt H2 v [])=some w:=by
    have:=w2;simp only [vAt,ha] at this;exact this
   obtain ⟨y,h1,h2⟩:=bind_some w3;have ey:y=w:=by cases y <;> exact Zj h2
   subst ey;exact ⟨a,y,rfl,by rw [<- h1]; exact sS.k ha,k v y H2 (g1.trans g2.hh) hv w1⟩
 · cases e6⟩
theorem a6  : Bx (rC X [] kT):=⟨iC.imp λ E σ H ⟨Hs0,H0,nf,ρ,Hs,τ,o,r,e,k⟩=>by
 cases e
 exact k σ Hs H r⟩
section
variable {X:Cx} {a b c e o:Expr} {es:List Expr} {pos apos cpos pos':Pos} {x:Str} {st:Stmt} {rest:List Stmt} {f g:DSm}
theorem aE (h:Bx (PSm X st f)):Bx (rC X [st] f):=⟨have h:=h.out; br h⟩
end
section
variable {X:Cx} {a b c e o:Expr} {es:List Expr} {pos apos cpos pos':Pos} {x:Str} {st:Stmt} {rest:List Stmt} {f g:DSm}
theorem ae (h1:Bx (PSm X st f)) (h2:Bx (rC X rest g)):Bx (rC X (st::rest) (gP f g)):=⟨have h1:=h1.out; have h2:=h2.out; (aX h1 h2).imp λ E σ H ⟨Hs0,H0,nf,ρ,Hs,τ,o,r,e,k⟩=>by
 unfold gP at e
 cases q:f τ with
 | none=>rw [q] at e; cases e
 | some o1 =>
  rw [q] at e;refine ⟨Hs0,H0,nf,ρ,Hs,τ,o1,r,q,?_⟩
  cases o1 with
  | next τ'=>exact λ σ' Hs' H' r'=>⟨Hs0,H0,nf,ρ,Hs',τ',o,r',e,k⟩
  | ret s τ'=>cases e; exact k
  | brk τ'=>cases e; exact k
  | cnt τ'=>cases e; exact k⟩
end
section
variable {X:Cx} {a b c e o:Expr} {es:List Expr} {pos apos cpos pos':Pos} {x:Str} {st:Stmt} {rest:List Stmt} {f g:DSm}
theorem eu  : Bx (PSm X st Ad):=⟨λ _ _ _ _ _ _ ⟨_,_,_,_,_,_,_,_,e,_⟩=>by cases e⟩
end
theorem bE (hc:Bx (PTm X c t)) (ha:Bx (rC X x f)) (hb:Bx (rC X y g)):Bx (PSm X (.If c x y pos) (tR t f g)):=⟨have hc:=hc.out; have ha:=ha.out; have hb:=hb.out; (xC hc ha hb).imp λ E σ H ⟨Hs0,H0,nf,ρ,Hs,τ,o,r,e,k⟩=>by
 obtain ⟨⟨bb,τ1⟩,e1,e2⟩:=bind_some e;refine ⟨Hs0,H0,nf,ρ,Hs,τ,bb,τ1,r,e1,λ Hs' H' r'=>?_⟩
 cases bb with
 | true=>exact ⟨Hs0,H0,nf,ρ,Hs',τ1,o,r',by simpa using e2,k⟩
 | false=>exact ⟨Hs0,H0,nf,ρ,Hs',τ1,o,r',by simpa using e2,k⟩⟩
theorem bH (h:Bx (PEm X e f)):Bx (PSm X (.Return (some e) pos) (mY f)):=⟨have h:=h.out; (dG h).imp λ E σ H ⟨Hs0,H0,nf,ρ,Hs,τ,o,r,e,k⟩=>by
 obtain ⟨⟨s,τ1⟩,e1,rfl⟩:=Zm e
 exact ⟨Hs0,H0,nf,ρ,Hs,τ,s,τ1,r,e1,λ v Hs' H' r'=>k v σ Hs' H' r'⟩⟩
theorem aC (i:Nat) (hN:X.N.Nodup) (hi:X.N[i]?=some x:=by exact rfl) (he:Bx (PEm X e f)) (hx:Loc X.env.scope x:=by walk_at "v") (hs:Sw X e x pos' pos:=by rfl) (hf:Xl X x:=by walk_at "v"):Bx (PSm X (.Assign [.Name x pos'] e pos) (mX i f)):=⟨have he:=he.out; (fY hN hi hx he hs hf).imp λ E σ H ⟨Hs0,H0,nf,ρ,Hs,τ,o,r,e,k⟩=>by
 obtain ⟨⟨s,τ1⟩,e1,e2⟩:=bind_some e;split at e2
 ·rename_i h
  cases e2;exact ⟨Hs0,H0,nf,ρ,Hs,τ,s,τ1,r,e1,λ v Hs' H' r'=>k _ Hs' H' (r'.into h.1 h.2)⟩
 · cases e2⟩
theorem lE (he:Bx (PEm X e f)) (hs:swapsWith e none pos.line X.env=pure false:=by rfl):Bx (PSm X (.Expr e pos) (mZ f)):=⟨have he:=he.out; (bX he hs).imp λ E σ H ⟨Hs0,H0,nf,ρ,Hs,τ,o,r,e,k⟩=>by
 obtain ⟨⟨s,τ1⟩,e1,rfl⟩:=Zm e
 exact ⟨Hs0,H0,nf,ρ,Hs,τ,s,τ1,r,e1,λ v Hs' H' r'=>k σ Hs' H' r'.pop⟩⟩
theorem bt (he:Bx (PEd X e g)) (hs:swapsWith e none pos.line X.env=pure false:=by rfl):Bx (PSm X (.Expr e pos) (tU g)):=⟨have he:=he.out; (bX he hs).imp λ E σ H ⟨Hs0,H0,nf,ρ,Hs,τ,o,r,e,k⟩=>by
 obtain ⟨d,e1,rfl⟩:=Zm e;obtain ⟨fp,st⟩:=r.st
 exact ⟨H,H,aQ τ,[],d,st.aQ r.sm,.refl H,e1,λ v Hs' H' g1 rv=>k σ Hs H' (r.grow g1.hh)⟩⟩
theorem c7 (h:Bx (PTd X e g)):Bx (PTm X e (tS g)):=⟨have h:=h.out; PT.imp h λ σ H Q ⟨Hs0,H0,nf,ρ,Hs,τ,b,τ',r,e,k⟩=>by
 obtain ⟨b',e1,e2⟩:=Zm e;cases e2;obtain ⟨fp,st⟩:=r.st
 exact ⟨H,H,aQ τ,[],b,st.aQ r.sm,.refl H,e1,λ Hs' H' g1=>k Hs H' (r.grow g1.hh)⟩⟩
theorem kh (h:Bx (PEm X e f)) (he:∀ whole,isTrue e X.env whole=(do let v <- whole; standAt e.pos; holding [v] (truthy v)):=by intro _; rfl):Bx (PTm X e (tE f)):=⟨have h:=h.out; (qk h he).imp λ σ H Q ⟨Hs0,H0,nf,ρ,Hs,τ,b,τ',r,e,k⟩=>by
 obtain ⟨⟨s,τ1⟩,e1,e2⟩:=bind_some e;split at e2
 ·rename_i b' es
  cases e2;have es':s=.shr (.bl b):=es;subst es';refine ⟨Hs0,H0,nf,ρ,Hs,τ,_,τ1,r,e1,λ v Hs' H' r'=>?_⟩;have:=r'.st;obtain ⟨fp,st⟩:=this
  cases st with
  | shr h _=>cases h; exact ⟨b,rfl,k Hs' H' r'.pop⟩
 · cases e2⟩
theorem ki (h:Bx (PTm X e f)):Bx (PTm X (.UnaryOp .Not e pos) (tNt f)):=⟨have h:=h.out; (zb h).imp λ σ H Q ⟨Hs0,H0,nf,ρ,Hs,τ,b,τ',r,e,k⟩=>by
 obtain ⟨⟨b',τ1⟩,e1,e2⟩:=Zm e;cases e2
 exact ⟨Hs0,H0,nf,ρ,Hs,τ,b',_,r,e1,λ Hs' H' r'=>k Hs' H' r'⟩⟩
theorem bh (hu:X.A.units+1 < cLine) (ho:Bx (PXm X o px)) (hi:Bx (PEd X i gk)) (hv:Bx (PEm X value fv)) (hs:swapsWith value (some (.Subscript o i pos')) pos.line X.env=pure false:=by rfl):Bx (PSm X (.Assign [.Subscript o i pos'] value pos) (cJ px gk fv)):=⟨have ho:=ho.out; have hi:=hi.out; have hv:=hv.out; (oY hu ho hi hv hs).imp λ E σ H ⟨Hs0,H0,nf,ρ,Hs,τ,o,r,e,k⟩=>by
 obtain ⟨⟨s,τ1⟩,e1,e⟩:=bind_some e;obtain ⟨⟨i,q⟩,e2,e⟩:=bind_some e;obtain ⟨d,e3,e⟩:=bind_some e;obtain ⟨ky,e4,e⟩:=bind_some e;obtain ⟨mv,e5,e⟩:=bind_some e;split at e
 ·rename_i cs en
  split at e
  ·rename_i hz
   cases e;refine ⟨Hs0,H0,nf,ρ,Hs,τ,s,τ1,r,e1,λ v Hs1 H1 r1=>?_⟩;refine ⟨Hs0,H0,nf,ρ,Hs1,τ1,i,q,_,r1.pop,e2,en,λ rt v1 H2 g2 hrt hq=>?_⟩;have r2:=r1.grow g2;obtain ⟨fp,st⟩:=r2.pop.st;refine ⟨H2,H2,aQ τ1,[],d,st.aQ r2.sm,.refl H2,e3,λ y Hs3 H3 g3 ry=>?_⟩;have hy:=jY ry e4;subst hy;obtain ⟨a,dx,ts,u,fv,rfl,rfl,ha,hl,ku,fin⟩:=(r2.grow g3.hh).uN e5 en hrt (ck g3.hh q hq);obtain ⟨l1,l2,hsub,spl⟩:=jC ky ku;obtain ⟨p1,p2,p3⟩:=spl ⟨ky,v,mv,fv⟩ rfl;generalize ek:ts.map Kd.kv=kvs at hl
   cases hl with
   | d _ =>
    refine ⟨a,_,rfl,Cj.k ha (by rw [<- ek,Za,<- Za (f:=Kd.km)]; exact le5 (Yk hz)),?_⟩;have:=fin l1 ky l2 (.dK (putK kvs ky v)) hsub (by rw [p1,ek]; exact .d _) p3;rw [p2] at this;exact k σ Hs1 _ this
  · cases e
 · cases e⟩
theorem cM (cl:Cls X.K C) (n:cQ X.K C x) (ho:Bx (PXm X o px)) (hv:Bx (PEm X value fv)) (hs:swapsWith value (some (.Attribute o x pos')) pos.line X.env=pure false:=by rfl):Bx (PSm X (.Assign [.Attribute o x pos'] value pos) (tT C x px fv)):=⟨have ho:=ho.out; have hv:=hv.out; (Dp ho hv hs).imp λ E σ H ⟨Hs0,H0,nf,ρ,Hs,τ,o,r,e,k⟩=>by
 obtain ⟨⟨s,τ1⟩,e1,e⟩:=bind_some e;obtain ⟨⟨i,q⟩,e2,e⟩:=bind_some e;obtain ⟨mv,e5,e⟩:=bind_some e;split at e
 ·rename_i C' cs en
  split at e
  ·rename_i hz
   obtain ⟨hc,hz⟩:=hz;subst hc;cases e;refine ⟨Hs0,H0,nf,ρ,Hs,τ,s,τ1,r,e1,λ v Hs1 H1 r1=>?_⟩;refine ⟨Hs0,H0,nf,ρ,Hs1,τ1,i,q,_,r1.pop,e2,en,λ rt v1 H2 g2 hrt hq=>?_⟩;obtain ⟨a,dx,ts,u,fv,rfl,rfl,ha,hl,ku,fin⟩:=(r1.grow g2).uN e5 en hrt hq;obtain ⟨l1,l2,hsub,spl⟩:=jC (.inr x) ku;obtain ⟨p1,p2,p3⟩:=spl ⟨.inr x,v,mv,fv⟩ rfl;have ku':(ts.map Kd.k).Nodup:=ku;generalize ek:ts.map Kd.kv=kvs at hl
   cases hl with
   | o fs =>
    have nf:(fs.map Prod.fst).Nodup:=by
     have e0:ts.map Kd.k=(fs.map Prod.fst).map (λ x=>(Sum.inr x:Key)):=by
      rw [Zw,show ts.map Kd.k=(ts.map Kd.kv).map Prod.fst by rw [Zw]; rfl,ek,Zw];rfl
     rw [e0] at ku';exact List.Pairwise.of_map _ (λ a b h e=>h (by rw [e])) ku'
    refine ⟨a,C',dx,fs,rfl,ha,cl,n,?_,?_⟩
    ·have:=Z7 List.length ek
     rw [Za,Za] at this;rw [Za] at hz;omega
    ·have:=fin l1 (.inr x) l2 (.ins C' dx (kG x v fs)) hsub (by rw [p1,ek,<- qj nf]; exact .o _) p3
     rw [p2] at this;exact k σ Hs1 _ this
  · cases e
 · cases e⟩
theorem wt (ho:Bx (PXm X o px)) (he:Bx (PVm X e fv)) (hbase:attributeBase o "append" X.env (eval o X.env)=eval o X.env:=by rfl) (hfew:((backTo cpos (starEach [e] X.env)).all (λ x=>!x.1)&&(backToKw cpos (keywordEach [] X.env)).all (λ x=>x.1.isSome)
  && decide ([e].length+([]:List Keyword).length+(if ([]:List Keyword).isEmpty then 0 else 1) < 30))=true:=by rfl) (hline:(apos.endLine == cpos.line)=true:=by rfl) (hst:starEach [e] X.env=(false,eval e X.env)::starEach [] X.env:=by rfl) (hplain:(backTo cpos (starEach [] X.env)).any (·.1)=false:=by rfl) (hs:swapsWith (.Call (.Attribute o "append" apos) [e] [] cpos) none pos.line X.env=pure false:=by rfl):Bx (PSm X (.Expr (.Call (.Attribute o "append" apos) [e] [] cpos) pos) (xo px fv)):=⟨have ho:=ho.out; have he:=he.out; (bX (pb Yn PySem.F.slot_list_append PySem.F.type_list_append jR ho (au he aV hst) hbase hfew hline hst hplain) hs).imp λ E σ H ⟨Hs0,H0,nf,ρ,Hs,τ,o,r,e,k⟩=>by
 obtain ⟨⟨i,q⟩,e1,e⟩:=bind_some e;split at e
 ·rename_i cs0 en0
  obtain ⟨⟨s,τ1⟩,e2,e⟩:=bind_some e;obtain ⟨mv,e3,e⟩:=bind_some e;split at e
  ·rename_i cs en
   split at e
   ·rename_i hz
    cases e;refine ⟨Hs0,H0,nf,ρ,Hs,τ,i,q,_,r,e1,en0,λ rt v1 H1 g1 hrt hq=>⟨(r.grow g1).isList en0 hrt hq,?_⟩⟩;refine ⟨Hs0,H0,nf,ρ,Hs,τ,s,τ1,r.grow g1,e2,λ v Hs2 H2 g2 r2=>?_⟩;obtain ⟨a,dx,ts,u,fv,rfl,rfl,ha,hl,ku,fin⟩:=r2.uN e3 en hrt (ck g2 q hq);rw [yb hl] at ha;refine ⟨a,_,v,rfl,rfl,ha,by rw [Za]; rw [Za] at hz; exact le5 (Yk hz),?_⟩
    have:=fin ts (.inl 0) [] (.lst (ts.map Kd.v++[v])) (by rw [Z1]; exact .refl _) (by
     have:=va (dx:=dx) (ts:=ts++[⟨.inl 0,v,mv,fv⟩]);rw [Zp (f:=Kd.v)] at this
     exact this) trivial
    rw [Zp] at this;exact k σ Hs2 _ this
   · cases e
  · cases e
 · cases e⟩
theorem ie (ho:Bx (PXm X o px)) (hi:Bx (PEd X i gi)) (he:Bx (PVm X e fv)) (hbase:attributeBase o "insert" X.env (eval o X.env)=eval o X.env:=by rfl) (hfew:((backTo cpos (starEach [i,e] X.env)).all (λ x=>!x.1)&&(backToKw cpos (keywordEach [] X.env)).all (λ x=>x.1.isSome)
  && decide ([i,e].length+([]:List Keyword).length+(if ([]:List Keyword).isEmpty then 0 else 1) < 30))=true:=by rfl) (hline:(apos.endLine == cpos.line)=true:=by rfl) (hst:starEach [i,e] X.env=(false,eval i X.env)::starEach [e] X.env:=by rfl) (hst2:starEach [e] X.env=(false,eval e X.env)::starEach [] X.env:=by rfl) (hplain:(backTo cpos (starEach [e] X.env)).any (·.1)=false:=by rfl) (hs:swapsWith (.Call (.Attribute o "insert" apos) [i,e] [] cpos) none pos.line X.env=pure false:=by rfl):Bx (PSm X (.Expr (.Call (.Attribute o "insert" apos) [i,e] [] cpos) pos) (Ae px gi fv)):=⟨have ho:=ho.out; have hi:=hi.out; have he:=he.out; (bX (Dw (KK:=X.K) rfl ho hi he hbase hfew hline hst hst2 hplain) hs).imp λ E σ H ⟨Hs0,H0,nf,ρ,Hs,τ,o,r,e,k⟩=>by
 obtain ⟨⟨i,q⟩,e1,e⟩:=bind_some e;split at e
 ·rename_i cs0 en0
  obtain ⟨d,e4,e5⟩:=bind_some e;obtain ⟨⟨s,τ1⟩,e2,e6⟩:=bind_some e5;obtain ⟨mv,e3,e7⟩:=bind_some e6;clear e e5 e6;split at e7
  ·rename_i j cs en
   split at e7
   ·rename_i hz
    obtain ⟨h0,h1,hz⟩:=hz;cases e7;refine ⟨Hs0,H0,nf,ρ,Hs,τ,i,q,_,r,e1,en0,λ rt v1 H1 g1 hrt hq=>⟨(r.grow g1).isList en0 hrt hq,?_⟩⟩;have r1:=r.grow g1;obtain ⟨fp,st⟩:=r1.st;refine ⟨H1,H1,aQ τ,[],_,st.aQ r1.sm,.refl H1,e4,λ y Hs2 H2 g2 ry=>?_⟩;cases ry;have r2:=r1.grow g2.hh;refine ⟨Hs0,H0,nf,ρ,Hs,τ,s,τ1,r2,e2,λ v Hs3 H3 g3 r3=>?_⟩;obtain ⟨a,dx,ts,u,fv,rfl,rfl,ha,hl,ku,fin⟩:=r3.uN e3 en hrt (ck g3 q (ck g2.hh q hq));rw [yb hl] at ha;rw [Za] at h1 hz;refine ⟨a,_,j,v,rfl,rfl,ha,h0,by rw [Za]; exact h1,by rw [Za]; exact le5 (Yk hz),by omega,?_⟩
    have:=fin (ts.take j.toNat) (.inl 0) (ts.drop j.toNat) (.lst ((ts.map Kd.v).take j.toNat++v::(ts.map Kd.v).drop j.toNat)) (by rw [List.take_append_drop]; exact .refl _) (by
     have:=va (dx:=dx) (ts:=ts.take j.toNat++⟨.inl 0,v,mv,fv⟩::ts.drop j.toNat);rw [Zp (f:=Kd.v),Zg,List.map_take,List.map_drop] at this
     exact this) trivial
    rw [Zp,Zg,List.map_take,List.map_drop] at this;exact k σ Hs3 _ this
   · cases e7
  · cases e7
 · cases e⟩
theorem oq (ho:Bx (PXm X o px)) (he:Bx (PEd X e g)) (hbase:attributeBase o "remove" X.env (eval o X.env)=eval o X.env:=by rfl) (hfew:((backTo cpos (starEach [e] X.env)).all (λ x=>!x.1)&&(backToKw cpos (keywordEach [] X.env)).all (λ x=>x.1.isSome)
  && decide ([e].length+([]:List Keyword).length+(if ([]:List Keyword).isEmpty then 0 else 1) < 30))=true:=by rfl) (hline:(apos.endLine == cpos.line)=true:=by rfl) (hst:starEach [e] X.env=(false,eval e X.env)::starEach [] X.env:=by rfl) (hplain:(backTo cpos (starEach [] X.env)).any (·.1)=false:=by rfl) (hs:swapsWith (.Call (.Attribute o "remove" apos) [e] [] cpos) none pos.line X.env=pure false:=by rfl):Bx (PSm X (.Expr (.Call (.Attribute o "remove" apos) [e] [] cpos) pos) (xk px g)):=⟨have ho:=ho.out; have he:=he.out; (bX (pb Yn PySem.F.slot_list_remove PySem.F.type_list_remove uP ho (au he aV hst) hbase hfew hline hst hplain) hs).imp λ E σ H ⟨Hs0,H0,nf,ρ,Hs,τ,o,r,e,k⟩=>by
 obtain ⟨⟨i,q⟩,e1,e⟩:=bind_some e;obtain ⟨d,e2,e⟩:=bind_some e;split at e
 ·rename_i ky cs en
  obtain ⟨ns,e3,e⟩:=bind_some e;split at e
  ·rename_i hz
   cases e;refine ⟨Hs0,H0,nf,ρ,Hs,τ,i,q,_,r,e1,en,λ rt v1 H1 g1 hrt hq=>⟨(r.grow g1).isList en hrt hq,?_⟩⟩;have r1:=r.grow g1;obtain ⟨fp,st⟩:=r1.st;refine ⟨H1,H1,aQ τ,[],_,st.aQ r1.sm,.refl H1,e2,λ y Hs2 H2 g2 ry=>?_⟩;cases ry;have r2:=r1.grow g2.hh;obtain ⟨a,dx,ts,u,rfl,rfl,ha,hl,ku,hrp,fin⟩:=r2.A4 en hrt (ck g2.hh q hq);rw [yb hl] at ha
   have ev:ts.map Kd.v=ns.map V.int:=by
    have h1:=tW hrp;rw [Zw,j0 e3] at h1;exact Rps.gy h1
   rw [ev] at ha;refine ⟨a,ns,ky,rfl,rfl,ha,hz.1,hz.2,?_⟩
   have:=fin (ts.eraseIdx (ns.idxOf ky)) [] (.lst ((ns.eraseIdx (ns.idxOf ky)).map V.int)) (List.eraseIdx_sublist ..) (λ k hk=>by cases hk) (by
    have:=va (dx:=dx) (ts:=ts.eraseIdx (ns.idxOf ky));rw [jS Kd.v,ev,<- jS] at this;rw [Z1]
    exact this) trivial
   rw [Z1,jS Kd.km] at this;exact k σ Hs _ this
  · cases e
 · cases e⟩
theorem EU (h:Bx (PEd X e g)):Bx (PQm X e (qS g)):=⟨have h:=h.out; PE.imp h λ σ H Q ⟨Hs0,H0,nf,ρ,Hs,τ,a,r,e,k⟩=>by
 obtain ⟨d,e1,e2⟩:=bind_some e;split at e2
 ·rename_i hs
  cases e2;obtain ⟨fp,st⟩:=r.st;exact ⟨H,H,aQ τ,[],d,st.aQ r.sm,.refl H,e1,λ v Hs' H' g1 rv=>k v Hs H' g1.hh (r.grow g1.hh) (.refl _) (.v (mV rv hs) .nil)⟩
 · cases e2⟩
theorem cb (h:Bx (PEd X e g)):Bx (PQm X e (qN g)):=⟨have h:=h.out; PE.imp h λ σ H Q ⟨Hs0,H0,nf,ρ,Hs,τ,a,r,e,k⟩=>by
 obtain ⟨d,e1,e2⟩:=Zm e;cases e2;obtain ⟨fp,st⟩:=r.st
 exact ⟨H0,Hs,er τ,[],d,st.er,r.sm,e1,λ v Hs' H' g1 rv=>k v Hs' H' g1.hh (r.ext' g1) g1.ss (.v rv .nil)⟩⟩
theorem ig (h:Bx (PXm X e f)):Bx (PQm X e (qX f)):=⟨have h:=h.out; PE.imp h λ σ H Q ⟨Hs0,H0,nf,ρ,Hs,τ,a,r,e,k⟩=>by
 obtain ⟨⟨i,q⟩,e1,e2⟩:=bind_some e;split at e2
 ·rename_i t cs eg
  cases e2;exact ⟨Hs0,H0,nf,ρ,Hs,τ,i,q,_,r,e1,eg,λ v v1 H' g hv hq=>k v1 Hs H' g (r.grow g) (.refl _) (.p hv hq .nil)⟩
 ·rename_i d eg
  cases e2;refine ⟨Hs0,H0,nf,ρ,Hs,τ,i,q,_,r,e1,eg,λ v v1 H' g hv hq=>?_⟩;have r':=r.grow g;obtain ⟨fp,st⟩:=r'.st;obtain ⟨b,m,e3,e4⟩:=dQ eg;obtain ⟨v',fp1,v1',w1,w2,w3,_⟩:=st.sV e3 e4;rw [hv] at w1;cases w1;rw [hq] at w2;cases w2
  cases w3 with
  | s rr=>exact k v1 Hs H' g r' (.refl _) (.v rr .nil)
 · cases e2⟩
theorem cw  : Bx (PAm X [] yI):=⟨aV.imp λ σ H Q ⟨Hs0,H0,nf,ρ,Hs,τ,as,r,e,k⟩=>by
 cases e
 exact k [] Hs H (.refl H) r (.refl _) .nil⟩
theorem az (h1:Bx (PQm X e h)) (h2:Bx (PAm X es g)) (hs:Se X e es:=by rfl):Bx (PAm X (e::es) (cP h g)):=⟨have h1:=h1.out; have h2:=h2.out; (au h1 h2 hs).imp λ σ H Q ⟨Hs0,H0,nf,ρ,Hs,τ,as,r,e,k⟩=>by
 obtain ⟨a,e1,e2⟩:=bind_some e;obtain ⟨as',e3,e4⟩:=Zm e2;cases e4;refine ⟨Hs0,H0,nf,ρ,Hs,τ,a,r,e1,λ v Hs1 H1 g1 r1 s1 a1=>?_⟩;refine ⟨Hs0,H0,nf,ρ,Hs1,τ,as',r1,e3,λ vs Hs2 H2 g2 r2 s2 a2=>?_⟩
 exact k (v::vs) Hs2 H2 (g1.trans g2) r2 (s1.trans s2) ((a1.ext s2 g2).app a2)⟩
theorem ko (Fo:Go X.prog X.w X.K X.mg X.base k x (spM F X.K)) (hr:cg jj X.A) (ha:Bx (PAm X (e::es) g)) (hj:k<=jj:=by decide) (hg:Gl X x:=by rfl) (hdb:Dg x:=by decide) (he:Se X e es:=by rfl) (hpl:Sb X pos es:=by rfl):Bx (PEm X (.Call (.Name x p) (e::es) [] pos) (eC F g)):=by
 have ⟨f',fd',ps',hm,hk,hb,Fo⟩:=Fo.go;have hr:=hr.mono hj;exact ⟨AA Fo hr hg hm hk hb ha.out hdb he hpl⟩
theorem fi (c:Cls X.K C) (Fo:GoM X.prog X.w X.K X.mg X.base k C m (spM F X.K)) (hr:cg jj X.A) (ho:Bx (PXm X o fx)) (ha:Bx (PAm X (e::es) g)) (hj:k<=jj:=by decide) (hst:Se X e es:=by rfl) (hpl:Sb X pos es:=by rfl) (ht:eval (.Call (.Attribute o m apos) (e::es) [] pos) X.env=(do
  let ov <- eval o X.env
  standAt apos.atName
  let (f,first) <- holding [ov] (getMethod ov m pl)
  callWith pos f first (backTo pos (starEach (e::es) X.env)) (backToKw pos (keywordEach [] X.env))):=by rfl):Bx (PEm X (.Call (.Attribute o m apos) (e::es) [] pos) (eM C m F fx g)):=by
 have ⟨f',fd',ps',hm,hb,Fo⟩:=Fo.go;have hr:=hr.mono hj;exact ⟨Ay ho.out c hm Fo hr hb ha.out hst hpl ht⟩
theorem wB (Fo:GoI X.prog X.w X.K X.mg X.base k C (spM F X.K)) (hr:cg jj X.A) (hm:X.mg x=some (.ref C)) (ha:Bx (PAm X (e::es) g)) (hj:k+1<=jj:=by decide) (hg:Gl X x:=by rfl) (hdb:Dg x:=by decide) (he:Se X e es:=by rfl) (hpl:Sb X pos es:=by rfl):Bx (PEm X (.Call (.Name x p) (e::es) [] pos) (eK C F g)):=by
 have ⟨f',fd',ps',M,hb,Fo⟩:=Fo.go;have hr:=hr.mono hj;exact ⟨Az M Fo hr hg hm hb ha.out hdb he hpl⟩
theorem gE  : Bx (PVm X (.Dict [] [] pos) eD0):=⟨xH.imp λ σ H Q ⟨Hs0,H0,nf,ρ,Hs,τ,s,τ',r,e,k⟩=>by
 cases e;intro p hp
 exact k (.ref p) Hs _ (ar hp _) (r.Aq (ar hp _) (fq:=[p]) (Od.n (ts:=[]) (dx:=0) (u:=.dK []) ai (.d []) (r.sm.free hp) (by show ([]:List Key).Nodup; exact .nil) (by simp) (λ c hc=>by cases hc)) λ c hc=>by rw [Zo.mp hc]; exact hp)⟩
theorem rq (h:Bx (PEo X e g)):Bx (PVm X e (eF g)):=⟨K0 h.out⟩
theorem wC (hk:PE X kx (tC (kV kc))) (hv:Bx (PVm X value fv)):Bx (PVm X (.Dict [some kx] [value] pos) (eD1 kc fv)):=⟨have hv:=hv.out; (@AK X pos [some kx] [value] _ (@xD _ _ _ _ _ _ _ _ _ hk hv Au) rfl rfl (by simp) (by simp)).imp λ σ H Q ⟨Hs0,H0,nf,ρ,Hs,τ,s,τ',r,e,k⟩=>by
 obtain ⟨⟨s1,τ1⟩,e1,e2⟩:=bind_some e;obtain ⟨mv,e3,e4⟩:=Zm e2;cases e4;intro p hp;refine ⟨Hs0,upd H0 p (.dK []),nf.upd,ρ,Hs,τ,s1,τ1,r.hold hp,e1,λ v Hs2 H2 g2 r2=>?_⟩;obtain ⟨ex,hsp,hpp,fp,np,st⟩:=r2.Cz (r.old hp) (r.ext.ss.free (r.sm.free hp));refine ⟨hpp,[(kc,v)],rfl,Zb rfl,?_⟩
 have sm0:ba H (upd H2 p (.dK [(kc,v)])):=λ b o q=>by
  have nb:b≠p:=λ z=>by rw [z,hp] at q; cases q
  rw [af nb];exact g2 _ _ (by rw [af nb]; exact q)
 have ex':Ext Hs0 H0 Hs2 (upd H2 p (.dK [(kc,v)])):=by
  refine ⟨ex.ss,λ b o q=>?_,λ b o q=>?_,ex.fr⟩
  · rw [af (show b≠p from λ z=>by rw [z,hsp] at q; cases q)]; exact ex.sh b o q
  · rw [af (show b≠p from λ z=>by rw [z,r.old hp] at q; cases q)]; exact ex.hh b o q
 have fin:∀ {fq fr:List Addr},Od X.K Hs2 H2 fq v mv->p ∉ fq->p ∉ fr->(∀ c ∈ fq,H0 c=none)->(∀ c ∈ fq,c ∉ fr)->StM X.K H0 Hs2 H2 ρ σ τ1 fr->Q (.ref p) (upd H2 p (.dK [(kc,v)])):=λ {fq fr} od n1 n2 z j sr=>by
  refine k (.ref p) Hs2 _ sm0 ⟨ex',(p::fq)++fr,.mu (fq:=p::fq) ?_ (λ e=>by cases e) (λ c hc=>?_) (λ c hc=>?_) (sr.mv (.refl _) λ c hc=>⟨(sr.live c hc).1,af (show c≠p from λ q=>n2 (by rw [<- q]; exact hc))⟩)⟩
  ·have:=Od.n (K:=X.K) (Hs:=Hs2) (H:=upd H2 p (.dK [(kc,v)])) (a:=p) (dx:=0) (t:=.d) (ts:=[⟨kc,v,mv,fq⟩]) (u:=.dK [(kc,v)]) ai (.d _) hsp (by show [kc].Nodup; simp) (by
    rw [Yg,List.flatMap_nil,Z1]
    exact Zy.mpr ⟨n1,od.nd⟩) (λ c hc=>by
    rw [Zo.mp hc]
    exact od.mv (.refl _) λ x hx=>⟨(od.live x hx).1,af (show x≠p from λ q=>n1 (by rw [<- q]; exact hx))⟩)
   rw [Yg,List.flatMap_nil,Z1] at this;exact this
  ·rcases Zh.mp hc with q | q
   · rw [q]; exact r.old hp
   · exact z c q
  ·rcases Zh.mp hc with q | q
   · rw [q]; exact n2
   · exact j c q
 cases st with
 | no st=>cases e3
 | shr h st=>cases e3; exact fin (.s h) (by simp) np (λ c hc=>by cases hc) (λ c hc=>by cases hc) st
 | @mu _ _ b _ _ _ _ fq fr od hpn z j st =>
  cases b with
  | true=>cases e3
  | false=>cases e3; exact fin od (λ q=>np (Zn _ q)) (λ q=>np (Zc _ q)) z j st⟩
theorem lI (i:Nat) (hN:X.N.Nodup) (hi:X.N[i]?=some x:=by exact rfl) (hx:Loc X.env.scope x:=by walk_at "v") (hf:Xl X x:=by walk_at "v"):Bx (PGm X (.Name x pos) (gNm i)):=⟨(jF hN hi hx hf).imp λ v σ H Q ⟨Hs0,H0,nf,ρ,Hs,τ,τ',d,r,rv,e,k⟩=>by
 cases e
 exact k _ (r.oV rv)⟩
theorem sO  : Bx (F0 X [] qG):=⟨AE.imp λ v σ H Q ⟨Hs0,H0,nf,ρ,Hs,τ,τ',d,r,rv,e,k⟩=>by
 cases rv with
 | nil=>cases e; exact ⟨rfl,k σ r⟩
 | cons _ _=>simp [qG] at e⟩
theorem kq (h1:Bx (PGm X e g)) (h2:Bx (F0 X es h)) (hs:(assignEach (e::es) X.env).map (·.2)=assign e X.env::(assignEach es X.env).map (·.2):=by rfl):Bx (F0 X (e::es) (iJ g h)):=⟨have h1:=h1.out; have h2:=h2.out; (xE h1 h2 hs).imp λ v σ H Q ⟨Hs0,H0,nf,ρ,Hs,τ,τ',d,r,rv,e,k⟩=>by
 cases rv with
 | nil=>simp [iJ] at e
 | cons rx rr =>
  obtain ⟨τ1,e1,e2⟩:=bind_some e
  exact ⟨_,_,rfl,Hs0,H0,nf,ρ,Hs,τ,τ1,_,r,rx,e1,λ σ' r'=>⟨Hs0,H0,nf,ρ,Hs,τ1,τ',_,r',rr,e2,k⟩⟩⟩
theorem wF (h:Bx (F0 X es g)) (hc:X.calm=true:=by rfl) (hn:(assignEach es X.env).length=n:=by rfl) (hst:(assignEach es X.env).findIdx? (·.1)=none:=by rfl):Bx (PGm X (.Tuple es k' pos) (gTm n g)):=⟨have h:=h.out; (Dr hc h hn hst).imp λ v σ H Q ⟨Hs0,H0,nf,ρ,Hs,τ,τ',d,r,rv,e,k⟩=>by
 cases rv with
 | @tup a xs ds h rr =>
  simp only [gTm] at e;split at e
  ·rename_i hl
   exact ⟨a,xs,rfl,r.sm.tup h,by rw [rr.length]; exact hl,Hs0,H0,nf,ρ,Hs,τ,τ',ds,r,rr,e,k⟩
  · cases e
 | _=>simp [gTm] at e⟩
theorem wq (hi:Bx (PId X tg iter it)) (hg:Bx (PGm X tg g)) (hb:Bx (rC X body b)) (hp:PassesOwn (model X.prog X.w) X.A X.env X.xe:=by exact .never) (hc:X.calm=true:=by rfl) (hs:Fs X iter:=by intro _; rfl):Bx (PSm X (.For tg iter body [] pos) (C7 it g b)):=⟨have hi:=hi.out; have hg:=hg.out; have hb:=hb.out; (uo hp hc hi hg hb hs).imp λ E σ H ⟨Hs0,H0,nf,ρ,Hs,τ,o,r,e,k⟩=>by
 obtain ⟨ds,e1,e2⟩:=bind_some e;obtain ⟨fp,hst⟩:=r.st;refine ⟨H0,Hs,er τ,[],ds,hst.er,r.sm,e1,λ J Hs1 H1 g1 hJ=>?_⟩;have r1:=r.ext' g1;have kk:=k.rebase r1.ext;refine ⟨λ i m σ H=>m=ds.length - i/\i<=ds.length/\∃ Hs2 τ2,be X.K Hs1 H0 ρ Hs2 H σ τ2/\forM (λ d τ=>(g d τ).bind b) (ds.drop i) τ2=some o,⟨ds.length,by simp,Yb _,Hs1,τ,r1.rebase,by simpa using e2⟩,?_⟩
 rintro i m σ2 H2 ⟨rfl,hi,Hs2,τ2,r2,e3⟩
 obtain ⟨hgo,hstop⟩:=hJ Hs2 H2 r2.ext.ss r2.sm
 by_cases hlt:i < ds.length
 ·have ed:ds.drop i=ds[i]::ds.drop (i+1):=Y1 hlt
  rw [ed] at e3;obtain ⟨go,yl⟩:=hgo i ds[i] (List.getElem?_eq_getElem hlt);refine .inr ⟨go,λ σ' H'=>∃ Hs' τ',be X.K Hs1 H0 ρ Hs' H' σ' τ'/\forM (λ d τ=>(g d τ).bind b) (ds.drop (i+1)) τ'=some o,?_,?_⟩
  ·rintro σ' H' ⟨Hs',τ',r',e'⟩
   exact ⟨ds.length - (i+1),by omega,rfl,hlt,Hs',τ',r',e'⟩
  ·intro x H' y
   obtain ⟨Hs3,g3,rx⟩:=yl x H' y;have r3:=r2.ext' g3;unfold forM at e3
   cases q:(g ds[i] τ2).bind b with
   | none=>simp only [q] at e3; cases e3
   | some o1 =>
    simp only [q] at e3;obtain ⟨τ3,q1,q2⟩:=bind_some q;refine ⟨Hs1,H0,nf,ρ,Hs3,τ2,τ3,ds[i],r3,rx,q1,λ σ' r'=>?_⟩;refine ⟨Hs1,H0,nf,ρ,Hs3,τ3,o1,r',q2,?_⟩
    cases o1 with
    | next τ'=>exact λ σ4 Hs4 H4 r4=>⟨Hs4,τ',r4,e3⟩
    | cnt τ'=>exact λ σ4 Hs4 H4 r4=>⟨Hs4,τ',r4,e3⟩
    | brk τ'=>cases e3; exact kk
    | ret s τ'=>cases e3; exact kk
 ·have e0:i=ds.length:=by omega
  subst e0;rw [Xr] at e3;have e':wX.next τ2=o:=by simpa [forM] using e3
  subst e'
  exact .inl ⟨hstop _ (Zk _),kk σ2 Hs2 H2 r2⟩⟩
theorem sH (i:Nat) (hN:X.N[i]?=some x:=by exact rfl) (hv:Vis X.env.scope x:=by walk_at "w") (hd:Dg x:=by decide) (hcd:Dc x:=by decide):Bx (PTd X (.Name x p) (BW i)):=⟨(xx (dH hN hv hd hcd) (λ _=>rfl)).imp λ σ H Q ⟨H0,Hs,τ,fp,d,st,sm,e,k⟩=>by
 unfold BW at e;split at e
 ·rename_i ds q
  cases e;obtain ⟨a,h1,h2,_⟩:=st.BK q
  cases h2 with
  | lst h n r=>exact ⟨_,h1,_,.inl ⟨_,SqL.of h,by rw [r.emp]⟩,k Hs H (.refl sm)⟩
 · cases e⟩
theorem lG (i j:Nat) (hN:X.N.Nodup) (hi:X.N[i]?=some x:=by exact rfl) (hj:X.N[j]?=some y:=by exact rfl) (hx:Loc X.env.scope x:=by walk_at "v") (hv:Vis X.env.scope y:=by walk_at "w") (hd:(y == ("__debug__":Str))=false:=by decide) (hcd:(y == ("__classdict__":Str))=false:=by decide) (hbase:attributeBase (.Name y py) "pop" X.env (eval (.Name y py) X.env)=eval (.Name y py) X.env:=by rfl) (hline:(apos.endLine == cpos.line)=true:=by rfl) (hs:swapsWith (.Call (.Attribute (.Name y py) "pop" apos) [] [] cpos) (some (.Name x pos')) pos.line X.env=pure false:=by rfl) (hf:Xl X x:=by walk_at "v"):Bx (PSd X (.Assign [.Name x pos'] (.Call (.Attribute (.Name y py) "pop" apos) [] [] cpos) pos) (rO i j)):=⟨(fY hN hi hx (Dx Yn PySem.F.slot_list_pop PySem.F.type_list_pop DW (dH hj hv hd hcd) hbase hline) hs hf).imp λ E σ H ⟨Hs0,H0,Hs,τ,o,r,e,k⟩=>by
 unfold rO at e;split at e
 ·rename_i ds q
  obtain ⟨d,e1,rfl⟩:=Zm e;obtain ⟨fp,st⟩:=r.st;obtain ⟨a,h1,h2,h3,h4⟩:=st.BK q
  cases h2 with
  | @lst xs _ hH hn hr =>
   obtain ⟨v,hv1,hv2⟩:=hr.get e1;rw [<- hr.length] at hv1;refine ⟨_,h1,.inl ⟨rfl,_,SqL.of hH⟩,a,xs,v,rfl,rfl,hH,hv1,?_⟩;have s1:=st.mut q h1 (o:=.lst xs.dropLast) (d':=.lst ds.dropLast) (.lst ai hn hr.dropLast);obtain ⟨fp',_,s2⟩:=s1.oV (i:=i) hv2;refine k _ Hs _ ⟨⟨r.ext.ss,λ b u z=>?_,λ b u z=>?_,r.ext.fr⟩,fp',s2⟩
   · rw [af (show b≠a from λ w=>by rw [w,hn] at z; cases z)]; exact r.ext.sh b u z
   · rw [af (show b≠a from λ w=>by rw [w,h3] at z; cases z)]; exact r.ext.hh b u z
 · cases e⟩
theorem sJ (hh:X.A.handled=none) (hm:X.mg "list"=none) (he:Bx (PEd X e f)) (hg:Gl X "list":=by rfl) (hv:bootBuiltins "list"=some (.type "list"):=by decide +kernel) (hst:starEach [e] X.env=(false,eval e X.env)::starEach [] X.env:=by rfl) (hpl:(backTo pos (starEach [] X.env)).any (·.1)=false:=by rfl):Bx (PEo X (.Call (.Name "list" p) [e] [] pos) (zM f)):=⟨have he:=he.out; (m6 (sD hh) hg hm hv (au he aV hst) (by decide) (by decide) hst hpl).imp λ σ H Q ⟨H0,Hs,τ,fp,d,st,sm,e,k⟩=>by
 obtain ⟨x,e1,e2⟩:=bind_some e;refine ⟨H0,Hs,τ,fp,x,st,sm,e1,λ v Hs1 H1 g1 r1=>?_⟩
 cases r1 with
 | @dct a kvs ds h r =>
  cases e2;exact ⟨a,kvs,rfl,g1.sh _ _ h,λ p hp=>k p Hs1 _ ⟨g1.ss,g1.sh.trans (ar hp _),g1.hh.trans (ar hp _),g1.fr⟩ (.lst ai (g1.sh.free hp) (qg r)) (g1.hh.free hp)⟩
 | _=>exact nn e2⟩
theorem pV (hN:X.N.Nodup) (O:cC X scope cl x cs) (hy:X.N[j]?=some y:=by exact rfl) (hz:X.N[i]?=some z:=by exact rfl) (hcd:∀ s H fp C,Bx (PTd (bg X scope cl (x::cs.map (·.1)) s H fp C) cnd c):=by intros; walk_at "h") (he:∀ s H fp C,Bx (PEd (bg X scope cl (x::cs.map (·.1)) s H fp C) elt g):=by intros; walk_at "g") (hx:Loc X.env.scope y:=by walk_at "v") (hv:Vis X.env.scope z:=by walk_at "w") (hc:X.calm=true:=by rfl) (hd:(z == ("__debug__":Str))=false:=by decide) (hcl:(z == ("__classdict__":Str))=false:=by decide) (hs:∀ x,foldedSetIterable (.Name z pz) X.env x=pure x:=by intro _; rfl) (hsw:swapsWith (.ListComp elt [⟨.Name x px,.Name z pz,[cnd],0⟩] scope pos) (some (.Name y py)) spos.line X.env=pure true:=by rfl) (hf:Xl X y:=by walk_at "v"):Bx (PSm X (.Assign [.Name y py] (.ListComp elt [⟨.Name x px,.Name z pz,[cnd],0⟩] scope pos) spos) (yW j i c g cs)):=⟨have hcd:=(λ s H fp C=>(hcd s H fp C).out); have he:=(λ s H fp C=>(he s H fp C).out); (As (lY (te:=rdE X.K g) (tt:=rdT X.K c) hN hy hx hc O (AD (dH hz hv hd hcl)) hcd he hs hsw hf)).imp λ E σ H ⟨Hs0,H0,nf,ρ,Hs,τ,o,r,e,k⟩=>by
 unfold yW at e;split at e
 ·rename_i b0 ks ei
  split at e
  ·rename_i hl
   obtain ⟨hl,hj⟩:=hl;obtain ⟨full,e3,e4⟩:=bind_some e;split at e4
   ·rename_i hsc
    cases e4;obtain ⟨fp,st⟩:=r.st;obtain ⟨v,fq,fpr,o1,o2,o3,o4,o5⟩:=st.out ei;obtain ⟨d,dx,ts,u,rfl,rfl,rfl,hdH,hlay,hnd,ku,ndp,rr⟩:=o2.inv;rw [Bu hlay] at hdH;have d0:H0 d=none:=(st.live d (o4 d (Ze ..)).2).2.2;refine ⟨_,o1,d,ts.map Kd.kv,rfl,hdH,λ ob=>?_⟩;have dnf:d ∉ fpr:=(o4 d (Ze ..)).1;have s1:StM X.K H0 Hs (upd H d (.frz ob (.dK (ts.map Kd.kv)))) ρ σ (τ.set i .no) fpr:=o3.mv (.refl _) λ c hc=>⟨(o3.live c hc).1,af (show c≠d from λ q=>dnf (by rw [<- q]; exact hc))⟩
    have sm1:ba Hs (upd H d (.frz ob (.dK (ts.map Kd.kv)))):=λ c w q=>by
     rw [af (show c≠d from λ y=>by rw [y,hnd] at q; cases q)]; exact r.sm c w q
    have snp:=s1.aQ sm1;generalize hH1:upd H d (.frz ob (.dK (ts.map Kd.kv)))=H1 at snp;have h1d:H1 d=some (.frz ob (.dK (ts.map Kd.kv))):=by rw [<- hH1]; exact ai
    let ds:List D:=(ts.map Kd.km).map λ p=>kD p.1
    have ld:ds.length=(ts.map Kd.kv).length:=by simp [ds]
    rw [Za] at hl;have ld2:ds.length=ts.length:=by simp [ds]
    refine ⟨λ n m ys H'=>m=ds.length - n/\n<=ds.length/\ba H1 H'/\∃ es rest,Rps X.K BI ys es/\es.length<=n/\pJ (λ d=>c (.shr d::dA (aQ (τ.set i .no)) cs)) (λ d=>g (.shr d::dA (aQ (τ.set i .no)) cs)) (ds.drop n)=some rest/\es++rest=full,⟨ds.length,by simp,Yb _,   .refl _,[],full,.nil,Zk _,by rw [List.drop_zero]; exact e3,rfl⟩,?_⟩
    rintro n m ys H2 ⟨rfl,hn,g2,es,rest,ry,ley,e5,e6⟩
    have ly:ys.length<=n:=by rw [ry.length]; exact ley
    have h2d:=g2 _ _ h1d
    by_cases hlt:n < ds.length
    ·have ed:ds.drop n=ds[n]::ds.drop (n+1):=Y1 hlt
     rw [ed] at e5;obtain ⟨b,q0,q0'⟩:=bind_some e5;refine .inr ⟨⟨h2d,by rw [<- ld]; exact hlt⟩,le5 (by omega),?_⟩
     rintro w H3 ⟨rfl,kk,ww,hk,rfl⟩
     have ekk:ds[n]=kD kk:=by
      have h1:ds[n]?=some (kD kk):=by
       simp only [ds];rw [List.getElem?_map,List.getElem?_map];rw [List.getElem?_map] at hk;obtain ⟨t,ht,et⟩:=Zm hk;rw [ht];have:t.k=kk:=(Prod.mk.inj et).1;show some (kD t.k)=_;rw [this]
      rw [List.getElem?_eq_getElem hlt] at h1;exact Zj h1
     have snp2:StR X.K H3 H3 H3 σ (aQ (τ.set i .no)) []:=by
      have s2:=s1;rw [hH1] at s2;exact (s2.ext ⟨.refl _,(hH1 ▸ sm1).trans g2,g2,λ _ h _=>h⟩).aQ ((hH1 ▸ sm1).trans g2)
     refine ⟨H3,H3,.shr ds[n]::dA (aQ (τ.set i .no)) cs,[],b,.shr (by rw [ekk]; exact By kk) (iy snp2 cs),.refl _,q0,λ Hs4 H4 g4=>?_⟩
     cases b with
     | true =>
      refine zD ?_
      obtain ⟨x,q1,q2⟩:=bind_some (show (g (.shr ds[n]::dA (aQ (τ.set i .no)) cs)).bind _=some rest from q0');obtain ⟨xs,q3,q4⟩:=bind_some q2;have eq:x::xs=rest:=Zj q4;subst eq
      have snp4:StR X.K H4 H4 H4 σ (aQ (τ.set i .no)) []:=by
       have s2:=s1;rw [hH1] at s2;exact (s2.ext ⟨.refl _,((hH1 ▸ sm1).trans g2).trans g4.hh,g2.trans g4.hh,λ _ h _=>h⟩).aQ (((hH1 ▸ sm1).trans g2).trans g4.hh)
      refine ⟨H4,H4,.shr ds[n]::dA (aQ (τ.set i .no)) cs,[],x,.shr (by rw [ekk]; exact By kk) (iy snp4 cs),.refl _,q1,λ v5 Hs5 H5 g5 r5=>?_⟩
      have sx:sca x=true:=by
       refine Yw.mp hsc x ?_
       rw [<- e6];simp
      exact ⟨ds.length - (n+1),by omega,rfl,hlt,(g2.trans g4.hh).trans g5.hh,es++[x],xs,ry.append (.cons (mV r5 sx) .nil),by simp; omega,q3,by rw [<- e6]; simp⟩
     | false =>
      refine El ?_
      exact ⟨ds.length - (n+1),by omega,rfl,hlt,g2.trans g4.hh,es,rest,ry,by omega,q0',e6⟩
    ·have e0:n=ds.length:=by omega
     subst e0;rw [Xr] at e5;have er:[]=rest:=Zj e5;subst er;rw [Z1] at e6;subst e6;refine .inl ⟨⟨h2d,by rw [<- ld]; exact Zk _⟩,pH (by omega),λ p hp=>?_⟩;have pd:p≠d:=λ q=>by rw [q,h2d] at hp; cases hp
     refine ⟨d,ob,ts.map Kd.kv,by rw [af (Ne.symm pd)]; exact h2d,λ o' u' q=>nf d o' u' q d0,?_⟩
     let Hf:Hp:=upd (upd H2 p (.lst ys)) d (.dK (ts.map Kd.kv))
     have hpH:H p=none:=by
      have:H1 p=none:=g2.free hp;rw [<- hH1,af pd] at this;exact this
     have smf:ba H Hf:=λ c w q=>by
      by_cases cd:c=d
      ·subst cd
       rw [hdH] at q;cases q;exact ai
      ·have c1:H1 c=some w:=by rw [<- hH1,af cd]; exact q
       have cp:c≠p:=λ y=>by rw [y,hpH] at q; cases q
       show upd (upd H2 p (.lst ys)) d _ c=_;rw [af cd,af cp];exact g2 _ _ c1
     have hfp:Hf p=some (.lst ys):=by
      show upd (upd H2 p (.lst ys)) d _ p=_;rw [af pd,ai]
     have hsp:Hs p=none:=r.sm.free hpH
     have ex:Ext Hs H (upd Hs p (.lst ys)) Hf:=by
      refine ⟨ar hsp _,λ c w q=>?_,smf,λ c h1 h2=>?_⟩
      ·by_cases z:c=p
       · subst z; rw [ai] at q; cases q; exact hfp
       · rw [af z] at q; exact smf _ _ (r.sm _ _ q)
      · rw [af (show c≠p from λ z=>h2 (by rw [z]; exact hpH))]; exact h1
     exact k _ _ Hf ((r.ext' ex).oV (.lst ai (iB ry hsc)))
   · cases e4
  · cases e
 · cases e⟩
theorem kn (i:Nat) (hN:X.N.Nodup) (O:cC X scope cl x cs) (hy:X.N[i]?=some y:=by exact rfl) (hi:Bx (PId X (.Name x px) iter it)) (hcd:∀ s H fp C,Bx (PTd (bg X scope cl (x::cs.map (·.1)) s H fp C) cnd c):=by intros; walk_at "h") (he:∀ s H fp C,Bx (PEd (bg X scope cl (x::cs.map (·.1)) s H fp C) elt g):=by intros; walk_at "g") (hx:Loc X.env.scope y:=by walk_at "v") (hc:X.calm=true:=by rfl) (hs:Fs X iter:=by intro _; rfl) (hsw:swapsWith (.ListComp elt [⟨.Name x px,iter,[cnd],0⟩] scope pos) (some (.Name y py)) spos.line X.env=pure true:=by rfl) (hf:Xl X y:=by walk_at "v"):Bx (PSm X (.Assign [.Name y py] (.ListComp elt [⟨.Name x px,iter,[cnd],0⟩] scope pos) spos) (mX i (eO (hW it c g cs)))):=⟨um hN hy hx hc O hi.out (λ s H fp C=>(hcd s H fp C).out) (λ s H fp C=>(he s H fp C).out) hs hsw hf⟩
theorem oo (i:Nat) (hN:X.N.Nodup) (O:cC X scope cl x cs) (hy:X.N[i]?=some y:=by exact rfl) (hi:Bx (PId X (.Name x px) iter it)) (hcd:∀ s H fp C,Bx (PTd (bg X scope cl (x::cs.map (·.1)) s H fp C) cnd c):=by intros; walk_at "h") (he:∀ s H fp C,Bx (PEd (bg X scope cl (x::cs.map (·.1)) s H fp C) elt g):=by intros; walk_at "g") (hx:Loc X.env.scope y:=by walk_at "v") (hc:X.calm=true:=by rfl) (hs:Fs X iter:=by intro _; rfl) (hsw:swapsWith (.ListComp elt [⟨.Name x px,iter,[cnd],0⟩] scope pos) (some (.Name y py)) spos.line X.env=pure true:=by rfl) (hf:Xl X y:=by walk_at "v"):Bx (PSm X (.Assign [.Name y py] (.ListComp elt [⟨.Name x px,iter,[cnd],0⟩] scope pos) spos) (mX i (eF (hW it c g cs)))):=⟨rQ hN hy hx hc O hi.out (λ s H fp C=>(hcd s H fp C).out) (λ s H fp C=>(he s H fp C).out) hs hsw hf⟩
theorem pU (hu:X.A.units+1 < cLine) (hd:PE X (.Name d pd) (oS i)) (hx:PE X (.Name x px) (oS j)) (hf:PE X (.Name f pf) (oS i2)) (hk1:Bx (PEd X k1 gk1)) (hk2:Bx (PEd X k2 gk2)) (h2:Bx (PAd X es g2)) (h3:Bx (PEd X e3 g3)) (hsA:swapsWith (.Name x px) (some (.Subscript (.Name d pd) k1 ps1)) posA.line X.env=pure false:=by rfl) (hsB:swapsWith (.Tuple es x1 pt) (some (.Subscript (.Name f pf) k2 ps2)) posB.line X.env=pure false:=by rfl):Bx (rC X [.Assign [.Subscript (.Name d pd) k1 ps1] (.Name x px) posA,.Assign [.Subscript (.Name f pf) k2 ps2] (.Tuple es x1 pt) posB,.Return (some e3) posC] (rB i j gk1 i2 gk2 g2 g3)):=⟨uk hu hd hk1.out hx hf hk2.out h2.out h3.out hsA hsB⟩
theorem sI (hh:X.A.handled=none) (hm:X.mg "sorted"=none) (he:Bx (PEd X e f)) (hg:Gl X "sorted":=by rfl) (hst:starEach [e] X.env=(false,eval e X.env)::starEach [] X.env:=by rfl) (hpl:(backTo pos (starEach [] X.env)).any (·.1)=false:=by rfl):Bx (PEo X (.Call (.Name "sorted" p) [e] [] pos) (v7 f)):=⟨have he:=he.out; (yF hh hg hm ⟨he⟩ hst hpl).out⟩
theorem cS (ha:Bx (PEd X a f)) (hb:Bx (PEd X b g)):Bx (PEd X (.BinOp a .Add b pos) (dOp qv f g)):=iO G1 ha hb
theorem yE (ha:Bx (PEd X a f)) (hb:Bx (PEd X b g)):Bx (PEd X (.BinOp a .Sub b pos) (dOp DP f g)):=iO GV ha hb
theorem ox (ha:Bx (PEd X a f)) (hb:Bx (PEd X b g)):Bx (PEd X (.BinOp a .Mult b pos) (dOp zl f g)):=iO GY ha hb
theorem lJ (ha:Bx (PEd X a f)) (hb:Bx (PEd X b g)):Bx (PEd X (.BinOp a .FloorDiv b pos) (dOp oDiv f g)):=iO G0 ha hb
theorem dD (ha:Bx (PEd X a f)) (hb:Bx (PEd X b g)):Bx (PEd X (.BinOp a .Mod b pos) (dOp oMod f g)):=iO GZ ha hb
theorem Jf (ha:Bx (PEd X a f)) (hb:Bx (PEd X b g)):Bx (PEd X (.BinOp a .Pow b pos) (dOp DQ f g)):=iO GW ha hb
theorem B6 (ha:Bx (PEd X a f)) (hb:Bx (PEd X b g)):Bx (PTd X (.Compare a [.Lt] [b] pos) (dT (dOp oLt f g))):=cL K1 ha hb 
theorem EY (ha:Bx (PEd X a f)) (hb:Bx (PEd X b g)):Bx (PEd X (.Compare a [.LtE] [b] pos) (dOp oLe f g)):=ip Cn ha hb 
theorem wj (ha:Bx (PEd X a f)) (hb:Bx (PEd X b g)):Bx (PTd X (.Compare a [.LtE] [b] pos) (dT (dOp oLe f g))):=cL Cn ha hb 
theorem LA (ha:Bx (PEd X a f)) (hb:Bx (PEd X b g)):Bx (PEd X (.Compare a [.Gt] [b] pos) (dOp oGt f g)):=ip Js ha hb 
theorem sE (ha:Bx (PEd X a f)) (hb:Bx (PEd X b g)):Bx (PTd X (.Compare a [.Gt] [b] pos) (dT (dOp oGt f g))):=cL Js ha hb 
theorem rl (ha:Bx (PEd X a f)) (hb:Bx (PEd X b g)):Bx (PTd X (.Compare a [.IsNot] [b] pos) (dT (dOp l7 f g))):=cL DK ha hb 
theorem Jg (ha:Bx (PEd X a f)) (hb:Bx (PEd X b g)) (hm:behindInMarks .In b=false:=by rfl): Bx (PEd X (.Compare a [.In] [b] pos) (dOp uK f g)):=ip DM ha hb hm
theorem yC (ha:Bx (PEd X a f)) (hb:Bx (PEd X b g)) (hm:behindInMarks .In b=false:=by rfl): Bx (PTd X (.Compare a [.In] [b] pos) (dT (dOp uK f g))):=cL DM ha hb hm
theorem yB (ha:Bx (PEd X a f)) (hb:Bx (PEd X b g)) (hm:behindInMarks .NotIn b=false:=by rfl): Bx (PTd X (.Compare a [.NotIn] [b] pos) (dT (dOp jN f g))):=cL xK ha hb hm
theorem J5 (ha:Bx (PEd X a f)) (hb:Bx (PEd X b g)) (hr:cg jj X.A:=by assumption):Bx (PEd X (.Compare a [.Eq] [b] pos) (dOp oEq f g)):=ip (Jt hr.units) ha hb 
theorem sF (ha:Bx (PEd X a f)) (hb:Bx (PEd X b g)) (hr:cg jj X.A:=by assumption):Bx (PTd X (.Compare a [.Eq] [b] pos) (dT (dOp oEq f g))):=cL (Jt hr.units) ha hb 
theorem Cb (ha:Bx (PEd X a f)) (hb:Bx (PEd X b g)) (hr:cg jj X.A:=by assumption):Bx (PEd X (.Compare a [.NotEq] [b] pos) (dOp oNe f g)):=ip (Jr hr.units) ha hb 
theorem jr (ha:Bx (PEd X a f)) (hb:Bx (PEd X b g)) (hr:cg jj X.A:=by assumption):Bx (PTd X (.Compare a [.NotEq] [b] pos) (dT (dOp oNe f g))):=cL (Jr hr.units) ha hb 
theorem zP (ha:Bx (PEd X a f)):Bx (PEd X (.UnaryOp .USub a pos) (dUn DR f)):=B9 GX ha
theorem cF (h:Bx (PEd X e f)) (he:Se X e []:=by rfl):Bx (PAd X [e] (aK f d8)):=cf h bK he
theorem dB {e2:Expr} {f2:DE} (h:Bx (PEd X e f)) (h2:Bx (PEd X e2 f2)) (he:Se X e [e2]:=by rfl) (he2:Se X e2 []:=by rfl):Bx (PAd X [e,e2] (aK f (aK f2 d8))):=cf h (cF h2 he2) he
theorem zO (i:Nat) {x:Str} {f:DE} {pos':Pos} (hN:X.N.Nodup) (he:Bx (PEd X e f)) (hi:X.N[i]?=some x:=by exact rfl) (hx:Loc X.env.scope x:=by walk_at "v") (hs:Sw X e x pos' pos:=by rfl) (hf:Xl X x:=by walk_at "v"):Bx (PSd X (.Assign [.Name x pos'] e pos) (wO i f)):=wu i hN hi he hx hs hf
def Ic (mg:Str->Option Value) (x:Str) (i:Int):Prop:=∃ t,mg x=some (.int i t)
theorem EW (h:Ic X.mg x i) (hg:Gl X x:=by rfl) (hd:(x == ("__debug__":Str))=false:=by decide):Bx (PEd X (.Name x pos) (dC (.int i))):=h.elim λ _ h=>⟨AR (v:=.int i) hg h ⟨_,rfl⟩ (λ _=>.int _) hd⟩
theorem ckN {X:Cx} {scope:Scope} {cl:List (Str×Addr)} {x:Str} (cs:List (Str×Nat)) (h0:closureFor scope X.env=pure cl:=by rfl) (h1:scope.kind=.function:=by rfl) (h2:(scope.names.all λ y=>!(y.2 == .cell))=true:=by rfl)
 (h3:(scope.names.all λ y=>!(y.2 == .local)||(scope.names.lookup y.1 == some .local))=true:=by rfl) (h4:scope.names.lookup x=some .local:=by rfl) (h5:Cv X cl:=by repeat' first | exact trivial | rfl | constructor)
 (h6:((relabel scope X.env).names.all λ p=>!(p.2 == .cell||p.2 == .free)||(cl.lookup p.1).isSome)=true:=by rfl)
 (h7:AllP X scope cs:=by repeat' first | exact trivial | rfl | constructor) (h8:(x::cs.map (·.1)).Nodup:=by decide +kernel):cC X scope cl x cs:=B1 cs h0 h1 h2 h3 h4 h5 h6 h7 h8
theorem ck0 {X:Cx} {scope:Scope} {x:Str} (h1:scope.kind=.function:=by rfl) (h2:∀ y ∈ scope.names,y.2≠.cell:=by decide +kernel) (h3:∀ y ∈ scope.names,y.2≠.free:=by decide +kernel) (h4:∀ y ∈ scope.names,y.2=.local->scope.names.lookup y.1=some .local:=by decide +kernel) (h5:scope.names.lookup x=some .local:=by rfl):cC X scope [] x []:=B3 h1 h2 h3 h4 h5
section
variable {P:Program} {w:World} {K:W.Frag} {mg:Str->Option Value} {base:Heap} {x q:Str} {st:Stmt} {ps:List Str} {k:Nat} {C:Addr}
abbrev Bdy (P:Program) (w:World) (K:W.Frag) (mg:Str->Option Value) (base:Heap) (k:Nat) (q:Str) (st:Stmt) (N:List Str) (J:Cx->List Stmt->Prop):Prop:=∀ {cdv:Value} {A:Around} {outer:List Env} {s:Shared} {H:Hp} {E:XK} {f:Addr},cg k (A.deeper (envOfC q (ax st) s.heap.objs.size f cdv))->N.Nodup->Bx (J (lr CX0 P w K mg base N q (ax st) f cdv A outer s H E).nox (aO st))
theorem oD (N:List Str) {b:DS} (D:Df K mg x st ps) (h:Bdy P w K mg base k x st N λ X b'=>wL X b' b) (S:dt N ps (ax st):=by exact ⟨rfl,rfl,rfl,by decide +kernel,rfl,by decide +kernel,by decide +kernel⟩):Go P w K mg base (k+1) x (spF (gK N.length ps.length b) K) :=
 have ⟨a,d,F,m,bi⟩:=D
 ⟨a,d,ps,m,F.kp,bi,F.okD S λ cdv A outer s H E hr=>(h hr S.nd).out⟩
theorem oDm (N:List Str) {b:DS} (D:Mf K C x q st ps) (h:Bdy P w K mg base k q st N λ X b'=>wL X b' b) (S:dt N ps (ax st):=by exact ⟨rfl,rfl,rfl,by decide +kernel,rfl,by decide +kernel,by decide +kernel⟩):GoM P w K mg base (k+1) C x (spF (gK N.length ps.length b) K) :=
 have ⟨a,d,F,m,bi⟩:=D
 ⟨a,d,ps,m,bi,F.okD S λ cdv A outer s H E hr=>(h hr S.nd).out⟩
theorem oM (N:List Str) {b:DSm} (D:Df K mg x st ps) (h:Bdy P w K mg base k x st N λ X b'=>rC X b' b) (S:dt N ps (ax st):=by exact ⟨rfl,rfl,rfl,by decide +kernel,rfl,by decide +kernel,by decide +kernel⟩):Go P w K mg base (k+1) x (spM (kU N.length ps.length b) K) :=
 have ⟨a,d,F,m,bi⟩:=D
 ⟨a,d,ps,m,F.kp,bi,F.okM S λ cdv A outer s H E hr=>(h hr S.nd).out⟩
theorem oMm (N:List Str) {b:DSm} (D:Mf K C x q st ps) (h:Bdy P w K mg base k q st N λ X b'=>rC X b' b) (S:dt N ps (ax st):=by exact ⟨rfl,rfl,rfl,by decide +kernel,rfl,by decide +kernel,by decide +kernel⟩):GoM P w K mg base (k+1) C x (spM (kU N.length ps.length b) K) :=
 have ⟨a,d,F,m,bi⟩:=D
 ⟨a,d,ps,m,bi,F.okM S λ cdv A outer s H E hr=>(h hr S.nd).out⟩
theorem oMi (N:List Str) {b:DSm} (D:If K C q st ps) (h:Bdy P w K mg base k q st N λ X b'=>rC X b' b) (S:dt N ps (ax st):=by exact ⟨rfl,rfl,rfl,by decide +kernel,rfl,by decide +kernel,by decide +kernel⟩):GoI P w K mg base (k+1) C (spM (kU N.length ps.length b) K) :=
 have ⟨a,d,F,m,bi⟩:=D
 ⟨a,d,ps,m,bi,F.okM S λ cdv A outer s H E hr=>(h hr S.nd).out⟩
theorem Fn0.df {f:Addr} {h:Heap} (e:Fn0 K x st f) (X:K.In h) (G:h.Ns mainGlobals mg) (hb:∀ (kV doc pm:Value) (an:Option Addr) (cdv ct:Value) (us:List Value),us.length=ps.length->bindArgs (PySem.W.fnOf x x (bA st) (aO st) (ax st) .none kV doc pm an cdv ct) ⟨us,[]⟩=pure (ps.zip us)):Df K mg x st ps :=
 have ⟨d,F,m,b⟩:=e.mk X G hb
 ⟨f,d,F,m,b⟩
theorem Bl {f:Addr} {oc:Value} {od an:Option Addr} {osl:Array (Option Value)} {kV doc pm cdv ct:Value} (a:W.findIn K (.ref C) x=some (some (.ref f))) (i:PySem.W.isFn K (.ref f)=true) (l:K.lookup f=some ⟨oc,od,.func (PySem.W.fnOf x q (bA st) (aO st) (ax st) .none kV doc pm an cdv ct),osl⟩) (c:PySem.W.codeIn K cdv q=true) (k:W.keepIn K (.ref f)=true) (hb:∀ (kV doc pm:Value) (an:Option Addr) (cdv ct:Value) (us:List Value),us.length=ps.length->bindArgs (PySem.W.fnOf x q (bA st) (aO st) (ax st) .none kV doc pm an cdv ct) ⟨us,[]⟩=pure (ps.zip us)):Mf K C x q st ps :=
 ⟨f,_,gc (st:=st) l c k,⟨a,i,k⟩,(gc (st:=st) l c k).binds hb⟩
theorem IE {f:Addr} {oc:Value} {od an:Option Addr} {osl:Array (Option Value)} {kV doc pm cdv ct:Value} (a:W.findIn K (.ref C) "__init__"=some (some (.ref f))) (i:PySem.W.isFn K (.ref f)=true) (l:K.lookup f=some ⟨oc,od,.func (PySem.W.fnOf "__init__" q (bA st) (aO st) (ax st) .none kV doc pm an cdv ct),osl⟩) (c:PySem.W.codeIn K cdv q=true) (k:W.keepIn K (.ref f)=true) (mk:PySem.W.makesIn K C=true) (kc:W.keepIn K (.ref C)=true) (hb:∀ (kV doc pm:Value) (an:Option Addr) (cdv ct:Value) (us:List Value),us.length=ps.length->bindArgs (PySem.W.fnOf "__init__" q (bA st) (aO st) (ax st) .none kV doc pm an cdv ct) ⟨us,[]⟩=pure (ps.zip us)):If K C q st ps :=
 ⟨f,_,gc (st:=st) l c k,⟨mk,a,i,kc⟩,(gc (st:=st) l c k).binds hb⟩
def Lf (K:W.Frag) (mg:Str->Option Value) (x:Str) (st:Stmt) (y:Str):Prop:=∃ a d,Fun K x x st a d/\mg x=some (.ref a)/\∀ (s:Shared) (u:Value),BindsTo s d ⟨[u],[]⟩ [(y,u)]
theorem Iw {f:Addr} {y:Str} {h:Heap} (e:Fn0 K x st f) (X:K.In h) (G:h.Ns mainGlobals mg) (hb:∀ (kV doc pm:Value) (an:Option Addr) (cdv ct:Value) (s:Shared) (u:Value),BindsTo s (PySem.W.fnOf x x (bA st) (aO st) (ax st) .none kV doc pm an cdv ct) ⟨[u],[]⟩ [(y,u)]):Lf K mg x st y:=by
 obtain ⟨od,an,sl,oc,kV,dc,pm,cd,ct,a,l,c,k⟩:=e;exact ⟨_,_,gc (st:=st) l c k,PySem.W.mg_of X G a,hb _ _ _ _ _ _⟩
end
end L2
end
section
local macro_rules | `(tactic| walk_at "v")=>`(tactic| first | exact .inl rfl | exact .inr rfl | assumption)
local macro_rules | `(tactic| walk_at "w")=>`(tactic| first | exact .inl rfl | exact .inr (.inl rfl) | exact .inr (.inr rfl))
end
section
local macro_rules | `(tactic| walk_at "v")=>`(tactic| first | exact .inl rfl | exact .inr rfl | assumption)
local macro_rules | `(tactic| walk_at "w")=>`(tactic| first | exact .inl rfl | exact .inr (.inl rfl) | exact .inr (.inr rfl))
end
section
local macro_rules | `(tactic| walk_at "v")=>`(tactic| first | exact .inl rfl | exact .inr rfl | assumption)
local macro_rules | `(tactic| walk_at "w")=>`(tactic| first | exact .inl rfl | exact .inr (.inl rfl) | exact .inr (.inr rfl))
end
section
local macro_rules | `(tactic| walk_at "v")=>`(tactic| first | exact .inl rfl | exact .inr rfl | assumption)
local macro_rules | `(tactic| walk_at "w")=>`(tactic| first | exact .inl rfl | exact .inr (.inl rfl) | exact .inr (.inr rfl))
end
section
namespace L2
open PySem PySem.Spec PyProof.Rows
def CM (C:Addr) (m:Str) (sp:Sp) (dvs:List V) (EX:St->XK) (ta:TE) (t:TA):TE:=λ σ H Q=>ta σ H λ x H1=>∃ a dx fs,x=.ref a/\H1 a=some (.ins C dx fs)/\fs.lookup m=none /\
 t σ H1 λ vs H2=>sp (x::(vs++dvs)) H2 Q (EX σ)
section
variable {X:Cx} {CX:CXT} {k:Nat} {f C:Addr} {fd:FuncData} {ps:List Str} {sp:Sp} {dvs:List V} {ds:List Value} {EX:St->XK} {x m:Str} {p pos apos:Pos} {e o:Expr} {es:List Expr} {ta:TE} {t:TA}
theorem qo {pl:Sem Bool} (he:PE X o ta) (c:Cls X.K C) (hm:yK X.K C m f) (F:gL X.prog X.w X.K X.mg X.base CX k f fd ps sp) (hr:cg k X.A) (hb:Binds X.K fd ps ds) (hd:a7 dvs ds) (hx:∀ σ,ir CX X σ (EX σ)) (ha:PA X (e::es) t)
  (hst:starEach (e::es) X.env=(false,eval e X.env)::starEach es X.env:=by rfl) (hpl:(backTo pos (starEach es X.env)).any (·.1)=false:=by rfl)
  (ht:eval (.Call (.Attribute o m apos) (e::es) [] pos) X.env=(do
    let ov <- eval o X.env
    standAt apos.atName
    let (f,first) <- holding [ov] (getMethod ov m pl)
    callWith pos f first (backTo pos (starEach (e::es) X.env)) (backToKw pos (keywordEach [] X.env))):=by rfl) :
  PE X (.Call (.Attribute o m apos) (e::es) [] pos) (CM C m sp dvs EX ta t):=by
 intro pins s σ H Q I h;refine PySem.W.methodCall_KW (pl:=pl) (thn (he pins s σ H _ I h) λ u s1 ⟨x,H1,I1,rx,a,dx,fs,ex,ea,l,q⟩=>?_) ht;subst ex;cases (show u=Value.ref a from rx);refine k8 I1 ea c hm l (Xd (first:=[.ref a]) (h₀:=X.base) I.ok.mod.kin hm.kp (thn (ha pos pins s1 σ H1 _ I1 q) λ us s2 ⟨vs,H2,I2,r,q2⟩=>⟨I2.kIn,tV (us:=.ref a::us) (vs:=.ref a::vs) F hr hb hd (hx σ) I2 (.cons rfl r) q2⟩) hst hpl)
end
end L2
end
section
namespace L2
open PySem
section
variable {τ τ':List Sl} {f g h:DE} {x y z d:D}
theorem ak {i:Nat} (q:τ[i]?=some (.shr d)):aH i τ=some d:=by unfold aH; rw [q]
theorem e_v {i:Nat} (q:τ[i]?=some (.shr d):=by rfl):aH i τ=some d:=ak q
theorem e_c:dC d τ=some d:=rfl
theorem aJ {o:D->D->Option D} (h1:f τ=some x) (h2:g τ=some y) (h3:o x y=some z):dOp o f g τ=some z:=by unfold dOp; rw [h1,h2]; exact h3
theorem IX {o:D->Option D} (h1:f τ=some x) (h3:o x=some z):dUn o f τ=some z:=by unfold dUn; rw [h1]; exact h3
theorem aD:d8 τ=some []:=rfl
theorem ah {ga:DA} {xs:List D} (h1:f τ=some x) (h2:ga τ=some xs):aK f ga τ=some (x::xs):=by unfold aK; rw [h1,h2]; rfl
theorem bC {o:List D->Option D} {ga:DA} {xs:List D} (h1:ga τ=some xs) (h2:o xs=some z):gB o ga τ=some z:=by unfold gB; rw [h1]; exact h2
theorem yr {ga:DA} {xs:List D} (h1:ga τ=some xs) (h2:xs.length<=100000):I0 ga τ=some (.tup xs):=by unfold I0; rw [h1]; exact if_pos h2
theorem ji {ga:DA} {xs:List D} (h1:ga τ=some xs) (h2:xs.length<=100000):FY ga τ=some (.lst xs):=by unfold FY; rw [h1]; exact if_pos h2
theorem eW {F:List D->Option Sl} {ga:DA} {xs:List D} {s:Sl} (h1:ga τ=some xs) (h2:F xs=some s) (h3:slD s=some z):dFn F ga τ=some z:=by unfold dFn; rw [h1]; show (F xs).bind slD=_; rw [h2]; exact h3
theorem yt {F:List D->Option Sl} {ga:DA} {xs:List D} {s:Sl} (h1:ga τ=some xs) (h2:F xs=some s) (h3:slO s=some z):BY F ga τ=some z:=by unfold BY; rw [h1]; show (F xs).bind slO=_; rw [h2]; exact h3
theorem bu {b:Bool} (h1:f τ=some (.bl b)):dT f τ=some b:=by unfold dT; rw [h1]; rfl
theorem Gj {f g:DT} {b c:Bool} (h1:f τ=some b) (h2:b=true->g τ=some c) (h3:b=false->c=false):Jb f g τ=some c:=by
 unfold Jb; rw [h1]
 cases b with
 | true=>exact h2 rfl
 | false=>rw [h3 rfl]; rfl
theorem E5 {f g:DT} {b c:Bool} (h1:f τ=some b) (h2:b=false->g τ=some c) (h3:b=true->c=true):dOr f g τ=some c:=by
 unfold dOr; rw [h1]
 cases b with
 | false=>exact h2 rfl
 | true=>rw [h3 rfl]; rfl
theorem lS {f:DT} {b:Bool} (h1:f τ=some b):ER f τ=some (!b):=by unfold ER; rw [h1]; rfl
theorem ux {i:Int} (h:f τ=some (.int i)):dP f τ=some (some i):=by unfold dP; rw [h]; rfl
theorem J4 {l u:DO} {lo hi:Option Int} (h1:f τ=some x) (h2:l τ=some lo) (h3:u τ=some hi) (h4:oSl x lo hi=some z):dSl f l u τ=some z:=by unfold dSl; rw [h1]; show (l τ).bind _=_; rw [h2]; show (u τ).bind _=_; rw [h3]; exact h4
theorem qT {it:DI} {g:DE} {cs:List (Str×Nat)} {ds es:List D} (h1:it τ=some ds) (hl:ds.length<=100000) (h2:wQ (λ d=>g (.shr d::dA τ cs)) ds=some es):yv it g cs τ=some (.lst es):=by
 unfold yv; rw [h1]; show (if ds.length<=100000 then _ else _)=_; rw [if_pos hl,h2]; rfl
theorem iM {C:Addr} {n:Str} {fs:List (Str×D)} (h1:f τ=some (.obj C fs)) (h2:fs.lookup n=some z):dUn (xN C n) f τ=some z:=by unfold dUn; rw [h1]; show (if C=C then _ else _)=_; rw [if_pos rfl]; exact h2
theorem eU {C:Addr} {m:Str} {F:List D->Option Sl} {o:DE} {ga:DA} {fs:List (Str×D)} {xs:List D} {s:Sl} (h1:o τ=some (.obj C fs)) (h2:ga τ=some xs) (h0:fs.lookup m=none) (h3:F (.obj C fs::xs)=some s) (h4:slD s=some z):j9 C m F o ga τ=some z:=by
 unfold j9; rw [h1]; show (ga τ).bind _=_; rw [h2]; show (if C=C/\_ then _ else _)=_; rw [if_pos ⟨rfl,h0⟩,h3]; exact h4
theorem vo {ds:List D} (h:f τ=some (.lst ds)):Cp f τ=some ds:=by unfold Cp; rw [h]; rfl
theorem Em {ga:DA} {j:Int} (h:ga τ=some [.int j]) (h1:-(2 ^ 62)<=j/\j < 2 ^ 62):qF ga τ=some (t5 0 j.toNat):=by unfold qF; rw [h]; exact if_pos h1
theorem Gi {i:Nat} {d0:D} {f:DT} {b:Bool} (q:τ[i]?=some (.own d0)) (h:f (τ.set i (.shr d0))=some b):CU i f τ=some b:=by unfold CU; rw [q]; exact h
end
section
variable {τ τ':List Sl} {f g:DS} {e:DE} {d:D} {o:Out}
theorem cA (h:f τ=some (.next τ')) (h2:g τ'=some o):mL f g τ=some o:=by simp only [mL,h]; exact h2
theorem oW {i:Nat} (h:e τ=some d):wO i e τ=some (.next (τ.set i (.shr d))):=by unfold wO; rw [h]; rfl
theorem kS {i:Nat} (h:e τ=some d) (hi:i < τ.length):xi i e τ=some (.next (τ.set i (.own d))):=by unfold xi; rw [if_pos hi,h]; rfl
theorem jB (h:e τ=some d):Fb e τ=some (.ret (.shr d)):=by unfold Fb; rw [h]; rfl
theorem yV (h:e τ=some d):Ac e τ=some (.ret (.own d)):=by unfold Ac; rw [h]; rfl
theorem qf {i:Nat} (q:τ[i]?=some (.own d)):xj i τ=some (.ret (.own d)):=by unfold xj; rw [q]
theorem C5 (h:e τ=some d):xn e τ=some (.next τ):=by unfold xn; rw [h]; rfl
theorem E9 {c:DT} {b:Bool} {r:Option Out} (h:c τ=some b) (h1:b=true->f τ=r) (h2:b=false->g τ=r):sIf c f g τ=r:=by
 unfold sIf; rw [h]
 cases b with
 | true=>exact h1 rfl
 | false=>exact h2 rfl
theorem rN {i:Nat} {ds:List D} (h:e τ=some d) (q:τ[i]?=some (.own (.lst ds))) (hl:ds.length < 100000):Af i e τ=some (.next (τ.set i (.own (.lst (ds++[d]))))):=by unfold Af; rw [h]; show (match τ[i]? with | some (.own (.lst ds))=>_ | _=>_)=_; rw [q]; exact if_pos hl
theorem GA {it:DI} {gg:DG} {ds:List D} {r:Option Out} (h1:it τ=some ds) (h2:wV (λ d τ=>(gg d τ).bind f) ds τ=r):Fc it gg f τ=r:=by unfold Fc; rw [h1]; exact h2
theorem fW {n m:Nat} {b:DS} {ds:List D} {s:Sl} (h:b (kR n ds)=some (.ret s)) (hl:ds.length=m:=by rfl):gK n m b ds=some s:=by
 unfold gK;rw [if_pos hl,h]
theorem BO {it:DI} {gg:DG} {ds:List D} (P:Nat->List Sl->Prop) (h1:it τ=some ds) (h0:P 0 τ) (hs:∀ j d τ,ds[j]?=some d->P j τ->∃ τ1 τ2,gg d τ=some τ1/\f τ1=some (.next τ2)/\P (j+1) τ2):∃ τ',Fc it gg f τ=some (.next τ')/\P ds.length τ':=by
 obtain ⟨τ',e,p⟩:=qK (o:=.next []) (b:=λ d τ=>(gg d τ).bind f) P 0 h0 (λ j d τ hd p=>by
  rw [Nat.zero_add] at *;obtain ⟨τ1,τ2,e1,e2,p2⟩:=hs j d τ hd p
  exact ⟨τ2,by rw [e1]; exact e2,p2⟩)
 rw [Nat.zero_add] at p;exact ⟨τ',GA h1 e,p⟩
theorem tY {lo:Int} {n j:Nat} {d:D} (h:(t5 lo n)[j]?=some d):d=.int (lo+j)/\j < n:=by
 unfold t5 at h;rw [List.getElem?_map] at h
 by_cases hj:j < n
 ·rw [List.getElem?_range hj] at h
  exact ⟨by simpa using h.symm,hj⟩
 ·rw [List.getElem?_eq_none (by simpa using hj)] at h
  cases h
theorem tX {lo:Int} {n:Nat}:(t5 lo n).length=n:=by simp [t5]
end
theorem aY (i j:Int):qv (.int i) (.int j)=some (.int (i+j)):=rfl
theorem gT (i j:Int):DP (.int i) (.int j)=some (.int (i - j)):=rfl
theorem l8 (i j:Int):oLt (.int i) (.int j)=some (.bl (decide (i < j))):=rfl
theorem a9 {i j:Int} (h:0 < j):oMod (.int i) (.int j)=some (.int (i % j)):=by
 simp only [oMod,Ne.symm (Int.ne_of_lt h),ne_eq,not_false_eq_true,if_true,Int.fmod_eq_emod_of_nonneg _ (Int.le_of_lt h)]
theorem l9 {i j:Int} (h:0 < j) (z:Sz j):oDiv (.int i) (.int j)=some (.int (i / j)):=by
 simp only [oDiv,Ne.symm (Int.ne_of_lt h),ne_eq,not_false_eq_true,z,and_self,if_true,Int.fdiv_eq_ediv_of_nonneg _ (Int.le_of_lt h)]
theorem zk {i j:Int} (h:-(2 ^ 64) < j) (z:j < 2 ^ 64):zl (.int i) (.int j)=some (.int (i * j)):=by
 have:zT i j:=.inr ⟨h,z⟩;simp only [zl,this,true_or,if_true]
theorem DU {i j:Int} (h:-(2 ^ 64) < i) (z:i < 2 ^ 64):zl (.int i) (.int j)=some (.int (i * j)):=by
 have:zT i j:=.inl ⟨h,z⟩;simp only [zl,this,true_or,if_true]
theorem AZ {i j:Int} (h:Cu i j):DQ (.int i) (.int j)=some (.int (i ^ j.toNat)):=by
 exact if_pos h
theorem gr (i j:Int):oEq (.int i) (.int j)=some (.bl (decide (i=j))):=rfl
theorem jO (i j:Int):oNe (.int i) (.int j)=some (.bl (!decide (i=j))):=rfl
theorem E4 {α:Type} (x:α) (xs:List α):atI (x::xs) 0=some x:=by simp [atI,ixN]
theorem E3 {α:Type} (x y:α) (xs:List α):atI (x::y::xs) 1=some y:=by
 have:(1:Int) < ((xs.length+1+1:Nat):Int):=by omega
 simp only [atI,ixN,Zv,this,if_true];rfl
theorem z9 (d:D):slD (.shr d)=some d:=rfl
theorem kY (x:D) (xs:List D):oIx (.tup (x::xs)) (.int 0)=some x:=E4 _ _
theorem uJ (x y:D) (xs:List D):oIx (.tup (x::y::xs)) (.int 1)=some y:=E3 _ _ _
theorem qe {τ:List Sl} {c:DT} {f g:DS} {r:Option Out} (h:c τ=some false) (h2:g τ=r):mL (sIf c f rP) g τ=r:=by
 simp only [mL,sIf,h,Ys,Bool.false_eq_true,if_false,rP];exact h2
theorem yU {τ:List Sl} {c:DT} {f g:DS} {s:Sl} (h:c τ=some true) (h2:f τ=some (.ret s)):mL (sIf c f rP) g τ=some (.ret s):=by
 simp only [mL,sIf,h,Ys,if_true,h2]
section
variable {τ τ':List Sl} {f g:DS} {e e2 e3:DE} {c:DT} {b:Bool} {d x y z:D} {P:D->Prop} {R:List Sl->Prop}
theorem zX {f g:DT} {b c:Bool} (h1:f τ=some b) (h2:g τ=some c):dOr f g τ=some (b||c):=by
 unfold dOr; rw [h1]; cases b <;> simp [h2]
theorem j7 {b c:Bool} (h1:e τ=some (.bl b)) (h2:e2 τ=some (.bl c)):oa e e2 τ=some (.bl (b&&c)):=by
 unfold oa; rw [h1]; cases b <;> simp [h2]
end
theorem oH {α:Type} {xs:List α} {j:Int} (h0:0<=j) (h1:j < xs.length):∃ (h:j.toNat < xs.length),atI xs j=some xs[j.toNat]:=by
 refine ⟨by omega,?_⟩;have e:=Ce (xs:=xs) (j:=j.toNat) (List.getElem?_eq_getElem (by omega));rw [show ((j.toNat:Nat):Int)=j by omega] at e;exact e
end L2
end
section
namespace L2
open PySem PySem.Spec PySem.W PyProof.Rows
section
variable {X:Cx} {pins:List (Addr×Obj)} {σ:St} {H:Hp} {s:Shared} {h':Heap}
theorem Un.grow {fs ex:List Addr} {h:Heap} {P:Addr} {ps more:Array Value} (e:H P=some (.tbl ps)) (k:Heap.ExtBut P h h') (n:h'.get? P=some (tabObj (ps++more))):Un fs ex H (upd H P (.tbl (ps++more))) h h':=by
 have ne:∀ b u,H b=some u->(∀ qs,u≠.tbl qs)->b≠P:=λ b u q z y=>by subst y; rw [e] at q; cases q; exact z _ rfl
 have n0:∀ b,H b=none->b≠P:=λ b q y=>by subst y; rw [e] at q; cases q
 refine ⟨λ b o q z _ _=>k b o (n0 b z) q,λ b o q z _ _=>⟨o.slots,k b o (n0 b z) q⟩,λ b o q z _=>by rw [af (n0 b z)]; exact z,λ b o q _=>?_,λ b xs q=>by rw [af (ne b _ q λ _ y=>nomatch y)]; exact q,λ b o u q=>by rw [af (ne b _ q λ _ y=>nomatch y)]; exact q,λ b qs q=>?_⟩
 ·by_cases hb:b=P
  · subst hb; exact ⟨_,n⟩
  · exact ⟨o,k b o hb q⟩
 ·by_cases hb:b=P
  ·subst hb
   rw [e] at q;cases q;exact ⟨more,ai⟩
  · exact ⟨#[],by rw [af hb,q]; simp⟩
theorem HOk.grow {Pr:Program} {w:World} {h:Heap} {P:Addr} {ps more:Array Value} (hok:HOk Pr w H h) (e:H P=some (.tbl ps)) (k:Heap.ExtBut P h h') (n:h'.get? P=some (tabObj (ps++more))):HOk Pr w (upd H P (.tbl (ps++more))) h':=by
 have ne:∀ b u,H b=some u->(∀ qs,u≠.tbl qs)->b≠P:=λ b u q z y=>by subst y; rw [e] at q; cases q; exact z _ rfl
 intro b u q
 by_cases hb:b=P
 ·subst hb
  rw [ai] at q;cases q;exact n
 ·rw [af hb] at q
  refine (hok b u q).oT (λ c v hc q'=>?_) (λ c q'=>?_) λ c xs q'=>?_
  ·rcases hc with z | z
   · subst z; exact k c v hb q'
   · exact k c v (ne c _ z λ _ y=>nomatch y) q'
  · rw [af (ne c _ q' λ _ y=>nomatch y)]; exact q'
  · rw [af (ne c _ q' λ _ y=>nomatch y)]; exact q'
theorem Inv.grow {P:Addr} {ps more:Array Value} {t':Nat} (I:Inv X pins σ H s) (e:H P=some (.tbl ps)) (k:Heap.ExtBut P s.heap h') (n:h'.get? P=some (tabObj (ps++more))):Inv X pins σ (upd H P (.tbl (ps++more))) { s with heap:=h',toks:=t' } :=
 I.un (Un.grow e k n) (I.hok.grow e k n)
def FnAt (q:Addr) (ob:Obj):Heap->Prop:=λ h=>h.get? q=some ob
def sU (c:Addr) (qual:Str):Heap->Prop:=λ h=>h.CodeRec (.ref c) qual
theorem vD {Pr:Program} {w:World} {h:Heap} {q:Addr} {ob:Obj} (e:h.get? q=some ob):bT Pr w H h q (.ext (FnAt q ob)) :=
 ⟨e,⟨ob,e⟩,λ _ _ z k=>k _ z⟩
theorem B4 {Pr:Program} {w:World} {h:Heap} {c:Addr} {qual:Str} (e:h.CodeRec (.ref c) qual):bT Pr w H h c (.ext (sU c qual)):=by
 refine ⟨e,?_,λ h1 h2 z k=>?_⟩
 ·obtain ⟨c1,o,vs,t,e1,e2,_⟩:=e
  cases e1;exact ⟨o,e2⟩
 ·obtain ⟨c1,o,vs,t,e1,e2,e3,e4⟩:=z
  cases e1;exact ⟨c,o,vs,t,rfl,k _ e2,e3,e4⟩
end
theorem HOk.rH {Pr:Program} {w:World} {H:Hp} {h:Heap} {c:Addr} {o:HO} (hok:HOk Pr w H h) (n:H c=none) (ok:bT Pr w (upd H c o) h c o):HOk Pr w (upd H c o) h:=by
 have nH:∀ b u,H b=some u->b≠c:=λ b u e z=>by rw [z,n] at e; cases e
 intro b u e
 by_cases hb:b=c
 · subst hb; rw [ai] at e; cases e; exact ok
 ·rw [af hb] at e
  exact (hok b u e).oT (λ _ _ _ q=>q) (λ d q=>by rw [af (nH d _ q)]; exact q) λ d xs q=>by rw [af (nH d _ q)]; exact q
theorem Br {y:Str} {u:Value}:∀ {l:List (Str×Value)},(l.map (·.1)).Nodup->(y,u) ∈ l->l.lookup y=some u
 | [],_,m=>nomatch m
 | (z,v)::l,nd,m=>by
  rw [Zg,Zy] at nd;rw [Yq];rcases Zh.mp m with e | m
  ·injection e with e1 e2
   subst e1 e2;rw [beq_self_eq_true]
  ·have ne:(y == z)=false:=Yh.mpr λ e=>nd.1 (by rw [<- e]; exact Z2.mpr ⟨_,m,rfl⟩)
   rw [ne];exact Br nd.2 m
structure iu (N ps:List Str) (n1 n2:Str) (sc:Scope):Prop where
 kind:sc.kind=.function
 co:sc.isCoroutine=false
 gen:sc.isGenerator=false
 nd:N.Nodup
 eN:N=ps++[n1,n2]
 par:∀ x ∈ ps,sc.names.lookup x=some .local
 fZ:∀ y ∈ sc.names,y.2≠.cell
 fr:∀ y,sc.names.lookup y=some .free->y=n1\/y=n2
 fr1:sc.names.lookup n1=some .free
 fr2:sc.names.lookup n2=some .free
structure sT (bD:List (Str×Addr)) (n1 n2:Str) (c1 c2:Addr):Prop where
 l1:bD.lookup n1=some c1
 l2:bD.lookup n2=some c2
 only:∀ y c,bD.lookup y=some c->(y=n1/\c=c1)\/(y=n2/\c=c2)
 ne:c1≠c2
def iN (H:Hp) (c1 c2:Addr):Hp:=λ b=>if b=c1\/b=c2 then none else H b
theorem cN {H:Hp} {c1 c2 b:Addr} (h1:b≠c1) (h2:b≠c2):iN H c1 c2 b=H b:=if_neg λ z=>z.elim h1 h2
theorem vT {H:Hp} {c1 c2:Addr}:iN H c1 c2 c1=none:=if_pos (.inl rfl)
theorem vQ {H:Hp} {c1 c2:Addr}:iN H c1 c2 c2=none:=if_pos (.inr rfl)
theorem vP {H:Hp} {c1 c2 b:Addr} {o:HO} (h:iN H c1 c2 b=some o):b≠c1/\b≠c2/\H b=some o:=by
 unfold iN at h;split at h
 · cases h
 ·rename_i z
  exact ⟨λ y=>z (.inl y),λ y=>z (.inr y),h⟩
theorem c5 {H:Hp} {c1 c2 b:Addr} (h:H b=none):iN H c1 c2 b=none:=by
 unfold iN;split
 · rfl
 · exact h
def ka (CX:CXT) (P:Program) (w:World) (K:W.Frag) (mg:Str->Option Value) (base:Heap) (N:List Str) (qual:Str) (scope:Scope) (q:Addr) (cd:Value) (bD:List (Str×Addr)) (A:Around) (outer:List Env) (s:Shared) (H H0:Hp) (E:XK):Cx where
 prog:=P
 w:=w
 K:=K
 mg:=mg
 base:=base
 A:=A.deeper (envX qual scope s.heap.objs.size q cd bD)
 N:=N
 s₀:=s
 H₀:=H0
 env:=envX qual scope s.heap.objs.size q cd bD
 outer:=outer
 stack:=envX qual scope s.heap.objs.size q cd bD::outer
 ex:=[]
 calm:=true
 fn:=λ _=>false
 pn:=[]
 xe:=λ e s'=>wpAny (model P w) (A.deeper (envX qual scope s.heap.objs.size q cd bD)) (leaving (envX qual scope s.heap.objs.size q cd bD) e) (λ _ s''=>CX outer H s E e s'') (λ e' s''=>CX outer H s E e' s'') s'
section
variable {CX:CXT} {P:Program} {w:World} {K:W.Frag} {mg:Str->Option Value} {base:Heap} {N ps:List Str} {n1 n2 x qual:Str} {scope:Scope} {q c' c1 c2:Addr} {bD:List (Str×Addr)} {A:Around} {outer:List Env} {s:Shared} {H:Hp} {E:XK} {us:List Value} {vs:List V} {v1 v2:V} {Q:VK}
theorem HOk.iN {h:Heap} {φ1 φ2:Heap->Prop} (hok:HOk P w H h) (h1:H c1=some (.ext φ1)) (h2:H c2=some (.ext φ2)):HOk P w (iN H c1 c2) h:=λ b o e=>by
 obtain ⟨a1,a2,e⟩:=vP e;refine (hok b o e).oT (λ _ _ _ z=>z) (λ d z=>?_) λ d xs z=>?_
 · rw [cN (λ y=>by rw [y,h1] at z; cases z) (λ y=>by rw [y,h2] at z; cases z)]; exact z
 · rw [cN (λ y=>by rw [y,h1] at z; cases z) (λ y=>by rw [y,h2] at z; cases z)]; exact z
theorem Un.Gc {fs:List Addr} {H1:Hp} {h h':Heap} {o1 o2:HO} {φ1 φ2:Heap->Prop} (h1:H c1=some (.ext φ1)) (h2:H c2=some (.ext φ2)) (u:Un fs [] (iN H c1 c2) H1 h h'):Un fs [] H (upd (upd H1 c1 o1) c2 o2) h h':=by
 have n0:∀ b,H b=none->b≠c1/\b≠c2:=λ b z=>⟨(λ y=>by rw [y,h1] at z; cases z),(λ y=>by rw [y,h2] at z; cases z)⟩
 have ns:∀ b o,H b=some o->(∀ φ,o≠.ext φ)->b≠c1/\b≠c2:=λ b o z k=>⟨(λ y=>by rw [y,h1] at z; cases z; exact k _ rfl),(λ y=>by rw [y,h2] at z; cases z; exact k _ rfl)⟩
 refine ⟨λ b o e z hb hx=>u.keep b o e (c5 z) hb hx,λ b o e z hb hx=>u.slot b o e (c5 z) hb hx,λ b o e z hx=>?_,u.there,λ b xs e=>?_,λ b o xs e=>?_,λ b ps e=>?_⟩
 · rw [af (n0 b z).2,af (n0 b z).1]; exact u.free b o e (c5 z) hx
 ·have n:=ns b _ e λ _ y=>nomatch y
  rw [af n.2,af n.1]; exact u.mK b xs (by rw [cN n.1 n.2]; exact e)
 ·have n:=ns b _ e λ _ y=>nomatch y
  rw [af n.2,af n.1]; exact u.mr b o xs (by rw [cN n.1 n.2]; exact e)
 ·have n:=ns b _ e λ _ y=>nomatch y
  obtain ⟨more,z⟩:=u.lR b ps (by rw [cN n.1 n.2]; exact e);exact ⟨more,by rw [af n.2,af n.1]; exact z⟩
end
def Ck (P:Program) (w:World) (K:W.Frag) (mg:Str->Option Value) (base:Heap) (CX:CXT) (k:Nat) (q:Addr) (n:Nat) (sp:Sp):Prop :=
  ∀ (A:Around) (outer:List Env) (s:Shared) (H:Hp) (us:List Value) (vs:List V) (Q:VK) (E:XK),cg k A->rE P w K mg base A outer s H->a7 vs us->vs.length=n->sp vs H Q E ->
    codeAny (model P w) A (.call (.ref q) ⟨us,[]⟩) (CR CX outer P w H s Q E) s
section
variable {X:Cx} {CX:CXT} {k n:Nat} {x:Str} {p pos:Pos} {e:Expr} {es:List Expr} {t:TA} {E:XK}
theorem Ah {q:Addr} {sp:Sp} {pins:List (Addr×Obj)} {σ:St} {H:Hp} {s:Shared} {Q:VK} {us:List Value} {vs:List V} (F:Ck X.prog X.w X.K X.mg X.base CX k q n sp) (hr:cg k X.A) (hx:fj CX X E)
  (I:Inv X pins σ H s) (r:a7 vs us) (hl:vs.length=n) (h:sp vs H Q E):wpAny (model X.prog X.w) X.A (call (.ref q) us) (EP X pins σ Q) X.xe s:=by
 refine wpAny_call (Xo (F X.A X.stack s H us vs Q E hr I.EJ r hl h) λ r s' hq=>?_)
 cases r with
 | error e=>exact hx pins σ H s e s' I hq
 | ok fl =>
  cases fl with
  | ret u=>exact I.after hq
  | next=>exact False.elim hq
  | brk=>exact False.elim hq
  | cont=>exact False.elim hq
def yP (i n:Nat) (spq:Addr->Sp) (E:XK) (t:TA):TE:=λ σ H Q=>∃ q ob fd,σ[i]?=some (some (.ref q))/\Obj.data ob=.func fd/\t σ H λ vs H1=>H1 q=some (.ext (FnAt q ob))/\vs.length=n/\spq q vs H1 Q E
theorem qq {spq:Addr->Sp} (i:Nat) (F:∀ q,Ck X.prog X.w X.K X.mg X.base CX k q n (spq q)) (hr:cg k X.A) (hN:X.N[i]?=some x) (hv:Vis X.env.scope x) (hx:fj CX X E)
  (ha:PA X (e::es) t) (hdb:(x == ("__debug__":Str))=false:=by decide) (hcd:(x == ("__classdict__":Str))=false:=by decide) (he:starEach (e::es) X.env=(false,eval e X.env)::starEach es X.env:=by rfl) :
  PE X (.Call (.Name x p) (e::es) [] pos) (yP i n spq E t):=by
 intro pins s σ H Q I h;obtain ⟨q,ob,fd,e1,e2,h⟩:=h;refine Yo (thn (dH hN hv hdb hcd pins s σ H (λ v H1=>v=.ref q/\H1=H) I ⟨.ref q,e1,rfl,rfl⟩) λ f s1 ⟨y,H1,I1,r1,e3,e4⟩=>?_);subst e3 e4;cases (show f=Value.ref q from r1);exact callWith_def e2 (thn (ha pos pins s1 σ H1 _ I1 h) λ us s2 ⟨vs,H2,I2,r2,a,b,c⟩=>⟨(I2.hok q _ a).1,Ah (F q) hr hx I2 r2 b c⟩) he
end
def eX (c:Addr) (o:Obj) (v:V):Heap->Prop:=λ h=>h.get? c=some o/\∃ u,RelV v u/\h.IsCell c (some u)
theorem mE {Pr:Program} {w:World} {H:Hp} {h:Heap} {c:Addr} {o:Obj} {v:V} (g:h.get? c=some o) (e:∃ u,RelV v u/\h.IsCell c (some u)):bT Pr w H h c (.ext (eX c o v)):=by
 refine ⟨⟨g,e⟩,⟨o,g⟩,λ h1 h2 z k=>?_⟩;obtain ⟨z0,u',r',o',z1,z2⟩:=z;exact ⟨k _ z0,u',r',o',k _ z1,z2⟩
section
variable {CX:CXT} {P:Program} {w:World} {K:W.Frag} {mg:Str->Option Value} {base:Heap} {N ps:List Str} {n1 n2 x qual:Str} {scope:Scope} {q c' c1 c2:Addr} {bD:List (Str×Addr)} {A:Around} {outer:List Env} {s:Shared} {H:Hp} {E:XK} {us:List Value} {vs:List V} {v1 v2:V} {Q:VK}
theorem yh {o1 o2:Obj} {h':Heap} {tk:Nat} (S:iu N ps n1 n2 scope) (C:sT bD n1 n2 c1 c2) (hd:A.handled=none) (e0:rE P w K mg base A outer s H) (h1:H c1=some (.ext (eX c1 o1 v1))) (h2:H c2=some (.ext (eX c2 o2 v2)))
  (hl:vs.length=ps.length) (r:a7 vs us) (hns:h'.Ns s.heap.objs.size λ y=>(ps.zip us).reverse.lookup y) (hk:∀ b u,s.heap.get? b=some u->h'.get? b=some u) :
  Inv (ka CX P w K mg base N qual scope q (.ref c') bD A outer s H (iN H c1 c2) E) [] (vs.map some++[some v1,some v2]) (iN H c1 c2) { s with heap:=h',toks:=tk }:=by
 have noA:∀ b:Addr,b ∉ (ka CX P w K mg base N qual scope q (.ref c') bD A outer s H (iN H c1 c2) E).ex:=λ b z=>absurd (show b ∈ ([]:List Addr) from z) (by simp)
 have cl1:∃ u,RelV v1 u/\s.heap.IsCell c1 (some u):=(e0.hok c1 _ h1).1.2
 have cl2:∃ u,RelV v2 u/\s.heap.IsCell c2 (some u):=(e0.hok c2 _ h2).1.2
 have up:∀ {d:Addr} {u:Option Value},s.heap.IsCell d u->h'.IsCell d u:=λ ⟨o,a,b⟩=>⟨o,hk _ _ a,b⟩
 refine ⟨⟨e0.mod,S.kind,rfl,rfl,Zk _,λ y z c a b=>?_,λ y hy=>?_,λ y c z _=>absurd (show false=true from z) Zf,λ _=>hd,Around.frames_deeper e0.frames,.inr ⟨rfl,rfl⟩,λ b z=>absurd z (noA b),λ b o e=>⟨(e0.bs b o e).1,c5 (e0.bs b o e).2⟩,e0.bsz,λ b _ _=>noA b,λ b z=>absurd z (noA b),e0.mM,λ b z=>c5 (e0.frf b z)⟩,
  rfl,e0.bare,Un.kept hk,⟨_,hns,λ i y v a b z=>?_⟩,λ y c a=>?_,c5 (e0.hok.fresh (Zk _)),λ y c a=>?_,λ p hp=>absurd (show p ∈ ([]:List (Addr×Obj)) from hp) (by simp),(e0.hok.iN h1 h2).kept hk,?_⟩
 ·rcases C.only y c a with ⟨y1,e1⟩ | ⟨y1,e1⟩ <;> rcases C.only z c b with ⟨z1,e2⟩ | ⟨z1,e2⟩
  · rw [y1,z1]
  · exact absurd (e1.symm.trans e2) C.ne
  · exact absurd (e2.symm.trans e1) C.ne
  · rw [y1,z1]
 ·have hy:scope.names.lookup y=some .cell\/scope.names.lookup y=some .free:=hy
  rcases hy with hy | hy
  · exact absurd rfl (S.fZ _ (Z4 hy))
  ·rcases S.fr y hy with rfl | rfl
   · exact ⟨c1,C.l1⟩
   · exact ⟨c2,C.l2⟩
 ·have a:N[i]?=some y:=a
  rw [S.eN] at a;have zp:(ps.zip us).length=ps.length:=by rw [List.length_zip,<- r.length,hl,Nat.min_self]
  by_cases hi:i < ps.length
  ·rw [List.getElem?_append_left hi] at a
   rw [List.getElem?_append_left (by rw [Za,hl]; exact hi),List.getElem?_map] at b
   cases e:vs[i]? with
   | none=>rw [e] at b; cases b
   | some v' =>
    rw [e] at b; cases b
    obtain ⟨u,hu,rv⟩:=r.get e;have kl:=S.par y (List.mem_of_getElem? a);refine ⟨u,rv,.inl ⟨kl,?_⟩⟩
    have nd:ps.Nodup:=by
     have:=S.nd;rw [S.eN] at this;exact this.sublist (List.sublist_append_left ..)
    have lu:us.length=ps.length:=by rw [<- r.length,hl]
    refine Br ?_ (List.mem_reverse.mpr ?_)
    ·rw [List.map_reverse,List.map_fst_zip (by omega)]
     exact List.pairwise_reverse.mpr (nd.imp λ h=>Ne.symm h)
    ·refine List.mem_of_getElem? (i:=i) ?_
     rw [List.getElem?_zip_eq_some];exact ⟨a,hu⟩
  ·have hi':ps.length<=i:=by omega
   rw [List.getElem?_append_right hi'] at a;rw [List.getElem?_append_right (by rw [Za,hl]; exact hi'),Za,hl] at b
   match hj:i - ps.length,a,b with
   | 0,a,b =>
    cases a; cases b
    obtain ⟨u,ru,z'⟩:=cl1;exact ⟨u,ru,.inr ⟨.inr S.fr1,c1,C.l1,up z'⟩⟩
   | 1,a,b =>
    cases a; cases b
    obtain ⟨u,ru,z'⟩:=cl2;exact ⟨u,ru,.inr ⟨.inr S.fr2,c2,C.l2,up z'⟩⟩
   | n+2,a,b=>simp at a
 ·rcases C.only y c a with ⟨_,rfl⟩ | ⟨_,rfl⟩
  · obtain ⟨u,_,z'⟩:=cl1; exact ⟨_,up z'⟩
  · obtain ⟨u,_,z'⟩:=cl2; exact ⟨_,up z'⟩
 ·rcases C.only y c a with ⟨_,rfl⟩ | ⟨_,rfl⟩
  · exact vT
  · exact vQ
 ·show _=N.length
  rw [S.eN,Z3,Z3,Za,hl];rfl
end
section
variable {X:Cx} {k:Nat} {f C:Addr} {fd:FuncData} {ps:List Str} {sp:Sp} {x m n1 n2:Str} {p pos apos:Pos} {e o:Expr} {es:List Expr} {ta:TE} {t:TA} {c1 c2:Addr} {j1 j2:Nat}
structure Two (X:Cx) (n1 n2:Str) (j1 j2:Nat) (c1 c2:Addr):Prop where
 g1:X.N[j1]?=some n1
 g2:X.N[j2]?=some n2
 k1:X.env.scope.names.lookup n1=some .cell
 k2:X.env.scope.names.lookup n2=some .cell
 l1:X.env.cells.lookup n1=some c1
 l2:X.env.cells.lookup n2=some c2
 f1:X.fn n1=true
 f2:X.fn n2=true
 ne:n1≠n2
theorem Inv.cellAt {pins:List (Addr×Obj)} {σ:St} {H:Hp} {s:Shared} {j:Nat} {n:Str} {v:V} {d:Addr} (I:Inv X pins σ H s) (a:X.N[j]?=some n) (b:σ[j]?=some (some v)) (e:X.env.scope.names.lookup n=some .cell) (l:X.env.cells.lookup n=some d) :
  ∃ o,s.heap.get? d=some o/\∃ u,RelV v u/\s.heap.IsCell d (some u):=by
 obtain ⟨m,hn,hl⟩:=I.loc;obtain ⟨u,ru,lk⟩:=hl j n v a b (.inr (.inl e));rcases lk with ⟨z,_⟩ | ⟨_,d',l',z⟩
 · rw [show X.env.kindOf n=X.env.scope.names.lookup n from rfl,e] at z; cases z
 ·rw [l] at l'; cases l'
  obtain ⟨o,z1,z2⟩:=id z;exact ⟨o,z1,u,ru,z⟩
theorem Ag {pins:List (Addr×Obj)} {σ:St} {H:Hp} {s:Shared} {Q:VK} {us:List Value} {vs:List V} {v1 v2:V} (F:gL X.prog X.w X.K X.mg X.base CX0 k f fd ps sp) (hr:cg k X.A) (hb:Binds X.K fd ps []) (W:Two X n1 n2 j1 j2 c1 c2)
  (w1:σ[j1]?=some (some v1)) (w2:σ[j2]?=some (some v2)) (I:Inv X pins σ H s) (r:a7 vs us)
  (h:∀ o1 o2,c1≠c2->H c1=none->H c2=none->sp vs (upd (upd H c1 (.ext (eX c1 o1 v1))) c2 (.ext (eX c2 o2 v2))) (λ v H3=>H3 c1=some (.ext (eX c1 o1 v1))/\H3 c2=some (.ext (eX c2 o2 v2))/\Q v (iN H3 c1 c2)) E0) :
  wpAny (model X.prog X.w) X.A (call (.ref f) us) (EP X pins σ Q) X.xe s:=by
 obtain ⟨o1,q1,z1⟩:=I.cellAt W.g1 w1 W.k1 W.l1;obtain ⟨o2,q2,z2⟩:=I.cellAt W.g2 w2 W.k2 W.l2;have m1:=I.dS n1 c1 W.l1;have m2:=I.dS n2 c2 W.l2;have c12:c1≠c2:=λ z=>W.ne (I.ok.inj n1 n2 c1 W.l1 (z ▸ W.l2))
 have h':=h o1 o2 c12 m1 m2;have ab1:X.s₀.heap.objs.size<=c1:=I.ok.cab n1 c1 W.f1 W.l1;have ab2:X.s₀.heap.objs.size<=c2:=I.ok.cab n2 c2 W.f2 W.l2;have m2':upd H c1 (.ext (eX c1 o1 v1)) c2=none:=(af (Ne.symm c12)).trans m2;have ok1:=I.hok.rH (o:=.ext (eX c1 o1 v1)) m1 (mE q1 z1);have ok2:=ok1.rH (o:=.ext (eX c2 o2 v2)) m2' (mE q2 z2);have lo:∀ b,b < X.s₀.heap.objs.size->b≠c1/\b≠c2:=λ b hb=>⟨λ z=>by rw [z] at hb; omega,λ z=>by rw [z] at hb; omega⟩
 have off:∀ b,b≠c1/\b≠c2->H b=none->upd (upd H c1 (.ext (eX c1 o1 v1))) c2 (.ext (eX c2 o2 v2)) b=none:=λ b n z=>by rw [af n.2,af n.1]; exact z
 have frl:∀ b ∈ frs X.stack,b≠c1/\b≠c2:=λ b hb=>by
  rcases Zh.mp (I.dF b hb) with y | y
  ·obtain ⟨m,⟨o,es,ep,ho,hc,hd,_⟩,_⟩:=I.loc
   obtain ⟨u1,_,oo1,a1,b1⟩:=z1;obtain ⟨u2,_,oo2,a2,b2⟩:=z2;refine ⟨λ z=>?_,λ z=>?_⟩
   · rw [<- y,z,a1] at ho; cases ho; simp_all
   · rw [<- y,z,a2] at ho; cases ho; simp_all
  ·obtain ⟨_,o,ho,_⟩:=I.ok.mM.mem y
   exact lo b (Zr ho)
 have e0:rE X.prog X.w X.K X.mg X.base X.A X.stack s (upd (upd H c1 (.ext (eX c1 o1 v1))) c2 (.ext (eX c2 o2 v2))):=by
  have E:=I.EJ;refine ⟨E.frames,E.mod,λ b o e=>⟨(E.bs b o e).1,off b (lo b ?_) (E.bs b o e).2⟩,E.bsz,E.mM,λ b hb=>off b (frl b hb) (E.frf b hb),ok2,E.bare⟩;exact Zr (I.ok.bs b o e).1
 have hl:us.length=ps.length:=by rw [<- r.length]; exact F.len _ _ _ _ h'
 have hb':=hb s us I.kIn (by rw [Z1]; exact hl);rw [Z1] at hb';refine wpAny_call (Xo (F.run X.A X.stack s _ ⟨us,[]⟩ us vs _ E0 hr e0 hb' r h') λ r s' hq=>?_)
 cases r with
 | error e=>exact False.elim hq
 | ok fl =>
  cases fl with
  | next=>exact False.elim hq
  | brk=>exact False.elim hq
  | cont=>exact False.elim hq
  | ret u =>
   obtain ⟨v,H3,os,bare,un,hok,rv,y1,y2,q⟩:=hq;have k1:s'.heap.get? c1=some o1:=(hok c1 _ y1).1.1;have k2:s'.heap.get? c2=some o2:=(hok c2 _ y2).1.1
   have un2:Un (frs X.stack) [] H (iN H3 c1 c2) s.heap s'.heap:=by
    have dn:∀ b u,H b=some u->b≠c1/\b≠c2:=λ b u e=>⟨(λ z=>by rw [z,m1] at e; cases e),(λ z=>by rw [z,m2] at e; cases e)⟩
    have sm:∀ b u,H b=some u->upd (upd H c1 (.ext (eX c1 o1 v1))) c2 (.ext (eX c2 o2 v2)) b=some u:=λ b u e=>by rw [af (dn b u e).2,af (dn b u e).1]; exact e
    refine ⟨λ b ob e z hb hx=>?_,λ b ob e z hb hx=>?_,λ b ob e z hx=>?_,un.there,λ b xs e=>?_,λ b ob xs e=>?_,λ b ps e=>?_⟩
    ·by_cases x1:b=c1
     · rw [x1] at e ⊢; rw [q1] at e; cases e; exact k1
     by_cases x2:b=c2
     · rw [x2] at e ⊢; rw [q2] at e; cases e; exact k2
     exact un.keep b ob e (off b ⟨x1,x2⟩ z) hb hx
    ·by_cases x1:b=c1
     · rw [x1] at e ⊢; rw [q1] at e; cases e; exact ⟨_,k1⟩
     by_cases x2:b=c2
     · rw [x2] at e ⊢; rw [q2] at e; cases e; exact ⟨_,k2⟩
     exact un.slot b ob e (off b ⟨x1,x2⟩ z) hb hx
    ·by_cases x1:b=c1
     · rw [x1]; exact vT
     by_cases x2:b=c2
     · rw [x2]; exact vQ
     exact c5 (un.free b ob e (off b ⟨x1,x2⟩ z) hx)
    · rw [cN (dn b _ e).1 (dn b _ e).2]; exact un.mK b xs (sm b _ e)
    · rw [cN (dn b _ e).1 (dn b _ e).2]; exact un.mr b ob xs (sm b _ e)
    ·obtain ⟨more,z⟩:=un.lR b ps (sm b _ e)
     exact ⟨more,by rw [cN (dn b _ e).1 (dn b _ e).2]; exact z⟩
   exact ⟨v,_,I.yA os un2 (hok.iN y1 y2) bare (λ b z=>absurd z (by simp)),rv,q⟩
end
abbrev fnE (qual:Str) (params:Arguments) (body:Expr) (scope:Scope) (bD:List (Str×Addr)) (pm:Value) (c':Value) (ctv:Value):FuncData:={ fnX "<lambda>" qual params [] scope bD .none .none .none pm none c' ctv with body:=.expr body }
abbrev yf (qual:Str) (params:Arguments) (body:Expr) (scope:Scope) (bD:List (Str×Addr)) (pm:Value) (c':Addr) (ctv:Value):Obj:={ cls:=.type "function",data:=.func (fnE qual params body scope bD pm (.ref c') ctv) }
section
variable {M:Model} {A:Around} {E:Value->Shared->Prop} {s:Shared} {qual:Str} {params:Arguments} {body:Expr} {scope:Scope} {env:Env} {c P:Addr} {ps:Array Value} {pos:Pos} {firstLine:Nat} {mg:Str->Option Value} {bD:List (Str×Addr)} {Q:Value->Shared->Prop}
theorem Ir (hcl:closureFor scope env=pure bD) (hge0:env.globals=mainGlobals) (hg:s.heap.Ns mainGlobals mg) (hcode:env.code=.ref c) (C:CodeHd s.heap c P) (hP:s.heap.get? P=some (tabObj ps)) (ht:TriplesOk ps.toList)
  (hnf:codeAmong pos ps.toList=none) (hgP:mainGlobals≠P) (hb:s.heap.BuiltinsAt mg P)
  (h : ∀ c' ctv h' tk,Heap.ExtBut P s.heap h'->s.heap.objs.size<=c'->c' < h'.objs.size->h'.CodeRec (.ref c') qual->h'.get? P=some (tabObj (ps++#[rawInt pos.line,rawInt pos.col,.ref c'])) ->
    Q (.ref h'.objs.size) { s with heap:=h'.push (yf qual params body scope bD ((mg "__name__").getD .none) c' ctv),toks:=tk }) :
  wpAny M A (makeFunction "<lambda>" qual params (.expr body) scope env [] [] [] pos firstLine) Q E s:=by
 rw [makeFunction_eq];simp only [List.zip_nil_right,List.filterMap_nil,List.isEmpty_nil,if_true,pure_bind];obtain ⟨bm,ob,hbm,hne0,_,hneP,hbo,hcls,hdict,hdata⟩:=hb;unfold makeTail;rw [hcl,hge0];refine Zl (Zx ?_)
 cases bD with
 | nil =>
  simp only [List.isEmpty_nil,if_true];refine Zl (Zx ?_);refine Zl (wpAny_functionCodeX hcode (C.code hP ht) (C.tab hP) hnf λ c' h' tk hx hge hlt _ hrec htb _=>?_);have hg':=hg.extBut hx hgP;refine Zl (wpAny_builtinsFor hg' hbm hne0 (hx _ _ hneP hbo) hcls hdict hdata ?_);refine Zl (wpAny_nsGet hg' ?_);exact Zl (Zx (Y7 (h c' .none h' tk hx hge hlt hrec htb.2) (by size_fits)))
 | cons q r =>
  simp only [List.isEmpty_cons,Bool.false_eq_true,if_false];refine Zl (wpAny_newTextTuple ?_);refine Zl (wpAny_functionCodeX hcode ((C.keeps λ b o e=>Heap.get?_push_of_some _ e).code (Heap.get?_push_of_some _ hP) ht) ((C.keeps λ b o e=>Heap.get?_push_of_some _ e).tab (Heap.get?_push_of_some _ hP)) hnf λ c' h' tk hx hge hlt _ hrec htb _=>?_);have hg':=(hg.push _).extBut hx hgP;have hx':Heap.ExtBut P s.heap h':=λ b o hb' e=>hx b o hb' (Heap.get?_push_of_some _ e)
  have hge':s.heap.objs.size<=c':=Z5 (by rw [Y3]; omega) hge;refine Zl (wpAny_builtinsFor hg' hbm hne0 (hx' _ _ hneP hbo) hcls hdict hdata ?_);refine Zl (wpAny_nsGet hg' ?_);exact Zl (Zx (Y7 (h c' _ h' tk hx' hge' hlt hrec htb.2) (by size_fits)))
theorem D0 {cv:Addr} (hcl:closureFor scope env=pure bD) (hge0:env.globals=mainGlobals) (hg:s.heap.Ns mainGlobals mg) (hcode:env.code=.ref c) (C:CodeHd s.heap c P) (hP:s.heap.get? P=some (tabObj ps)) (ht:TriplesOk ps.toList)
  (hf:codeAmong pos ps.toList=some (.ref cv)) (hb:s.heap.BuiltinsAt mg P)
  (h : ∀ (ctv:Value) (h':Heap) (tk:Tok),(∀ b o,s.heap.get? b=some o->h'.get? b=some o)->s.heap.objs.size<=h'.objs.size ->
    Q (.ref h'.objs.size) { s with heap:=h'.push (yf qual params body scope bD ((mg "__name__").getD .none) cv ctv),toks:=tk }) :
  wpAny M A (makeFunction "<lambda>" qual params (.expr body) scope env [] [] [] pos firstLine) Q E s:=by
 rw [makeFunction_eq];simp only [List.zip_nil_right,List.filterMap_nil,List.isEmpty_nil,if_true,pure_bind];obtain ⟨bm,ob,hbm,hne0,_,hneP,hbo,hcls,hdict,hdata⟩:=hb;unfold makeTail;rw [hcl,hge0];refine Zl (Zx ?_)
 cases bD with
 | nil =>
  simp only [List.isEmpty_nil,if_true];refine Zl (Zx ?_);refine Zl (wpAny_functionCode_hit hcode (C.code hP ht) hf ?_);refine Zl (wpAny_builtinsFor hg hbm hne0 hbo hcls hdict hdata ?_);refine Zl (wpAny_nsGet hg ?_);exact Zl (Zx (Y7 (h .none s.heap s.toks (λ _ _ e=>e) (Zk _)) (by size_fits)))
 | cons q r =>
  simp only [List.isEmpty_cons,Bool.false_eq_true,if_false];refine Zl (wpAny_newTextTuple ?_);refine Zl (wpAny_functionCode_hit hcode ((C.keeps λ b o e=>Heap.get?_push_of_some _ e).code (Heap.get?_push_of_some _ hP) ht) hf ?_);refine Zl (wpAny_builtinsFor (hg.push _) hbm hne0 (Heap.get?_push_of_some _ hbo) hcls hdict hdata ?_);refine Zl (wpAny_nsGet (hg.push _) ?_);exact Zl (Zx (Y7 (h _ _ s.toks (λ b o e=>Heap.get?_push_of_some _ e) (by rw [Y3]; omega)) (by size_fits)))
end
section
variable {X:Cx} {params:Arguments} {body:Expr} {scope:Scope} {pos:Pos} {c P:Addr} {bD:List (Str×Addr)}
abbrev wR (X:Cx) (params:Arguments) (body:Expr) (scope:Scope) (bD:List (Str×Addr)) (c':Addr) (ctv:Value):Obj:=yf (X.env.qual++"<lambda>") params body scope bD ((X.mg "__name__").getD Value.none) c' ctv
def E7 (X:Cx) (P:Addr) (params:Arguments) (body:Expr) (scope:Scope) (bD:List (Str×Addr)) (pos:Pos):TE:=λ σ H Q =>
  ∃ ps,H P=some (.tbl ps)/\TriplesOk ps.toList/\codeAmong pos ps.toList=none/\∀ (q c':Addr) (ctv:Value),H q=none->H c'=none->q≠c' ->
    Q (.ref q) (upd (upd (upd H P (.tbl (ps++#[rawInt (pos.line:Int),rawInt (pos.col:Int),.ref c']))) c' (.ext (sU c' (X.env.qual++"<lambda>")))) q (.ext (FnAt q (wR X params body scope bD c' ctv))))
def CN (X:Cx) (P:Addr) (params:Arguments) (body:Expr) (scope:Scope) (bD:List (Str×Addr)) (pos:Pos):TE:=λ σ H Q =>
 ∃ ps c',H P=some (.tbl ps)/\TriplesOk ps.toList/\codeAmong pos ps.toList=some (.ref c')/\∀ (q:Addr) (ctv:Value),H q=none->Q (.ref q) (upd H q (.ext (FnAt q (wR X params body scope bD c' ctv))))
theorem jG (hcl:closureFor scope X.env=pure bD) (hc:X.env.code=.ref c) (hC:CodeHd X.base c P) (hPg:mainGlobals≠P) (hB:X.base.BuiltinsAt X.mg P)
  (hd:params.defaults=[]:=by rfl) (hkd:params.kw_defaults=[]:=by rfl) (hex:X.ex=[]:=by rfl):PE X (.Lambda params body scope pos) (E7 X P params body scope bD pos):=by
 intro pins s σ H Q I h;obtain ⟨ps,eP,tr,ca,q⟩:=h;rw [arm_eval_Lambda,defaultsOf_eq,hd,hkd];refine Zl (Zx (Zl (wpAny_holding (Zx ?_))));have kb:∀ b o,X.base.get? b=some o->s.heap.get? b=some o:=λ b o e=>(I.bs b o e).1
 have hC':CodeHd s.heap c P:=hC.keeps kb
 have hB':s.heap.BuiltinsAt X.mg P:=by
  obtain ⟨bm,o,e1,e2,e3,e4,e5,r⟩:=hB;exact ⟨bm,o,e1,e2,e3,e4,kb _ _ e5,r⟩
 refine Ir hcl I.ok.glob (by have:=I.mod.glob.keeps kb; exact this) hc hC' (I.hok P _ eP) tr ca hPg hB' λ c' ctv h' tk ext l1 l2 cr nP=>?_
 have I1:=I.grow (t':=tk) eP ext nP;have nc:H c'=none:=I.hok.fresh l1;have ncP:c'≠P:=λ z=>by rw [z,eP] at nc; cases nc
 have lt:∀ {b:Addr} {o:Obj},s.heap.get? b=some o->b≠c':=λ {b o} e z=>by
  have:=Zr e;rw [z] at this;exact absurd l1 (Nat.not_le.mpr this)
 have I2:=I1.rH (a:=c') (o:=.ext (sU c' (X.env.qual++"<lambda>"))) (by rw [af ncP]; exact nc) (by
    cases z:X.s₀.heap.get? c' with
    | none=>rfl
    | some o =>
     obtain ⟨o',e'⟩:=I.base.there c' o z (by rw [hex]; exact Yd)
     exact absurd rfl (lt e'))
  (by
    obtain ⟨m,⟨o,es,ep,ho,_⟩,_⟩:=I.loc
    exact (lt ho).symm)
  (λ y d e=>by
    obtain ⟨v,o,ho,_⟩:=I.cell y d e
    exact lt ho)
  (λ p hp=>lt (I.pin p hp).1) (B4 cr)
 have I3:=I2.laid (a:=h'.objs.size) (o:=.ext (FnAt h'.objs.size (wR X params body scope bD c' ctv))) (h':=h'.push (wR X params body scope bD c' ctv)) (t':=tk) (λ b u e=>Heap.get?_push_of_some _ e) (Zk _) (vD (Heap.get?_push_size _ rfl))
 have nq:H h'.objs.size=none:=by
  have:=I1.hok.fresh (Zk h'.objs.size)
  by_cases hb:h'.objs.size=P
  · rw [hb,ai] at this; cases this
  · rw [af hb] at this; exact this
 exact ⟨.ref _,_,I3,rfl,q _ c' ctv nq nc (λ z=>by rw [<- z] at l2; exact Yp _ l2)⟩
theorem AI (hcl:closureFor scope X.env=pure bD) (hc:X.env.code=.ref c) (hC:CodeHd X.base c P) (hB:X.base.BuiltinsAt X.mg P)
  (hd:params.defaults=[]:=by rfl) (hkd:params.kw_defaults=[]:=by rfl):PE X (.Lambda params body scope pos) (CN X P params body scope bD pos):=by
 intro pins s σ H Q I h;obtain ⟨ps,c',eP,tr,ca,q⟩:=h;rw [arm_eval_Lambda,defaultsOf_eq,hd,hkd];refine Zl (Zx (Zl (wpAny_holding (Zx ?_))));have kb:∀ b o,X.base.get? b=some o->s.heap.get? b=some o:=λ b o e=>(I.bs b o e).1
 have hC':CodeHd s.heap c P:=hC.keeps kb
 have hB':s.heap.BuiltinsAt X.mg P:=by
  obtain ⟨bm,o,e1,e2,e3,e4,e5,r⟩:=hB;exact ⟨bm,o,e1,e2,e3,e4,kb _ _ e5,r⟩
 refine D0 hcl I.ok.glob (by have:=I.mod.glob.keeps kb; exact this) hc hC' (I.hok P _ eP) tr ca hB' λ ctv h' tk ext sz=>?_
 have I1:=I.kept (t':=tk) ext;have nq:H h'.objs.size=none:=I1.hok.fresh (Zk _);have I3:=I1.laid (a:=h'.objs.size) (o:=.ext (FnAt h'.objs.size (wR X params body scope bD c' ctv))) (h':=h'.push (wR X params body scope bD c' ctv)) (t':=tk) (λ b u e=>Heap.get?_push_of_some _ e) (Zk _) (vD (Heap.get?_push_size _ rfl));exact ⟨.ref _,_,I3,rfl,q _ ctv nq⟩
end
section
variable {prog:Program} {w:World} {A:Around} {s:Shared} {R:Result->Shared->Prop}
theorem qZ {e:Expr} {env:Env} (h:wpAny (model prog w) (A.deeper env) (eval e env) (λ v s'=>R (.ok (.ret v)) s') (λ e s'=>wpAny (model prog w) (A.deeper env) (leaving env e) (λ _ s''=>R (.error e) s'') (λ e' s''=>R (.error e') s'') s') s):codeAny (model prog w) A (.expr e env) R s:=by
 refine codeAny_of_tree ?_
 show wpAny _ (A.deeper env) (do point; ret (<- (eval e env).onRaise (leaving env))) _ _ s;exact Zl (wpAny_point (Zl (wpAny_onRaise (Z9 h (λ f s' h'=>Zx h') λ _ _ h'=>h'))))
theorem rg {a:Addr} {args:Args} {o:Obj} {fd:FuncData} {body:Expr} (hroom:A.depth < recursionLimit)
  (ho:s.heap.get? a=some o)
  (hd':o.data=.func fd) (hco:fd.scope.isCoroutine=false) (hgen:fd.scope.isGenerator=false) (hbody:fd.body=.expr body) (hcd:s.heap.CodeRec fd.code fd.qualname)
  (h : wpAny (model prog w) A.in1 (bindArgs fd args) (λ binds s₁ =>
    wpAny (model prog w) A.in1 (newFunctionEnv fd.scope fd.globals fd.closure binds (fd.qualname++".<locals>.") (some a) fd.code none fd.builtins)
     (λ env s₂=>s₂.heap.NoLimit/\codeAny (model prog w) A (.expr body env) R s₂) (λ e s'=>R (.error e) s') s₁) (λ e s'=>R (.error e) s') s) :
  codeAny (model prog w) A (.call (.ref a) args) R s:=by
 refine codeAny_of_tree ?_
 show wpAny _ A.in1 (callAny (.ref a) args) _ _ s;simp only [callAny];refine Zl (wpAny_load ho ?_);obtain ⟨c,oc,vs,tq,hc,hoc,hdc,hq⟩:=hcd;simp only [hd',callFunction,hco,hgen,hbody,hc];rw [hc] at h;refine Zl (m:=field (.ref c) 1) (wpAny_field hoc hdc hq (Zl (Zx ?_)))
 exact Zl (Z9 h (λ binds s₁ h₁=>Zl (Z9 h₁ (λ env s₂ h₂=>Zl (wpAny_enterFrame h₂.1 hroom
  (Zx (And.intro rfl h₂.2)))) λ _ _ h'=>h')) λ _ _ h'=>h')
end
section
variable {CX:CXT} {P:Program} {w:World} {K:W.Frag} {mg:Str->Option Value} {base:Heap} {N ps:List Str} {n1 n2 x qual:Str} {scope:Scope} {q c' c1 c2:Addr} {bD:List (Str×Addr)} {A:Around} {outer:List Env} {s:Shared} {H:Hp} {E:XK} {us:List Value} {vs:List V} {v1 v2:V} {Q:VK}
theorem yd {o1 o2:Obj} {k:Nat} {params:Arguments} {body:Expr} {pm ctv:Value} {args:Args} (S:iu N ps n1 n2 scope) (C:sT bD n1 n2 c1 c2) (hr:cg (k+1) A) (e0:rE P w K mg base A outer s H)
  (hq:H q=some (.ext (FnAt q (yf qual params body scope bD pm c' ctv)))) (hc:H c'=some (.ext (sU c' qual))) (h1:H c1=some (.ext (eX c1 o1 v1))) (h2:H c2=some (.ext (eX c2 o2 v2)))
  (hb:BindsTo s (fnE qual params body scope bD pm (.ref c') ctv) args (ps.zip us)) (hl:vs.length=ps.length) (r:a7 vs us)
  (hbody:cg k (A.deeper (envX qual scope s.heap.objs.size q (.ref c') bD))->∃ t,PE (ka CX P w K mg base N qual scope q (.ref c') bD A outer s H (iN H c1 c2) E) body t /\
    t (vs.map some++[some v1,some v2]) (iN H c1 c2) λ v H1=>H1 c1=none->H1 c2=none->Q v (upd (upd H1 c1 (.ext (eX c1 o1 v1))) c2 (.ext (eX c2 o2 v2)))) :
  codeAny (model P w) A (.call (.ref q) args) (CR CX outer P w H s Q E) s:=by
 have lim:s.heap.NoLimit:=e0.mod.nolimit.keeps λ b o e=>(e0.bs b o e).1
 have eq:s.heap.get? q=some (yf qual params body scope bD pm c' ctv):=(e0.hok q _ hq).1;refine rg hr.depth eq rfl S.co S.gen rfl (e0.hok c' _ hc).1 (hb _ _ _ _ ?_);refine Xm S.fZ (λ y hy=>S.par y.1 (Xv hy).1) (λ h' hns hsb=>?_) S.kind
 have hk:∀ b u,s.heap.get? b=some u->h'.get? b=some u:=λ b u e=>by
  rw [hsb.2 b (Zz (Zr e))];exact Heap.get?_push_of_some _ e
 refine ⟨lim.keeps hk,qZ ?_⟩;have I:=yh (CX:=CX) (qual:=qual) (q:=q) (c':=c') (E:=E) (tk:=s.toks+(ps.zip us).length) S C hr.hd e0 h1 h2 hl r hns hk;obtain ⟨t,ht,hq'⟩:=hbody (hr.deeper _);refine Z9 (ht [] _ _ _ _ I hq') (λ u s' ⟨v,H',J,rv,z⟩=>?_) λ e s' hs=>hs
 have fin:∀ {σ':St} {H1:Hp} {v:V} {u:Value},Inv (ka CX P w K mg base N qual scope q (.ref c') bD A outer s H (iN H c1 c2) E) [] σ' H1 s'->RelV v u->(H1 c1=none->H1 c2=none->Q v (upd (upd H1 c1 (.ext (eX c1 o1 v1))) c2 (.ext (eX c2 o2 v2))))->CE outer P w H s Q u s' :=
  λ {σ' H1 v u} J rv z=>by
    have cl:∀ {d:Addr} {od:Obj} {v':V},H d=some (.ext (eX d od v'))->iN H c1 c2 d=none->s'.heap.get? d=some od/\∃ u,RelV v' u/\s'.heap.IsCell d (some u):=λ {d od v'} hd hn=>by
     obtain ⟨g,u,ru,o,a,b⟩:=(e0.hok d _ hd).1;have nf:d ∉ frs outer:=λ z=>by rw [e0.frf d z] at hd; cases hd
     exact ⟨J.base.keep d od g hn nf (by exact Yd),u,ru,o,J.base.keep d o a hn nf (by exact Yd),b⟩
    obtain ⟨g1,z1⟩:=cl h1 vT;obtain ⟨g2,z2⟩:=cl h2 vQ;have m1:H1 c1=none:=J.dS n1 c1 C.l1;have m2:H1 c2=none:=J.dS n2 c2 C.l2;have ok1:=J.hok.rH (o:=.ext (eX c1 o1 v1)) m1 (mE g1 z1);have m2':upd H1 c1 (.ext (eX c1 o1 v1)) c2=none:=(af (Ne.symm C.ne)).trans m2;have ok2:=ok1.rH (o:=.ext (eX c2 o2 v2)) m2' (mE g2 z2);exact ⟨v,_,J.os,J.bare,Un.Gc h1 h2 J.base,ok2,rv,z m1 m2⟩
 exact fin J rv z
structure jw (ps:List Str) (sc:Scope):Prop where
 kind:sc.kind=.function
 co:sc.isCoroutine=false
 gen:sc.isGenerator=false
 nd:ps.Nodup
 par:∀ x ∈ ps,sc.names.lookup x=some .local
 fZ:∀ y ∈ sc.names,y.2≠.cell
 uL:∀ y ∈ sc.names,y.2≠.free
theorem yg {h':Heap} {tk:Nat} (S:jw ps scope) (hd:A.handled=none) (e0:rE P w K mg base A outer s H)
  (hl:vs.length=ps.length) (r:a7 vs us) (hns:h'.Ns s.heap.objs.size λ y=>(ps.zip us).reverse.lookup y) (hk:∀ b u,s.heap.get? b=some u->h'.get? b=some u) :
  Inv (ka CX P w K mg base ps qual scope q (.ref c') [] A outer s H H E) [] (vs.map some) H { s with heap:=h',toks:=tk }:=by
 have noA:∀ b:Addr,b ∉ (ka CX P w K mg base ps qual scope q (.ref c') [] A outer s H H E).ex:=λ b z=>absurd (show b ∈ ([]:List Addr) from z) (by simp)
 have no:∀ {y:Str} {c:Addr},([]:List (Str×Addr)).lookup y=some c->False:=λ {y c} z=>by cases z
 refine ⟨⟨e0.mod,S.kind,rfl,rfl,Zk _,λ y z c a b=>(no a).elim,λ y hy=>?_,λ y c z _=>absurd (show false=true from z) Zf,λ _=>hd,Around.frames_deeper e0.frames,.inr ⟨rfl,rfl⟩,λ b z=>absurd z (noA b),λ b o e=>⟨(e0.bs b o e).1,(e0.bs b o e).2⟩,e0.bsz,λ b _ _=>noA b,λ b z=>absurd z (noA b),e0.mM,λ b z=>e0.frf b z⟩,
  rfl,e0.bare,Un.kept hk,⟨_,hns,λ i y v a b z=>?_⟩,λ y c a=>(no a).elim,e0.hok.fresh (Zk _),λ y c a=>(no a).elim,λ p hp=>absurd (show p ∈ ([]:List (Addr×Obj)) from hp) (by simp),e0.hok.kept hk,?_⟩
 ·have hy:scope.names.lookup y=some .cell\/scope.names.lookup y=some .free:=hy
  rcases hy with hy | hy
  · exact absurd rfl (S.fZ _ (Z4 hy))
  · exact absurd rfl (S.uL _ (Z4 hy))
 ·have a:ps[i]?=some y:=a
  rw [List.getElem?_map] at b
  cases e:vs[i]? with
  | none=>rw [e] at b; cases b
  | some v' =>
   rw [e] at b; cases b
   obtain ⟨u,hu,rv⟩:=r.get e;have kl:=S.par y (List.mem_of_getElem? a);refine ⟨u,rv,.inl ⟨kl,?_⟩⟩;have lu:us.length=ps.length:=by rw [<- r.length,hl]
   refine Br ?_ (List.mem_reverse.mpr ?_)
   ·rw [List.map_reverse,List.map_fst_zip (by omega)]
    exact List.pairwise_reverse.mpr (S.nd.imp λ h=>Ne.symm h)
   ·refine List.mem_of_getElem? (i:=i) ?_
    rw [List.getElem?_zip_eq_some];exact ⟨a,hu⟩
 ·show _=ps.length
  rw [Za,hl]
theorem ye {k:Nat} {params:Arguments} {body:Expr} {pm ctv:Value} {args:Args} (S:jw ps scope) (hr:cg (k+1) A) (e0:rE P w K mg base A outer s H)
  (hq:H q=some (.ext (FnAt q (yf qual params body scope [] pm c' ctv)))) (hc:H c'=some (.ext (sU c' qual)))
  (hb:BindsTo s (fnE qual params body scope [] pm (.ref c') ctv) args (ps.zip us)) (hl:vs.length=ps.length) (r:a7 vs us)
  (hbody:cg k (A.deeper (envX qual scope s.heap.objs.size q (.ref c') []))->∃ t,PE (ka CX P w K mg base ps qual scope q (.ref c') [] A outer s H H E) body t/\t (vs.map some) H Q) :
  codeAny (model P w) A (.call (.ref q) args) (CR CX outer P w H s Q E) s:=by
 have lim:s.heap.NoLimit:=e0.mod.nolimit.keeps λ b o e=>(e0.bs b o e).1
 have eq:s.heap.get? q=some (yf qual params body scope [] pm c' ctv):=(e0.hok q _ hq).1;refine rg hr.depth eq rfl S.co S.gen rfl (e0.hok c' _ hc).1 (hb _ _ _ _ ?_);refine Xm S.fZ (λ y hy=>S.par y.1 (Xv hy).1) (λ h' hns hsb=>?_) S.kind
 have hk:∀ b u,s.heap.get? b=some u->h'.get? b=some u:=λ b u e=>by
  rw [hsb.2 b (Zz (Zr e))];exact Heap.get?_push_of_some _ e
 refine ⟨lim.keeps hk,qZ ?_⟩;have I:=yg (CX:=CX) (qual:=qual) (q:=q) (c':=c') (E:=E) (tk:=s.toks+(ps.zip us).length) S hr.hd e0 hl r hns hk;obtain ⟨t,ht,hq'⟩:=hbody (hr.deeper _);refine Z9 (ht [] _ _ _ _ I hq') (λ u s' ⟨v,H',J,rv,z⟩=>?_) λ e s' hs=>hs
 exact ⟨v,H',J.os,J.bare,J.base,J.hok,rv,z⟩
end
section
variable {X:Cx} {k:Nat} {f C:Addr} {fd:FuncData} {ps:List Str} {sp:Sp} {x m n1 n2:Str} {p pos apos:Pos} {e o:Expr} {es:List Expr} {ta:TE} {t:TA} {c1 c2:Addr} {j1 j2:Nat}
def yQ (sp:Sp) (c1 c2:Addr) (j1 j2:Nat) (t:TA):TE:=λ σ H Q=>t σ H λ vs H1=>∃ v1 v2,σ[j1]?=some (some v1)/\σ[j2]?=some (some v2)/\∀ o1 o2,c1≠c2->H1 c1=none->H1 c2=none->sp vs (upd (upd H1 c1 (.ext (eX c1 o1 v1))) c2 (.ext (eX c2 o2 v2))) (λ v H3=>H3 c1=some (.ext (eX c1 o1 v1))/\H3 c2=some (.ext (eX c2 o2 v2))/\Q v (iN H3 c1 c2)) E0
theorem gR (F:gL X.prog X.w X.K X.mg X.base CX0 k f fd ps sp) (hr:cg k X.A) (hg:Gl X x) (hm:X.mg x=some (.ref f)) (hk:W.keepIn X.K (.ref f)=true) (hb:Binds X.K fd ps []) (W:Two X n1 n2 j1 j2 c1 c2)
  (ha:PA X (e::es) t) (hdb:(x == ("__debug__":Str))=false:=by decide) (he:starEach (e::es) X.env=(false,eval e X.env)::starEach es X.env:=by rfl) (hpl:(backTo pos (starEach es X.env)).any (·.1)=false:=by rfl) :
  PE X (.Call (.Name x p) (e::es) [] pos) (yQ sp c1 c2 j1 j2 t):=by
 intro pins s σ H Q I h;refine Yo (iI I hg hm ?_ hdb);refine Xd (h₀:=X.base) I.ok.mod.kin hk (thn (ha pos pins s σ H _ I h) λ us s1 ⟨vs,H1,I1,r,v1,v2,w1,w2,q⟩=>⟨I1.kIn,?_⟩) he hpl;exact Ag F hr hb W w1 w2 I1 r q
end
def ev2 {α:Type}:List α->List α
 | []=>[]
 | [x]=>[x]
 | x::_::r=>x::ev2 r
theorem qM {α:Type}:∀ xs:List α,(List.range ((xs.length+1) / 2)).filterMap (λ k=>xs[2 * k]?)=ev2 xs
 | []=>by simp [ev2]
 | [x]=>by simp [ev2,List.range_succ]
 | x::y::r=>by
  have e:((x::y::r).length+1) / 2=(r.length+1) / 2+1:=by simp only [Zv]; omega
  rw [e,List.range_succ_eq_map,Xu,List.filterMap_map];show x::_=x::ev2 r;rw [<- qM r];rfl
theorem vH {α:Type}:∀ xs:List α,(ev2 xs).length<=xs.length
 | []=>Zk _
 | [x]=>Zk _
 | x::y::r=>Nat.succ_le_succ (Z5 (vH r) (Nat.le_succ _))
theorem GJ (its:List Value):slicePick its.toArray none none (some 2)=(ev2 its).toArray:=by
 rw [<- qM];unfold slicePick sliceRange sliceBounds;simp only [Option.getD_some,Zs,show (2:Int) > 0 by decide,if_true,List.filterMap_map]
 have e:(if (0:Int) < (its.length:Int) then ((its.length:Int) - 0+2 - 1) / 2 else 0).toNat=(its.length+1) / 2:=by
  split <;> omega
 rw [e];congr 2
 funext k
 show its.toArray[((0:Int)+2 * (k:Int)).toNat]?=_;rw [show ((0:Int)+2 * (k:Int)).toNat=2 * k by omega];exact List.getElem?_toArray
theorem qL {us:List Value}:∀ {xs:List V},a7 xs us->a7 (ev2 xs) (ev2 us)
 | _,.nil=>.nil
 | _,.cons a .nil=>.cons a .nil
 | _,.cons a (.cons _ r)=>.cons a (qL r)
theorem vG {K:W.Frag} {H:Hp} {ds:List D}:∀ {xs:List V},Rps K H xs ds->Rps K H (ev2 xs) (ev2 ds)
 | _,.nil=>.nil
 | _,.cons a .nil=>.cons a .nil
 | _,.cons a (.cons _ r)=>.cons a (vG r)
section
variable {X:Cx} {a e:Expr} {te:TE} {pos p2 cp:Pos} {j:Nat} {f:DE}
def Ke (K:W.Frag) (te:TE):TE:=λ σ H Q=>te σ H λ x H1=>∃ a xs,x=.ref a/\SqL K H1 a xs/\∀ p,H1 p=none->Q (.ref p) (upd H1 p (.lst (ev2 xs)))
theorem Ds (he:PE X e te):PE X (.Subscript e (.Slice none none (some (.Constant (.int 2) j cp)) p2) pos) (Ke X.K te):=by
 intro pins s σ H Q I h;refine Subscript_ (thn (he pins s σ H _ I h) λ v s1 ⟨x,H1,I1,r1,q1⟩=>?_);refine wpAny_Slice ?_
 rw [evalPart_none,evalPart_some];refine Zx (Zx (thn (m5 pins s1 σ H1 _ I1 (show tC (.int 2) σ H1 (λ v H2=>v=.int 2/\H2=H1) from ⟨rfl,rfl⟩)) λ u s3 ⟨y,H3,I3,r3,e1,e2⟩=>?_));subst e1 e2;obtain ⟨t,rfl⟩:=r3;have I4:Inv X pins σ H3 { s3 with heap:=s3.heap.push { cls:=.type "slice",data:=.fields #[.none,.none,.int 2 t] } }:=I3.kept (t':=s3.toks) λ b ob q=>Heap.get?_push_of_some _ q
 obtain ⟨a,xs,rfl,hx,q⟩:=q1;cases r1;obtain ⟨its,r,ht,hz⟩:=I4.list hx;have hlen:=r.length;show wpAny (model X.prog X.w) X.A (subscriptTail e (.Slice none none _ p2) _ (.ref s3.heap.objs.size)) (EP X pins σ Q) X.xe { s3 with heap:=s3.heap.push { cls:=.type "slice",data:=.fields #[.none,.none,.int 2 t] } };refine tail_any (ops:=[.ref a,.ref s3.heap.objs.size]) ht.isList.typeIs slot_list_getitem.lookup ?_ (by with_unfolding_all rfl)
 refine wpAny_getItem_list_slice ht.isList (Heap.IsSliceOf.new ..) .none .none (.int 2 t) (by decide) ?_ (by rw [Zs] <;> omega)
 rw [GJ];refine ⟨.ref _,_,I4.laid (t':=s3.toks) (o:=.lst (ev2 xs)) (λ b ob q=>Heap.get?_push_of_some _ q) (Zk _) ?_,rfl,q _ (I4.hok.fresh (Zk _))⟩;exact ⟨Z5 (vH xs) hz,_,0,qL r,Heap.get?_push_size _ rfl⟩
def EN (f:DE):DE:=λ τ=>(f τ).bind λ d=>match d with | .lst ds=>some (.lst (ev2 ds)) | _=>none
theorem ro (ha:Bx (PEd X a f)):Bx (PEo X (.Subscript a (.Slice none none (some (.Constant (.int 2) j cp)) p2) pos) (EN f)):=⟨(Ds ha.out).imp λ σ H Q ⟨H0,Hs,τ,fp,d,st,sm,e,k⟩=>by
 obtain ⟨x,e1,e⟩:=bind_some e;refine ⟨H0,Hs,τ,fp,x,st,sm,e1,λ v Hs1 H1 g1 r1=>?_⟩
 cases r1 with
 | @lst a xs ds h r =>
  have e':D.lst (ev2 ds)=d:=Zj e;subst e';exact ⟨a,xs,rfl,SqL.of (g1.sh _ _ h),λ p hp=>k p Hs1 _ ⟨g1.ss,g1.sh.trans (ar hp _),g1.hh.trans (ar hp _),g1.fr⟩ (.lst ai (g1.sh.free hp) (vG r)) (g1.hh.free hp)⟩
 | _=>exact nn e⟩
end
end L2
end
section
local macro_rules | `(tactic| walk_at "v")=>`(tactic| first | exact .inl rfl | exact .inr rfl | assumption)
local macro_rules | `(tactic| walk_at "w")=>`(tactic| first | exact .inl rfl | exact .inr (.inl rfl) | exact .inr (.inr rfl))
namespace N13
open PySem L2
def top (i:Nat):Stmt:=PySem.Challenge.pw_stylehouse_k13_gathered.main.body.getD i (.Pass ⟨0,0,0,0⟩)
structure Adr where
 ag:Addr
 c9:Addr
structure Txt (K:W.Frag) (mg:Str->Option Value) (t:Adr):Prop where
 zw:mg "Tree"=some (.ref t.ag)
 ay:Cls K t.ag
 d6:cQ K t.ag "given"
 bR:cQ K t.ag "names"
 bG:cQ K t.ag "holders"
 aZ:cQ K t.ag "boxes"
 cq:cQ K t.ag "marks"
 gU:cQ K t.ag "words"
 i9:cQ K t.ag "rows"
 vF:Df K mg "is_name" (top 15) ["thing"]
 nU:Df K mg "_law_whole" (top 27) ["_law_found"]
 nS:Df K mg "check_name" (top 21) ["name"]
 Lx:Lf K mg "law" (top 36) "_law_script"
 mx:Df K mg "check_place" (top 22) ["place","row"]
 pN:Df K mg "_law_cell" (top 24) ["_law_script","_law_k"]
 so:Df K mg "_law_mix" (top 25) ["_law_cell_here","_law_way"]
 nV:Df K mg "_law_under" (top 29) ["_law_rows","_law_box"]
 pM:Df K mg "_law_deep" (top 30) ["_law_facts","_law_box"]
 pK:Df K mg "_law_name" (top 26) ["_law_cell_here","_law_way"]
 j4:Df K mg "_law_same_row" (top 28) ["_law_found","_law_due"]
 nT:Df K mg "beneath" (top 2) ["tree","box"]
 nR:Df K mg "holders_of" (top 3) ["tree","box"]
 sj:Df K mg "depth_of" (top 4) ["tree","box"]
 wW:Df K mg "_law_missing" (top 33) ["_law_tree","_law_box"]
 lq:Df K mg "gathered" (top 5) ["tree","box","keep"]
 nW:Df K mg "_law_moved" (top 32) ["_law_tree","_law_rows","_law_facts","_law_cell_here","_law_way"]
 my:Df K mg "_law_wanted" (top 35) ["_law_facts","_law_under_here","_law_every","_law_low","_law_size","_law_marked"]
 sk:Df K mg "_law_put" (top 31) ["_law_tree","_law_rows","_law_facts","_law_number","_law_cell_here","_law_way"]
 zF:Df K mg "_law_tried" (top 34) ["_law_tree","_law_box","_law_under_here","_law_every","_law_low","_law_size","_law_name_here","_law_marked"]
 j6:If K t.ag "Tree.__init__" (inClass (top 20) 0) ["self","name"]
 jc:Mf K t.ag "check" "Tree.check" (inClass (top 20) 2) ["self","box"]
 kO:Mf K t.ag "name_of" "Tree.name_of" (inClass (top 20) 11) ["self","box"]
 j5:Mf K t.ag "marks_of" "Tree.marks_of" (inClass (top 20) 12) ["self","box"]
 jh:Mf K t.ag "holder_of" "Tree.holder_of" (inClass (top 20) 15) ["self","box"]
 ff:Mf K t.ag "boxes_of" "Tree.boxes_of" (inClass (top 20) 16) ["self","box"]
 nX:Mf K t.ag "enter" "Tree.enter" (inClass (top 20) 1) ["self","holder","name"]
 pP:Mf K t.ag "mark" "Tree.mark" (inClass (top 20) 6) ["self","box","word"]
 su:Mf K t.ag "put" "Tree.put" (inClass (top 20) 3) ["self","holder","place","name"]
 pO:Mf K t.ag "move" "Tree.move" (inClass (top 20) 5) ["self","box","holder","place"]
 F8:mg "all"=none
 yL:mg "bool"=none
 oO:mg "enumerate"=none
 F7:mg "int"=none
 cH:mg "isinstance"=none
 dN:mg "len"=none
 jx:mg "list"=none
 Cw:mg "max"=none
 oK:mg "range"=none
 fL:mg "reversed"=none
 wY:mg "sorted"=none
 F4:mg "str"=none
 F3:mg "tuple"=none
 kK:Ic mg "LONGEST_NAME" 8
 nC:Ic mg "MOST_BOXES" 90
 jT:Ic mg "MOST_DEEP" 12
 D5:Ic mg "ROOT" 0
 me:mg "NoBox"=some (.ref t.c9)
 zU:PySem.W.excIn K t.c9 J6 "ValueError.__new__"=true
 G2:Ly K t.c9=true
 hG:PySem.W.exmOne K (.ref t.c9) (.ref t.c9)=some true
abbrev gOD (f:∀ (P:Program) (w:World) (K:W.Frag) (mg:Str->Option Value) (base:Heap),DS->Prop) (t:Adr):Type:={G:DS // ∀ {P w K mg base},Txt K mg t->f P w K mg base G}
abbrev gO0 (f:∀ (P:Program) (w:World) (K:W.Frag) (mg:Str->Option Value) (base:Heap),DS->Prop):Type:={G:DS // ∀ {t P w K mg base},Txt K mg t->f P w K mg base G}
abbrev gFD (k:Nat) (x:Str) (n m:Nat) (P:Program) (w:World) (K:W.Frag) (mg:Str->Option Value) (base:Heap) (G:DS):Prop:=Go P w K mg base k x (spF (gK n m G) K)
abbrev gMD (k:Nat) (C:Addr) (x:Str) (n m:Nat) (P:Program) (w:World) (K:W.Frag) (mg:Str->Option Value) (base:Heap) (G:DS):Prop:=GoM P w K mg base k C x (spF (gK n m G) K)
abbrev gOM (f:∀ (P:Program) (w:World) (K:W.Frag) (mg:Str->Option Value) (base:Heap),DSm->Prop) (t:Adr):Type:={G:DSm // ∀ {P w K mg base},Txt K mg t->f P w K mg base G}
abbrev gFM (k:Nat) (x:Str) (n m:Nat) (P:Program) (w:World) (K:W.Frag) (mg:Str->Option Value) (base:Heap) (G:DSm):Prop:=Go P w K mg base k x (spM (kU n m G) K)
abbrev gMM (k:Nat) (C:Addr) (x:Str) (n m:Nat) (P:Program) (w:World) (K:W.Frag) (mg:Str->Option Value) (base:Heap) (G:DSm):Prop:=GoM P w K mg base k C x (spM (kU n m G) K)
abbrev gIM (k:Nat) (C:Addr) (n m:Nat) (P:Program) (w:World) (K:W.Frag) (mg:Str->Option Value) (base:Heap) (G:DSm):Prop:=GoI P w K mg base k C (spM (kU n m G) K)
section
variable {P:Program} {w:World} {K:W.Frag} {mg:Str->Option Value} {base:Heap} {t:Adr}
set_option maxHeartbeats 4000000
noncomputable def kB:gO0 (gFD 1 "is_name" 1 1):=⟨_,λ T=>oD ["thing"] T.vF λ hr nd =>
 (aq (dI (cK (dU (aA we T.cH (dB (aa 0) (kr (n:="str") T.F4))))) (aw (a8 bZ)) b8) (aq (dI (cK (kj Cn Cn aj (aA gC T.dN (cF (aa 0))) (EW T.kK))) (aw (a8 bZ)) b8) (aw (a8 (aA (Jd rfl) T.F8 (cF (aN (ij ck0 (wD (aa 0)) (λ _ _ _ _=>(sQ DL DL js (aa 0) js))))))))))⟩
noncomputable def kE:=gK 1 1 (kB).1
theorem uI (T:Txt K mg t):Go P w K mg base 1 "is_name" (spF (kE) K):=(kB).2 T
noncomputable def fA (t:Adr):gOM (gMM 1 t.ag "enter" 4 3) t:=⟨_,λ T=>oMm ["self","holder","name","box"] T.nX λ hr nd =>
 (ae (aC 3 nd (he:=ao (il (bW T.ay T.d6 (aa 0))))) (ae (cM T.ay T.d6 (aB 0) (ao (aS (cS (aa 3) aj)))) (ae (bh (eY hr) (cu T.ay T.bR (aB 0)) (aa 3) (ao (aS (aa 2)))) (ae (bh (eY hr) (cu T.ay T.bG (aB 0)) (aa 3) (ao (aS (aa 1)))) (ae (bh (eY hr) (cu T.ay T.aZ (aB 0)) (aa 3) (ao (ou (bV bK)))) (ae (bh (eY hr) (cu T.ay T.cq (aB 0)) (aa 3) (ao gE)) (ae (bh (eY hr) (cu T.ay T.gU (aB 0)) (aa 3) (ao (ou (bV bK)))) (ae (bh (eY hr) (cu T.ay T.i9 (aB 0)) (aa 3) (ao (aS (mH bK)))) (aE (bH (ao (aS (aa 3)))))))))))))⟩
noncomputable def fI (t:Adr):=kU 4 3 (fA t).1
theorem iZ (T:Txt K mg t):GoM P w K mg base 1 t.ag "enter" (spM (fI t) K):=(fA t).2 T
noncomputable def fC (t:Adr):gOD (gMD 1 t.ag "check" 2 2) t:=⟨_,λ T=>oDm ["self","box"] T.jc λ hr nd =>
 (aw (dI (om hr.units rfl (aa 1) (bW T.ay T.bR (aa 0))) (aw gD) b8))⟩
noncomputable def dM (t:Adr):=gK 2 2 (fC t).1
theorem bq (T:Txt K mg t):GoM P w K mg base 1 t.ag "check" (spF (dM t) K):=(fC t).2 T
noncomputable def eE:gO0 (gFD 1 "check_place" 2 2):=⟨_,λ T=>oD ["place","row"] T.mx λ hr nd =>
 (aw (dI (cK (kj Cn Cn aj (aa 0) (aA gC T.dN (cF (aa 1))))) (aw gD) b8))⟩
noncomputable def eI:=gK 2 2 (eE).1
theorem gS (T:Txt K mg t):Go P w K mg base 1 "check_place" (spF (eI) K):=(eE).2 T
noncomputable def gH:gO0 (gFD 1 "_law_cell" 2 2):=⟨_,λ T=>oD ["_law_script","_law_k"] T.pN λ hr nd =>
 (aq (dI (B6 (aa 1) (aA gC T.dN (cF (aa 0)))) (aw (a8 (bJ (aa 0) (aa 1)))) b8) (aw (a8 aj)))⟩
noncomputable def dv:=gK 2 2 (gH).1
theorem bY (T:Txt K mg t):Go P w K mg base 1 "_law_cell" (spF (dv) K):=(gH).2 T
noncomputable def iR:gO0 (gFD 1 "_law_mix" 3 2):=⟨_,λ T=>oD ["_law_cell_here","_law_way","_law_first"] T.so λ hr nd =>
 (aq (zO 2 nd (dD (cS (ox (aa 0) aj) (ox (aa 1) aj)) aj)) (aw (a8 (dD (ox (aa 2) (cS aj (ox aj (aa 1)))) aj))))⟩
noncomputable def cW:=gK 3 2 (iR).1
theorem bQ (T:Txt K mg t):Go P w K mg base 1 "_law_mix" (spF (cW) K):=(iR).2 T
noncomputable def jf:gO0 (gFD 1 "_law_whole" 1 1):=⟨_,λ T=>oD ["_law_found"] T.nU λ hr nd =>
 (aw (a8 (jv (aA we T.cH (dB (aa 0) (kr (n:="int") T.F7))) (jt (yD (aA we T.cH (dB (aa 0) (kr (n:="bool") T.yL))))))))⟩
noncomputable def fF:=gK 1 1 (jf).1
theorem iY (T:Txt K mg t):Go P w K mg base 1 "_law_whole" (spF (fF) K):=(jf).2 T
noncomputable def fu (t:Adr):gOD (gFD 1 "_law_under" 5 2) t:=⟨_,λ T=>oD ["_law_rows","_law_box","_law_told","_law_todo","_law_one"] T.nV λ hr nd =>
 (aq (cV 2 nd (he:=bV bK)) (aq (cV 3 nd (he:=bV (cF (aa 1)))) (aq (eD (wo 3 (sE (aA gC T.dN (cF (aa 3))) aj)) (aq (lG 4 3 nd) (aq (c8 2 (he:=aa 4)) (aw (ot 3 (he:=aN (mG T.jx T.fL (aM hr.units (λ _ _=>rfl) (aa 0) (aa 4))))))))) (aw (fS 2)))))⟩
noncomputable def fG (t:Adr):=gK 5 2 (fu t).1
theorem fc (T:Txt K mg t):Go P w K mg base 1 "_law_under" (spF (fG t) K):=(fu t).2 T
noncomputable def gG:gO0 (gFD 1 "_law_deep" 3 2):=⟨_,λ T=>oD ["_law_facts","_law_box","_law_deep_here"] T.pM λ hr nd =>
 (aq (zO 2 nd aj) (aq (eD (rl (bJ (aM hr.units (λ _ _=>rfl) (aa 0) (aa 1)) aj) ju) (aq (zO 1 nd (bJ (aM hr.units (λ _ _=>rfl) (aa 0) (aa 1)) aj)) (aw (zO 2 nd (cS (aa 2) aj))))) (aw (a8 (aa 2)))))⟩
noncomputable def cE:=gK 3 2 (gG).1
theorem d5 (T:Txt K mg t):Go P w K mg base 1 "_law_deep" (spF (cE) K):=(gG).2 T
noncomputable def eG:gO0 (gFD 1 "_law_wanted" 7 6):=⟨_,λ T=>oD ["_law_facts","_law_under_here","_law_every","_law_low","_law_size","_law_marked","_law_due"] T.my λ hr nd =>
 (aq (cV 6 nd (he:=bV (cF (aN (dW (ckN [("_law_low",3),("_law_every",2)]) (bI (aa 1)) (λ _ _ _ _=>(wj (dD (aa 0) (aa 2)) (aa 1))) (λ _ _ _ _=>(aa 0))))))) (aq (c8 6 (he:=aN (dW (ckN [("_law_size",4),("_law_facts",0)]) (bI (aa 1)) (λ _ _ _ _=>(sE (aA gC T.dN (cF (bJ (aM hr.units (λ _ _=>rfl) (aa 2) (aa 0)) aj))) (aa 1))) (λ _ _ _ _=>(aa 0))))) (aq (c8 6 (he:=aN (dW (ckN [("_law_marked",5)]) (bI (aa 1)) (λ _ _ _ _=>(yC (aa 0) (aa 1))) (λ _ _ _ _=>(aa 0))))) (aq (c8 6 (he:=aN (dW (ckN [("_law_marked",5),("_law_under_here",1)]) (bI (aa 1)) (λ _ _ _ _=>(dX (fR (yC (aa 0) (aa 1)) (fg (yC (aa 0) (aN (ro (aa 2)))))))) (λ _ _ _ _=>(aa 0))))) (aq (c8 6 (he:=aa 1)) (aw (fS 6)))))))⟩
noncomputable def cT:=gK 7 6 (eG).1
theorem l6 (T:Txt K mg t):Go P w K mg base 1 "_law_wanted" (spF (cT) K):=(eG).2 T
noncomputable def dO (t:Adr):gOD (gMD 2 t.ag "name_of" 2 2) t:=⟨_,λ T=>oDm ["self","box"] T.kO λ hr nd =>
 (aq (fT (bc T.ay (bq T) hr (aa 0) (cF (aa 1)))) (aw (a8 (aM hr.units (λ _ _=>rfl) (bW T.ay T.bR (aa 0)) (aa 1)))))⟩
noncomputable def cG (t:Adr):=gK 2 2 (dO t).1
theorem kI (T:Txt K mg t):GoM P w K mg base 2 t.ag "name_of" (spF (cG t) K):=(dO t).2 T
noncomputable def dk (t:Adr):gOD (gMD 2 t.ag "marks_of" 2 2) t:=⟨_,λ T=>oDm ["self","box"] T.j5 λ hr nd =>
 (aq (fT (bc T.ay (bq T) hr (aa 0) (cF (aa 1)))) (aw (lF (sI hr.hd T.wY (aM hr.units (λ _ _=>rfl) (bW T.ay T.cq (aa 0)) (aa 1))))))⟩
noncomputable def bo (t:Adr):=gK 2 2 (dk t).1
theorem jL (T:Txt K mg t):GoM P w K mg base 2 t.ag "marks_of" (spF (bo t) K):=(dk t).2 T
noncomputable def cO (t:Adr):gOD (gMD 2 t.ag "holder_of" 2 2) t:=⟨_,λ T=>oDm ["self","box"] T.jh λ hr nd =>
 (aq (fT (bc T.ay (bq T) hr (aa 0) (cF (aa 1)))) (aw (a8 (aM hr.units (λ _ _=>rfl) (bW T.ay T.bG (aa 0)) (aa 1)))))⟩
noncomputable def bw (t:Adr):=gK 2 2 (cO t).1
theorem eQ (T:Txt K mg t):GoM P w K mg base 2 t.ag "holder_of" (spF (bw t) K):=(cO t).2 T
noncomputable def dq (t:Adr):gOD (gMD 2 t.ag "boxes_of" 2 2) t:=⟨_,λ T=>oDm ["self","box"] T.ff λ hr nd =>
 (aq (fT (bc T.ay (bq T) hr (aa 0) (cF (aa 1)))) (aw (lF (wz T.jx (cF (aM hr.units (λ _ _=>rfl) (bW T.ay T.aZ (aa 0)) (aa 1)))))))⟩
noncomputable def bp (t:Adr):=gK 2 2 (dq t).1
theorem cY (T:Txt K mg t):GoM P w K mg base 2 t.ag "boxes_of" (spF (bp t) K):=(dq t).2 T
noncomputable def fo:gO0 (gFD 2 "check_name" 1 1):=⟨_,λ T=>oD ["name"] T.nS λ hr nd =>
 (aw (dI (cK (dU (av (uI T) hr (cF (aa 0))))) (aw gD) b8))⟩
noncomputable def fE:=gK 1 1 (fo).1
theorem fb (T:Txt K mg t):Go P w K mg base 2 "check_name" (spF (fE) K):=(fo).2 T
noncomputable def gF:gO0 (gFD 2 "_law_name" 4 2):=⟨_,λ T=>oD ["_law_cell_here","_law_way","_law_letters","_law_size"] T.pK λ hr nd =>
 (aq (zO 2 nd js) (aq (zO 3 nd (cS aj (dD (av (bQ T) hr (dB (aa 0) (cS (aa 1) aj))) aj))) (aw (a8 (wG js (aN (ij (ckN [("_law_letters",2),("_law_cell_here",0),("_law_way",1)]) (je T.oK (cF (aa 3))) (λ _ _ _ _=>(bJ (aa 1) (dD (av (bQ T) hr (dB (aa 2) (cS (aa 3) (ox aj (aa 0))))) aj))))))))))⟩
noncomputable def eJ:=gK 4 2 (gF).1
theorem jK (T:Txt K mg t):Go P w K mg base 2 "_law_name" (spF (eJ) K):=(gF).2 T
noncomputable def de:gO0 (gFD 2 "_law_same_row" 3 2):=⟨_,λ T=>oD ["_law_found","_law_due","_law_k"] T.j4 λ hr nd =>
 (aq (dI (dX (fR (cK (dU (aA we T.cH (dB (aa 0) (kr (n:="list") T.jx))))) (fg (jr (aA gC T.dN (cF (aa 0))) (aA gC T.dN (cF (aa 1))))))) (aw (a8 bZ)) b8) (aq (wx (je T.oK (cF (aA gC T.dN (cF (aa 1))))) (sP 2 nd) (aw (dI (dX (fR (cK (dU (av (iY T) hr (cF (bJ (aa 0) (aa 2)))))) (fg (jr (bJ (aa 0) (aa 2)) (bJ (aa 1) (aa 2)))))) (aw (a8 bZ)) b8))) (aw (a8 bZ))))⟩
noncomputable def bM:=gK 3 2 (de).1
theorem cX (T:Txt K mg t):Go P w K mg base 2 "_law_same_row" (spF (bM) K):=(de).2 T
noncomputable def kC (t:Adr):gOD (gFD 3 "beneath" 5 2) t:=⟨_,λ T=>oD ["tree","box","found","left","one"] T.nT λ hr nd =>
 (aq (cV 2 nd (he:=bV bK)) (aq (cV 3 nd (he:=mG T.jx T.fL (bc T.ay (cY T) hr (aa 0) (cF (aa 1))))) (aq (eD (sH 3) (aq (lG 4 3 nd) (aq (c8 2 (he:=aa 4)) (aw (ot 3 (he:=aN (mG T.jx T.fL (bc T.ay (cY T) hr (aa 0) (cF (aa 4)))))))))) (aw (fS 2)))))⟩
noncomputable def cz (t:Adr):=gK 5 2 (kC t).1
theorem nt (T:Txt K mg t):Go P w K mg base 3 "beneath" (spF (cz t) K):=(kC t).2 T
noncomputable def fk (t:Adr):gOD (gFD 3 "holders_of" 4 2) t:=⟨_,λ T=>oD ["tree","box","found","holder"] T.nR λ hr nd =>
 (aq (cV 2 nd (he:=bV bK)) (aq (zO 3 nd (bc T.ay (eQ T) hr (aa 0) (cF (aa 1)))) (aq (eD (rl (aa 3) ju) (aq (c8 2 (he:=aa 3)) (aw (zO 3 nd (bc T.ay (eQ T) hr (aa 0) (cF (aa 3))))))) (aw (fS 2)))))⟩
noncomputable def fD (t:Adr):=gK 4 2 (fk t).1
theorem nr (T:Txt K mg t):Go P w K mg base 3 "holders_of" (spF (fD t) K):=(fk t).2 T
noncomputable def dr (t:Adr):gOM (gIM 3 t.ag 2 2) t:=⟨_,λ T=>oMi ["self","name"] T.j6 λ hr nd =>
 (ae (bt (av (fb T) hr (cF (aa 1)))) (ae (cM T.ay T.d6 (aB 0) (ao (aS aj))) (ae (cM T.ay T.bR (aB 0) (ao gE)) (ae (cM T.ay T.bG (aB 0) (ao gE)) (ae (cM T.ay T.aZ (aB 0) (ao gE)) (ae (cM T.ay T.cq (aB 0) (ao gE)) (ae (cM T.ay T.gU (aB 0) (ao gE)) (ae (cM T.ay T.i9 (aB 0) (ao gE)) (aE (lE (fi T.ay (iZ T) hr (aB 0) (az (cb ju) (az (cb (aa 1)) cw)))))))))))))⟩
noncomputable def dw (t:Adr):=kU 2 2 (dr t).1
theorem jM (T:Txt K mg t):GoI P w K mg base 3 t.ag (spM (dw t) K):=(dr t).2 T
noncomputable def gI (t:Adr):gOM (gMM 3 t.ag "mark" 3 3) t:=⟨_,λ T=>oMm ["self","box","word"] T.pP λ hr nd =>
 (ae (bt (bc T.ay (bq T) hr (aa 0) (cF (aa 1)))) (ae (bt (av (fb T) hr (cF (aa 2)))) (ae (bE (c7 (wm hr.units rfl (aa 2) (aM hr.units (λ _ _=>rfl) (bW T.ay T.cq (aa 0)) (aa 1)))) (aE (bH (ao (aS bZ)))) a6) (ae (bh (eY hr) (ic (eY hr) (λ _ _=>rfl) (cu T.ay T.cq (aB 0)) (aa 1)) (aa 2) (ao (aS bZ))) (aE (bH (ao (aS bZ))))))))⟩
noncomputable def eL (t:Adr):=kU 3 3 (gI t).1
theorem pk (T:Txt K mg t):GoM P w K mg base 3 t.ag "mark" (spM (eL t) K):=(gI t).2 T
noncomputable def iP (t:Adr):gOD (gFD 4 "depth_of" 2 2) t:=⟨_,λ T=>oD ["tree","box"] T.sj λ hr nd =>
 (aw (a8 (aA gC T.dN (cF (av (nr T) hr (dB (aa 0) (aa 1)))))))⟩
noncomputable def iT (t:Adr):=gK 2 2 (iP t).1
theorem fP (T:Txt K mg t):Go P w K mg base 4 "depth_of" (spF (iT t) K):=(iP t).2 T
noncomputable def iS (t:Adr):gOM (gMM 5 t.ag "put" 5 4) t:=⟨_,λ T=>oMm ["self","holder","place","name","box"] T.su λ hr nd =>
 (ae (bt (bc T.ay (bq T) hr (aa 0) (cF (aa 1)))) (ae (bt (av (gS T) hr (dB (aa 2) (aM hr.units (λ _ _=>rfl) (bW T.ay T.aZ (aa 0)) (aa 1))))) (ae (bt (av (fb T) hr (cF (aa 3)))) (ae (bE (c7 (sE (cS (aA lB T.dN (cF (bW T.ay T.bR (aa 0)))) aj) (EW T.nC))) (aE eu) a6) (ae (bE (c7 (sE (cS (av (fP T) hr (dB (aa 0) (aa 1))) aj) (EW T.jT))) (aE eu) a6) (ae (aC 4 nd (he:=fi T.ay (iZ T) hr (aB 0) (az (cb (aa 1)) (az (cb (aa 3)) cw)))) (ae (ie (ic (eY hr) (λ _ _=>rfl) (cu T.ay T.aZ (aB 0)) (aa 1)) (aa 2) (aS (aa 4))) (aE (bH (ao (aS (aa 4))))))))))))⟩
noncomputable def iU (t:Adr):=kU 5 4 (iS t).1
theorem rV (T:Txt K mg t):GoM P w K mg base 5 t.ag "put" (spM (iU t) K):=(iS t).2 T
noncomputable def dg (t:Adr):gOM (gMM 5 t.ag "move" 7 4) t:=⟨_,λ T=>oMm ["self","box","holder","place","under","row","lowest"] T.pO λ hr nd =>
 (ae (bt (bc T.ay (bq T) hr (aa 0) (cF (aa 1)))) (ae (bt (bc T.ay (bq T) hr (aa 0) (cF (aa 2)))) (ae (aC 4 nd (he:=ao (rq (fh (nt T) hr (dB (aa 0) (aa 1)))))) (ae (bE (c7 (dX (fR (sF (aa 1) (EW T.D5)) (fR (sF (aa 2) (aa 1)) (fg (yC (aa 2) (aa 4))))))) (aE eu) a6) (ae (kn 5 nd (ckN [("box",1)]) (hi:=bI (aM hr.units (λ _ _=>rfl) (bW T.ay T.aZ (aa 0)) (aa 2))) (hcd:=(λ _ _ _ _=>(jr (aa 0) (aa 1)))) (he:=(λ _ _ _ _=>(aa 0)))) (ae (bt (av (gS T) hr (dB (aa 3) (aa 5)))) (ae (aC 6 nd (he:=ao (il (aA (zN rfl) T.Cw (cF (aN (ij (ckN [("self",0)]) (bI (cS (aN (bV (cF (aa 1)))) (aa 4))) (λ _ _ _ _=>(av (fP T) hr (dB (aa 1) (aa 0))))))))))) (ae (bE (c7 (sE (yE (cS (cS (av (fP T) hr (dB (aa 0) (aa 2))) aj) (aa 6)) (av (fP T) hr (dB (aa 0) (aa 1)))) (EW T.jT))) (aE eu) a6) (ae (ie (aB 5) (aa 3) (aS (aa 1))) (ae (bE (c7 (sF (aa 5) (aM hr.units (λ _ _=>rfl) (bW T.ay T.aZ (aa 0)) (aa 2)))) (aE (bH (ao (aS bZ)))) a6) (ae (oq (ic (eY hr) (λ _ _=>rfl) (cu T.ay T.aZ (aB 0)) (aM hr.units (λ _ _=>rfl) (bW T.ay T.bG (aa 0)) (aa 1))) (aa 1)) (ae (bh (eY hr) (cu T.ay T.aZ (aB 0)) (aa 2) (ao (EV 5))) (ae (bh (eY hr) (cu T.ay T.bG (aB 0)) (aa 1) (ao (aS (aa 2)))) (aE (bH (ao (aS bZ)))))))))))))))))⟩
noncomputable def gJ (t:Adr):=kU 7 4 (dg t).1
theorem pj (T:Txt K mg t):GoM P w K mg base 5 t.ag "move" (spM (gJ t) K):=(dg t).2 T
noncomputable def iQ (t:Adr):gOM (gFM 6 "_law_put" 12 6) t:=⟨_,λ T=>oM ["_law_tree","_law_rows","_law_facts","_law_number","_law_cell_here","_law_way","_law_some","_law_draw","_law_holder","_law_place","_law_name_here","_law_made"] T.sk λ hr nd =>
 (ae (pV (i:=1) (j:=6) nd (ckN [("_law_facts",2)]) (hcd:=(λ _ _ _ _=>(B6 (av (d5 T) hr (dB (aa 1) (aa 0))) aj))) (he:=(λ _ _ _ _=>(aa 0)))) (ae (aC 7 nd (he:=ao (aS (av (bQ T) hr (dB (aa 4) (aa 5)))))) (ae (aC 8 nd (he:=ao (aS (bJ (aa 6) (zP aj))))) (ae (bE (c7 (sF (dD (aa 7) aj) aj)) (aE (aC 8 nd (he:=ao (aS (bJ (aa 6) (dD (lJ (aa 7) aj) (aA gC T.dN (cF (aa 6))))))))) a6) (ae (aC 9 nd (he:=ao (il (dD (av (bQ T) hr (dB (aa 4) (cS (aa 5) aj))) (cS (aA gC T.dN (cF (aM hr.units (λ _ _=>rfl) (aa 1) (aa 8)))) aj))))) (ae (aC 10 nd (he:=ao (aS (av (jK T) hr (dB (aa 4) (cS (aa 5) aj)))))) (ae (aC 11 nd (he:=fi T.ay (rV T) hr (aB 0) (az (cb (aa 8)) (az (cb (aa 9)) (az (cb (aa 10)) cw))))) (ae (ie (ic (eY hr) (λ _ _=>rfl) (aB 1) (aa 8)) (aa 9) (aS (aa 3))) (ae (bh (eY hr) (aB 1) (aa 3) (ao (ou (bV bK)))) (ae (bh (eY hr) (aB 2) (aa 3) (ao (aS (mH (dB (aa 8) (aa 10)))))) (aE (bH (ao (aS (jv (av (iY T) hr (cF (aa 11))) (jt (J5 (aa 11) (aa 3))))))))))))))))))⟩
noncomputable def fU (t:Adr):=kU 12 6 (iQ t).1
theorem kX (T:Txt K mg t):Go P w K mg base 6 "_law_put" (spM (fU t) K):=(iQ t).2 T
noncomputable def fw (t:Adr):gOM (gFM 6 "_law_moved" 16 5) t:=⟨_,λ T=>oM ["_law_tree","_law_rows","_law_facts","_law_cell_here","_law_way","_law_some","_law_box","_law_under_here","_law_tall","_law_free","_law_draw","_law_holder","_law_rest","_law_place","_law_due","_law_told"] T.nW λ hr nd =>
 (ae (aC 5 nd (he:=ao (rq (sJ hr.hd T.jx (aa 1))))) (ae (aC 6 nd (he:=ao (aS (bJ (aa 5) (cS aj (dD (av (bQ T) hr (dB (aa 3) (aa 4))) (yE (aA gC T.dN (cF (aa 5))) aj))))))) (ae (aC 7 nd (he:=ao (rq (fh (fc T) hr (dB (aa 1) (aa 6)))))) (ae (aC 8 nd (he:=ao (il (yE (aA (zN rfl) T.Cw (cF (aN (ij (ckN [("_law_facts",2)]) (bI (aa 7)) (λ _ _ _ _=>(av (d5 T) hr (dB (aa 1) (aa 0)))))))) (av (d5 T) hr (dB (aa 2) (aa 6))))))) (ae (oo 9 nd (ckN [("_law_under_here",7),("_law_tall",8),("_law_facts",2)]) (hi:=bI (aa 5)) (hcd:=(λ _ _ _ _=>(dX (wk (yB (aa 0) (aa 1)) (sG (wj (cS (cS (av (d5 T) hr (dB (aa 3) (aa 0))) aj) (aa 2)) aj)))))) (he:=(λ _ _ _ _=>(aa 0)))) (ae (aC 10 nd (he:=ao (aS (av (bQ T) hr (dB (aa 3) (cS (aa 4) aj)))))) (ae (aC 11 nd (he:=ao (aS (bJ (aa 9) (dD (lJ (aa 10) aj) (aA gC T.dN (cF (aa 9)))))))) (ae (bE (c7 (sF (dD (aa 10) aj) aj)) (aE (aC 11 nd (he:=ao (il (bJ (aM hr.units (λ _ _=>rfl) (aa 2) (aa 6)) aj))))) a6) (ae (kn 12 nd (ckN [("_law_box",6)]) (hi:=bI (aM hr.units (λ _ _=>rfl) (aa 1) (aa 11))) (hcd:=(λ _ _ _ _=>(jr (aa 0) (aa 1)))) (he:=(λ _ _ _ _=>(aa 0)))) (ae (aC 13 nd (he:=ao (il (dD (av (bQ T) hr (dB (aa 3) (cS (aa 4) aj))) (cS (aA gC T.dN (cF (aa 12))) aj))))) (ae (ie (aB 12) (aa 13) (aS (aa 6))) (ae (aC 14 nd (he:=ao (il (Cb (aa 12) (aM hr.units (λ _ _=>rfl) (aa 1) (aa 11)))))) (ae (aC 15 nd (he:=fi T.ay (pj T) hr (aB 0) (az (cb (aa 6)) (az (cb (aa 11)) (az (cb (aa 13)) cw))))) (ae (oq (ic (eY hr) (λ _ _=>rfl) (aB 1) (bJ (aM hr.units (λ _ _=>rfl) (aa 2) (aa 6)) aj)) (aa 6)) (pU (eY hr) (dH (i:=1) rfl (Or.inl rfl)) (dH (i:=12) rfl (Or.inl rfl)) (dH (i:=2) rfl (Or.inr (Or.inl rfl))) (aa 11) (aa 6) (dB (aa 11) (bJ (aM hr.units (λ _ _=>rfl) (aa 2) (aa 6)) aj)) (jv (aA we T.cH (dB (aa 15) (kr (n:="bool") T.yL))) (jv (J5 (aa 15) (aa 14)) (jt (av (cX T) hr (dB (bc T.ay (cY T) hr (aa 0) (cF (aa 11))) (aa 12)))))))))))))))))))))⟩
noncomputable def dJ (t:Adr):=kU 16 5 (fw t).1
theorem nv (T:Txt K mg t):Go P w K mg base 6 "_law_moved" (spM (dJ t) K):=(fw t).2 T
end
end N13
end
local macro_rules | `(tactic| walk_at "ee")=>`(tactic| first
 | with_reducible assumption
 | with_reducible exact L2.e_c
 | ((with_reducible apply L2.ak); exact rfl)
 | with_reducible exact L2.aD
 | ((with_reducible apply L2.ah) <;> walk_at "ee")
 | ((with_reducible apply L2.aJ) <;> walk_at "ee")
 | ((with_reducible apply L2.yr) <;> walk_at "ee")
 | ((with_reducible apply L2.ji) <;> walk_at "ee")
 | ((with_reducible apply L2.iM) <;> walk_at "ee")
 | ((with_reducible apply L2.IX) <;> walk_at "ee")
 | ((with_reducible apply L2.bC) <;> walk_at "ee")
 | ((with_reducible apply L2.eW) <;> walk_at "ee")
 | ((with_reducible apply e_make) <;> walk_at "ee")
 | ((with_reducible apply L2.eU) <;> walk_at "ee")
 | ((with_reducible apply L2.bu) <;> walk_at "ee")
 | ((with_reducible apply L2.lS) <;> walk_at "ee")
 | with_reducible exact p_no
 | ((with_reducible apply L2.ux) <;> walk_at "ee")
 | ((with_reducible apply L2.J4) <;> walk_at "ee")
 | ((with_reducible apply t_and2) <;> walk_at "ee")
 | ((with_reducible apply L2.zX) <;> walk_at "ee")
 | ((with_reducible apply L2.j7) <;> walk_at "ee")
 | ((with_reducible apply e_or2) <;> walk_at "ee")
 | ((with_reducible apply e_get2) <;> walk_at "ee")
 | with_reducible exact L2.z9 _
 | with_reducible exact slD_own _
 | with_reducible exact L2.kY _ _
 | with_reducible exact L2.uJ _ _ _
 | with_reducible exact oIx_t2 _ _ _ _
 | with_reducible exact L2.aY _ _
 | with_reducible exact L2.gT _ _
 | with_reducible exact L2.gr _ _
 | with_reducible exact L2.jO _ _
 | with_reducible exact L2.l8 _ _
 | with_reducible exact oEq_str _ _
 | with_reducible exact oNe_str _ _
 | with_reducible exact L2.a9 (by decide)
 | with_reducible exact L2.l9 (by decide) (by decide +kernel)
 | with_reducible exact L2.zk (by decide) (by decide)
 | with_reducible exact L2.DU (by decide) (by decide)
 | with_reducible exact L2.E4 _ _
 | with_reducible exact L2.E3 _ _ _
 | with_reducible exact atI_2 _ _ _ _
 | exact rfl
 | exact Zb rfl
 | skip)
section
namespace N13
open PySem L2
theorem GG {n m:Nat} {b:DS} {ds:List D} {τ:List Sl} (h:b (kR n ds)=some (.next τ)) (hl:ds.length=m:=by rfl):gK n m b ds=some (.shr .non):=by
 unfold gK;rw [if_pos hl,h]
theorem Gz {τ:List Sl} {c:DT} {f g:DS} {b:Bool} {s:Sl} (h:c τ=some b) (h1:b=true->f τ=some (.ret s)) (h2:b=false->g τ=some (.ret s)):mL (sIf c f rP) g τ=some (.ret s):=by
 cases b with
 | true=>exact yU h (h1 rfl)
 | false=>exact qe h (h2 rfl)
theorem IF {τ:List Sl} {f:DE} {x:Str} (h:f τ=some (.str x)):BH f τ=some (chD x):=by unfold BH; rw [h]; rfl
def lower (c:Nat):Bool:=decide (97<=c)&&decide (c<=122)
def b7 (x:Str):Bool:=(decide (1<=(x.length:Int))&&decide ((x.length:Int)<=8))&&x.cps.toList.all lower
theorem lt1 (c d:Nat):[c] < [d]↔c < d:=by
 constructor
 ·intro z
  cases z with
  | rel h=>exact h
  | cons h=>cases h
 ·intro h
  exact List.Lex.rel h
theorem le1 (c d:Nat):G3 (.str ⟨#[c]⟩) (.str ⟨#[d]⟩)=some (.bl (decide (c<=d))):=by
 show some (D.bl (!decide ([d] < [c])))=_;congr 2
 by_cases h:c<=d
 ·rw [Zu h,Zq]
  · rfl
  ·intro z
   have:=(lt1 d c).mp z;omega
 ·rw [Zq h,Zu]
  · rfl
  · exact (lt1 d c).mpr (by omega)
theorem uV {g:D->Option D} {t:Nat->Bool}:∀ {cs:List Nat},(∀ c ∈ cs,g (.str ⟨#[c]⟩)=some (.bl (t c)))->wQ g (cs.map λ c=>.str ⟨#[c]⟩)=some (cs.map λ c=>.bl (t c))
 | [],_=>rfl
 | c::cs,h=>by
  show (g (.str ⟨#[c]⟩)).bind (λ x=>(wQ g (cs.map λ c=>.str ⟨#[c]⟩)).bind λ xs=>some (x::xs))=_;rw [h c (Ze ..),uV λ c m=>h c (Zd _ m)];rfl
theorem iq (t:Nat->Bool):∀ cs:List Nat,Cc (cs.map λ c=>.bl (t c))=some (cs.map t)
 | []=>rfl
 | c::cs=>by
  show (Cc (cs.map λ c=>.bl (t c))).map (t c::·)=_;rw [iq t cs]; rfl
theorem vk (x:Str) (hx:x.length<=100):kE [.str x]=some (.shr (.bl (b7 x))):=by
 unfold kE kB;dsimp only;refine fW ?_
 refine qe (lS (b:=true) (bu (bC (ah e_v (ah e_c aD)) rfl))) ?_
 have hl:sX [.str x]=some (.int (x.length:Int)):=by
  show (if x.length<=100000 then _ else none)=_;rw [if_pos (by omega)]
 refine Gz (lS (bu (j7 (aJ e_c (bC (ah e_v aD) hl) rfl) (aJ (bC (ah e_v aD) hl) e_c rfl)))) (λ h=>?_) (λ h=>?_)
 ·unfold b7
  rw [Yz] at h;rw [h];exact jB e_c
 ·rw [Bool.not_eq_false'] at h
  refine jB (bC (ah (qT (IF e_v) ?_ (uV λ c _=>j7 (aJ e_c e_v (le1 97 c)) (aJ e_v e_c (le1 c 122)))) aD) ?_)
  ·show (x.cps.toList.map _).length<=_
   rw [Za];exact Z5 hx (by decide)
  ·show (Cc _).map _=_
   rw [iq];unfold b7;rw [h];show some (D.bl ((x.cps.toList.map lower).all id))=some (D.bl (x.cps.toList.all lower));rw [List.all_map];rfl
def scr (ns:List Int):D:=.fz (ns.map .int)
theorem Bt (ns:List Int):sX [scr ns]=some (.int ns.length):=by
 show some (D.int ((ns.map D.int).length:Nat))=_;rw [Za]
theorem Ej {ns:List Int} {j:Int} (h0:0<=j) (h1:j < ns.length):∃ c:Int,oIx (scr ns) (.int j)=some (.int c):=by
 obtain ⟨h,e⟩:=oH (xs:=ns.map D.int) h0 (by rw [Za]; exact h1);refine ⟨ns[j.toNat]'(by rw [Za] at h; exact h),?_⟩;show atI (ns.map D.int) j=_;rw [e,List.getElem_map]
theorem md (c:Int) {w:Int} (w0:0<=w) (w1:w<=10000):∃ r,cW [.int c,.int w]=some (.shr (.int r))/\0<=r/\r < 1000003:=by
 have m0:=Yu ((c * 48271+w * 7919) % 2147483647 * (16807+2 * w)) (b:=1000003) (by decide);have m1:=Yv ((c * 48271+w * 7919) % 2147483647 * (16807+2 * w)) (b:=1000003) (by decide);have e1:=zk (i:=(c * 48271+w * 7919) % 2147483647) (j:=16807+2 * w) (by omega) (by omega);refine ⟨_,?_,m0,m1⟩;unfold cW iR;refine fW ?_
 refine cA (oW (by walk_at "ee")) ?_
 exact jB (by walk_at "ee")
theorem wc (ns:List Int) {k:Int} (k0:0<=k):∃ c:Int,dv [scr ns,.int k]=some (.shr (.int c)):=by
 have hl:=Bt ns;have t:=l8 k (ns.length:Int);unfold dv gH
 by_cases h:k < (ns.length:Int)
 ·obtain ⟨c,hc⟩:=Ej k0 h
  rw [Zu h] at t;refine ⟨c,fW ?_⟩;exact yU (by walk_at "ee") (jB (by walk_at "ee"))
 ·rw [Zq h] at t
  refine ⟨0,fW ?_⟩;show mL _ _ [.shr (scr ns),.shr (.int k)]=_;exact qe (by walk_at "ee") (jB e_c)
def LET:Str:="abcdefghijklmnopqrstuvwxyz"
def okS (x:Str):Bool:=x.cps.all lower
def One (z:Str):Prop:=z.length=1/\okS z=true
theorem Bs:LET.cps.toList.length=26:=by rfl
theorem D9:∀ c ∈ LET.cps.toList,lower c=true:=by decide +kernel
theorem Ea {k:Int} (k0:0<=k) (k1:k < 26):∃ z:Str,oIx (.str LET) (.int k)=some (.str z)/\One z:=by
 obtain ⟨h,e⟩:=oH k0 (by rw [Bs]; omega);refine ⟨⟨#[LET.cps.toList[k.toNat]]⟩,?_,rfl,?_⟩
 ·show (if LET.length<=100000 then (atI LET.cps.toList k).map _ else none)=_
  rw [if_pos (by decide +kernel),e];rfl
 ·unfold okS
  rw [Array.all_eq_true_iff_forall_mem];intro c hc;have e:c=LET.cps.toList[k.toNat]:=by simpa using hc
  rw [e];exact D9 _ (Y2 h)
theorem strs_map:∀ ts:List Str,L2.rK (ts.map .str)=some ts
 | []=>rfl
 | t::ts=>by
  show (L2.rK (ts.map .str)).map _=_;rw [strs_map ts]; rfl
theorem nB {gg:D->Option D}:∀ {ds:List D},(∀ d ∈ ds,∃ z:Str,gg d=some (.str z)/\One z)->∃ ts:List Str,wQ gg ds=some (ts.map .str)/\ts.length=ds.length/\∀ z ∈ ts,One z
 | [],_=>⟨[],rfl,rfl,λ q hq=>nomatch hq⟩
 | d::ds,h=>by
  obtain ⟨q,e1,p1⟩:=h d (Ze ..);obtain ⟨qs,e2,l2,p2⟩:=nB (gg:=gg) (ds:=ds) λ x hx=>h x (Zd _ hx)
  refine ⟨q::qs,by simp only [wQ,e1,e2]; rfl,by simp [l2],λ x hx=>?_⟩;rcases Zh.mp hx with rfl | hx
  · exact p1
  · exact p2 x hx
theorem p8:∀ {ts:List Str},(∀ z ∈ ts,One z)->(ts.map (·.length)).sum=ts.length
 | [],_=>rfl
 | t::ts,h=>by
  rw [Zg,List.sum_cons,(h t (Ze ..)).1,p8 λ z hz=>h z (Zd _ hz),Zv];omega
theorem Ai {n:Nat} {d:D} (h:d ∈ t5 0 n):∃ j:Nat,j < n/\d=.int (j:Int):=by
 obtain ⟨j,hj⟩:=List.getElem?_of_mem h;obtain ⟨e,l⟩:=tY hj;exact ⟨j,l,by rw [e]; congr 1; omega⟩
theorem uF {x y:Array Nat} (hx:x.all (lower)=true) (hy:y.all (lower)=true):(x++y).all (lower)=true:=by grind
theorem vB:∀ (ts:List Str) (a:Array Nat),(∀ z ∈ ts,One z)->a.all (lower)=true->(ts.foldl (λ acc p=>acc++(Str.cps "")++p.cps) a).size=a.size+ts.length/\(ts.foldl (λ acc p=>acc++(Str.cps "")++p.cps) a).all (lower)=true
 | [],a,_,h=>⟨rfl,h⟩
 | t::ts,a,h,ha=>by
  have h1:=h t (Ze ..);have h0:(Str.cps "").size=0:=by decide +kernel
  have h1':t.cps.size=1:=h1.1;obtain ⟨e1,e2⟩:=vB ts (a++(Str.cps "")++t.cps) (λ z hz=>h z (Zd _ hz)) (uF (uF ha (by decide +kernel)) h1.2);refine ⟨?_,e2⟩;rw [List.foldl_cons,e1,Array.size_append,Array.size_append,h1',h0,Zv];omega
theorem Bz {ts:List Str} (h:∀ z ∈ ts,One z) (n:ts≠[]):(Txt.join "" ts).length=ts.length/\okS (Txt.join "" ts)=true:=by
 match ts,n with
 | t::ts,_ =>
  have h1:=h t (Ze ..);have h1':t.cps.size=1:=h1.1;obtain ⟨e1,e2⟩:=vB ts t.cps (λ z hz=>h z (Zd _ hz)) h1.2;refine ⟨?_,e2⟩;show (ts.foldl (λ acc p=>acc++(Str.cps "")++p.cps) t.cps).size=_;rw [e1,h1',Zv];omega
theorem EM {τ:List Sl} {f g:DE} {z:Str} {ts:List Str} (h1:f τ=some (.str z)) (h2:g τ=some (.lst (ts.map .str))) (h3:(ts.map (·.length)).sum+ts.length * z.length<=100000):BX f g τ=some (.str (Txt.join z ts)):=by
 unfold BX;rw [h1];rw [h2];show (L2.rK (ts.map .str)).bind _=_;rw [strs_map];exact if_pos h3
theorem A7 (c:Int) {w:Int} (w0:0<=w) (w1:w<=9000):∃ z:Str,eJ [.int c,.int w]=some (.shr (.str z))/\b7 z=true:=by
 obtain ⟨r,er,r0,r1⟩:=md c (w:=w+3) (by omega) (by omega)
 obtain ⟨ts,ets,lts,ots⟩:=nB (gg:=λ d=>dOp oIx (aH 1) (dOp oMod (dFn cW (aK (aH 2) (aK (dOp qv (aH 3) (dOp zl (dC (.int 5)) (aH 0))) d8))) (dC (.int 26))) [.shr d,.shr (.str LET),.shr (.int c),.shr (.int w)]) (ds:=t5 0 (Int.toNat (1+r % 8))) (by
  intro d hm;obtain ⟨j,hj,rfl⟩:=Ai hm;obtain ⟨q,eq,q0,q1⟩:=md c (w:=w+5 * (j:Int)) (by omega) (by omega);obtain ⟨z,ez,lz⟩:=Ea (Yu _ (by decide)) (Yv _ (by decide))
  exact ⟨z,by walk_at "ee",lz⟩)
 rw [tX] at lts;have ne:ts≠[]:=λ z=>by rw [z] at lts; simp at lts; omega
 obtain ⟨jl,jo⟩:=Bz ots ne
 have nk:b7 (Txt.join "" ts)=true:=by
  unfold b7
  have jo':(Txt.join "" ts).cps.toList.all lower=true:=by
   rw [Array.all_toList];exact jo
  rw [Zu (by omega),Zu (by omega),jo'];rfl
 refine ⟨Txt.join "" ts,?_,nk⟩;unfold eJ gF;dsimp only;refine fW ?_
 refine cA (oW e_c) ?_
 refine cA (oW (by walk_at "ee")) ?_
 exact jB (EM e_c (qT (Em rfl (by omega)) (by rw [tX]; omega) ets) (by rw [p8 ots,show Str.length ""=0 by decide +kernel]; omega))
theorem zt (c:Int) {w:Int} (w0:0<=w) (w1:w<=1000):∃ z:Str,eJ [.int c,.int w]=some (.shr (.str z))/\b7 z=true:=A7 c w0 (by omega)
theorem ee {z:Str} (h:b7 z=true):fE [.str z]=some (.shr .non):=by
 have l:z.length<=100:=by
  unfold b7 at h;rw [Z8,Z8] at h;have:=Xj h.1.2;omega
 have e:=vk z l;rw [h] at e;unfold fE fo;exact GG (E9 (lS (bu (eW (ah e_v aD) e rfl))) nofun λ _=>rfl)
theorem pG (ns:List Int):sX [.lst (ns.map .int)]=some (.int (ns.length:Int)):=by
 show some (D.int ((ns.map D.int).length:Nat))=_;rw [Za]
theorem gh {ns:List Int} {p:Int} (h0:0<=p) (h1:p<=ns.length):eI [.int p,.lst (ns.map .int)]=some (.shr .non):=by
 have hl:=pG ns;have e1:oLe (.int 0) (.int p)=some (.bl true):=by show some (D.bl (decide _))=_; rw [Zu h0]
 have e2:oLe (.int p) (.int (ns.length:Int))=some (.bl true):=by show some (D.bl (decide _))=_; rw [Zu h1]
 unfold eI eE;exact GG (E9 (lS (bu (j7 (aJ e_c e_v e1) (aJ e_v (bC (ah e_v aD) hl) e2)))) nofun λ _=>rfl)
theorem p5 (i:Int):fF [.int i]=some (.shr (.bl true)):=rfl
theorem gj (ns:List Int) (hl:ns.length < 1000):bM [.lst (ns.map .int),.lst (ns.map .int)]=some (.shr (.bl true)):=by
 have hn:=pG ns;have e0:oNe (.int (ns.length:Int)) (.int (ns.length:Int))=some (.bl false):=by rw [jO,Zu rfl]; rfl
 obtain ⟨τ',e,s2,rfl⟩:=BO (f:=sIf (dOr (ER (dT (dFn fF (aK (dOp oIx (aH 0) (aH 2)) d8)))) (dT (dOp oNe (dOp oIx (aH 0) (aH 2)) (dOp oIx (aH 1) (aH 2))))) (Fb (dC (.bl false))) rP) (gg:=gN 2) (it:=qF (aK (gB sX (aK (aH 1) d8)) d8))
  (λ j τ=>∃ s2,τ=[.shr (.lst (ns.map .int)),.shr (.lst (ns.map .int)),s2]) ((Em (ah (bC (ah e_v aD) hn) aD) (by omega)).trans (by rw [Int.toNat_natCast])) ⟨.no,rfl⟩ (λ j d τ hd ⟨s2,e⟩=>by
    subst e;obtain ⟨e,l⟩:=tY hd;rw [Int.zero_add] at e;subst e
    have hx:oIx (.lst (ns.map .int)) (.int (j:Int))=some (.int ns[j]):=by
     obtain ⟨h,e⟩:=oH (xs:=ns.map D.int) (j:=(j:Int)) (by omega) (by rw [Za]; omega);show atI (ns.map D.int) _=_;rw [e];simp
    have e1:oNe (.int ns[j]) (.int ns[j])=some (.bl false):=by rw [jO,Zu rfl]; rfl
    exact ⟨_,[.shr (.lst (ns.map .int)),.shr (.lst (ns.map .int)),.shr (.int (j:Int))],rfl,E9 (E5 (b:=false) (lS (bu (eW (ah (aJ e_v e_v hx) aD) (p5 _) rfl))) (λ _=>bu (aJ (aJ e_v e_v hx) (aJ e_v e_v hx) e1)) nofun) nofun λ _=>rfl,_,rfl⟩)
 unfold bM de;exact fW (qe (E5 (b:=false) (lS (b:=true) rfl) (λ _=>bu (aJ (bC (ah e_v aD) hn) (bC (ah e_v aD) hn) e0)) nofun) (cA e (jB e_c)))
end N13
end
section
namespace N13
open PySem L2
structure Pl where
 k:List Str
 w:List Str
 o:List D
structure B8 where
 i:Int
 h:Option Int
 n:Str
 r:List Int
 m:Pl
def b6:Pl:=⟨[],[],[]⟩
def mkD (b:B8):D:=.dct (b.m.k.map λ x=>((.inr x:Key),.bl true))
def wdD (b:B8):D:=.lst (b.m.w.map .str)
def roD (b:B8):D:=.tup b.m.o
def kv {β:Type} (g:B8->β) (M:List B8):List (Key×β):=M.map λ b=>((.inl b.i:Key),g b)
def fd (M:List B8) (i:Int):Option B8:=M.find? λ b=>decide (b.i=i)
theorem gA {M:List B8} {i:Int} {b:B8} (h:fd M i=some b):b.i=i:=by simpa using List.find?_some h
theorem aI {M:List B8} {i:Int} {b:B8} (h:fd M i=some b):b ∈ M:=List.mem_of_find?_eq_some h
theorem tm (g:B8->D) (M:List B8) (i:Int):iV (kv g M) (.inl i)=(fd M i).map g:=by
 unfold iV kv fd
 induction M with
 | nil=>rfl
 | cons b M ih =>
  rw [Zg,List.find?_cons,List.find?_cons]
  by_cases h:b.i=i
  · simp [h]
  ·have:decide ((Sum.inl b.i:Key)=Sum.inl i)=false:=Zq λ z=>h (by injection z)
   rw [Zq h,this];exact ih
def hD:Option Int->D
 | none=>.non
 | some j=>.int j
def trF (gv:Int) (M:List B8):List (Str×D):=[("given",.int gv),("names",.dct (kv (λ b=>.str b.n) M)),("holders",.dct (kv (λ b=>hD b.h) M)),("boxes",.dct (kv (λ b=>.lst (b.r.map .int)) M)),("marks",.dct (kv mkD M)),("words",.dct (kv wdD M)),("rows",.dct (kv roD M))]
def trD (C:Addr) (gv:Int) (M:List B8):D:=.obj C (trF gv M)
def faD (M:List B8):D:=.dct (kv (λ b=>.tup [hD b.h,.str b.n]) M)
theorem bz {g:B8->D} {M:List B8} {i:Int} {b:B8} (h:fd M i=some b):dz (.dct (kv g M)) (.int i)=some (g b):=by
 show iV (kv g M) (.inl i)=_;rw [tm,h];rfl
theorem vM {g:B8->D} {M:List B8} {i:Int} {b:B8} (h:fd M i=some b):jP (.int i) (.dct (kv g M))=some (.bl false):=by
 show some (D.bl (!(iV (kv g M) (.inl i)).isSome))=_;rw [tm,h];rfl
theorem qy:∀ (l:List Str) ,nI (l.map λ x=>((.inr x:Key),D.bl true))=some l
 | []=>rfl
 | x::l=>by
  show (nI (l.map λ x=>((.inr x:Key),D.bl true))).map (x::·)=_;rw [qy l];rfl
section
variable {t:Adr} {gv:Int} {M:List B8} {i:Int} {b:B8} {z:Int}
theorem fN:(trF gv M).lookup (Str.ofString "names")=some (D.dct (kv (λ b=>.str b.n) M)):=rfl
theorem fH:(trF gv M).lookup (Str.ofString "holders")=some (D.dct (kv (λ b=>hD b.h) M)):=rfl
theorem fB:(trF gv M).lookup (Str.ofString "boxes")=some (D.dct (kv (λ b=>.lst (b.r.map .int)) M)):=rfl
theorem fK:(trF gv M).lookup (Str.ofString "marks")=some (D.dct (kv mkD M)):=rfl
theorem hZ (h:fd M i=some b):dM t [trD t.ag gv M,.int i]=some (.shr .non):=by
 have e1:=vM (g:=λ b=>.str b.n) h;unfold dM fC;exact GG (E9 (bu (aJ e_v (iM e_v fN) e1)) nofun λ _=>rfl)
theorem chk (h:fd M i=some b):xn (j9 t.ag "check" (dM t) (aH 0) (aK (aH 1) d8)) [.shr (trD t.ag gv M),.shr (.int i)]=some (.next [.shr (trD t.ag gv M),.shr (.int i)]) :=
 C5 (eU e_v (ah e_v aD) rfl (hZ h) rfl)
theorem nN (h:fd M i=some b):bw t [trD t.ag gv M,.int i]=some (.shr (hD b.h)):=by
 unfold bw cO;exact fW (cA (chk h) (jB (aJ (iM e_v fH) e_v (bz h))))
theorem mI (h:fd M i=some b):bp t [trD t.ag gv M,.int i]=some (.own (.lst (b.r.map .int))):=by
 unfold bp dq;exact fW (cA (chk h) (yV (bC (ah (aJ (iM e_v fB) e_v (bz h)) aD) rfl)))
theorem xS (h:fd M i=some b) (h64:b.m.k.length < 64):bo t [trD t.ag gv M,.int i]=some (.own (.lst ((wN b.m.k).map .str))):=by
 unfold bo dk;refine fW (cA (chk h) (yV ?_));unfold v7;rw [aJ (iM e_v fK) e_v (bz h)];show (nI (b.m.k.map λ x=>((.inr x:Key),D.bl true))).bind _=_;rw [qy];show (if b.m.k.length < 64 then _ else none)=_;rw [if_pos h64]
inductive Ch (M:List B8):Int->Nat->Prop where
 | top {i:Int} {b:B8} (h:fd M i=some b) (e:b.h=none):Ch M i 0
 | up {i j:Int} {n:Nat} {b:B8} (h:fd M i=some b) (e:b.h=some j) (c:Ch M j n):Ch M i (n+1)
theorem Ch.get {n:Nat} (h:Ch M i n):∃ b,fd M i=some b:=by
 cases h with
 | top h _=>exact ⟨_,h⟩
 | up h _ _=>exact ⟨_,h⟩
theorem vU {n:Nat} (c:Ch M i n):∀ (m:Int),∃ x,bB (dT (dOp l7 (dOp oIx (dOp dz (aH 0) (aH 1)) (dC (.int 0))) (dC .non))) (mL (wO 1 (dOp oIx (dOp dz (aH 0) (aH 1)) (dC (.int 0)))) (wO 2 (dOp qv (aH 2) (dC (.int 1))))) (n+1) [.shr (faD M),.shr (.int i),.shr (.int m)]=some (.next [.shr (faD M),.shr x,.shr (.int (m+n))]):=by
 induction c with
 | @top i b h e =>
  intro m;have e1:dz (faD M) (.int i)=some (.tup [hD b.h,.str b.n]):=bz h
  have t1:dT (dOp l7 (dOp oIx (dOp dz (aH 0) (aH 1)) (dC (.int 0))) (dC .non)) [.shr (faD M),.shr (.int i),.shr (.int m)]=some false:=by
   rw [e] at e1;exact bu (aJ (aJ (aJ e_v e_v e1) e_c (kY _ _)) e_c rfl)
  refine ⟨.int i,?_⟩;unfold bB;rw [t1];simp only [Int.natCast_zero,Int.add_zero]
 | @up i j n b h e c ih =>
  intro m;have e1:dz (faD M) (.int i)=some (.tup [hD b.h,.str b.n]):=bz h;rw [e] at e1;have t1:dT (dOp l7 (dOp oIx (dOp dz (aH 0) (aH 1)) (dC (.int 0))) (dC .non)) [.shr (faD M),.shr (.int i),.shr (.int m)]=some true:=bu (aJ (aJ (aJ e_v e_v e1) e_c (kY _ _)) e_c rfl)
  have t2:mL (wO 1 (dOp oIx (dOp dz (aH 0) (aH 1)) (dC (.int 0)))) (wO 2 (dOp qv (aH 2) (dC (.int 1)))) [.shr (faD M),.shr (.int i),.shr (.int m)]=some (.next [.shr (faD M),.shr (.int j),.shr (.int (m+1))]) :=
   cA ((oW (aJ (aJ e_v e_v e1) e_c (kY _ _))).trans rfl) ((oW (aJ e_v e_c (aY _ _))).trans rfl)
  obtain ⟨x,hx⟩:=ih (m+1);refine ⟨x,?_⟩
  conv=>lhs; unfold bB
  rw [t1];simp only [t2];rw [hx];simp only [Int.natCast_add,Int.natCast_one,show m+1+(n:Int)=m+((n:Int)+1) by omega]
theorem mB {n:Nat} (c:Ch M i n):cE [faD M,.int i]=some (.shr (.int (n:Int))):=by
 obtain ⟨x,hx⟩:=vU c 0;have w:=gO hx;unfold cE gG;dsimp only;refine fW (cA rfl (cA w (jB ?_)));rw [Int.zero_add];exact ak rfl
theorem nM {n:Nat} (c:Ch M i n):∀ (ds:List D) (b:B8),fd M i=some b->ds.length+n < 100000->∃ es:List D,es.length=ds.length+n/\bB (dT (dOp l7 (aH 3) (dC .non))) (mL (Af 2 (aH 3)) (wO 3 (j9 t.ag "holder_of" (bw t) (aH 0) (aK (aH 3) d8)))) (n+1) [.shr (trD t.ag gv M),.shr (.int z),.own (.lst ds),.shr (hD b.h)]=some (.next [.shr (trD t.ag gv M),.shr (.int z),.own (.lst es),.shr .non]):=by
 induction c with
 | @top i b h e =>
  intro ds b' hb hz;rw [h] at hb;cases hb;refine ⟨ds,rfl,?_⟩;rw [e];have t1:dT (dOp l7 (aH 3) (dC .non)) [.shr (trD t.ag gv M),.shr (.int z),.own (.lst ds),.shr (hD none)]=some false:=rfl;unfold bB;rw [t1];rfl
 | @up i j n b h e c ih =>
  intro ds b' hb hz;rw [h] at hb;cases hb;obtain ⟨bj,hj⟩:=c.get;obtain ⟨es,l,hx⟩:=ih (ds++[.int j]) bj hj (by rw [Z3]; show ds.length+1+n < _; omega);refine ⟨es,by rw [l,Z3]; show ds.length+1+n=_; omega,?_⟩;rw [e];have t1:dT (dOp l7 (aH 3) (dC .non)) [.shr (trD t.ag gv M),.shr (.int z),.own (.lst ds),.shr (hD (some j))]=some true:=rfl
  have t2:mL (Af 2 (aH 3)) (wO 3 (j9 t.ag "holder_of" (bw t) (aH 0) (aK (aH 3) d8))) [.shr (trD t.ag gv M),.shr (.int z),.own (.lst ds),.shr (hD (some j))]=some (.next [.shr (trD t.ag gv M),.shr (.int z),.own (.lst (ds++[.int j])),.shr (hD bj.h)]) :=
   cA ((rN e_v rfl (by omega)).trans rfl) ((oW (eU e_v (ah e_v aD) rfl (nN hj) rfl)).trans rfl)
  conv=>lhs; unfold bB
  rw [t1];simp only [t2];exact hx
theorem jq {n:Nat} (c:Ch M i n) (hn:n < 1000):iT t [trD t.ag gv M,.int i]=some (.shr (.int (n:Int))):=by
 obtain ⟨b,h⟩:=c.get;obtain ⟨es,l,hx⟩:=nM c [] b h (by rw [Y0]; omega);have w:=gO hx
 have e1:fD t [trD t.ag gv M,.int i]=some (.own (.lst es)):=by
  unfold fD fk;dsimp only;exact fW (cA (kS (ji aD (Yb _)) (Zb rfl)) (cA ((oW (eU e_v (ah e_v aD) rfl (nN h) rfl)).trans rfl) (cA w (qf rfl))))
 unfold iT iP;refine fW (jB (bC (ah (eW (ah e_v (ah e_v aD)) e1 rfl) aD) ?_));show some (D.int (es.length:Int))=_;rw [l,Y0,Nat.zero_add]
end
end N13
end
section
namespace N13
open PySem L2
def trG (C:Addr) (g nm ho bx mk wd rw:Mt):Mt:=.n (.o C) [(.inr "given",g),(.inr "names",nm),(.inr "holders",ho),(.inr "boxes",bx),(.inr "marks",mk),(.inr "words",wd),(.inr "rows",rw)]
def kM (g:B8->Mt) (M:List B8):Mt:=.n .d (kv g M)
def mkM (b:B8):Mt:=.n .d (b.m.k.map λ x=>((.inr x:Key),.s (.bl true)))
def wdM (b:B8):Mt:=lM (b.m.w.map .str)
def roM (b:B8):Mt:=.s (.tup b.m.o)
def bxM (M:List B8):Mt:=kM (λ b=>lM (b.r.map .int)) M
def trM (C:Addr) (gv:Int) (M:List B8):Mt:=trG C (.s (.int gv)) (kM (λ b=>.s (.str b.n)) M) (kM (λ b=>.s (hD b.h)) M) (bxM M) (kM mkM M) (kM wdM M) (kM roM M)
def faM (M:List B8):Mt:=kM (λ b=>.s (.tup [hD b.h,.str b.n])) M
theorem BM (g:B8->Mt) (M:List B8):frz (kM g M)=.dct (kv (λ b=>frz (g b)) M):=by
 unfold kM kv;rw [frz,mw,Zw];rfl
theorem ym (d:D):frz (.s d)=d:=by rw [frz]
theorem gf (ns:List D):frz (lM ns)=.lst ns:=by
 unfold lM;rw [frz,qH,Zw];congr 1;exact (Zt (g:=id) λ d _=>by show frz (.s d)=id d; rw [frz]; rfl).trans (List.map_id _)
theorem Ey (b:B8):frz (mkM b)=mkD b:=by
 unfold mkM mkD;rw [frz,mw,Zw];exact Z7 D.dct (Zt λ x _=>by show (_,frz (.s _))=_; rw [ym])
theorem Ew (b:B8):frz (wdM b)=wdD b:=by
 unfold wdM wdD;rw [gf]
theorem Ex (b:B8):frz (roM b)=roD b:=by
 unfold roM roD;rw [ym]
theorem lg (C:Addr) (gv:Int) (M:List B8):frz (trM C gv M)=trD C gv M:=by
 unfold trM trG bxM;rw [frz];simp only [qJ,Zg,Xq,BM,ym,gf,Ey,Ew,Ex,strOf];rfl
theorem ja (M:List B8):frz (bxM M)=.dct (kv (λ b=>.lst (b.r.map .int)) M):=by
 unfold bxM;rw [BM];simp only [gf]
theorem lh (M:List B8):frz (faM M)=faD M:=by
 unfold faM faD;rw [BM];simp only [ym]
theorem rJ {C:Addr} {g nm ho bx mk wd rw x:Mt}:(trG C g nm ho bx mk wd rw).put [.k (.inr "boxes")] x=trG C g nm ho x mk wd rw:=by
 show Mt.n (.o C) [(.inr "given",g),(.inr "names",nm),(.inr "holders",ho),(.inr "boxes",bx.put [] x),(.inr "marks",mk),(.inr "words",wd),(.inr "rows",rw)]=_;cases bx <;> rfl
theorem tG {C:Addr} {g nm ho bx mk wd rw:Mt} {k:Key}:(trG C g nm ho bx mk wd rw).get [.k (.inr "boxes"),.k k]=bx.get [.k k]:=rfl
theorem jy {C:Addr} {g nm ho bx mk wd rw x:Mt} {k:Key}:(trG C g nm ho bx mk wd rw).put [.k (.inr "boxes"),.k k] x=trG C g nm ho (bx.put [.k k] x) mk wd rw:=rfl
theorem nO (g:B8->Mt) (M:List B8) (i:Int):(kM g M).get [.k (.inl i)]=(fd M i).map g:=by
 unfold kM;rw [yu];unfold kv fd
 induction M with
 | nil=>rfl
 | cons b M ih =>
  rw [Zg,List.find?_cons,List.find?_cons]
  by_cases h:b.i=i
  · simp [h]
  ·have:decide ((Sum.inl b.i:Key)=Sum.inl i)=false:=Zq λ z=>h (by injection z)
   rw [Zq h,this];exact ih
end N13
end
section
namespace N13
open PySem L2
theorem uf {C:Addr} {g ho bx mk wd rw mv:Mt} {cs:List (Key×Mt)} {b:Bool} {r:List Sm} {gk:DE} {fv:DEm} {s:Sm} {d:D} {k:Key} (h1:fv (.mu b (trG C g (.n .d cs) ho bx mk wd rw)::r)=some (s,.mu b (trG C g (.n .d cs) ho bx mk wd rw)::r)) (h3:gk (aQ (.mu b (trG C g (.n .d cs) ho bx mk wd rw)::r))=some d) (h4:kL d=some k) (h5:toM s=some mv) (h7:cs.length < 100000) :
  cJ (jg C "names" (cD 0)) gk fv (.mu b (trG C g (.n .d cs) ho bx mk wd rw)::r)=some (.next (.mu b (trG C g (.n .d (eZ cs k mv)) ho bx mk wd rw)::r)):=by
 refine (eR h1 (kF bU rfl) h3 h4 h5 rfl h7).trans ?_
 rfl
theorem jD {C:Addr} {g nm bx mk wd rw mv:Mt} {cs:List (Key×Mt)} {b:Bool} {r:List Sm} {gk:DE} {fv:DEm} {s:Sm} {d:D} {k:Key} (h1:fv (.mu b (trG C g nm (.n .d cs) bx mk wd rw)::r)=some (s,.mu b (trG C g nm (.n .d cs) bx mk wd rw)::r)) (h3:gk (aQ (.mu b (trG C g nm (.n .d cs) bx mk wd rw)::r))=some d) (h4:kL d=some k) (h5:toM s=some mv) (h7:cs.length < 100000) :
  cJ (jg C "holders" (cD 0)) gk fv (.mu b (trG C g nm (.n .d cs) bx mk wd rw)::r)=some (.next (.mu b (trG C g nm (.n .d (eZ cs k mv)) bx mk wd rw)::r)):=by
 refine (eR h1 (kF bU rfl) h3 h4 h5 rfl h7).trans ?_
 rfl
theorem ui {C:Addr} {g nm ho mk wd rw mv:Mt} {cs:List (Key×Mt)} {b:Bool} {r:List Sm} {gk:DE} {fv:DEm} {s:Sm} {d:D} {k:Key} (h1:fv (.mu b (trG C g nm ho (.n .d cs) mk wd rw)::r)=some (s,.mu b (trG C g nm ho (.n .d cs) mk wd rw)::r)) (h3:gk (aQ (.mu b (trG C g nm ho (.n .d cs) mk wd rw)::r))=some d) (h4:kL d=some k) (h5:toM s=some mv) (h7:cs.length < 100000) :
  cJ (jg C "boxes" (cD 0)) gk fv (.mu b (trG C g nm ho (.n .d cs) mk wd rw)::r)=some (.next (.mu b (trG C g nm ho (.n .d (eZ cs k mv)) mk wd rw)::r)):=by
 refine (eR h1 (kF bU rfl) h3 h4 h5 rfl h7).trans ?_
 rfl
theorem ug {C:Addr} {g nm ho bx wd rw mv:Mt} {cs:List (Key×Mt)} {b:Bool} {r:List Sm} {gk:DE} {fv:DEm} {s:Sm} {d:D} {k:Key} (h1:fv (.mu b (trG C g nm ho bx (.n .d cs) wd rw)::r)=some (s,.mu b (trG C g nm ho bx (.n .d cs) wd rw)::r)) (h3:gk (aQ (.mu b (trG C g nm ho bx (.n .d cs) wd rw)::r))=some d) (h4:kL d=some k) (h5:toM s=some mv) (h7:cs.length < 100000) :
  cJ (jg C "marks" (cD 0)) gk fv (.mu b (trG C g nm ho bx (.n .d cs) wd rw)::r)=some (.next (.mu b (trG C g nm ho bx (.n .d (eZ cs k mv)) wd rw)::r)):=by
 refine (eR h1 (kF bU rfl) h3 h4 h5 rfl h7).trans ?_
 rfl
theorem uc {C:Addr} {g nm ho bx mk rw mv:Mt} {cs:List (Key×Mt)} {b:Bool} {r:List Sm} {gk:DE} {fv:DEm} {s:Sm} {d:D} {k:Key} (h1:fv (.mu b (trG C g nm ho bx mk (.n .d cs) rw)::r)=some (s,.mu b (trG C g nm ho bx mk (.n .d cs) rw)::r)) (h3:gk (aQ (.mu b (trG C g nm ho bx mk (.n .d cs) rw)::r))=some d) (h4:kL d=some k) (h5:toM s=some mv) (h7:cs.length < 100000) :
  cJ (jg C "words" (cD 0)) gk fv (.mu b (trG C g nm ho bx mk (.n .d cs) rw)::r)=some (.next (.mu b (trG C g nm ho bx mk (.n .d (eZ cs k mv)) rw)::r)):=by
 refine (eR h1 (kF bU rfl) h3 h4 h5 rfl h7).trans ?_
 rfl
theorem xu {C:Addr} {g nm ho bx mk wd mv:Mt} {cs:List (Key×Mt)} {b:Bool} {r:List Sm} {gk:DE} {fv:DEm} {s:Sm} {d:D} {k:Key} (h1:fv (.mu b (trG C g nm ho bx mk wd (.n .d cs))::r)=some (s,.mu b (trG C g nm ho bx mk wd (.n .d cs))::r)) (h3:gk (aQ (.mu b (trG C g nm ho bx mk wd (.n .d cs))::r))=some d) (h4:kL d=some k) (h5:toM s=some mv) (h7:cs.length < 100000) :
  cJ (jg C "rows" (cD 0)) gk fv (.mu b (trG C g nm ho bx mk wd (.n .d cs))::r)=some (.next (.mu b (trG C g nm ho bx mk wd (.n .d (eZ cs k mv)))::r)):=by
 refine (eR h1 (kF bU rfl) h3 h4 h5 rfl h7).trans ?_
 rfl
theorem vE {C:Addr} {g nm ho bx mk wd rw mv:Mt} {b:Bool} {r:List Sm} {fv:DEm} {s:Sm} (h1:fv (.mu b (trG C g nm ho bx mk wd rw)::r)=some (s,.mu b (trG C g nm ho bx mk wd rw)::r)) (h5:toM s=some mv) :
  tT C "given" (cD 0) fv (.mu b (trG C g nm ho bx mk wd rw)::r)=some (.next (.mu b (trG C mv nm ho bx mk wd rw)::r)):=by
 refine (D3 h1 bU h5 rfl (Zb rfl)).trans ?_
 rfl
def Nd (M:List B8):Prop:=(M.map B8.i).Nodup
theorem fd_none {M:List B8} {i:Int}:fd M i=none↔∀ b ∈ M,b.i≠i:=by
 unfold fd;rw [List.find?_eq_none];exact ⟨λ h b hb e=>h b hb (by simp [e]),λ h b hb e=>h b hb (by simpa using e)⟩
theorem g7 {M:List B8} (nd:Nd M) {b:B8} (hb:b ∈ M):fd M b.i=some b:=by
 unfold Nd at nd;unfold fd
 induction M with
 | nil=>cases hb
 | cons c M ih =>
  rw [Zg,Zy] at nd;rw [List.find?_cons];rcases Zh.mp hb with rfl | hb
  · simp
  ·have ne:c.i≠b.i:=λ e=>nd.1 (by rw [e]; exact Yc hb)
   rw [Zq ne];exact ih nd.2 hb
theorem zR {β:Type} (g:B8->β) (M:List B8) (i:Int):((kv g M).any λ c=>decide (c.1=.inl i))=(fd M i).isSome:=by
 unfold kv fd;rw [List.any_map,<- List.isSome_find?];congr 2
 funext b
 show decide ((Sum.inl b.i:Key)=Sum.inl i)=decide (b.i=i);exact decide_eq_decide.mpr ⟨λ z=>by injection z,λ z=>by rw [z]⟩
theorem xw {g:B8->Mt} {M:List B8} {i:Int} {m:Mt} (h:fd M i=none):eZ (kv g M) (.inl i) m=kv g M++[(.inl i,m)]:=by
 unfold eZ;rw [zR,h];rfl
theorem Bv {β:Type} (g:B8->β) (M:List B8) (b:B8):kv g (M++[b])=kv g M++[(.inl b.i,g b)]:=by
 unfold kv;rw [Zp];rfl
theorem jE {g:B8->Mt} {M:List B8} {b:B8} (h:fd M b.i=none):eZ (kv g M) (.inl b.i) (g b)=kv g (M++[b]):=by rw [xw h,Bv]
theorem gZ {β:Type} (g:B8->β) (M:List B8):(kv g M).length=M.length:=Za _
def upR (M:List B8) (i:Int) (r:List Int):List B8:=M.map λ b=>if b.i=i then { b with r:=r } else b
theorem lN {β:Type} (g:B8->β) (M:List B8) (i:Int) (r:List Int) (hg:∀ b:B8,g { b with r:=r }=g b):kv g (upR M i r)=kv g M:=by
 unfold kv upR;rw [Zw];refine Zt λ b _=>?_
 show ((Sum.inl (if b.i=i then { b with r:=r } else b).i:Key),g (if b.i=i then { b with r:=r } else b))=_;split
 · rw [hg]
 · rfl
theorem qh {M:List B8} {i:Int} {b:B8} {r:List Int} (nd:Nd M) (h:fd M i=some b):(bxM M).put [.k (.inl i)] (lM (r.map .int))=bxM (upR M i r):=by
 have hb:=aI h;have hi:=gA h;obtain ⟨l1,l2,rfl⟩:=List.append_of_mem hb;have nd':=nd;unfold Nd at nd';rw [Zp,Zg,Yj,Zy] at nd';have n1:∀ c ∈ l1,c.i≠i:=λ c hc e=>nd'.2.2 c.i (Yc hc) b.i (Ze ..) (by rw [e,hi])
 have n2:∀ c ∈ l2,c.i≠i:=λ c hc e=>nd'.2.1.1 (by rw [hi,<- e]; exact Yc hc)
 have ix:((kv (λ b=>lM (b.r.map .int)) (l1++b::l2)).findIdx? λ c=>decide (c.1=.inl i))=some l1.length:=by
  unfold kv;rw [List.findIdx?_map,List.findIdx?_append]
  have e1:(l1.findIdx? ((λ c:Key×Mt=>decide (c.1=Sum.inl i)) ∘ λ b=>((.inl b.i:Key),lM (b.r.map .int))))=none:=by
   rw [List.findIdx?_eq_none_iff];intro c hc;exact Zq λ z=>n1 c hc (by injection z)
  rw [e1,List.findIdx?_cons];have e2:((λ c:Key×Mt=>decide (c.1=Sum.inl i)) ∘ λ b:B8=>((.inl b.i:Key),lM (b.r.map .int))) b=true:=Zu (by show (Sum.inl b.i:Key)=Sum.inl i; rw [hi]);rw [e2];simp
 have gx:(kv (λ b=>lM (b.r.map .int)) (l1++b::l2))[l1.length]?=some ((.inl b.i:Key),lM (b.r.map .int)):=by
  unfold kv;rw [List.getElem?_map,List.getElem?_append_right (Zk _),Xs];rfl
 show (match (kv (λ b=>lM (b.r.map .int)) (l1++b::l2)).findIdx? (λ c=>decide (c.1=.inl i)) with | none=>Mt.n .d (kv (λ b=>lM (b.r.map .int)) (l1++b::l2)) | some j=>match (kv (λ b=>lM (b.r.map .int)) (l1++b::l2))[j]? with | none=>Mt.n .d (kv (λ b=>lM (b.r.map .int)) (l1++b::l2)) | some c=>.n .d ((kv (λ b=>lM (b.r.map .int)) (l1++b::l2)).set j (c.1,Mt.put c.2 [] (lM (r.map .int)))))=_;simp only [ix,gx];congr 1;unfold kv upR;rw [Zp,Zg,Zp,Zg,Zp,Zg,List.set_append_right _ _ (by rw [Za]; exact Zk _),Za,Xs];congr 1
 ·rw [Zw]
  refine Zt λ c hc=>?_
  show _=((Sum.inl (if c.i=i then { c with r:=r } else c).i:Key),lM ((if c.i=i then { c with r:=r } else c).r.map .int));rw [if_neg (n1 c hc)]
 ·show (_,Mt.put (lM (b.r.map .int)) [] (lM (r.map .int)))::_=_
  rw [if_pos hi];congr 1;rw [Zw];refine Zt λ c hc=>?_
  show _=((Sum.inl (if c.i=i then { c with r:=r } else c).i:Key),lM ((if c.i=i then { c with r:=r } else c).r.map .int));rw [if_neg (n2 c hc)]
end N13
end
section
namespace N13
open PySem L2
section
variable {t:Adr} {gv:Int} {M:List B8} {nm:Str} {h:Option Int}
theorem iA {C:Addr} {b:Bool} {r:List Sm}:aQ (.mu b (trM C gv M)::r)=.shr (trD C gv M)::aQ r:=by
 show C0 (.mu b (trM C gv M))::_=_;show Sl.shr (frz (trM C gv M))::_=_;rw [lg]
theorem qR (hl:M.length < 1000) (hf:fd M gv=none):fI t [.mu true (trM t.ag gv M),.shr (hD h),.shr (.str nm)]=some (.shr (.int gv),[.mu true (trM t.ag (gv+1) (M++[⟨gv,h,nm,[],b6⟩])),.no,.no]):=by
 unfold fI fA;dsimp only;refine (gm (s:=.shr (.int gv)) (τ:=[.mu true (trM t.ag (gv+1) (M++[⟨gv,h,nm,[],b6⟩])),.shr (hD h),.shr (.str nm),.shr (.int gv)]) ?_).trans rfl;have hz:∀ g:B8->Mt,(kv g M).length < 100000:=λ g=>by rw [gZ]; omega
 refine aG (τ':=[.mu true (trM t.ag gv M),.shr (hD h),.shr (.str nm),.shr (.int gv)]) (bS (s:=.shr (.int gv)) (v_S ?_ rfl) (Zb rfl) rfl) ?_
 ·show dUn (xN t.ag "given") (aH 0) (aQ (.mu true (trM t.ag gv M)::[.shr (hD h),.shr (.str nm),.no]))=_
  rw [iA];exact iM (ak rfl) rfl
 refine aG (vE (mv:=.s (.int (gv+1))) (v_N (aJ (ak rfl) e_c (aY _ _))) rfl) ?_
 refine aG (uf (v_N (ak rfl)) (ak rfl) rfl rfl (hz _)) ?_
 refine aG (jD (v_N (ak rfl)) (ak rfl) rfl rfl (hz _)) ?_
 refine aG (ui (v_O (ji aD (Yb _)) rfl) (ak rfl) rfl rfl (hz _)) ?_
 refine aG (ug rfl (ak rfl) rfl rfl (hz _)) ?_
 refine aG (uc (v_O (ji aD (Yb _)) rfl) (ak rfl) rfl rfl (hz _)) ?_
 refine aG (xu (v_N (yr aD (Yb _))) (ak rfl) rfl rfl (hz _)) ?_
 refine (pF (v_N (ak rfl))).trans ?_
 have sn:∀ g:B8->Mt,eZ (kv g M) (.inl gv) (g ⟨gv,h,nm,[],b6⟩)=kv g (M++[⟨gv,h,nm,[],b6⟩]):=λ g=>jE (b:=⟨gv,h,nm,[],b6⟩) hf
 unfold trM bxM kM;rw [<- sn,<- sn,<- sn,<- sn,<- sn,<- sn];rfl
theorem gz {C:Addr} {x:Str} {cs:List (Key×Mt)} {mv:Mt} {b:Bool} {r:List Sm} {fv:DEm} {s:Sm} (h1:fv (.mu b (.n (.o C) cs)::r)=some (s,.mu b (.n (.o C) cs)::r)) (h5:toM s=some mv) (h7:cs.length < 1000) :
 tT C x (cD 0) fv (.mu b (.n (.o C) cs)::r)=some (.next (.mu b (.n (.o C) (eZ cs (.inr x) mv))::r)):=(D3 h1 bU h5 rfl h7).trans rfl
theorem BF (hn:b7 nm=true):dw t [.mu true (.n (.o t.ag) []),.shr (.str nm)]=some (.shr .non,[.mu true (trM t.ag 1 [⟨0,none,nm,[],b6⟩]),.no]):=by
 unfold dw dr;dsimp only;refine (C8 (τ:=[.mu true (trM t.ag 1 [⟨0,none,nm,[],b6⟩]),.shr (.str nm)]) ?_).trans rfl;refine aG (d7 (eW (ah (ak rfl) aD) (ee hn) rfl)) ?_
 refine aG (gz (v_N e_c) rfl (Zb rfl)) ?_
 refine aG (gz rfl rfl (Zb rfl)) ?_
 refine aG (gz rfl rfl (Zb rfl)) ?_
 refine aG (gz rfl rfl (Zb rfl)) ?_
 refine aG (gz rfl rfl (Zb rfl)) ?_
 refine aG (gz rfl rfl (Zb rfl)) ?_
 refine aG (gz rfl rfl (Zb rfl)) ?_
 have e:=qR (t:=t) (gv:=0) (M:=[]) (nm:=nm) (h:=none) (by decide) rfl;refine D4 (s:=.shr (.int 0)) (v_M (C:=t.ag) (i:=0) (q:=[]) (ss:=[.mu true (trM t.ag 0 []),.shr (hD none),.shr (.str nm)]) bU rfl rfl (bF (q_N e_c) (bF (q_N (ak rfl)) rfl)) rfl e ?_);rfl
end
end N13
end
section
namespace N13
open PySem L2
def insI (r:List Int) (p x:Int):List Int:=r.take p.toNat++x::r.drop p.toNat
theorem qE (r:List Int) (p x:Int):Mt.n .l (FX ((r.map D.int).map λ d=>((.inl 0:Key),Mt.s d)) p.toNat (.s (.int x)))=lM ((insI r p x).map .int):=by
 unfold lM insI FX;rw [Zp,Zp,Zg,Zg,List.map_take,List.map_take,List.map_drop,List.map_drop]
theorem EE {M:List B8} {i:Int} {b c:B8} (h:fd M i=some b):fd (M++[c]) i=some b:=by
 unfold fd at *;rw [List.find?_append,h];rfl
theorem zq {M:List B8} {b:B8} (nd:Nd M) (h:fd M b.i=none):Nd (M++[b]):=by
 unfold Nd at *;rw [Zp,Yj];refine ⟨nd,by simp,λ x hx y hy e=>?_⟩;obtain ⟨c,hc,rfl⟩:=Z2.mp hx;have:y=b.i:=by simpa using hy
 exact fd_none.mp h c hc (by rw [e,this])
theorem BJ {i j:Int} (h:i<=j):oGt (.int i) (.int j)=some (.bl false):=by
 show some (D.bl (decide _))=_;rw [Zq (by omega)]
theorem zB {g:B8->D} (M:List B8):kJ [.dct (kv g M)]=some (.int (M.length:Int)):=by
 show some (D.int ((kv g M).length:Nat))=_;rw [gZ]
def fX (M:List B8) (h:Int) (b:B8) (p gv:Int) (nm:Str):List B8:=upR (M++[⟨gv,some h,nm,[],b6⟩]) h (insI b.r p gv)
theorem tF {C:Addr} {gv:Int} {M:List B8} {i:Int} {r:List Int}:trM C gv (upR M i r)=trG C (.s (.int gv)) (kM (λ b=>.s (.str b.n)) M) (kM (λ b=>.s (hD b.h)) M) (bxM (upR M i r)) (kM mkM M) (kM wdM M) (kM roM M):=by
 unfold trM kM;rw [lN _ _ _ _ (λ _=>rfl),lN _ _ _ _ (λ _=>rfl),lN _ _ _ _ (λ _=>rfl),lN _ _ _ _ (λ _=>rfl),lN _ _ _ _ (λ _=>rfl)]
section
variable {t:Adr} {gv:Int} {M:List B8} {nm:Str} {h p:Int} {b:B8} {dp:Nat}
theorem Dj (nd:Nd M) (hf:fd M gv=none) (hb:fd M h=some b) (p0:0<=p) (p1:p<=(b.r.length:Int)) (hz:b.r.length < 1000) (hn:b7 nm=true) (h90:M.length < 90) (ch:Ch M h dp) (h12:dp < 12) :
  iU t [.mu true (trM t.ag gv M),.shr (.int h),.shr (.int p),.shr (.str nm)]=some (.shr (.int gv),[.mu true (trM t.ag (gv+1) (fX M h b p gv nm)),.no,.no,.no]):=by
 unfold iU iS;dsimp only;refine (gm (s:=.shr (.int gv)) (τ:=[.mu true (trM t.ag (gv+1) (fX M h b p gv nm)),.shr (.int h),.shr (.int p),.shr (.str nm),.shr (.int gv)]) ?_).trans rfl;have sn:∀ {x:Sm},aQ [.mu true (trM t.ag gv M),.shr (.int h),.shr (.int p),.shr (.str nm),x]=.shr (trD t.ag gv M)::aQ [.shr (.int h),.shr (.int p),.shr (.str nm),x]:=iA
 refine aG (d7 (τ:=[.mu true (trM t.ag gv M),.shr (.int h),.shr (.int p),.shr (.str nm),.no]) (by rw [sn]; exact eU (ak rfl) (ah (ak rfl) aD) rfl (hZ hb) rfl)) ?_
 refine aG (d7 (by rw [sn]; exact eW (ah (ak rfl) (ah (aJ (iM (ak rfl) fB) (ak rfl) (bz hb)) aD)) (gh p0 p1) rfl)) ?_
 refine aG (d7 (by rw [sn]; exact eW (ah (ak rfl) aD) (ee hn) rfl)) ?_
 refine aG (iH (t_S (by rw [sn]; exact bu (aJ (aJ (bC (ah (iM (ak rfl) fN) aD) (zB M)) e_c (aY _ _)) e_c (BJ (by omega))))) rfl) ?_
 refine aG (iH (t_S (by rw [sn]; exact bu (aJ (aJ (eW (ah (ak rfl) (ah (ak rfl) aD)) (jq ch (by omega)) rfl) e_c (aY _ _)) e_c (BJ (by omega))))) rfl) ?_
 have e:=qR (t:=t) (nm:=nm) (h:=some h) (show M.length < 1000 by omega) hf;refine aG (τ':=[.mu true (trM t.ag (gv+1) (M++[⟨gv,some h,nm,[],b6⟩])),.shr (.int h),.shr (.int p),.shr (.str nm),.shr (.int gv)]) (bS (s:=.shr (.int gv)) (v_M (C:=t.ag) (i:=0) (q:=[]) (ss:=[.mu true (trM t.ag gv M),.shr (hD (some h)),.shr (.str nm)]) (τ':=[.mu true (trM t.ag (gv+1) (M++[⟨gv,some h,nm,[],b6⟩])),.shr (.int h),.shr (.int p),.shr (.str nm),.no]) bU rfl rfl (bF (q_N (ak rfl)) (bF (q_N (ak rfl)) rfl)) rfl e rfl) (Zb rfl) rfl) ?_
 have hb1:fd (M++[⟨gv,some h,nm,[],b6⟩]) h=some b:=EE hb;have nd1:Nd (M++[⟨gv,some h,nm,[],b6⟩]):=zq (b:=⟨gv,some h,nm,[],b6⟩) nd hf
 have hg:aT [.mu true (trM t.ag (gv+1) (M++[⟨gv,some h,nm,[],b6⟩])),.shr (.int h),.shr (.int p),.shr (.str nm),.shr (.int gv)] 0 [.k (.inr "boxes"),.k (.inl h)]=some (lM (b.r.map .int)):=by
  rw [ny rfl];refine tG.trans ?_
  refine (nO _ _ _).trans ?_
  rw [hb1];rfl
 refine aG (xU (cs0:=_) (sZ (kF bU rfl) (ak rfl) rfl rfl) hg (ak rfl) (v_N (ak rfl)) rfl hg ⟨p0,by rw [Za,Za]; exact p1,by rw [Za,Za]; omega⟩) ?_
 rw [gV rfl,qE];refine (pF (v_N (ak rfl))).trans ?_
 have ep:(trM t.ag (gv+1) (M++[⟨gv,some h,nm,[],b6⟩])).put [.k (.inr "boxes"),.k (.inl h)] (lM ((insI b.r p gv).map .int))=trM t.ag (gv+1) (fX M h b p gv nm):=by
  refine jy.trans ?_
  rw [qh nd1 hb1];unfold fX;rw [tF]
 show some (wX.ret _ (List.set _ 0 (.mu true ((trM t.ag (gv+1) (M++[⟨gv,some h,nm,[],b6⟩])).put [.k (.inr "boxes"),.k (.inl h)] (lM ((insI b.r p gv).map .int))))))=_;rw [ep];rfl
end
end N13
end
section
namespace N13
open PySem L2
structure MOk (gv:Int) (M:List B8):Prop where
 nd:Nd M
 lt:∀ b ∈ M,0<=b.i/\b.i < gv
 root:∃ b,fd M 0=some b/\b.h=none
 hol:∀ b ∈ M,b.i≠0->∃ j p,b.h=some j/\fd M j=some p/\b.i ∈ p.r
 kid:∀ b ∈ M,∀ c ∈ b.r,∃ d,fd M c=some d/\d.h=some b.i
 rnd:∀ b ∈ M,b.r.Nodup
 ch:∀ b ∈ M,∃ n,Ch M b.i n/\n<=12
inductive Anc (M:List B8) (a:Int):Int->Prop where
 | refl:Anc M a a
 | up {x j:Int} {b:B8} (h:fd M x=some b) (e:b.h=some j) (c:Anc M a j):Anc M a x
inductive Sub (M:List B8):List Int->List Int->Prop where
 | nil:Sub M [] []
 | cons {c:Int} {cs l1 l2:List Int} {b:B8} (h:fd M c=some b) (h1:Sub M b.r l1) (h2:Sub M cs l2):Sub M (c::cs) (c::(l1++l2))
section
variable {gv:Int} {M:List B8}
theorem MOk.h0 (m:MOk gv M) {i j:Int} {b:B8} (hb:fd M i=some b) (hj:b.h=some j):i≠0:=λ e=>by
 obtain ⟨r,r1,r2⟩:=m.root;rw [e,r1] at hb;cases hb;rw [r2] at hj;cases hj
theorem MOk.Bw (m:MOk gv M) {i c:Int} {b:B8} (hb:fd M i=some b) (hc:c ∈ b.r):∃ d,fd M c=some d/\d.h=some i:=by
 obtain ⟨d,h1,h2⟩:=m.kid b (aI hb) c hc;rw [gA hb] at h2;exact ⟨d,h1,h2⟩
theorem MOk.dp (m:MOk gv M) {i:Int} {b:B8} (hb:fd M i=some b):∃ n,Ch M i n/\n<=12:=by
 have:=m.ch b (aI hb);rw [gA hb] at this;exact this
theorem Ch.uniq {i:Int} {n:Nat} (h:Ch M i n):∀ {k:Nat},Ch M i k->n=k:=by
 induction h with
 | top h e =>
  intro k h'
  cases h' with
  | top _ _=>rfl
  | up h1 e1 _=>rw [h] at h1; cases h1; rw [e] at e1; cases e1
 | up h e c ih =>
  intro k h'
  cases h' with
  | top h1 e1=>rw [h] at h1; cases h1; rw [e] at e1; cases e1
  | up h1 e1 c1 =>
   rw [h] at h1;cases h1;rw [e] at e1;cases e1;rw [ih c1]
theorem Anc.deep {a x:Int} (h:Anc M a x):∀ {n:Nat},Ch M x n->∃ k,Ch M a k/\k<=n/\(k=n->a=x):=by
 induction h with
 | refl=>intro n c; exact ⟨n,c,Zk _,λ _=>rfl⟩
 | up h e c ih =>
  intro n cx
  cases cx with
  | top h1 e1=>rw [h] at h1; cases h1; rw [e] at e1; cases e1
  | up h1 e1 c1 =>
   rw [h] at h1;cases h1;rw [e] at e1;cases e1;obtain ⟨k,k1,k2,_⟩:=ih c1;exact ⟨k,k1,by omega,λ e=>by omega⟩
theorem Anc.trans {a b c:Int} (h1:Anc M a b) (h2:Anc M b c):Anc M a c:=by
 induction h2 with
 | refl=>exact h1
 | up h e _ ih=>exact .up h e ih
theorem Anc.lin {a b x:Int} (h1:Anc M a x) (h2:Anc M b x):Anc M a b\/Anc M b a:=by
 induction h1 with
 | refl=>exact .inr h2
 | @up x j c h e _ ih =>
  cases h2 with
  | refl=>exact .inl (.up h e ‹_›)
  | up h' e' c' =>
   rw [h] at h';cases h';rw [e] at e';cases e';exact ih c'
theorem Sub.app {a b la lb:List Int} (h1:Sub M a la) (h2:Sub M b lb):Sub M (a++b) (la++lb):=by
 induction h1 with
 | nil=>exact h2
 | cons h _ _ ih1 ih2 =>
  have:=Sub.cons h ‹_› ih2;rw [List.cons_append,List.cons_append,List.append_assoc];exact this
theorem Sub.inv {c:Int} {cs l:List Int} (h:Sub M (c::cs) l):∃ b l',fd M c=some b/\l=c::l'/\Sub M (b.r++cs) l':=by
 cases h with
 | cons h h1 h2=>exact ⟨_,_,h,rfl,h1.app h2⟩
theorem Sub.len {s l:List Int} (h:Sub M s l):s.length<=l.length:=by
 induction h with
 | nil=>exact Zk _
 | cons _ _ _ _ ih=>rw [Zv,Zv,Z3]; omega
theorem Sub.roots {s l:List Int} (h:Sub M s l):∀ x ∈ s,x ∈ l:=by
 induction h with
 | nil=>intro x h; cases h
 | cons _ _ _ _ ih =>
  intro x hx;rcases Zh.mp hx with rfl | hx
  · exact Ze ..
  · exact Zd _ (Zc _ (ih x hx))
theorem Sub.mem (m:MOk gv M) {s l:List Int} (h:Sub M s l):∀ x ∈ l,∃ c ∈ s,Anc M c x:=by
 induction h with
 | nil=>intro x h; cases h
 | @cons c cs l1 l2 b h h1 h2 ih1 ih2 =>
  intro x hx;rcases Zh.mp hx with rfl | hx
  · exact ⟨_,Ze ..,.refl⟩
  ·rcases Zi.mp hx with hx | hx
   ·obtain ⟨d,hd,a⟩:=ih1 x hx
    obtain ⟨e,e1,e2⟩:=m.Bw h hd;exact ⟨c,Ze ..,(Anc.up e1 e2 .refl).trans a⟩
   ·obtain ⟨d,hd,a⟩:=ih2 x hx
    exact ⟨d,Zd _ hd,a⟩
theorem Sub.in {s l:List Int} (h:Sub M s l):∀ x ∈ l,∃ b,fd M x=some b:=by
 induction h with
 | nil=>intro x h; cases h
 | cons h _ _ ih1 ih2 =>
  intro x hx;rcases Zh.mp hx with rfl | hx
  · exact ⟨_,h⟩
  · exact (Zi.mp hx).elim (ih1 x) (ih2 x)
theorem Sub.closed {s l:List Int} (h:Sub M s l):∀ j ∈ l,∀ p,fd M j=some p->∀ c ∈ p.r,c ∈ l:=by
 induction h with
 | nil=>intro j h; cases h
 | @cons c cs l1 l2 b h h1 h2 ih1 ih2 =>
  intro j hj p hp x hx;rcases Zh.mp hj with rfl | hj
  ·rw [h] at hp
   cases hp;exact Zd _ (Zn _ (h1.roots x hx))
  ·rcases Zi.mp hj with hj | hj
   · exact Zd _ (Zn _ (ih1 j hj p hp x hx))
   · exact Zd _ (Zc _ (ih2 j hj p hp x hx))
def Apart (M:List B8) (s:List Int):Prop:=s.Pairwise λ c d=>∀ x,¬(Anc M c x/\Anc M d x)
theorem sd (m:MOk gv M) {i:Int} {b:B8} (hb:fd M i=some b):Apart M b.r:=by
 have nd:=m.rnd b (aI hb)
 have:∀ s:List Int,(∀ c ∈ s,c ∈ b.r)->s.Nodup->Apart M s:=λ s=>by
  induction s with
  | nil=>intro _ _; exact .nil
  | cons c s ih =>
   intro hs nd;rw [Zy] at nd;refine .cons (λ d hd x ⟨a1,a2⟩=>?_) (ih (λ y hy=>hs y (Zd _ hy)) nd.2)
   have key:∀ {u v:Int},u ∈ b.r->v ∈ b.r->u≠v->Anc M u v->False:=λ {u v} hu hv ne a=>by
    obtain ⟨n,hn,_⟩:=m.dp hb;obtain ⟨e,e1,e2⟩:=m.Bw hb hv;obtain ⟨f,f1,f2⟩:=m.Bw hb hu;obtain ⟨k,k1,_,k3⟩:=a.deep (.up e1 e2 hn);exact ne (k3 (k1.uniq (.up f1 f2 hn)))
   have hc:=hs c (Ze ..);have hd':=hs d (Zd _ hd);have ne:c≠d:=λ e=>nd.1 (e ▸ hd)
   rcases a1.lin a2 with a | a
   · exact key hc hd' ne a
   · exact key hd' hc (Ne.symm ne) a
 exact this b.r (λ _ h=>h) nd
theorem Sub.nodup (m:MOk gv M) {s l:List Int} (h:Sub M s l):Apart M s->l.Nodup:=by
 induction h with
 | nil=>exact λ _=>.nil
 | @cons c cs l1 l2 b h h1 h2 ih1 ih2 =>
  intro ap;have ap':=List.pairwise_cons.mp ap;rw [Zy,Yj];refine ⟨λ hc=>?_,ih1 (sd m h),ih2 ap'.2,λ x hx y hy e=>?_⟩
  ·rcases Zi.mp hc with hc | hc
   ·obtain ⟨d,hd,a⟩:=h1.mem m c hc
    obtain ⟨e,e1,e2⟩:=m.Bw h hd;obtain ⟨n,hn,_⟩:=m.dp h;obtain ⟨k,k1,k2,_⟩:=a.deep hn;have:=k1.uniq (.up e1 e2 hn);omega
   ·obtain ⟨d,hd,a⟩:=h2.mem m c hc
    exact ap'.1 d hd c ⟨.refl,a⟩
  ·subst e
   obtain ⟨d,hd,a⟩:=h1.mem m x hx;obtain ⟨e,e1,e2⟩:=m.Bw h hd;obtain ⟨d',hd',a'⟩:=h2.mem m x hy;exact ap'.1 d' hd' x ⟨(Anc.up e1 e2 .refl).trans a,a'⟩
theorem Sub.ex (m:MOk gv M):∀ (k:Nat) (cs:List Int),(∀ c ∈ cs,∃ b n,fd M c=some b/\Ch M c n/\13<=k+n)->∃ l,Sub M cs l:=by
 intro k
 induction k with
 | zero =>
  intro cs h
  cases cs with
  | nil=>exact ⟨[],.nil⟩
  | cons c cs =>
   obtain ⟨b,n,hb,hn,hl⟩:=h c (Ze ..);obtain ⟨n',h1,h2⟩:=m.dp hb;have:=hn.uniq h1;omega
 | succ k ih =>
  intro cs
  induction cs with
  | nil=>exact λ _=>⟨[],.nil⟩
  | cons c cs ihc =>
   intro h;obtain ⟨b,n,hb,hn,hl⟩:=h c (Ze ..);obtain ⟨l2,h2⟩:=ihc λ d hd=>h d (Zd _ hd)
   obtain ⟨l1,h1⟩:=ih b.r λ d hd=>by
    obtain ⟨e,e1,e2⟩:=m.Bw hb hd;exact ⟨e,n+1,e1,.up e1 e2 hn,by omega⟩
   exact ⟨_,.cons hb h1 h2⟩
theorem Sub.of (m:MOk gv M) {i:Int} {b:B8} (hb:fd M i=some b):∃ l,Sub M [i] (i::l)/\Sub M b.r l:=by
 obtain ⟨n,hn,_⟩:=m.dp hb
 obtain ⟨l,h⟩:=Sub.ex m 13 [i] λ c hc=>by
  rw [Zo.mp hc];exact ⟨b,n,hb,hn,by omega⟩
 obtain ⟨b',l',e1,rfl,h'⟩:=h.inv;rw [hb] at e1;cases e1;rw [Z1] at h';exact ⟨l',h,h'⟩
theorem Sub.iff (m:MOk gv M) {i:Int} {l:List Int} (h:Sub M [i] l) {x:Int} {b:B8} (hx:fd M x=some b):x ∈ l↔Anc M i x:=by
 constructor
 ·intro hl
  obtain ⟨c,hc,a⟩:=h.mem m x hl;rw [Zo.mp hc] at a;exact a
 ·intro a
  have:∀ {x:Int},Anc M i x->∀ b,fd M x=some b->x ∈ l:=λ {x} a=>by
   induction a with
   | refl=>exact λ _ _=>h.roots i (Zo.mpr rfl)
   | @up x j b h' e c ih =>
    intro b' hb'
    have ne:b.i≠0:=λ e0=>by
     obtain ⟨r,r1,r2⟩:=m.root;have e1:=gA h';rw [e0] at e1;rw [<- e1,r1] at h';cases h';rw [r2] at e;cases e
    obtain ⟨j',p,q1,q2,q4⟩:=m.hol b (aI h') ne;rw [e] at q1;cases q1;have:=h.closed j (ih p q2) p q2 b.i q4;rw [gA h'] at this;exact this
  exact this a b hx
theorem zA:∀ (l k:List Int),l.Nodup->(∀ x ∈ l,x ∈ k)->l.length<=k.length
 | [],_,_,_=>Yb _
 | x::l,k,nd,h=>by
  rw [Zy] at nd;have hx:=h x (Ze ..)
  have:=zA l (k.erase x) nd.2 λ y hy=>by
   have ne:y≠x:=λ e=>nd.1 (e ▸ hy)
   exact (List.mem_erase_of_ne ne).mpr (h y (Zd _ hy))
  rw [List.length_erase_of_mem hx] at this;have:0 < k.length:=List.length_pos_of_mem hx;rw [Zv];omega
theorem sub_len {l:List Int} (nd:l.Nodup) (h:∀ x ∈ l,∃ b,fd M x=some b):l.length<=M.length:=by
 have:=zA l (M.map B8.i) nd λ x hx=>by
  obtain ⟨b,hb⟩:=h x hx;rw [<- gA hb];exact Yc (aI hb)
 rw [Za] at this;exact this
end
end N13
end
section
namespace N13
open PySem L2
theorem GB {τ:List Sl} {i:Nat} {f:DE} {ds es:List D} (h:f τ=some (.lst es)) (q:τ[i]?=some (.own (.lst ds))) (hl:ds.length+es.length<=100000):Cm i f τ=some (.next (τ.set i (.own (.lst (ds++es))))):=by
 unfold Cm;rw [h];show (match D.lst es,τ[i]? with | .lst es,some (.own (.lst ds))=>if ds.length+es.length<=100000 then some (Out.next (τ.set i (.own (.lst (ds++es))))) else none | _,_=>none)=_;rw [q];exact if_pos hl
theorem EL {τ:List Sl} {f:DE} {ds:List D} (h:f τ=some (.lst ds)):EO f τ=some (.lst ds.reverse):=by unfold EO; rw [h]; rfl
theorem C4 {τ:List Sl} {i j:Nat} {ds:List D} {d:D} (q:τ[j]?=some (.own (.lst (ds++[d])))):rO i j τ=some (.next ((τ.set j (.own (.lst ds))).set i (.shr d))):=by
 unfold rO;rw [q];show ((ds++[d])[(ds++[d]).length - 1]?).map _=_;rw [Z3,List.length_singleton,Nat.add_sub_cancel,List.getElem?_append_right (Zk _),Xs,List.dropLast_concat];rfl
section
variable {t:Adr} {gv:Int} {M:List B8} {c:DT} {gk:DE} {x0 x1:Sl}
theorem mO (hT:∀ (a y:Sl) (ds:List D),ds≠[]->c [x0,x1,a,.own (.lst ds),y]=some true)
  (hF:∀ a y:Sl,c [x0,x1,a,.own (.lst []),y]=some false)
  (hk:∀ (a s:Sl) (k:Int) (b:B8),fd M k=some b->gk [x0,x1,a,s,.shr (.int k)]=some (.lst (b.r.map .int))) :
  ∀ (l S acc:List Int) (y:Sl),Sub M S l->acc.length+l.length<=1000->∃ y',bB c (mL (rO 4 3) (mL (Af 2 (aH 4)) (Cm 3 (EO gk)))) (l.length+1) [x0,x1,.own (.lst (acc.map .int)),.own (.lst (S.reverse.map .int)),y]=some (.next [x0,x1,.own (.lst ((acc++l).map .int)),.own (.lst []),y']):=by
 intro l
 induction l with
 | nil =>
  intro S acc y h hz;cases h;refine ⟨y,?_⟩;unfold bB;rw [show ([]:List Int).reverse.map D.int=[] from rfl,hF,Z1]
 | cons x l ih =>
  intro S acc y h hz
  cases S with
  | nil=>cases h
  | cons k S =>
   obtain ⟨b,l',hb,e,h'⟩:=h.inv;cases e;have hz':acc.length+(l.length+1)<=1000:=hz;have hl:=h'.len;rw [Z3] at hl;obtain ⟨y',w⟩:=ih (b.r++S) (acc++[x]) (.shr (.int x)) h' (by rw [Z3]; show acc.length+1+_<=_; omega);refine ⟨y',?_⟩;have e1:(x::S).reverse.map D.int=S.reverse.map D.int++[.int x]:=by rw [Xi,Zp]; rfl
   have t1:=hT (.own (.lst (acc.map .int))) y ((x::S).reverse.map .int) (by rw [e1]; simp)
   have t2:mL (rO 4 3) (mL (Af 2 (aH 4)) (Cm 3 (EO gk))) [x0,x1,.own (.lst (acc.map .int)),.own (.lst ((x::S).reverse.map .int)),y]=some (.next [x0,x1,.own (.lst ((acc++[x]).map .int)),.own (.lst ((b.r++S).reverse.map .int)),.shr (.int x)]):=by
    rw [e1];refine cA ((C4 rfl).trans rfl) ?_
    refine cA ((rN (ak rfl) rfl (by rw [Za]; omega)).trans rfl) ?_
    refine (GB (EL (hk _ _ x b hb)) rfl (by rw [Za,List.length_reverse,List.length_reverse,Za]; omega)).trans ?_
    rw [List.reverse_append,Zp,Zp,<- List.map_reverse];rfl
   show bB c _ (l.length+1+1) _=_
   conv=>lhs; unfold bB
   rw [t1];simp only [t2];rw [w,List.append_assoc];rfl
theorem wI {i:Int} {b:B8} {l:List Int} (hb:fd M i=some b) (h:Sub M b.r l) (hl:l.length<=1000):cz t [trD t.ag gv M,.int i]=some (.own (.lst (l.map .int))):=by
 have hT:∀ (a y:Sl) (ds:List D),ds≠[]->BW 3 [.shr (trD t.ag gv M),.shr (.int i),a,.own (.lst ds),y]=some true:=λ a y ds ne=>by
  cases ds with
  | nil=>exact absurd rfl ne
  | cons d ds=>rfl
 obtain ⟨y',w⟩:=mO (x0:=.shr (trD t.ag gv M)) (x1:=.shr (.int i)) hT (λ _ _=>rfl) (gk:=j9 t.ag "boxes_of" (bp t) (aH 0) (aK (aH 4) d8)) (λ a s k b hb=>eU (ak rfl) (ah (ak rfl) aD) rfl (mI hb) rfl) l b.r [] .no h (by rw [Y0,Nat.zero_add]; exact hl);unfold cz kC;dsimp only;refine fW (cA ((kS (ji aD (Yb _)) (Zb rfl)).trans rfl) (cA ((kS (EL (eU (ak rfl) (ah (ak rfl) aD) rfl (mI hb) rfl)) (Zb rfl)).trans rfl) (cA (Eq.trans ?_ (gO w)) (qf rfl))));rw [<- List.map_reverse];rfl
theorem lP {i:Int} {l:List Int} (h:Sub M [i] l) (hl:l.length<=1000):fG t [.dct (kv (λ b=>.lst (b.r.map .int)) M),.int i]=some (.own (.lst (l.map .int))):=by
 have hT:∀ (a y:Sl) (ds:List D),ds≠[]->CU 3 (dT (dOp oGt (gB sX (aK (aH 3) d8)) (dC (.int 0)))) [.shr (.dct (kv (λ b=>.lst (b.r.map .int)) M)),.shr (.int i),a,.own (.lst ds),y]=some true:=λ a y ds ne=>by
  cases ds with
  | nil=>exact absurd rfl ne
  | cons d ds =>
   refine Gi rfl (bu (aJ (bC (ah (ak rfl) aD) rfl) e_c ?_));show some (D.bl (decide _))=_;rw [Zu (by rw [Zv]; omega)]
 obtain ⟨y',w⟩:=mO (x0:=.shr (.dct (kv (λ b=>.lst (b.r.map .int)) M))) (x1:=.shr (.int i)) hT (λ _ _=>rfl) (gk:=dOp dz (aH 0) (aH 4)) (λ a s k b hb=>aJ (ak rfl) (ak rfl) (bz hb)) l [i] [] .no h (by rw [Y0,Nat.zero_add]; exact hl);unfold fG fu;dsimp only;exact fW (cA ((kS (ji aD (Yb _)) (Zb rfl)).trans rfl) (cA ((kS (ji (ah (ak rfl) aD) (Zb rfl)) (Zb rfl)).trans rfl) (cA (gO w) (qf rfl))))
end
end N13
end
section
namespace N13
open PySem L2
theorem F9 (M:List B8) (j:Int) (r:List Int):(upR M j r).map B8.i=M.map B8.i:=by
 unfold upR;rw [Zw];refine Zt λ b _=>?_
 show (if b.i=j then { b with r:=r } else b).i=b.i;split <;> rfl
theorem uO {M:List B8} (nd:Nd M) (j:Int) (r:List Int):Nd (upR M j r):=by
 unfold Nd;rw [F9];exact nd
theorem jb (M:List B8) (j:Int) (r:List Int) (x:Int):fd (upR M j r) x=(fd M x).map λ b=>if b.i=j then { b with r:=r } else b:=by
 unfold fd upR;rw [List.find?_map];congr 2
 funext b
 show decide ((if b.i=j then { b with r:=r } else b).i=x)=_;split <;> rfl
theorem gu (M:List B8) (j:Int) (r:List Int):(upR M j r).length=M.length:=Za _
theorem t8 {β:Type} (f:Int->β) (x:Int):∀ r:List Int,(r.map f).eraseIdx (r.idxOf x)=(r.erase x).map f
 | []=>rfl
 | y::r=>by
  rw [Zg,List.idxOf_cons,List.erase_cons]
  by_cases h:(y == x)=true
  ·rw [if_pos h,h]
   rfl
  ·rw [if_neg h,(Bool.not_eq_true _).mp h]
   show (f y::r.map f).eraseIdx (r.idxOf x+1)=_;rw [List.eraseIdx_cons_succ,t8 f x r,Zg]
theorem za (r:List Int) (x:Int):Mt.n .l (((r.map D.int).map λ d=>((.inl 0:Key),Mt.s d)).eraseIdx (r.idxOf x))=lM ((r.erase x).map .int):=by
 unfold lM;rw [Zw,t8,Zw]
theorem qI (r:List Int):cZ (vz ((r.map D.int).map λ d=>((.inl 0:Key),Mt.s d)))=some r:=by
 have:vz ((r.map D.int).map λ d=>((.inl 0:Key),Mt.s d))=r.map .int:=by
  induction r with
  | nil=>rw [Xq,Xq,vz]
  | cons y r ih=>rw [Zg,Zg,vz,frz,ih]
 rw [this];exact qD r
theorem dZ (r:List Int):(r.map D.int).all sca=true:=by
 rw [List.all_map];exact Yw.mpr λ _ _=>rfl
end N13
end
section
namespace N13
open PySem L2
section
variable {gv:Int} {M:List B8}
theorem jk (r:List Int) (p x:Int):(insI r p x).Perm (x::r):=by
 unfold insI;refine List.perm_middle.trans ?_
 rw [List.take_append_drop]
theorem j3 {r:List Int} {p x y:Int}:y ∈ insI r p x↔y=x\/y ∈ r:=by
 rw [(jk r p x).mem_iff,Zh]
theorem MOk.new (m:MOk gv M):fd M gv=none:=fd_none.mpr λ b hb e=>by
 have:=(m.lt b hb).2;omega
theorem MOk.pos (m:MOk gv M):0 < gv:=by
 obtain ⟨r,r1,_⟩:=m.root;have:=m.lt r (aI r1);omega
theorem BS {M:List B8} {n:B8} (h:fd M n.i=none) (x:Int):fd (M++[n]) x=if x=n.i then some n else fd M x:=by
 unfold fd at *;rw [List.find?_append];split
 ·rename_i e
  rw [e,h,List.find?_cons,Zu rfl];rfl
 ·rename_i e
  rw [List.find?_cons,Zq (Ne.symm e)];cases List.find? (λ b=>decide (b.i=x)) M <;> rfl
theorem Ch.mono {M':List B8} (hm:∀ x d,fd M x=some d->∃ d',fd M' x=some d'/\d'.h=d.h) {x:Int} {n:Nat} (c:Ch M x n):Ch M' x n:=by
 induction c with
 | top h e =>
  obtain ⟨d',h1,h2⟩:=hm _ _ h;exact .top h1 (h2.trans e)
 | up h e c ih =>
  obtain ⟨d',h1,h2⟩:=hm _ _ h;exact .up h1 (h2.trans e) ih
theorem Bk (m:MOk gv M) {h p:Int} {b:B8} {nm:Str} {dp:Nat} (hb:fd M h=some b) (hc:Ch M h dp) (h12:dp < 12):MOk (gv+1) (fX M h b p gv nm):=by
 have hn:=m.new;have gp:=m.pos;have hl:0<=h/\h < gv:=by have:=m.lt b (aI hb); rw [gA hb] at this; exact this
 have nd':Nd (fX M h b p gv nm):=uO (zq (b:=⟨gv,some h,nm,[],b6⟩) m.nd hn) _ _
 have fx:∀ x,fd (fX M h b p gv nm) x=(if x=gv then some ⟨gv,some h,nm,[],b6⟩ else fd M x).map λ c=>if c.i=h then { c with r:=insI b.r p gv } else c:=λ x=>by
  unfold fX;rw [jb,BS (n:=⟨gv,some h,nm,[],b6⟩) hn]
 have bn:=m.rnd b (aI hb)
 have gb:gv ∉ b.r:=λ e=>by
  obtain ⟨d,d1,_⟩:=m.kid b (aI hb) gv e;rw [hn] at d1;cases d1
 have un:∀ c ∈ fX M h b p gv nm,(c.i=gv/\c.h=some h/\c.r=[])\/∃ d,fd M c.i=some d/\d.i=c.i/\d.h=c.h/\((c.i=h/\d=b/\c.r=insI b.r p gv)\/(c.i≠h/\c.r=d.r)):=λ c hc=>by
  have e:=g7 nd' hc;rw [fx] at e;split at e
  ·rename_i ei
   have e':(if gv=h then ({ i:=gv,h:=some h,n:=nm,r:=insI b.r p gv,m:=b6 }:B8) else ⟨gv,some h,nm,[],b6⟩)=c:=Zj e;rw [if_neg (by omega)] at e';subst e';exact .inl ⟨rfl,rfl,rfl⟩
  ·cases hd:fd M c.i with
   | none=>rw [hd] at e; cases e
   | some d =>
    rw [hd] at e;have e':(if d.i=h then { d with r:=insI b.r p gv } else d)=c:=Zj e;have di:=gA hd;refine .inr ⟨d,rfl,di,?_⟩;split at e'
    ·rename_i hij
     have ep:d=b:=by
      rw [<- di,hij,hb] at hd;exact (Zj hd).symm
     subst e';subst ep;exact ⟨rfl,.inl ⟨hij,rfl,rfl⟩⟩
    ·rename_i hij
     subst e';exact ⟨rfl,.inr ⟨hij,rfl⟩⟩
 have old:∀ {x:Int} {d:B8},fd M x=some d->fd (fX M h b p gv nm) x=some (if d.i=h then { d with r:=insI b.r p gv } else d):=λ {x d} hd=>by
  have ne:x≠gv:=λ e=>by rw [e,hn] at hd; cases hd
  rw [fx,if_neg ne,hd];rfl
 have oh:∀ d:B8,(if d.i=h then { d with r:=insI b.r p gv } else d).h=d.h:=λ d=>by split <;> rfl
 refine ⟨nd',λ c hc=>?_,?_,λ c hc c0=>?_,λ c hc x hx=>?_,λ c hc=>?_,λ c hx=>?_⟩
 ·rcases un c hc with ⟨e,_⟩ | ⟨d,hd,di,_⟩
  · omega
  ·have:=m.lt d (aI hd)
   omega
 ·obtain ⟨r,r1,r2⟩:=m.root
  exact ⟨_,old r1,by rw [oh]; exact r2⟩
 ·rcases un c hc with ⟨e,e2,_⟩ | ⟨d,hd,di,dh,_⟩
  ·refine ⟨h,_,e2,old hb,?_⟩
   rw [if_pos (gA hb),e];exact j3.mpr (.inl rfl)
  ·obtain ⟨j',q,q1,q2,q4⟩:=m.hol d (aI hd) (by rw [di]; exact c0)
   refine ⟨j',_,by rw [<- dh]; exact q1,old q2,?_⟩;split
   ·rename_i hq
    have ep:q=b:=by
     rw [<- gA q2,hq,hb] at q2;exact (Zj q2).symm
    subst ep;rw [<- di];exact j3.mpr (.inr q4)
   ·rw [<- di]
    exact q4
 ·rcases un c hc with ⟨_,_,e⟩ | ⟨d,hd,di,dh,⟨e1,e2,e3⟩ | ⟨e1,e3⟩⟩
  ·rw [e] at hx
   cases hx
  ·rw [e3] at hx
   rcases j3.mp hx with rfl | hx
   ·refine ⟨⟨x,some h,nm,[],b6⟩,?_,by rw [e1]⟩
    rw [fx,if_pos rfl];show some (if x=h then ({ i:=x,h:=some h,n:=nm,r:=insI b.r p x,m:=b6 }:B8) else ⟨x,some h,nm,[],b6⟩)=_;rw [if_neg (by omega)]
   ·obtain ⟨e,k1,k2⟩:=m.kid b (aI hb) x hx
    exact ⟨_,old k1,by rw [oh,k2,gA hb,e1]⟩
  ·rw [e3] at hx
   obtain ⟨e,k1,k2⟩:=m.kid d (aI hd) x hx;exact ⟨_,old k1,by rw [oh,k2,di]⟩
 ·rcases un c hc with ⟨_,_,e⟩ | ⟨d,hd,di,dh,⟨e1,e2,e3⟩ | ⟨e1,e3⟩⟩
  · rw [e]; exact .nil
  ·rw [e3,(jk _ _ _).nodup_iff,Zy]
   exact ⟨gb,bn⟩
  ·rw [e3]
   exact m.rnd d (aI hd)
 ·have cm:∀ {x:Int} {n:Nat},Ch M x n->Ch (fX M h b p gv nm) x n:=Ch.mono λ x d hd=>⟨_,old hd,oh d⟩
  have hf:=g7 nd' hx;rcases un c hx with ⟨e,e2,_⟩ | ⟨d,hd,di,dh,_⟩
  · exact ⟨dp+1,.up hf e2 (cm hc),h12⟩
  ·obtain ⟨n,n1,n2⟩:=m.dp hd
   exact ⟨n,cm n1,n2⟩
end
end N13
end
section
namespace N13
open PySem L2
theorem zC {ys:List Int} {j:Int} (h0:0<=j) (h1:j < ys.length):∃ n ∈ ys,oIx (.lst (ys.map .int)) (.int j)=some (.int n):=by
 obtain ⟨h,e⟩:=oH (xs:=ys.map D.int) h0 (by rw [Za]; exact h1);rw [List.getElem_map] at e;exact ⟨_,Y2 _,e⟩
theorem BB {ys:List Int} (hn:ys≠[]):∃ n ∈ ys,oIx (.lst (ys.map .int)) (.int (-1))=some (.int n):=by
 refine ⟨ys.getLast hn,List.getLast_mem hn,?_⟩
 conv=>lhs; rw [<- List.dropLast_concat_getLast hn,Zp]
 exact yG _ _
section
variable {t:Adr} {gv:Int} {M:List B8}
theorem EB (m:MOk gv M):∀ (L:List B8),(∀ b ∈ L,b ∈ M)->∃ es:List Int,pJ (λ d=>dT (dOp oLt (dFn cE (aK (aH 1) (aK (aH 0) d8))) (dC (.int 12))) [.shr d,.shr (faD M)]) (λ d=>aH 0 [.shr d,.shr (faD M)]) (L.map λ b=>.int b.i)=some (es.map .int)/\(∀ x ∈ es,∃ n,Ch M x n/\n < 12)/\(∀ b ∈ L,b.h=none->b.i ∈ es)/\es.length<=L.length:=by
 intro L
 induction L with
 | nil=>exact λ _=>⟨[],rfl,(λ x h=>nomatch h),(λ b h=>nomatch h),Zk _⟩
 | cons b L ih =>
  intro h;have hm:=h b (Ze ..);obtain ⟨es,e1,e2,e3,e4⟩:=ih λ c hc=>h c (Zd _ hc)
  have hb:=g7 m.nd hm;obtain ⟨n,hn,_⟩:=m.dp hb;have ec:dT (dOp oLt (dFn cE (aK (aH 1) (aK (aH 0) d8))) (dC (.int 12))) [.shr (.int b.i),.shr (faD M)]=some (decide ((n:Int) < 12)):=bu (aJ (eW (ah e_v (ah e_v aD)) (mB hn) rfl) e_c (l8 _ _))
  by_cases hl:n < 12
  ·refine ⟨b.i::es,?_,λ x hx=>?_,λ c hc h0=>?_,Nat.succ_le_succ e4⟩
   ·rw [Zg,pJ,ec,Zu (by omega),e1]
    rfl
   ·rcases Zh.mp hx with rfl | hx
    · exact ⟨n,hn,hl⟩
    · exact e2 x hx
   ·rcases Zh.mp hc with rfl | hc
    · exact Ze ..
    · exact Zd _ (e3 c hc h0)
  ·refine ⟨es,?_,e2,λ c hc h0=>?_,Nat.le_succ_of_le e4⟩
   ·rw [Zg,pJ,ec,Zq (by omega),e1]
    rfl
   ·rcases Zh.mp hc with rfl | hc
    ·exfalso
     cases hn with
     | top _ _=>omega
     | up h1 h2 _=>rw [hb] at h1; cases h1; rw [h0] at h2; cases h2
    · exact e3 c hc h0
theorem EZ {x:Int} {r:List Int} {b:B8} (hx:b.i≠x) (h0:b.r=[]) (hn:fd M b.i=none):Mt.n .d (eZ (kv (λ b=>lM (b.r.map .int)) (upR M x r)) (.inl b.i) (lM []))=bxM (upR (M++[b]) x r):=by
 have e:upR (M++[b]) x r=upR M x r++[b]:=by
  unfold upR;rw [Zp];show _++[if b.i=x then _ else _]=_;rw [if_neg hx]
 have:=jE (g:=λ b=>lM (b.r.map .int)) (M:=upR M x r) (by rw [jb,hn]; rfl);rw [h0] at this;rw [e];unfold bxM kM;rw [<- this];rfl
theorem EF {x:Int} {r:List Int} {b:B8} (hn:fd M b.i=none):Mt.n .d (eZ (kv (λ b=>.s (.tup [hD b.h,.str b.n])) M) (.inl b.i) (.s (.tup [hD b.h,.str b.n])))=faM (upR (M++[b]) x r):=by
 unfold faM kM;rw [lN _ _ _ _ (λ _=>rfl),<- jE hn]
theorem Bp (m:MOk gv M) (h90:M.length < 90) {c w:Int} (w0:0<=w) (w1:w<=900) :
  ∃ x b p nm dp,fd M x=some b/\Ch M x dp/\dp < 12/\b7 nm=true/\fU t [.mu true (trM t.ag gv M),.mu true (bxM M),.mu true (faM M),.shr (.int gv),.shr (.int c),.shr (.int w)]=some (.shr (.bl true),[.mu true (trM t.ag (gv+1) (fX M x b p gv nm)),.mu true (bxM (fX M x b p gv nm)),.mu true (faM (fX M x b p gv nm)),.no,.no,.no]):=by
 obtain ⟨es,f1,f2,f3,f4⟩:=EB m M λ _ h=>h
 obtain ⟨r0,r1,r2⟩:=m.root
 have ne:es≠[]:=λ e=>by
  have:=f3 r0 (aI r1) r2;rw [e] at this;cases this
 obtain ⟨q1,e1,q10,q11⟩:=md c w0 (by omega);obtain ⟨q2,e2,q20,q21⟩:=md c (by omega) (show w+1<=10000 by omega);obtain ⟨nm,e3,hn⟩:=zt c (by omega) (show w+2<=1000 by omega);obtain ⟨xl,ml,el⟩:=BB ne;have lp:=List.length_pos_iff.mpr ne;obtain ⟨xm,mm,em⟩:=zC (ys:=es) (Yu _ (by omega)) (Yv _ (by omega))
 obtain ⟨x,hx,ex⟩:∃ x ∈ es,x=if q1 % 2=0 then xm else xl:=by
  split
  · exact ⟨xm,mm,rfl⟩
  · exact ⟨xl,ml,rfl⟩
 obtain ⟨dp,ch,h12⟩:=f2 x hx;obtain ⟨b,hb⟩:=ch.get
 have hr:=sub_len (m.rnd b (aI hb)) λ y hy=>by
  obtain ⟨d,d1,_⟩:=m.kid b (aI hb) y hy;exact ⟨d,d1⟩
 have p0:0<=q2 % ((b.r.length:Int)+1):=Yu _ (by omega);have p1:q2 % ((b.r.length:Int)+1)<=b.r.length:=by have:=Yv q2 (show 0 < (b.r.length:Int)+1 by omega); omega
 refine ⟨x,b,q2 % ((b.r.length:Int)+1),nm,dp,hb,ch,h12,hn,?_⟩;generalize hpp:q2 % ((b.r.length:Int)+1)=p at *;unfold fU iQ;refine (gm (τ:=[.mu true (trM t.ag (gv+1) (fX M x b p gv nm)),.mu true (bxM (fX M x b p gv nm)),.mu true (faM (fX M x b p gv nm)),.shr (.int gv),.shr (.int c),.shr (.int w),.shr (.lst (es.map .int)),.shr (.int q1),.shr (.int x),.shr (.int p),.shr (.str nm),.shr (.int gv)]) ?_).trans rfl;refine aG (τ':=[.mu true (trM t.ag gv M),.mu true (bxM M),.mu true (faM M),.shr (.int gv),.shr (.int c),.shr (.int w),.shr (.lst (es.map .int)),.no,.no,.no,.no,.no]) ?_ ?_
 ·have ek:(kv (λ b=>lM (b.r.map .int)) M).map (λ p=>kD p.1)=M.map λ b=>.int b.i:=by
   unfold kv;rw [Zw];rfl
  show (if (kv (λ b=>lM (b.r.map .int)) M).length<=100000/\6 < 12 then (pJ (λ d=>dT (dOp oLt (dFn cE (aK (aH 1) (aK (aH 0) d8))) (dC (.int 12))) [.shr d,.shr (frz (faM M))]) (λ d=>aH 0 [.shr d,.shr (frz (faM M))]) ((kv (λ b=>lM (b.r.map .int)) M).map λ p=>kD p.1)).bind (λ es=>if es.all sca=true then some (wX.next [.mu true (trM t.ag gv M),.mu true (bxM M),.mu true (faM M),.shr (.int gv),.shr (.int c),.shr (.int w),.shr (.lst es),.no,.no,.no,.no,.no]) else none) else none)=_;rw [if_pos ⟨by rw [gZ]; omega,by omega⟩,lh,ek,f1];exact if_pos (dZ _)
 refine aG (bS (v_N (eW (ah e_v (ah e_v aD)) e1 rfl)) (Zb rfl) rfl) ?_
 refine aG (bS (v_N (aJ e_v (IX e_c rfl) el)) (Zb rfl) rfl) ?_
 refine aG (τ':=[.mu true (trM t.ag gv M),.mu true (bxM M),.mu true (faM M),.shr (.int gv),.shr (.int c),.shr (.int w),.shr (.lst (es.map .int)),.shr (.int q1),.shr (.int x),.no,.no,.no]) ?_ ?_
 ·have et:tS (dT (dOp oEq (dOp oMod (aH 7) (dC (.int 2))) (dC (.int 0)))) [.mu true (trM t.ag gv M),.mu true (bxM M),.mu true (faM M),.shr (.int gv),.shr (.int c),.shr (.int w),.shr (.lst (es.map .int)),.shr (.int q1),.shr (.int xl),.no,.no,.no]=some (decide (q1 % 2=0),[.mu true (trM t.ag gv M),.mu true (bxM M),.mu true (faM M),.shr (.int gv),.shr (.int c),.shr (.int w),.shr (.lst (es.map .int)),.shr (.int q1),.shr (.int xl),.no,.no,.no]) :=
   t_S (bu (aJ (aJ e_v e_c (a9 (by decide))) e_c (gr _ _)))
  by_cases h2:q1 % 2=0
  ·rw [if_pos h2] at ex
   rw [Zu h2] at et;rw [ex];exact rY et ((bS (v_N (aJ e_v (aJ (aJ e_v e_c (l9 (by decide) (by decide +kernel))) (bC (ah e_v aD) (pG es)) (a9 (by omega))) em)) (Zb rfl) rfl).trans rfl)
  ·rw [if_neg h2] at ex
   rw [Zq h2] at et;rw [ex];exact iH et rfl
 have sn:∀ {r:List Sm},aQ (.mu true (trM t.ag gv M)::.mu true (bxM M)::r)=.shr (trD t.ag gv M)::.shr (.dct (kv (λ b=>.lst (b.r.map .int)) M))::aQ r:=λ {r}=>by
  rw [iA];show _::Sl.shr (frz (bxM M))::_=_;rw [ja]
 refine aG (bS (v_S (by rw [sn]; exact aJ (eW (ah e_v (ah (aJ e_v e_c (aY _ _)) aD)) e2 rfl) (aJ (bC (ah (aJ e_v e_v (bz hb)) aD) (pG _)) e_c (aY _ _)) ((a9 (by omega)).trans (by rw [hpp]))) rfl) (Zb rfl) rfl) ?_
 refine aG (bS (v_N (eW (ah e_v (ah (aJ e_v e_c (aY _ _)) aD)) e3 rfl)) (Zb rfl) rfl) ?_
 have ep:=Dj (t:=t) m.nd m.new hb p0 p1 (by omega) hn h90 ch h12;refine aG (bS (v_M bU rfl rfl (bF (q_N e_v) (bF (q_N e_v) (bF (q_N e_v) rfl))) rfl ep rfl) (Zb rfl) rfl) ?_
 have hg:aT [.mu true (trM t.ag (gv+1) (fX M x b p gv nm)),.mu true (bxM M),.mu true (faM M),.shr (.int gv),.shr (.int c),.shr (.int w),.shr (.lst (es.map .int)),.shr (.int q1),.shr (.int x),.shr (.int p),.shr (.str nm),.shr (.int gv)] 1 [.k (.inl x)]=some (lM (b.r.map .int)):=by
  rw [ny rfl];refine (nO _ _ _).trans ?_
  rw [hb];rfl
 refine aG (xU (sZ bU e_v rfl rfl) hg e_v (v_N e_v) rfl hg ⟨p0,by rw [Za,Za]; exact p1,by rw [Za,Za]; omega⟩) ?_
 rw [gV rfl,qE];have e4:(bxM M).put ([]++[.k (.inl x)]) (lM ((insI b.r p gv).map .int))=bxM (upR M x (insI b.r p gv)):=qh m.nd hb;rw [e4]
 have xg:gv≠x:=λ e=>by
  have:=(m.lt b (aI hb)).2;rw [gA hb] at this;omega
 refine aG (τ':=[.mu true (trM t.ag (gv+1) (fX M x b p gv nm)),.mu true (bxM (fX M x b p gv nm)),.mu true (faM M),.shr (.int gv),.shr (.int c),.shr (.int w),.shr (.lst (es.map .int)),.shr (.int q1),.shr (.int x),.shr (.int p),.shr (.str nm),.shr (.int gv)]) ((eR (v_O (ji aD (Yb _)) rfl) bU e_v rfl rfl rfl (by rw [gZ,gu]; omega)).trans ?_) ?_
 ·have:=EZ (r:=insI b.r p gv) (b:=⟨gv,some x,nm,[],b6⟩) xg rfl m.new
  unfold fX;rw [<- this];rfl
 refine aG (τ':=[.mu true (trM t.ag (gv+1) (fX M x b p gv nm)),.mu true (bxM (fX M x b p gv nm)),.mu true (faM (fX M x b p gv nm)),.shr (.int gv),.shr (.int c),.shr (.int w),.shr (.lst (es.map .int)),.shr (.int q1),.shr (.int x),.shr (.int p),.shr (.str nm),.shr (.int gv)]) ((eR (v_N (yr (ah e_v (ah e_v aD)) (Zb rfl))) bU e_v rfl rfl rfl (by rw [gZ]; omega)).trans ?_) ?_
 ·have:=EF (M:=M) (x:=x) (r:=insI b.r p gv) (b:=⟨gv,some x,nm,[],b6⟩) m.new
  unfold fX;rw [<- this];rfl
 exact pF (v_N (j7 (eW (ah e_v aD) (p5 _) rfl) (aJ e_v e_v ((gr _ _).trans (by rw [Zu rfl])))))
end
end N13
end
section
namespace N13
open PySem L2
def upH (M:List B8) (i:Int) (h:Int):List B8:=M.map λ b=>if b.i=i then { b with h:=some h } else b
theorem Ga (M:List B8) (j h:Int):(upH M j h).map B8.i=M.map B8.i:=by
 unfold upH;rw [Zw];refine Zt λ b _=>?_
 show (if b.i=j then { b with h:=some h } else b).i=b.i;split <;> rfl
theorem EC (M:List B8) (j h x:Int):fd (upH M j h) x=(fd M x).map λ b=>if b.i=j then { b with h:=some h } else b:=by
 unfold fd upH;rw [List.find?_map];congr 2
 funext b
 show decide ((if b.i=j then { b with h:=some h } else b).i=x)=_;split <;> rfl
def mvB (M:List B8) (i j h:Int) (rj rh:List Int):List B8:=upH (upR (upR M j rj) h rh) i h
def mvF (i j h:Int) (rj rh:List Int) (c:B8):B8:={ c with h:=if c.i=i then some h else c.h,r:=if c.i=h then rh else if c.i=j then rj else c.r }
theorem ED (M:List B8) (i j h:Int) (rj rh:List Int) (x:Int):fd (mvB M i j h rj rh) x=(fd M x).map (mvF i j h rj rh):=by
 unfold mvB;rw [EC,jb,jb,Option.map_map,Option.map_map];congr 1
 funext c
 obtain ⟨ci,ch,cn,cr,cm⟩:=c;simp only [Function.comp,mvF]
 by_cases h1:ci=j <;> by_cases h2:ci=h <;> by_cases h3:ci=i <;> simp [h1,h2,h3] <;> (try (split <;> simp_all)) <;> (try (split <;> simp_all))
theorem Im {M:List B8} (nd:Nd M) (i j h:Int) (rj rh:List Int):Nd (mvB M i j h rj rh):=by
 unfold Nd mvB;rw [Ga];exact uO (uO nd _ _) _ _
section
variable {gv:Int} {M:List B8} {i j h:Int} {b p q:B8} {rj rh:List Int}
theorem DY (m:MOk gv M) (hb:fd M i=some b) (hj:b.h=some j) (hp:fd M j=some p) (hq:fd M h=some q) (na:¬ Anc M i h)
  {ni nh:Nat} (ci:Ch M i ni) (ch:Ch M h nh) (dp:∀ x n,Anc M i x->Ch M x n->n+nh+1<=12+ni)
  (ej:rj=p.r.erase i) {pl:Int} (eh:rh=insI (q.r.filter λ y=>decide (y≠i)) pl i):MOk gv (mvB M i j h rj rh):=by
 have i0:=m.h0 hb hj;have nd':=Im m.nd i j h rj rh;have fx:=ED M i j h rj rh;have bi:=gA hb;have pi:=gA hp;have qi:=gA hq;have pn:=m.rnd p (aI hp);have qn:=m.rnd q (aI hq);have ih:i≠h:=λ e=>na (by rw [<- e]; exact .refl)
 have un:∀ c ∈ mvB M i j h rj rh,∃ d,fd M c.i=some d/\d.i=c.i/\c=mvF i j h rj rh d:=λ c hc=>by
  have e:=g7 nd' hc;rw [fx] at e
  cases hd:fd M c.i with
  | none=>rw [hd] at e; cases e
  | some d =>
   rw [hd] at e;exact ⟨d,rfl,gA hd,(Zj e).symm⟩
 have old:∀ {x:Int} {d:B8},fd M x=some d->fd (mvB M i j h rj rh) x=some (mvF i j h rj rh d):=λ {x d} hd=>by rw [fx,hd]; rfl
 have hh:∀ d:B8,d.i≠i->(mvF i j h rj rh d).h=d.h:=λ d ne=>if_neg ne
 have hi:∀ d:B8,d.i=i->(mvF i j h rj rh d).h=some h:=λ d e=>if_pos e
 have rmem:∀ y,y ∈ rh↔y=i\/(y ∈ q.r/\y≠i):=λ y=>by
  rw [eh,j3,Xe,decide_eq_true_iff]
 have c1:∀ {x:Int} {n:Nat},Ch M x n->¬ Anc M i x->Ch (mvB M i j h rj rh) x n:=λ {x n} c=>by
  induction c with
  | @top x d h1 e1 =>
   intro nx;have ne:d.i≠i:=λ e=>nx (by rw [gA h1] at e; rw [e]; exact .refl)
   exact .top (old h1) ((hh d ne).trans e1)
  | @up x y n d h1 e1 c ihc =>
   intro nx;have ne:d.i≠i:=λ e=>nx (by rw [gA h1] at e; rw [e]; exact .refl)
   exact .up (old h1) ((hh d ne).trans e1) (ihc λ a=>nx (.up h1 e1 a))
 have chh:=c1 ch na
 have c2:∀ {x:Int},Anc M i x->∀ d,fd M x=some d->∃ n n',Ch M x n/\Ch (mvB M i j h rj rh) x n'/\n'+ni=n+nh+1:=λ {x} a=>by
  induction a with
  | refl=>intro d hd; exact ⟨ni,nh+1,ci,.up (old hb) (hi b bi) chh,by omega⟩
  | @up x y d h1 e1 c ihc =>
   intro d' _;obtain ⟨nx,x1,_⟩:=m.dp h1
   cases x1 with
   | top h2 e2=>rw [h1] at h2; cases h2; rw [e1] at e2; cases e2
   | up h2 e2 cy =>
    rw [h1] at h2;cases h2;rw [e1] at e2;cases e2;obtain ⟨by',hy⟩:=cy.get;obtain ⟨n,n',k1,k2,k3⟩:=ihc by' hy
    have ne:d.i≠i:=λ e=>by
     rw [gA h1] at e;obtain ⟨k,g1,g2,_⟩:=c.deep cy;have:=g1.uniq ci;rw [e] at h1;have:=ci.uniq (.up h1 e1 cy);omega
    exact ⟨_,n'+1,.up h1 e1 k1,.up (old h1) ((hh d ne).trans e1) k2,by omega⟩
 refine ⟨nd',λ c hc=>?_,?_,λ c hc c0=>?_,λ c hc x hx=>?_,λ c hc=>?_,λ c hc=>?_⟩
 ·obtain ⟨d,hd,di,_⟩:=un c hc
  rw [<- di];exact m.lt d (aI hd)
 ·obtain ⟨r,r1,r2⟩:=m.root
  exact ⟨_,old r1,(hh r (by rw [gA r1]; exact Ne.symm i0)).trans r2⟩
 ·obtain ⟨d,hd,di,ec⟩:=un c hc
  by_cases e:d.i=i
  ·refine ⟨h,_,by rw [ec]; exact hi d e,old hq,?_⟩
   show c.i ∈ (if q.i=h then rh else if q.i=j then rj else q.r);rw [if_pos qi,<- di,e];exact (rmem i).mpr (.inl rfl)
  ·obtain ⟨j',u,u1,u2,u3⟩:=m.hol d (aI hd) (by rw [di]; exact c0)
   refine ⟨j',_,by rw [ec]; exact (hh d e).trans u1,old u2,?_⟩;show c.i ∈ (if u.i=h then rh else if u.i=j then rj else u.r);rw [<- di];split
   ·rename_i e2
    have:u=q:=by rw [<- gA u2,e2,hq] at u2; exact (Zj u2).symm
    subst this;exact (rmem d.i).mpr (.inr ⟨u3,e⟩)
   ·split
    ·rename_i e2
     have:u=p:=by rw [<- gA u2,e2,hp] at u2; exact (Zj u2).symm
     subst this;rw [ej];exact (List.mem_erase_of_ne e).mpr u3
    · exact u3
 ·obtain ⟨d,hd,di,ec⟩:=un c hc
  have key:∀ y ∈ d.r,y≠i->∃ e,fd (mvB M i j h rj rh) y=some e/\e.h=some c.i:=λ y hy ne=>by
   obtain ⟨e,e1,e2⟩:=m.kid d (aI hd) y hy;exact ⟨_,old e1,by rw [hh e (by rw [gA e1]; exact ne),e2,di]⟩
  rw [ec] at hx;have hx':x ∈ (if d.i=h then rh else if d.i=j then rj else d.r):=hx;split at hx'
  ·rename_i e2
   rcases (rmem x).mp hx' with rfl | ⟨h1,h2⟩
   · exact ⟨_,old hb,by rw [hi b bi,<- di,e2]⟩
   ·have:d=q:=by rw [<- di,e2,hq] at hd; exact (Zj hd).symm
    subst this;exact key x h1 h2
  ·split at hx'
   ·rename_i e2
    have:d=p:=by rw [<- di,e2,hp] at hd; exact (Zj hd).symm
    subst this;rw [ej] at hx';have:=pn.mem_erase_iff.mp hx';exact key x this.2 this.1
   ·rename_i e3
    refine key x hx' λ e=>?_
    subst e;obtain ⟨e,e1,e2⟩:=m.kid d (aI hd) x hx';rw [hb] at e1;cases e1;rw [hj] at e2;exact e3 (Zj e2).symm
 ·obtain ⟨d,hd,di,ec⟩:=un c hc
  rw [ec];show (if d.i=h then rh else if d.i=j then rj else d.r).Nodup;split
  ·rw [eh,(jk _ _ _).nodup_iff,Zy]
   exact ⟨λ e=>by rw [Xe] at e; exact Xj e.2 rfl,qn.sublist List.filter_sublist⟩
  ·split
   · rw [ej]; exact pn.erase _
   · exact m.rnd d (aI hd)
 ·obtain ⟨d,hd,di,ec⟩:=un c hc
  by_cases a:Anc M i c.i
  ·obtain ⟨n,n',k1,k2,k3⟩:=c2 a d hd
   exact ⟨n',k2,by have:=dp _ _ a k1; omega⟩
  ·obtain ⟨n,n1,n2⟩:=m.dp hd
   exact ⟨n,c1 n1 a,n2⟩
end
end N13
end
section
namespace N13
open PySem L2
theorem lW:∀ l:List Int,Ab (l.map .int)=some (l.map V.int)
 | []=>rfl
 | i::l=>by
  show (scD (.int i)).bind (λ v=>(Ab (l.map .int)).map (v::·))=_;rw [lW l];rfl
theorem pI (j:Int):∀ l:List Int,inV (.int j) (l.map V.int)=decide (j ∈ l)
 | []=>by simp [inV]
 | k::l=>by
  have ih:=pI j l;unfold inV at *;simp only [Zg,Xh,ih,Zh,Bool.decide_or];congr 1;show decide (k=j)=decide (j=k);rw [decide_eq_decide];omega
theorem k7 (j:Int) (l:List Int):uK (.int j) (.lst (l.map .int))=some (.bl (decide (j ∈ l))):=by
 show (inS (.int j) (l.map .int)).map D.bl=_;unfold inS;rw [lW];show some (D.bl (inV (.int j) _))=_;rw [pI]
theorem A5 (j:Int) (l:List Int):jN (.int j) (.lst (l.map .int))=some (.bl (!decide (j ∈ l))):=by
 show (inS (.int j) (l.map .int)).map (λ b=>D.bl !b)=_;unfold inS;rw [lW];show some (D.bl (!inV (.int j) _))=_;rw [pI]
theorem qu (n:Nat):∀ l:List Int,rT n (l.map .int)=true
 | []=>by rw [Xq,rT]
 | i::l=>by rw [Zg,rT,qu n l,okD]; rfl
theorem qB:∀ {a c:List Int},a.map D.int=c.map D.int->a=c
 | [],[],_=>rfl
 | [],_::_,h=>by cases h
 | _::_,[],h=>by cases h
 | x::a,y::c,h=>by
  rw [Zg,Zg] at h;injection h with h1 h2
  injection h1 with h1
  rw [h1,qB h2]
theorem qO (a c:List Int):eqO (.lst (a.map .int)) (.lst (c.map .int))=some (decide (a=c)):=by
 unfold eqO;show (if okD 9 (.lst (a.map .int))=true/\okD 9 (.lst (c.map .int))=true then some (eqB (.lst (a.map .int)) (.lst (c.map .int))) else none)=_;have o:∀ l:List Int,okD 9 (.lst (l.map .int))=true:=λ l=>by rw [okD]; exact qu 8 l
 rw [if_pos ⟨o a,o c⟩]
 by_cases h:a=c
 · rw [h,qQ,Zu rfl]
 · rw [zI (λ e=>h (qB (by injection e))),Zq h]
theorem BU (a c:List Int):oEq (.lst (a.map .int)) (.lst (c.map .int))=some (.bl (decide (a=c))):=by
 unfold oEq;rw [qO];rfl
theorem A6 (a c:List Int):oNe (.lst (a.map .int)) (.lst (c.map .int))=some (.bl (!decide (a=c))):=by
 unfold oNe;rw [qO];rfl
theorem mz {τ:List Sl} {it:DI} {c:DT} {g:DE} {cs:List (Str×Nat)} {ds es:List D} (h1:it τ=some ds) (hl:ds.length<=100000) (h2:pJ (λ d=>c (.shr d::dA τ cs)) (λ d=>g (.shr d::dA τ cs)) ds=some es):hW it c g cs τ=some (.lst es):=by
 unfold hW;rw [h1];show (if ds.length<=100000 then _ else none)=_;rw [if_pos hl,h2];rfl
theorem nQ {c:D->Option Bool} {f:Int->Bool}:∀ {l:List Int},(∀ x ∈ l,c (.int x)=some (f x))->pJ c (λ d=>some d) (l.map .int)=some ((l.filter f).map .int)
 | [],_=>rfl
 | x::l,h=>by
  rw [Zg,pJ,h x (Ze ..),List.filter_cons];have ih:=nQ (l:=l) λ y hy=>h y (Zd _ hy)
  show (if f x=true then (some (D.int x)).bind (λ y=>(pJ c (λ d=>some d) (l.map .int)).bind λ xs=>some (y::xs)) else pJ c (λ d=>some d) (l.map .int))=_;rw [ih]
  by_cases hx:f x=true
  · rw [if_pos hx,if_pos hx]; rfl
  · rw [if_neg hx,if_neg hx]
inductive Dps (M:List B8):List Int->List Nat->Prop where
 | nil:Dps M [] []
 | cons {x:Int} {n:Nat} {l:List Int} {ns:List Nat} (h:Ch M x n) (r:Dps M l ns):Dps M (x::l) (n::ns)
section
variable {t:Adr} {gv:Int} {M:List B8}
theorem Dps.ex (m:MOk gv M):∀ {l:List Int},(∀ x ∈ l,∃ b,fd M x=some b)->∃ ns,Dps M l ns
 | [],_=>⟨[],.nil⟩
 | x::l,h=>by
  obtain ⟨b,hb⟩:=h x (Ze ..);obtain ⟨n,hn,_⟩:=m.dp hb;obtain ⟨ns,r⟩:=Dps.ex m (l:=l) λ y hy=>h y (Zd _ hy)
  exact ⟨_,.cons hn r⟩
theorem Dps.mem {l:List Int} {ns:List Nat} (h:Dps M l ns):∀ x ∈ l,∀ n,Ch M x n->n ∈ ns:=by
 induction h with
 | nil=>intro x h; cases h
 | cons h r ih =>
  intro x hx n hn;rcases Zh.mp hx with rfl | hx
  · rw [hn.uniq h]; exact Ze ..
  · exact Zd _ (ih x hx n hn)
theorem Dps.back {l:List Int} {ns:List Nat} (h:Dps M l ns):∀ n ∈ ns,∃ x ∈ l,Ch M x n:=by
 induction h with
 | nil=>intro x h; cases h
 | cons h r ih =>
  intro n hn;rcases Zh.mp hn with rfl | hn
  · exact ⟨_,Ze ..,h⟩
  ·obtain ⟨x,hx,h'⟩:=ih n hn
   exact ⟨x,Zd _ hx,h'⟩
theorem Dps.map {l:List Int} {ns:List Nat} (h:Dps M l ns) {g:D->Option D} (hg:∀ x n,Ch M x n->n<=12->g (.int x)=some (.int (n:Int))) (h12:∀ n ∈ ns,n<=12):wQ g (l.map .int)=some ((ns.map λ n:Nat=>(n:Int)).map .int):=by
 induction h with
 | nil=>rfl
 | @cons x n l ns h r ih =>
  show (g (.int x)).bind (λ y=>(wQ g (l.map .int)).bind λ xs=>some (y::xs))=_;rw [hg x n h (h12 n (Ze ..)),ih λ k hk=>h12 k (Zd _ hk)];rfl
theorem Dps.len {l:List Int} {ns:List Nat} (h:Dps M l ns):ns.length=l.length:=by
 induction h with
 | nil=>rfl
 | cons _ _ ih=>rw [Zv,Zv,ih]
def tpI (ns:List Nat):Int:=mxI (ns.map λ n:Nat=>(n:Int))
theorem Ge {ns:List Nat} {n:Nat} (h:n ∈ ns):(n:Int)<=tpI ns:=DV (Yc (f:=λ n:Nat=>(n:Int)) h)
theorem CG {ns:List Nat} (h:0 < ns.length):∃ n ∈ ns,tpI ns=(n:Int):=by
 have:=Bg (ns:=ns.map λ n:Nat=>(n:Int)) (by rw [Za]; exact h);obtain ⟨n,hn,e⟩:=Z2.mp this;exact ⟨n,hn,e.symm⟩
theorem zv {ns:List Nat} (h:0 < ns.length):xM [.lst ((ns.map λ n:Nat=>(n:Int)).map .int)]=some (.int (tpI ns)):=by
 show (cZ ((ns.map λ n:Nat=>(n:Int)).map .int)).bind _=_;rw [qD];show (if 0 < (ns.map λ n:Nat=>(n:Int)).length then _ else _)=_;rw [Za,if_pos h];rfl
end
end N13
end
section
namespace N13
open PySem L2
theorem fV {τ:List Sm} {i:Nat} {b:Bool} {m:Mt} {d:D} (h:τ[i]?=some (.mu b m)) (hf:frz m=d):aH i (aQ τ)=some d:=by
 refine ak ?_
 rw [List.getElem?_map,h];show some (Sl.shr (frz m))=_;rw [hf]
theorem uh {g:B8->Mt} {M:List B8} {i:Int} {m:Mt} {b:B8} (h:fd M i=some b):eZ (kv g M) (.inl i) m=M.map λ c=>((.inl c.i:Key),if c.i=i then m else g c):=by
 unfold eZ;rw [zR,h];unfold kv;rw [Zw];refine Zt λ c _=>?_
 show (if (Sum.inl c.i:Key)=Sum.inl i then ((Sum.inl c.i:Key),m) else (Sum.inl c.i,g c))=_
 by_cases e:c.i=i
 · rw [if_pos (by rw [e]),if_pos e]
 · rw [if_neg (λ z=>e (by injection z)),if_neg e]
theorem ud {M:List B8} {i:Int} {r:List Int} {b:B8} (h:fd M i=some b):eZ (kv (λ b=>lM (b.r.map .int)) M) (.inl i) (lM (r.map .int))=kv (λ b=>lM (b.r.map .int)) (upR M i r):=by
 rw [uh h];unfold kv upR;rw [Zw];refine Zt λ c _=>?_
 show _=((Sum.inl (if c.i=i then { c with r:=r } else c).i:Key),lM ((if c.i=i then { c with r:=r } else c).r.map .int));split <;> rfl
theorem An {M:List B8} {i h:Int} {b:B8} (hb:fd M i=some b):eZ (kv (λ b=>.s (hD b.h)) M) (.inl i) (.s (.int h))=kv (λ b=>.s (hD b.h)) (upH M i h):=by
 rw [uh hb];unfold kv upH;rw [Zw];refine Zt λ c _=>?_
 show _=((Sum.inl (if c.i=i then { c with h:=some h } else c).i:Key),Mt.s (hD (if c.i=i then { c with h:=some h } else c).h));split <;> rfl
theorem xv {M:List B8} {i h:Int} {b:B8} (nd:Nd M) (hb:fd M i=some b):eZ (kv (λ b=>.s (.tup [hD b.h,.str b.n])) M) (.inl i) (.s (.tup [.int h,.str b.n]))=kv (λ b=>.s (.tup [hD b.h,.str b.n])) (upH M i h):=by
 rw [uh hb];unfold kv upH;rw [Zw];refine Zt λ c hc=>?_
 show _=((Sum.inl (if c.i=i then { c with h:=some h } else c).i:Key),Mt.s (.tup [hD (if c.i=i then { c with h:=some h } else c).h,.str (if c.i=i then { c with h:=some h } else c).n]))
 by_cases e:c.i=i
 ·have hf:=g7 nd hc
  rw [e,hb] at hf;cases hf;rw [if_pos e,if_pos e];rfl
 · rw [if_neg e,if_neg e]
theorem oP {β:Type} (g:B8->β) (M:List B8) (i h:Int) (hg:∀ b:B8,g { b with h:=some h }=g b):kv g (upH M i h)=kv g M:=by
 unfold kv upH;rw [Zw];refine Zt λ b _=>?_
 show ((Sum.inl (if b.i=i then { b with h:=some h } else b).i:Key),g (if b.i=i then { b with h:=some h } else b))=_;split
 · rw [hg]
 · rfl
theorem CF {C:Addr} {gv:Int} {M:List B8} {i h:Int}:trM C gv (upH M i h)=trG C (.s (.int gv)) (kM (λ b=>.s (.str b.n)) M) (kM (λ b=>.s (hD b.h)) (upH M i h)) (bxM M) (kM mkM M) (kM wdM M) (kM roM M):=by
 unfold trM bxM kM;rw [oP (λ b=>Mt.s (.str b.n)) _ _ _ (λ _=>rfl),oP (λ b=>lM (b.r.map .int)) _ _ _ (λ _=>rfl),oP mkM _ _ _ (λ _=>rfl),oP wdM _ _ _ (λ _=>rfl),oP roM _ _ _ (λ _=>rfl)]
theorem Bh {M:List B8} (nd:Nd M) {i h:Int} {b q:B8} {rj:List Int} (hb:fd M i=some b) (hj:b.h=some h) (hq:fd M h=some q):mvB M i h h rj q.r=M:=by
 unfold mvB upH upR;rw [Zw,Zw]
 conv=>rhs; rw [<- List.map_id M]
 refine Zt λ c hc=>?_
 have hf:=g7 nd hc
 have e1:(if (if c.i=h then { c with r:=rj } else c).i=h then { (if c.i=h then { c with r:=rj } else c) with r:=q.r } else (if c.i=h then { c with r:=rj } else c))=c:=by
  by_cases e:c.i=h
  ·rw [e,hq] at hf
   cases hf;rw [if_pos e];rw [if_pos e]
  · rw [if_neg e,if_neg e]
 show (if (if (if c.i=h then { c with r:=rj } else c).i=h then { (if c.i=h then { c with r:=rj } else c) with r:=q.r } else (if c.i=h then { c with r:=rj } else c)).i=i then { (if (if c.i=h then { c with r:=rj } else c).i=h then { (if c.i=h then { c with r:=rj } else c) with r:=q.r } else (if c.i=h then { c with r:=rj } else c)) with h:=some h } else (if (if c.i=h then { c with r:=rj } else c).i=h then { (if c.i=h then { c with r:=rj } else c) with r:=q.r } else (if c.i=h then { c with r:=rj } else c)))=id c;rw [e1]
 by_cases e:c.i=i
 ·rw [e,hb] at hf
  cases hf;rw [if_pos e,<- hj];rfl
 ·rw [if_neg e]
  rfl
section
variable {t:Adr} {gv:Int} {M:List B8} {i j h pl:Int} {b p q:B8} {l:List Int} {ni nh:Nat} {ns:List Nat}
theorem Bj (m:MOk gv M) (h90:M.length < 90) (hb:fd M i=some b) (hj:b.h=some j) (hp:fd M j=some p) (hi:i ∈ p.r) (hq:fd M h=some q) (hs:Sub M b.r l) (hn:h ∉ i::l) (hl:l.length < 90)
  (ci:Ch M i ni) (ch:Ch M h nh) (n12:ni<=12/\nh<=12) (ds:Dps M (i::l) ns) (d12:∀ n ∈ ns,n<=12) (hd:(nh:Int)+1+tpI ns - ni<=12) {row:List Int} (er:row=insI (q.r.filter λ y=>decide (y≠i)) pl i)
  (p0:0<=pl) (p1:pl<=((q.r.filter λ y=>decide (y≠i)).length:Int)) :
  gJ t [.mu true (trM t.ag gv M),.shr (.int i),.shr (.int h),.shr (.int pl)]=some (.shr (.bl (!decide (row=q.r))),[.mu true (trM t.ag gv (mvB M i j h (p.r.erase i) row)),.no,.no,.no]):=by
 have i0:=m.h0 hb hj
 have hp2:=sub_len (m.rnd p (aI hp)) λ y hy=>by
  obtain ⟨d,d1,_⟩:=m.kid p (aI hp) y hy;exact ⟨d,d1⟩
 have hq2:=sub_len (m.rnd q (aI hq)) λ y hy=>by
  obtain ⟨d,d1,_⟩:=m.kid q (aI hq) y hy;exact ⟨d,d1⟩
 have hf2:(q.r.filter λ y=>decide (y≠i)).length<=q.r.length:=Y5 _ _;have hih:h≠i:=λ e=>hn (by rw [e]; exact Ze ..)
 have hnl:h ∉ l:=λ e=>hn (Zd _ e)
 have sn:∀ {r:List Sm},aQ (.mu true (trM t.ag gv M)::r)=.shr (trD t.ag gv M)::aQ r:=iA
 unfold gJ dg
 have go:∀ {o:wX},(gP (tR (tS (dT (dOp oEq (aH 5) (dOp dz (dUn (xN t.ag "boxes") (aH 0)) (aH 2)))))
  (mY (eN (dC (.bl false))))
  kT)
  (gP (xk (xr (jg t.ag "boxes" (cD 0)) (dOp dz (dUn (xN t.ag "holders") (aH 0)) (aH 1))) (aH 1))
  (gP (cJ (jg t.ag "boxes" (cD 0)) (aH 2) (eV 5))
  (gP (cJ (jg t.ag "holders" (cD 0)) (aH 1) (eN (aH 2)))
  (mY (eN (dC (.bl true)))))))) [.mu true (trM t.ag gv M),.shr (.int i),.shr (.int h),.shr (.int pl),.shr (.lst (l.map .int)),.mu false (lM (row.map .int)),.shr (.int (tpI ns))]=some o ->
  (dg t).1 [.mu true (trM t.ag gv M),.shr (.int i),.shr (.int h),.shr (.int pl),.no,.no,.no]=some o:=λ {o} ho=>by
  unfold dg;refine aG (d7 (by rw [sn]; exact eU e_v (ah e_v aD) rfl (hZ hb) rfl)) ?_
  refine aG (d7 (by rw [sn]; exact eU e_v (ah e_v aD) rfl (hZ hq) rfl)) ?_
  refine aG (τ':=[.mu true (trM t.ag gv M),.shr (.int i),.shr (.int h),.shr (.int pl),.shr (.lst (l.map .int)),.no,.no]) (bS (v_F (by rw [sn]; exact yt (ah e_v (ah e_v aD)) (wI hb hs (by omega)) rfl) (dZ _)) (Zb rfl) rfl) ?_
  refine aG (iH (t_S (E5 (b:=false) (bu (aJ e_v e_c ((gr _ _).trans (by rw [Zq i0])))) (λ _=>E5 (b:=false) (bu (aJ e_v e_v ((gr _ _).trans (by rw [Zq hih])))) (λ _=>bu (aJ e_v e_v ((k7 h l).trans (by rw [Zq hnl])))) nofun) nofun)) rfl) ?_
  refine aG (τ':=[.mu true (trM t.ag gv M),.shr (.int i),.shr (.int h),.shr (.int pl),.shr (.lst (l.map .int)),.mu false (lM ((q.r.filter λ y=>decide (y≠i)).map .int)),.no]) (bS (v_O (by rw [sn]; exact mz (vo (aJ (iM e_v fB) e_v (bz hq))) (by rw [Za]; omega) (nQ λ x _=>bu (aJ e_v e_v ((jO _ _).trans (by rw [decide_not]))))) (dZ _)) (Zb rfl) rfl) ?_
  refine aG (d7 (eW (ah e_v (ah (fV (b:=false) rfl (gf _)) aD)) (gh p0 p1) rfl)) ?_
  refine aG (τ':=[.mu true (trM t.ag gv M),.shr (.int i),.shr (.int h),.shr (.int pl),.shr (.lst (l.map .int)),.mu false (lM ((q.r.filter λ y=>decide (y≠i)).map .int)),.shr (.int (tpI ns))]) (bS (v_S (by
   rw [sn];refine bC (ah (qT (vo (aJ (ji (ah e_v aD) (Zb rfl)) e_v ?_)) (by rw [Za]; show l.length+1<=_; omega) (ds.map (λ x n hx hx12=>eW (ah e_v (ah e_v aD)) (jq hx (by omega)) rfl) d12)) aD) (zv (by rw [ds.len]; exact Nat.succ_pos _));show (if [D.int i].length+(l.map D.int).length<=100000 then some (D.lst ([D.int i]++l.map .int)) else none)=_;rw [if_pos (by rw [Za]; show 1+l.length<=_; omega)]
   rfl) rfl) (Zb rfl) rfl) ?_
  refine aG (iH (t_S (by
   rw [sn]
   exact bu (aJ (aJ (aJ (aJ (eW (ah e_v (ah e_v aD)) (jq ch (by omega)) rfl) e_c (aY _ _)) e_v (aY _ _)) (eW (ah e_v (ah e_v aD)) (jq ci (by omega)) rfl) (gT _ _)) e_c (BJ hd)))) rfl) ?_
  refine aG ((xU bU rfl e_v (v_N e_v) rfl rfl ⟨p0,by rw [Za,Za]; exact p1,by rw [Za,Za]; omega⟩).trans ?_) ho;rw [gV rfl,qE,er];rfl
 have eb:dz (.dct (kv (λ b=>.lst (b.r.map .int)) M)) (.int h)=some (.lst (q.r.map .int)):=bz hq
 have et:tS (dT (dOp oEq (aH 5) (dOp dz (dUn (xN t.ag "boxes") (aH 0)) (aH 2)))) [.mu true (trM t.ag gv M),.shr (.int i),.shr (.int h),.shr (.int pl),.shr (.lst (l.map .int)),.mu false (lM (row.map .int)),.shr (.int (tpI ns))]=some (decide (row=q.r),[.mu true (trM t.ag gv M),.shr (.int i),.shr (.int h),.shr (.int pl),.shr (.lst (l.map .int)),.mu false (lM (row.map .int)),.shr (.int (tpI ns))]) :=
  t_S (bu (aJ (fV (b:=false) rfl (gf _)) (aJ (iM (fV rfl (lg _ _ _)) fB) e_v eb) (BU _ _)))
 by_cases hr:row=q.r
 ·have hjh:j=h:=by
   have:i ∈ q.r:=by rw [<- hr,er]; exact j3.mpr (.inl rfl)
   obtain ⟨d,d1,d2⟩:=m.Bw hq this;rw [hb] at d1;cases d1;rw [hj] at d2;exact Zj d2
  rw [Zu hr] at et ⊢;refine (gm (s:=.shr (.bl false)) (τ:=[.mu true (trM t.ag gv M),.shr (.int i),.shr (.int h),.shr (.int pl),.shr (.lst (l.map .int)),.mu false (lM (row.map .int)),.shr (.int (tpI ns))]) (go ?_)).trans ?_
  ·have:(tR (tS (dT (dOp oEq (aH 5) (dOp dz (dUn (xN t.ag "boxes") (aH 0)) (aH 2))))) (mY (eN (dC (.bl false)))) kT) [.mu true (trM t.ag gv M),.shr (.int i),.shr (.int h),.shr (.int pl),.shr (.lst (l.map .int)),.mu false (lM (row.map .int)),.shr (.int (tpI ns))]=some (.ret (.shr (.bl false)) [.mu true (trM t.ag gv M),.shr (.int i),.shr (.int h),.shr (.int pl),.shr (.lst (l.map .int)),.mu false (lM (row.map .int)),.shr (.int (tpI ns))]):=rY et (pF (v_N e_c))
   unfold gP;rw [this]
  ·rw [hjh,hr,Bh m.nd hb (hjh ▸ hj) hq]
   rfl
 ·rw [Zq hr] at et ⊢
  refine (gm (τ:=[.mu true (trM t.ag gv (mvB M i j h (p.r.erase i) row)),.shr (.int i),.shr (.int h),.shr (.int pl),.shr (.lst (l.map .int)),.no,.shr (.int (tpI ns))]) (go ?_)).trans rfl;refine aG (iH et rfl) ?_
  have hg:aT [.mu true (trM t.ag gv M),.shr (.int i),.shr (.int h),.shr (.int pl),.shr (.lst (l.map .int)),.mu false (lM (row.map .int)),.shr (.int (tpI ns))] 0 [.k (.inr "boxes"),.k (.inl j)]=some (lM (p.r.map .int)):=by
   rw [ny rfl];refine tG.trans ?_
   refine (nO _ _ _).trans ?_
   rw [hp];rfl
  have eh:dz (.dct (kv (λ b=>hD b.h) M)) (.int i)=some (.int j):=by
   rw [bz hb,hj];rfl
  refine aG (τ':=[.mu true (trM t.ag gv (upR M j (p.r.erase i))),.shr (.int i),.shr (.int h),.shr (.int pl),.shr (.lst (l.map .int)),.mu false (lM (row.map .int)),.shr (.int (tpI ns))]) ((D2 (sZ (kF bU rfl) (by rw [sn]; exact aJ (iM e_v fH) e_v eh) rfl rfl) e_v hg (qI _) ⟨by omega,hi⟩).trans ?_) ?_
  ·rw [gV rfl,za]
   have ep:(trM t.ag gv M).put ([]++[.k (.inr "boxes")]++[.k (.inl j)]) (lM ((p.r.erase i).map .int))=trM t.ag gv (upR M j (p.r.erase i)):=by
    refine jy.trans ?_
    rw [qh m.nd hp,tF]
   rw [ep];rfl
  have hq3:∃ q',fd (upR M j (p.r.erase i)) h=some q':=by rw [jb,hq]; exact ⟨_,rfl⟩
  obtain ⟨q',hq'⟩:=hq3;have hb3:∃ b',fd (upR (upR M j (p.r.erase i)) h row) i=some b':=by rw [jb,jb,hb]; exact ⟨_,rfl⟩
  obtain ⟨b',hb'⟩:=hb3;refine aG (τ':=[.mu true (trM t.ag gv (upR (upR M j (p.r.erase i)) h row)),.shr (.int i),.shr (.int h),.shr (.int pl),.shr (.lst (l.map .int)),.no,.shr (.int (tpI ns))]) ?_ ?_
  ·refine (eR (v_V rfl) (kF bU rfl) e_v rfl rfl rfl (by rw [gZ,gu]; omega)).trans ?_
   rw [gV rfl,ud hq']
   have:trM t.ag gv (upR (upR M j (p.r.erase i)) h row)=(trM t.ag gv (upR M j (p.r.erase i))).put ([]++[.k (.inr "boxes")]) (.n .d (kv (λ b=>lM (b.r.map .int)) (upR (upR M j (p.r.erase i)) h row))):=by
    rw [tF];exact rJ.symm
   rw [this];rfl
  refine aG ?_ (pF (v_N e_c))
  refine (jD (v_N e_v) e_v rfl rfl (by rw [gZ,gu,gu]; omega)).trans ?_
  rw [An hb'];unfold mvB;rw [CF];rfl
end
end N13
end
section
namespace N13
open PySem L2
section
variable {t:Adr} {gv:Int} {M:List B8}
def Hd (M:List B8):Prop:=∃ r T,M=r::T/\r.i=0
theorem Eo {h p:Int} {b:B8} {nm:Str} (hd:Hd M):Hd (fX M h b p gv nm):=by
 obtain ⟨r,T,rfl,e⟩:=hd;refine ⟨_,_,rfl,?_⟩;show (if r.i=h then { r with r:=insI b.r p gv } else r).i=0;split <;> exact e
theorem Ek (hd:Hd M) (nd:Nd M) {k:Int} (k0:1<=k) (k1:k < M.length):∃ b ∈ M,b.i≠0/\oIx (.lst ((M.map B8.i).map .int)) (.int k)=some (.int b.i):=by
 obtain ⟨r,T,rfl,e⟩:=hd;unfold Nd at nd;rw [Zg,Zy] at nd;obtain ⟨h,e1⟩:=oH (xs:=((r::T).map B8.i).map D.int) (j:=k) (by omega) (by rw [Za,Za]; exact k1);obtain ⟨n,hn⟩:∃ n:Nat,k.toNat=n+1:=⟨k.toNat - 1,by omega⟩
 have hl:n < T.length:=by
  rw [Zv] at k1;omega
 refine ⟨T[n],Zd _ (Y2 hl),λ z=>nd.1 ?_,?_⟩
 ·rw [e,<- z]
  exact Yc (Y2 hl)
 ·show atI _ k=_
  rw [e1];simp [hn]
theorem Jk {β:Type} (g:B8->β) (M:List B8) (j:Int) (r:List Int) (i h:Int) (hg:∀ (b:B8) (r:List Int),g { b with r:=r }=g b):kv g (upH (upR M j r) i h)=kv g (upH M i h):=by
 unfold kv upH upR;rw [Zw,Zw,Zw];refine Zt λ b _=>?_
 simp only [Function.comp]
 by_cases e:b.i=j
 ·rw [if_pos e]
  by_cases e2:b.i=i
  ·rw [if_pos e2,if_pos (show ({ b with r:=r }:B8).i=i from e2)]
   exact Prod.ext rfl (hg { b with h:=some h } r)
  ·rw [if_neg e2,if_neg (show ¬ ({ b with r:=r }:B8).i=i from e2)]
   exact Prod.ext rfl (hg b r)
 · rw [if_neg e]
theorem yH {a x:Int} (h:Anc M a x) {r:B8} (r1:fd M x=some r) (r2:r.h=none):a=x:=by
 cases h with
 | refl=>rfl
 | up h1 h2 _=>rw [r1] at h1; cases h1; rw [r2] at h2; cases h2
theorem IK {i j h:Int} {rj rh:List Int} (hd:Hd M):Hd (mvB M i j h rj rh):=by
 obtain ⟨r,T,rfl,e⟩:=hd;refine ⟨_,_,rfl,?_⟩;have e1:(if r.i=j then { r with r:=rj } else r).i=0:=by split <;> exact e
 have e2:(if (if r.i=j then { r with r:=rj } else r).i=h then { (if r.i=j then { r with r:=rj } else r) with r:=rh } else (if r.i=j then { r with r:=rj } else r)).i=0:=by
  by_cases z:(if r.i=j then { r with r:=rj } else r).i=h
  · rw [if_pos z]; exact e1
  · rw [if_neg z]; exact e1
 show (if (if (if r.i=j then { r with r:=rj } else r).i=h then { (if r.i=j then { r with r:=rj } else r) with r:=rh } else (if r.i=j then { r with r:=rj } else r)).i=i then { (if (if r.i=j then { r with r:=rj } else r).i=h then { (if r.i=j then { r with r:=rj } else r) with r:=rh } else (if r.i=j then { r with r:=rj } else r)) with h:=some h } else (if (if r.i=j then { r with r:=rj } else r).i=h then { (if r.i=j then { r with r:=rj } else r) with r:=rh } else (if r.i=j then { r with r:=rj } else r))).i=0
 by_cases z:(if (if r.i=j then { r with r:=rj } else r).i=h then { (if r.i=j then { r with r:=rj } else r) with r:=rh } else (if r.i=j then { r with r:=rj } else r)).i=i
 · rw [if_pos z]; exact e2
 · rw [if_neg z]; exact e2
theorem Ec (M:List B8) (i j h:Int) (rj rh:List Int):(mvB M i j h rj rh).length=M.length:=by
 unfold mvB upH;rw [Za,gu,gu]
abbrev sY (t:Adr) (gv:Int) (A B C:List B8) (c w:Int) (M:List B8) (r:List Sm):List Sm:=.mu true (trM t.ag gv A)::.mu true (bxM B)::.mu true (faM C)::.shr (.int c)::.shr (.int w)::.shr (.lst ((M.map B8.i).map .int))::r
abbrev sW (t:Adr) (gv:Int) (A B C:List B8) (c w:Int) (M:List B8) (i:Int) (l:List Int) (p:Int) (f:List Int) (q:Int) (r:List Sm):List Sm:=sY t gv A B C c w M (.shr (.int i)::.shr (.lst ((i::l).map .int))::.shr (.int p)::.shr (.lst (f.map .int))::.shr (.int q)::r)
theorem sn3 {b0 b1 b2:Bool} {r:List Sm}:aQ (.mu b0 (trM t.ag gv M)::.mu b1 (bxM M)::.mu b2 (faM M)::r)=.shr (trD t.ag gv M)::.shr (.dct (kv (λ b=>.lst (b.r.map .int)) M))::.shr (faD M)::aQ r:=by
 rw [iA];show _::Sl.shr (frz (bxM M))::Sl.shr (frz (faM M))::_=_;rw [ja,lh]
open Classical in
theorem uY (m:MOk gv M) (hd:Hd M) (h90:M.length < 90) (l2:2<=M.length) {c w:Int} (w0:0<=w) (w1:w<=900) :
  ∃ i j h rj rh,MOk gv (mvB M i j h rj rh)/\dJ t [.mu true (trM t.ag gv M),.mu true (bxM M),.mu true (faM M),.shr (.int c),.shr (.int w)]=some (.shr (.bl true),[.mu true (trM t.ag gv (mvB M i j h rj rh)),.mu true (bxM (mvB M i j h rj rh)),.mu true (faM (mvB M i j h rj rh)),.no,.no]):=by
 obtain ⟨q0,e0,q00,q01⟩:=md c w0 (show w<=10000 by omega);obtain ⟨q1,e1,q10,q11⟩:=md c (show (0:Int)<=w+1 by omega) (show w+1<=10000 by omega);obtain ⟨q2,e2,q20,q21⟩:=md c (show (0:Int)<=w+2 by omega) (show w+2<=10000 by omega);have k0:0<=q0 % ((M.length:Int) - 1):=Yu _ (by omega);have k1:q0 % ((M.length:Int) - 1) < (M.length:Int) - 1:=Yv _ (by omega);obtain ⟨b,hm,i0,ei⟩:=Ek hd m.nd (k:=1+q0 % ((M.length:Int) - 1)) (by omega) (by omega);have hb:=g7 m.nd hm;obtain ⟨j,p,hj,hp,pi⟩:=m.hol b hm i0;obtain ⟨l,hs,hs'⟩:=Sub.of m hb;have nd:(b.i::l).Nodup:=hs.nodup m (List.pairwise_singleton _ _);have ll:=sub_len nd hs.in;have lc:(b.i::l).length=l.length+1:=rfl;obtain ⟨ni,ci,ni12⟩:=m.dp hb;obtain ⟨ns,ds⟩:=Dps.ex m (l:=b.i::l) hs.in
 have d12:∀ n ∈ ns,n<=12:=λ n hn=>by
  obtain ⟨x,hx,hc⟩:=ds.back n hn;obtain ⟨bb,hbb⟩:=hc.get;obtain ⟨n',h1,h2⟩:=m.dp hbb;rw [hc.uniq h1]; exact h2
 have nl:0 < ns.length:=by rw [ds.len]; exact Nat.succ_pos _
 have tp12:tpI ns<=12:=by
  obtain ⟨n,hn,e⟩:=CG nl;rw [e];have:=d12 n hn;omega
 obtain ⟨nj,cj,enj⟩:∃ nj,Ch M j nj/\ni=nj+1:=by
  cases ci with
  | top h e=>rw [hb] at h; cases h; rw [hj] at e; cases e
  | up h e c=>rw [hb] at h; cases h; rw [hj] at e; cases e; exact ⟨_,c,rfl⟩
 have jn:j ∉ b.i::l:=λ h=>by
  obtain ⟨k,c1,c2,_⟩:=((hs.iff m hp).mp h).deep cj;have:=c1.uniq ci;omega
 let f:Int->Bool:=λ x=>!decide (x ∈ b.i::l)&&decide (∃ n:Nat,Ch M x n/\(n:Int)+1+(tpI ns - ni)<=12)
 obtain ⟨fre,efr⟩:∃ fre,fre=(M.map B8.i).filter f:=⟨_,rfl⟩
 have fok:∀ x ∈ fre,(∃ q,fd M x=some q)/\x ∉ b.i::l/\∃ n:Nat,Ch M x n/\(n:Int)+1+(tpI ns - ni)<=12:=λ x hx=>by
  rw [efr,Xe] at hx;obtain ⟨h1,h2⟩:=hx;obtain ⟨q,hq,rfl⟩:=Z2.mp h1;simp only [f,Z8,Yz,decide_eq_false_iff_not,decide_eq_true_eq] at h2;exact ⟨⟨q,g7 m.nd hq⟩,h2.1,h2.2⟩
 have fne:fre≠[]:=λ e=>by
  obtain ⟨r,r1,r2⟩:=m.root
  have:(0:Int) ∈ fre:=by
   rw [efr,Xe];refine ⟨Z2.mpr ⟨r,aI r1,gA r1⟩,?_⟩
   have n0:(0:Int) ∉ b.i::l:=λ h=>by
    exact i0 (yH ((hs.iff m r1).mp h) r1 r2)
   simp only [f,Z8,Yz,decide_eq_false_iff_not,decide_eq_true_eq];exact ⟨n0,0,.top r1 r2,by omega⟩
  rw [e] at this;cases this
 have flp:0 < fre.length:=List.length_pos_iff.mpr fne;obtain ⟨xm,mm,em⟩:=zC (ys:=fre) (j:=q1 / 3 % (fre.length:Int)) (Yu _ (by omega)) (Yv _ (by omega))
 obtain ⟨h,eh,⟨q,hq⟩,hn,nh,ch,hdp⟩:∃ h,h=(if q1 % 3=0 then j else xm)/\(∃ q,fd M h=some q)/\h ∉ b.i::l/\∃ n:Nat,Ch M h n/\(n:Int)+1+(tpI ns - ni)<=12:=by
  split
  · exact ⟨j,rfl,⟨p,hp⟩,jn,nj,cj,by omega⟩
  ·obtain ⟨a1,a2,a3⟩:=fok xm mm
   exact ⟨xm,rfl,a1,a2,a3⟩
 obtain ⟨nh',ch',nh12⟩:=m.dp hq;have:=ch.uniq ch';subst this
 have hq2:q.r.length<=M.length:=sub_len (m.rnd q (aI hq)) λ y hy=>by
  obtain ⟨d,d1,_⟩:=m.kid q (aI hq) y hy;exact ⟨d,d1⟩
 have hp2:p.r.length<=M.length:=sub_len (m.rnd p (aI hp)) λ y hy=>by
  obtain ⟨d,d1,_⟩:=m.kid p (aI hp) y hy;exact ⟨d,d1⟩
 obtain ⟨rs,ers⟩:∃ rs,rs=q.r.filter λ y=>decide (y≠b.i):=⟨_,rfl⟩
 have hf2:rs.length<=q.r.length:=by rw [ers]; exact Y5 _ _
 obtain ⟨pl,epl⟩:∃ pl,pl=q2 % ((rs.length:Int)+1):=⟨_,rfl⟩
 have p0:0<=pl:=by rw [epl]; exact Yu _ (by omega)
 have p1:pl<=rs.length:=by have:=Yv q2 (show 0 < (rs.length:Int)+1 by omega); omega
 obtain ⟨row,erow⟩:∃ row,row=insI rs pl b.i:=⟨_,rfl⟩
 have na:¬ Anc M b.i h:=λ a=>hn ((hs.iff m hq).mpr a)
 have mok:=DY m hb hj hp hq na ci ch (λ x n a hc=>by
  obtain ⟨bx,hbx⟩:=hc.get;have:=Ge (ds.mem x ((hs.iff m hbx).mpr a) n hc)
  omega) (rj:=p.r.erase b.i) rfl (pl:=pl) (rh:=row) (by rw [erow,ers])
 refine ⟨b.i,j,h,p.r.erase b.i,row,mok,?_⟩;unfold dJ fw;dsimp only;have eM:(M.map B8.i).length=M.length:=Za _;refine (gm (s:=.shr (.bl true)) (τ:=sW t gv (mvB M b.i j h (p.r.erase b.i) row) (mvB M b.i j h (p.r.erase b.i) row) (mvB M b.i j h (p.r.erase b.i) row) c w M b.i l (tpI ns - ni) fre q1 [.shr (.int h),.no,.shr (.int pl),.shr (.bl (!decide (row=q.r))),.shr (.bl (!decide (row=q.r)))]) ?_).trans rfl;refine aG (τ':=sY t gv M M M c w M [.no,.no,.no,.no,.no,.no,.no,.no,.no,.no]) (bS (v_F ?_ (dZ _)) (Zb rfl) rfl) ?_
 ·unfold zM
  rw [fV (b:=true) rfl (ja M)];show some (D.lst ((kv _ M).map _))=_;unfold kv;rw [Zw,Zw];rfl
 refine aG (τ':=sY t gv M M M c w M [.shr (.int b.i),.no,.no,.no,.no,.no,.no,.no,.no,.no]) (bS (v_N (aJ (ak rfl) (aJ e_c (aJ (eW (ah (ak rfl) (ah (ak rfl) aD)) e0 rfl) (aJ (bC (ah (ak rfl) aD) (pG _)) e_c (gT _ _)) (a9 (by omega))) (aY _ _)) (by rw [eM]; exact ei))) (Zb rfl) rfl) ?_
 refine aG (τ':=sY t gv M M M c w M [.shr (.int b.i),.shr (.lst ((b.i::l).map .int)),.no,.no,.no,.no,.no,.no,.no,.no]) (bS (v_F (yt (ah (fV (b:=true) rfl (ja M)) (ah (ak rfl) aD)) (lP hs (by omega)) rfl) (dZ _)) (Zb rfl) rfl) ?_
 refine aG (τ':=sY t gv M M M c w M [.shr (.int b.i),.shr (.lst ((b.i::l).map .int)),.shr (.int (tpI ns - ni)),.no,.no,.no,.no,.no,.no,.no]) (bS (v_S (by
  rw [sn3]
  exact aJ (bC (ah (qT (vo (ak rfl)) (by rw [Za]; omega) (ds.map (λ x n hx _=>eW (ah (ak rfl) (ah (ak rfl) aD)) (mB hx) rfl) d12)) aD) (zv nl)) (eW (ah (ak rfl) (ah (ak rfl) aD)) (mB ci) rfl) (gT _ _)) rfl) (Zb rfl) rfl) ?_
 refine aG (τ':=sY t gv M M M c w M [.shr (.int b.i),.shr (.lst ((b.i::l).map .int)),.shr (.int (tpI ns - ni)),.shr (.lst (fre.map .int)),.no,.no,.no,.no,.no,.no]) (bS (v_F (by
  rw [sn3,efr];refine mz (vo (ak rfl)) (by rw [Za,eM]; omega) (nQ (f:=f) λ x hx=>?_);obtain ⟨d,hd',rfl⟩:=Z2.mp hx;obtain ⟨n,hn',_⟩:=m.dp (g7 m.nd hd');have et:dT (dOp jN (aH 0) (aH 1)) [.shr (.int d.i),.shr (.lst ((b.i::l).map .int)),.shr (.int (tpI ns - ni)),.shr (faD M)]=some (!decide (d.i ∈ b.i::l)):=bu (aJ (ak rfl) (ak rfl) (A5 _ _));have ex:(decide (∃ n:Nat,Ch M d.i n/\(n:Int)+1+(tpI ns - ni)<=12))=decide ((n:Int)+1+(tpI ns - ni)<=12):=decide_eq_decide.mpr ⟨λ ⟨k,k1,k2⟩=>by rw [hn'.uniq k1]; exact k2,λ z=>⟨n,hn',z⟩⟩;refine Gj (b:=!decide (d.i ∈ b.i::l)) et (λ z=>?_) (λ z=>?_)
  ·show _=some (_&&_)
   rw [z,Bool.true_and,ex];exact bu (aJ (aJ (aJ (eW (ah (ak rfl) (ah (ak rfl) aD)) (mB hn') rfl) e_c (aY _ _)) (ak rfl) (aY _ _)) e_c rfl)
  ·show (_&&_)=false
   rw [z,Bool.false_and]) (dZ _)) (Zb rfl) rfl) ?_
 refine aG (τ':=sW t gv M M M c w M b.i l (tpI ns - ni) fre q1 [.no,.no,.no,.no,.no]) (bS (v_N (eW (ah (ak rfl) (ah (aJ (ak rfl) e_c (aY _ _)) aD)) e1 rfl)) (Zb rfl) rfl) ?_
 refine aG (τ':=sW t gv M M M c w M b.i l (tpI ns - ni) fre q1 [.shr (.int xm),.no,.no,.no,.no]) (bS (v_N (aJ (ak rfl) (aJ (aJ (ak rfl) e_c (l9 (by decide) (by decide +kernel))) (bC (ah (ak rfl) aD) (pG fre)) (a9 (by omega))) em)) (Zb rfl) rfl) ?_
 refine aG (τ':=sW t gv M M M c w M b.i l (tpI ns - ni) fre q1 [.shr (.int h),.no,.no,.no,.no]) ?_ ?_
 ·have et:tS (dT (dOp oEq (dOp oMod (aH 10) (dC (.int 3))) (dC (.int 0)))) (sW t gv M M M c w M b.i l (tpI ns - ni) fre q1 [.shr (.int xm),.no,.no,.no,.no])=some (decide (q1 % 3=0),(sW t gv M M M c w M b.i l (tpI ns - ni) fre q1 [.shr (.int xm),.no,.no,.no,.no])):=t_S (bu (aJ (aJ (ak rfl) e_c (a9 (by decide))) e_c (gr _ _)))
  by_cases z:q1 % 3=0
  ·rw [if_pos z] at eh
   rw [Zu z] at et;rw [eh]
   have ef:dz (faD M) (.int b.i)=some (.tup [.int j,.str b.n]):=by
    refine (bz hb).trans ?_
    rw [hj];rfl
   exact rY et ((bS (v_S (aJ (aJ (fV (b:=true) rfl (lh M)) (ak rfl) ef) e_c (kY _ _)) rfl) (Zb rfl) rfl).trans rfl)
  ·rw [if_neg z] at eh
   rw [Zq z] at et;rw [eh];exact iH et rfl
 refine aG (τ':=sW t gv M M M c w M b.i l (tpI ns - ni) fre q1 [.shr (.int h),.mu false (lM (rs.map .int)),.no,.no,.no]) (bS (v_O (by
  rw [sn3,ers]
  exact mz (vo (aJ (ak rfl) (ak rfl) (bz hq))) (by rw [Za]; omega) (nQ (f:=λ y=>decide (y≠b.i)) λ x _=>bu (aJ (ak rfl) (ak rfl) ((jO _ _).trans (by rw [decide_not]))))) (dZ _)) (Zb rfl) rfl) ?_
 refine aG (τ':=sW t gv M M M c w M b.i l (tpI ns - ni) fre q1 [.shr (.int h),.mu false (lM (rs.map .int)),.shr (.int pl),.no,.no]) (bS (v_S (aJ (eW (ah (ak rfl) (ah (aJ (ak rfl) e_c (aY _ _)) aD)) e2 rfl) (aJ (bC (ah (fV (b:=false) rfl (gf _)) aD) (pG rs)) e_c (aY _ _)) ((a9 (by omega)).trans (by rw [epl]))) rfl) (Zb rfl) rfl) ?_
 refine aG (τ':=sW t gv M M M c w M b.i l (tpI ns - ni) fre q1 [.shr (.int h),.mu false (lM (row.map .int)),.shr (.int pl),.no,.no]) ((xU (n:=pl) (cs0:=_) bU rfl (ak rfl) (v_N (ak rfl)) rfl rfl ⟨p0,by rw [Za,Za]; exact p1,by rw [Za,Za]; omega⟩).trans (by
  rw [gV rfl,qE,erow]
  rfl)) ?_
 refine aG (τ':=sW t gv M M M c w M b.i l (tpI ns - ni) fre q1 [.shr (.int h),.mu false (lM (row.map .int)),.shr (.int pl),.shr (.bl (!decide (row=q.r))),.no]) (bS (v_S (aJ (fV (b:=false) rfl (gf _)) (aJ (fV (b:=true) rfl (ja M)) (ak rfl) (bz hq)) (A6 _ _)) rfl) (Zb rfl) rfl) ?_
 have ep:=Bj (t:=t) m h90 hb hj hp pi hq hs' hn (by omega) ci ch ⟨ni12,nh12⟩ ds d12 (by omega) (row:=row) (pl:=pl) (by rw [erow,ers]) p0 (by rw [<- ers]; exact p1);refine aG (τ':=sW t gv (mvB M b.i j h (p.r.erase b.i) row) M M c w M b.i l (tpI ns - ni) fre q1 [.shr (.int h),.mu false (lM (row.map .int)),.shr (.int pl),.shr (.bl (!decide (row=q.r))),.shr (.bl (!decide (row=q.r)))]) (bS (s:=.shr (.bl (!decide (row=q.r)))) (v_M (C:=t.ag) (i:=0) (q:=[]) (ss:=[.mu true (trM t.ag gv M),.shr (.int b.i),.shr (.int h),.shr (.int pl)]) (τ':=sW t gv (mvB M b.i j h (p.r.erase b.i) row) M M c w M b.i l (tpI ns - ni) fre q1 [.shr (.int h),.mu false (lM (row.map .int)),.shr (.int pl),.shr (.bl (!decide (row=q.r))),.no]) bU rfl rfl (bF (q_N (ak rfl)) (bF (q_N (ak rfl)) (bF (q_N (ak rfl)) rfl))) rfl ep rfl) (Zb rfl) rfl) ?_
 have hg:aT (sW t gv (mvB M b.i j h (p.r.erase b.i) row) M M c w M b.i l (tpI ns - ni) fre q1 [.shr (.int h),.mu false (lM (row.map .int)),.shr (.int pl),.shr (.bl (!decide (row=q.r))),.shr (.bl (!decide (row=q.r)))]) 1 [.k (.inl j)]=some (lM (p.r.map .int)):=by
  rw [ny rfl];refine (nO _ _ _).trans ?_
  rw [hp];rfl
 have ef:dz (faD M) (.int b.i)=some (.tup [.int j,.str b.n]):=by
  refine (bz hb).trans ?_
  rw [hj];rfl
 refine aG (τ':=sW t gv (mvB M b.i j h (p.r.erase b.i) row) (upR M j (p.r.erase b.i)) M c w M b.i l (tpI ns - ni) fre q1 [.shr (.int h),.mu false (lM (row.map .int)),.shr (.int pl),.shr (.bl (!decide (row=q.r))),.shr (.bl (!decide (row=q.r)))]) ((D2 (n:=b.i) (ns:=p.r) (sZ bU (aJ (aJ (fV (b:=true) rfl (lh M)) (ak rfl) ef) e_c (kY _ _)) rfl rfl) (ak rfl) hg (qI _) ⟨by omega,pi⟩).trans ?_) ?_
 ·rw [gV rfl,za]
  have e4:(bxM M).put ([]++[.k (.inl j)]) (lM ((p.r.erase b.i).map .int))=bxM (upR M j (p.r.erase b.i)):=qh m.nd hp;rw [e4];rfl
 have hq3:∃ q',fd (upR M j (p.r.erase b.i)) h=some q':=by rw [jb,hq]; exact ⟨_,rfl⟩
 obtain ⟨q',hq'⟩:=hq3
 have bm:bxM (mvB M b.i j h (p.r.erase b.i) row)=.n .d (eZ (kv (λ b=>lM (b.r.map .int)) (upR M j (p.r.erase b.i))) (.inl h) (lM (row.map .int))):=by
  rw [ud hq'];unfold mvB bxM kM;rw [oP _ _ _ _ (λ _=>rfl)]
 have fm:faM (mvB M b.i j h (p.r.erase b.i) row)=.n .d (eZ (kv (λ b=>.s (.tup [hD b.h,.str b.n])) M) (.inl b.i) (.s (.tup [.int h,.str b.n]))):=by
  rw [xv m.nd hb];unfold mvB faM kM;rw [Jk _ _ _ _ _ _ (λ _ _=>rfl),Jk _ _ _ _ _ _ (λ _ _=>rfl)]
 have s1:cJ (cD 1) (aH 11) (eV 12) (sW t gv (mvB M b.i j h (p.r.erase b.i) row) (upR M j (p.r.erase b.i)) M c w M b.i l (tpI ns - ni) fre q1 [.shr (.int h),.mu false (lM (row.map .int)),.shr (.int pl),.shr (.bl (!decide (row=q.r))),.shr (.bl (!decide (row=q.r)))])=some (.next (sW t gv (mvB M b.i j h (p.r.erase b.i) row) (mvB M b.i j h (p.r.erase b.i) row) M c w M b.i l (tpI ns - ni) fre q1 [.shr (.int h),.no,.shr (.int pl),.shr (.bl (!decide (row=q.r))),.shr (.bl (!decide (row=q.r)))])):=by
  refine (eR (cs:=kv (λ b=>lM (b.r.map .int)) (upR M j (p.r.erase b.i))) (v_V rfl) bU (ak rfl) rfl rfl rfl (by rw [gZ,gu]; omega)).trans ?_
  unfold sW sY;rw [bm];rfl
 have s2:cJ (cD 2) (aH 6) (eT (aK (aH 11) (aK (dOp oIx (dOp dz (aH 2) (aH 6)) (dC (.int 1))) d8))) (sW t gv (mvB M b.i j h (p.r.erase b.i) row) (mvB M b.i j h (p.r.erase b.i) row) M c w M b.i l (tpI ns - ni) fre q1 [.shr (.int h),.no,.shr (.int pl),.shr (.bl (!decide (row=q.r))),.shr (.bl (!decide (row=q.r)))])=some (.next (sW t gv (mvB M b.i j h (p.r.erase b.i) row) (mvB M b.i j h (p.r.erase b.i) row) (mvB M b.i j h (p.r.erase b.i) row) c w M b.i l (tpI ns - ni) fre q1 [.shr (.int h),.no,.shr (.int pl),.shr (.bl (!decide (row=q.r))),.shr (.bl (!decide (row=q.r)))])):=by
  refine (eR (cs:=kv (λ b=>.s (.tup [hD b.h,.str b.n])) M) (v_T (ah (ak rfl) (ah (aJ (aJ (fV (b:=true) rfl (lh M)) (ak rfl) ef) e_c (uJ _ _ _)) aD)) rfl (Zb rfl)) bU (ak rfl) rfl rfl rfl (by rw [gZ]; omega)).trans ?_
  unfold sW sY;rw [fm];rfl
 have hqm:∃ q2,fd (mvB M b.i j h (p.r.erase b.i) row) h=some q2/\q2.r=row:=by
  rw [ED,hq];exact ⟨_,rfl,if_pos (gA hq)⟩
 obtain ⟨q2',hq2',eq2⟩:=hqm
 have lrow:row.length < 1000:=by
  rw [erow,(jk _ _ _).length_eq,Zv];omega
 have bs:bp t [trD t.ag gv (mvB M b.i j h (p.r.erase b.i) row),.int h]=some (.own (.lst (row.map .int))):=by
  exact (mI hq2').trans (by rw [eq2])
 unfold rB
 show (match cJ (cD 1) (aH 11) (eV 12) (sW t gv (mvB M b.i j h (p.r.erase b.i) row) (upR M j (p.r.erase b.i)) M c w M b.i l (tpI ns - ni) fre q1 [.shr (.int h),.mu false (lM (row.map .int)),.shr (.int pl),.shr (.bl (!decide (row=q.r))),.shr (.bl (!decide (row=q.r)))]) with
  | some (.next τ1)=>match cJ (cD 2) (aH 6) (eT (aK (aH 11) (aK (dOp oIx (dOp dz (aH 2) (aH 6)) (dC (.int 1))) d8))) τ1 with
   | some (.next τ2)=>(oa (gB G4 (aK (aH 15) (aK (dC (.ty "bool")) d8))) (oa (dOp oEq (aH 15) (aH 14)) (dFn bM (aK (j9 t.ag "boxes_of" (bp t) (aH 0) (aK (aH 11) d8)) (aK (aH 12) d8)))) ((aQ τ2).set 12 (.shr (frz (lM (row.map .int)))))).bind λ d=>if sca d=true/\1≠2 then some (wX.ret (.shr d) τ2) else none
   | _=>none
  | _=>none)=_
 simp only [s1,s2];rw [gf]
 have e0':((aQ (sW t gv (mvB M b.i j h (p.r.erase b.i) row) (mvB M b.i j h (p.r.erase b.i) row) (mvB M b.i j h (p.r.erase b.i) row) c w M b.i l (tpI ns - ni) fre q1 [.shr (.int h),.no,.shr (.int pl),.shr (.bl (!decide (row=q.r))),.shr (.bl (!decide (row=q.r)))])).set 12 (.shr (.lst (row.map .int))))[0]?=some (.shr (trD t.ag gv (mvB M b.i j h (p.r.erase b.i) row))):=by
  show some (Sl.shr (frz (trM t.ag gv (mvB M b.i j h (p.r.erase b.i) row))))=_;rw [lg]
 have ebl:∀ x:Bool,oEq (.bl x) (.bl x)=some (.bl true):=λ x=>by
  show some (D.bl (decide (x=x)))=_;rw [Zu rfl]
 rw [j7 (b:=true) (c:=true) (bC (ah (ak rfl) (ah e_c aD)) rfl) (j7 (b:=true) (c:=true) (aJ (ak rfl) (ak rfl) (ebl _)) (eW (ah (eU (ak e0') (ah (ak rfl) aD) rfl bs rfl) (ah (ak rfl) aD)) (gj row lrow) rfl))];rfl
end
end N13
end
section
namespace N13
open PySem L2
theorem yq {cs:List Int} {j:Nat} {d:D} (h:(iL (cs.map .int))[j]?=some d):∃ c:Int,d=.tup [.int (j:Int),.int c]/\cs[j]?=some c:=by
 unfold iL at h;rw [List.getElem?_mapIdx,List.getElem?_map] at h;obtain ⟨d',hd',rfl⟩:=Zm h;obtain ⟨c,hc,rfl⟩:=Zm hd';exact ⟨c,rfl,hc⟩
theorem yp (cs:List Int):(iL (cs.map .int)).length=cs.length:=by unfold iL; rw [List.length_mapIdx,Za]
theorem En {τ:List Sl} {f:DE} {as:List D} (h:f τ=some (.lst as)):vp (aK f d8) τ=some (iL as):=by
 unfold vp;rw [ah h aD];rfl
theorem D1 {f g:DSm} {τ τ':List Sm} {s:Sm} (h:f τ=some (.ret s τ')):gP f g τ=some (.ret s τ'):=by unfold gP; rw [h]
theorem yn {b:D->DSm} {ds:List D} {τ:List Sm} (P:Nat->List Sm->Prop) (h0:P 0 τ) (hs:∀ j d τ,ds[j]?=some d->P j τ->∃ τ2,b d τ=some (.next τ2)/\P (j+1) τ2):∃ τ',forM b ds τ=some (.next τ')/\P ds.length τ':=by
 induction ds generalizing τ P with
 | nil=>exact ⟨τ,rfl,h0⟩
 | cons d ds ih =>
  obtain ⟨τ2,e,p⟩:=hs 0 d τ rfl h0;obtain ⟨τ',e',p'⟩:=ih (λ j=>P (j+1)) p λ j d τ hd hp=>hs (j+1) d τ hd hp
  refine ⟨τ',?_,p'⟩;show (match b d τ with | some (.next τ')=>forM b ds τ' | some (.cnt τ')=>forM b ds τ' | some (.brk τ')=>some (.next τ') | r=>r)=_;rw [e];exact e'
section
variable {t:Adr} {gv:Int} {M:List B8}
def stB (M:List B8) (i:Int) (p:Pl):List B8:=M.map λ b=>if b.i=i then { b with m:=p } else b
theorem IT (M:List B8) (i x:Int) (p:Pl):fd (stB M i p) x=(fd M x).map λ b=>if b.i=i then { b with m:=p } else b:=by
 unfold fd stB;rw [List.find?_map];congr 2
 funext b
 show decide ((if b.i=i then { b with m:=p } else b).i=x)=_;split <;> rfl
theorem CW (M:List B8) (i:Int) (p:Pl):(stB M i p).map B8.i=M.map B8.i:=by
 unfold stB;rw [Zw];refine Zt λ b _=>?_
 show (if b.i=i then { b with m:=p } else b).i=b.i;split <;> rfl
theorem DX (m:MOk gv M) (i:Int) (p:Pl):MOk gv (stB M i p):=by
 have nd':Nd (stB M i p):=by unfold Nd; rw [CW]; exact m.nd
 have old:∀ {x:Int} {d:B8},fd M x=some d->fd (stB M i p) x=some (if d.i=i then { d with m:=p } else d):=λ {x d} h=>by rw [IT,h]; rfl
 have un:∀ c ∈ stB M i p,∃ d ∈ M,d.i=c.i/\d.h=c.h/\d.r=c.r:=λ c hc=>by
  obtain ⟨d,hd,rfl⟩:=Z2.mp hc;refine ⟨d,hd,?_⟩;split <;> exact ⟨rfl,rfl,rfl⟩
 have oh:∀ d:B8,(if d.i=i then { d with m:=p } else d).h=d.h:=λ d=>by split <;> rfl
 have or:∀ d:B8,(if d.i=i then { d with m:=p } else d).r=d.r:=λ d=>by split <;> rfl
 refine ⟨nd',λ c hc=>?_,?_,λ c hc c0=>?_,λ c hc x hx=>?_,λ c hc=>?_,λ c hc=>?_⟩
 ·obtain ⟨d,hd,e1,_⟩:=un c hc
  rw [<- e1]; exact m.lt d hd
 ·obtain ⟨r,r1,r2⟩:=m.root
  exact ⟨_,old r1,(oh r).trans r2⟩
 ·obtain ⟨d,hd,e1,e2,_⟩:=un c hc
  obtain ⟨j,p,h1,h2,h3⟩:=m.hol d hd (by rw [e1]; exact c0);exact ⟨j,_,by rw [<- e2]; exact h1,old h2,by rw [or,<- e1]; exact h3⟩
 ·obtain ⟨d,hd,e1,_,e3⟩:=un c hc
  obtain ⟨e,h1,h2⟩:=m.kid d hd x (by rw [e3]; exact hx);exact ⟨_,old h1,by rw [oh,h2,e1]⟩
 ·obtain ⟨d,hd,_,_,e3⟩:=un c hc
  rw [<- e3]; exact m.rnd d hd
 ·obtain ⟨d,hd,e1,_⟩:=un c hc
  obtain ⟨n,h1,h2⟩:=m.ch d hd;rw [e1] at h1;exact ⟨n,Ch.mono (λ x e he=>⟨_,old he,oh e⟩) h1,h2⟩
theorem Ao {g:B8->Mt} {m2:Mt} {M:List B8} {i:Int} {b:B8} (nd:Nd M) (h:fd M i=some b) (eg:∀ c:B8,(g c).put [] m2=m2):(kM g M).put [.k (.inl i)] m2=.n .d (M.map λ c=>((.inl c.i:Key),if c.i=i then m2 else g c)):=by
 have hb:=aI h;have hi:=gA h;obtain ⟨l1,l2,rfl⟩:=List.append_of_mem hb;have nd':=nd;unfold Nd at nd';rw [Zp,Zg,Yj,Zy] at nd';have n1:∀ c ∈ l1,c.i≠i:=λ c hc e=>nd'.2.2 c.i (Yc hc) b.i (Ze ..) (by rw [e,hi])
 have n2:∀ c ∈ l2,c.i≠i:=λ c hc e=>nd'.2.1.1 (by rw [hi,<- e]; exact Yc hc)
 have ix:((kv g (l1++b::l2)).findIdx? λ c=>decide (c.1=.inl i))=some l1.length:=by
  unfold kv;rw [List.findIdx?_map,List.findIdx?_append]
  have e1:(l1.findIdx? ((λ c:Key×Mt=>decide (c.1=Sum.inl i)) ∘ λ b=>((.inl b.i:Key),g b)))=none:=by
   rw [List.findIdx?_eq_none_iff];intro c hc;exact Zq λ z=>n1 c hc (by injection z)
  rw [e1,List.findIdx?_cons];have e2:((λ c:Key×Mt=>decide (c.1=Sum.inl i)) ∘ λ b:B8=>((.inl b.i:Key),g b)) b=true:=Zu (by show (Sum.inl b.i:Key)=Sum.inl i; rw [hi]);rw [e2];simp
 have gx:(kv g (l1++b::l2))[l1.length]?=some ((.inl b.i:Key),g b):=by
  unfold kv;rw [List.getElem?_map,List.getElem?_append_right (Zk _),Xs];rfl
 show (match (kv g (l1++b::l2)).findIdx? (λ c=>decide (c.1=.inl i)) with | none=>Mt.n .d (kv g (l1++b::l2)) | some j=>match (kv g (l1++b::l2))[j]? with | none=>Mt.n .d (kv g (l1++b::l2)) | some c=>.n .d ((kv g (l1++b::l2)).set j (c.1,Mt.put c.2 [] m2)))=_;simp only [ix,gx];congr 1;unfold kv;rw [Zp,Zg,Zp,Zg,List.set_append_right _ _ (by rw [Za]; exact Zk _),Za,Xs];congr 1
 ·refine Zt λ c hc=>?_
  rw [if_neg (n1 c hc)]
 ·show (_,Mt.put (g b) [] m2)::_=_
  rw [if_pos hi,eg];congr 1;refine Zt λ c hc=>?_
  rw [if_neg (n2 c hc)]
theorem kst {β:Type} {g:B8->β} {p:Pl} {i:Int} {b:B8} (nd:Nd M) (hb:fd M i=some b):(M.map λ c=>((.inl c.i:Key),if c.i=i then g { b with m:=p } else g c))=kv g (stB M i p):=by
 unfold kv stB;rw [Zw];refine Zt λ c hc=>?_
 show _=((Sum.inl (if c.i=i then { c with m:=p } else c).i:Key),g (if c.i=i then { c with m:=p } else c))
 by_cases e:c.i=i
 ·have hf:=g7 nd hc
  rw [e,hb] at hf;cases hf;rw [if_pos e,if_pos e]
 · rw [if_neg e,if_neg e]
theorem oU {β:Type} {g:B8->β} {p:Pl} {i:Int} {b:B8} (nd:Nd M) (hb:fd M i=some b) (hg:g { b with m:=p }=g b):kv g (stB M i p)=kv g M:=by
 rw [<- kst nd hb];refine Zt λ c hc=>?_
 by_cases e:c.i=i
 ·have hf:=g7 nd hc
  rw [e,hb] at hf;cases hf;rw [if_pos e,hg]
 · rw [if_neg e]
theorem xf {i:Int} {b:B8} (nd:Nd M) (hb:fd M i=some b):stB M i b.m=M:=by
 refine (Zt λ c hc=>?_).trans (List.map_id _)
 by_cases e:c.i=i
 ·have hf:=g7 nd hc
  rw [e,hb] at hf;cases hf;rw [if_pos e];rfl
 ·rw [if_neg e]
  rfl
theorem Gd {C:Addr} {p:Pl} {i:Int} {b:B8} (nd:Nd M) (hb:fd M i=some b) (hw:p.w=b.m.w) (ho:p.o=b.m.o):(trM C gv M).put ([]++[.k (.inr "marks")]++[.k (.inl i)]) (mkM { b with m:=p })=trM C gv (stB M i p):=by
 refine (show _=trG C (.s (.int gv)) (kM (λ b=>.s (.str b.n)) M) (kM (λ b=>.s (hD b.h)) M) (bxM M) ((kM mkM M).put [.k (.inl i)] (mkM { b with m:=p })) (kM wdM M) (kM roM M) from rfl).trans ?_
 rw [Ao nd hb (λ c=>by unfold mkM; rfl),kst nd hb];unfold trM bxM kM;rw [oU (p:=p) (g:=λ b=>Mt.s (.str b.n)) nd hb rfl,oU (p:=p) (g:=λ b=>Mt.s (hD b.h)) nd hb rfl,oU (p:=p) (g:=λ b=>lM (b.r.map .int)) nd hb rfl,oU (p:=p) (g:=wdM) nd hb (by unfold wdM; rw [hw]),oU (p:=p) (g:=roM) nd hb (by unfold roM; rw [ho])]
theorem J1:∀ (l:List Str) (w:Str),(iV (l.map λ x=>((.inr x:Key),D.bl true)) (.inr w)).isSome=decide (w ∈ l)
 | [],w=>rfl
 | x::l,w=>by
  have ih:=J1 l w;unfold iV at ih ⊢;rw [Zg,List.find?_cons]
  by_cases e:x=w
  ·rw [Zu (show (Sum.inr x:Key)=Sum.inr w by rw [e]),Zu (show w ∈ x::l by rw [e]; exact Ze ..)]
   rfl
  ·rw [Zq (show ¬ (Sum.inr x:Key)=Sum.inr w from λ z=>e (by injection z))]
   refine ih.trans ?_
   by_cases h:w ∈ l
   · rw [Zu h,Zu (Zd _ h)]
   · rw [Zq h,Zq (λ z=>(Zh.mp z).elim (λ z=>e z.symm) h)]
theorem kin (b:B8) (w:Str):Co (.str w) (mkD b)=some (.bl (decide (w ∈ b.m.k))):=by
 show some (D.bl (iV (b.m.k.map λ x=>((.inr x:Key),D.bl true)) (.inr w)).isSome)=_;rw [J1]
theorem Lm (l:List Str) (w:Str):((l.map λ x=>((.inr x:Key),Mt.s (.bl true))).any λ c=>decide (c.1=.inr w))=decide (w ∈ l):=by
 rw [Xf,decide_eq_true_iff,List.any_eq_true];constructor
 ·rintro ⟨c,hc,e⟩
  obtain ⟨x,hx,rfl⟩:=Z2.mp hc;have:=Xj e;injection this with this
  rw [<- this]; exact hx
 · exact λ h=>⟨_,Z2.mpr ⟨w,h,rfl⟩,Zu rfl⟩
def iF (p:Pl) (w:Str):Pl:=if w ∈ p.k then p else { p with k:=p.k++[w] }
theorem DZ {C:Addr} {r:List Sm} {i:Int} {b:B8} (hb:fd M i=some b):aT (.mu true (trM C gv M)::r) 0 ([]++[.k (.inr "marks")]++[.k (.inl i)])=some (mkM b):=by
 rw [ny rfl];refine (show _=(kM mkM M).get [.k (.inl i)] from rfl).trans ?_
 rw [nO,hb];rfl
theorem Bn {i:Int} {b:B8} {w:Str} (nd:Nd M) (hb:fd M i=some b) (hn:b7 w=true) (hk:b.m.k.length < 1000):eL t [.mu true (trM t.ag gv M),.shr (.int i),.shr (.str w)]=some (.shr (.bl (!decide (w ∈ b.m.k))),[.mu true (trM t.ag gv (stB M i (iF b.m w))),.no,.no]):=by
 unfold eL gI;have sn:∀ {r:List Sm},aQ (.mu true (trM t.ag gv M)::r)=.shr (trD t.ag gv M)::aQ r:=iA
 refine (gm (τ:=[.mu true (trM t.ag gv (stB M i (iF b.m w))),.shr (.int i),.shr (.str w)]) ?_).trans rfl;refine aG (d7 (τ:=[.mu true (trM t.ag gv M),.shr (.int i),.shr (.str w)]) (by rw [sn]; exact eU e_v (ah e_v aD) rfl (hZ hb) rfl)) ?_
 refine aG (d7 (eW (ah e_v aD) (ee hn) rfl)) ?_
 have et:=t_S (τ:=[.mu true (trM t.ag gv M),.shr (.int i),.shr (.str w)]) (g:=dT (dOp Co (aH 2) (dOp dz (dUn (xN t.ag "marks") (aH 0)) (aH 1)))) (by rw [sn]; exact bu (aJ e_v (aJ (iM e_v fK) e_v (bz hb)) (kin b w)));unfold iF
 by_cases h:w ∈ b.m.k
 ·rw [Zu h] at et
  rw [Zu h,if_pos h,xf nd hb];exact D1 (rY et (pF (v_N e_c)))
 ·rw [Zq h] at et
  rw [Zq h,if_neg h];refine aG (iH et rfl) ?_
  refine aG ((eR (v_N e_c) (sZ (kF bU rfl) e_v rfl rfl) e_v rfl rfl (DZ hb) (by rw [Za]; omega)).trans ?_) (pF (v_N e_c));rw [gV rfl]
  have e2:eZ (b.m.k.map λ x=>((.inr x:Key),Mt.s (.bl true))) (.inr w) (.s (.bl true))=(b.m.k++[w]).map λ x=>((.inr x:Key),Mt.s (.bl true)):=by
   unfold eZ;rw [Lm,Zq h,if_neg Zf,Zp];rfl
  rw [e2];have e3:=Gd (C:=t.ag) (gv:=gv) (p:={ b.m with k:=b.m.k++[w] }) nd hb rfl rfl;rw [show (Mt.n .d ((b.m.k++[w]).map λ x=>((.inr x:Key),Mt.s (.bl true))))=mkM { b with m:={ b.m with k:=b.m.k++[w] } } from rfl,e3];rfl
end
end N13
end
section
namespace N13
open PySem L2
theorem Ky (ns:List Int):∃ cs:List Int,oSl (scr ns) (some 3) (some 27)=some (.lst (cs.map .int))/\cs.length<=24:=by
 refine ⟨(ns.drop (HT.sIx ns.length 0 (some 3))).take (HT.sIx ns.length ns.length (some 27) - HT.sIx ns.length 0 (some 3)),?_,?_⟩
 ·show some (D.lst (cutD (ns.map .int) _ _))=_
  unfold cutD;rw [Za,<- List.map_drop,<- List.map_take]
 ·have e1:=HT.tQ ns.length 0 3
  have e2:=HT.tQ ns.length ns.length 27;rw [show ((3:Nat):Int)=3 from rfl] at e1;rw [show ((27:Nat):Int)=27 from rfl] at e2;rw [e1,e2,Xp,List.length_drop];omega
theorem Iv {px:DPx} {fv:DEm} {τ τ1:List Sm} {s:Sm} {i:Nat} {q:List Stp} {mv:Mt} {cs cs0:List (Key×Mt)} (h1:px τ=some (i,q)) (h2:aT τ i q=some (.n .l cs0)) (h3:fv τ=some (s,τ1)) (h4:toM s=some mv) (h5:aT τ1 i q=some (.n .l cs)) (h6:cs.length < 100000):xo px fv τ=some (.next (cR τ1 i q (.n .l (cs++[(.inl 0,mv)])))):=by
 unfold xo;rw [h1];show (match aT τ i q with | some (.n .l _)=>(fv τ).bind _ | _=>none)=_;rw [h2];show (fv τ).bind _=_;rw [h3];show (toM s).bind _=_;rw [h4];show (match aT τ1 i q with | some (.n .l cs)=>if cs.length < 100000 then _ else none | _=>none)=_;rw [h5];exact if_pos h6
section
variable {gv i x p:Int} {M:List B8} {b:B8} {nm nn:Str} {j:Nat} {ms:List Int}
structure LOk (nm:Str) (j:Nat) (gv:Int) (M:List B8) (ms:List Int):Prop where
 m:MOk gv M
 hd:Hd M
 lv:gv=M.length
 lm:M.length<=1+j
 pl:∀ b ∈ M,(b.m.k=[]/\b.i ∉ ms)\/(b.m.k=[nm]/\b.i ∈ ms)
 ml:ms.length<=j
 mb:∀ x ∈ ms,x < gv
 al:∀ x:Int,0<=x->x < gv->x ∈ M.map B8.i
 nk:∀ b ∈ M,b.n.length<=100
theorem zo {z:Str} (h:b7 z=true):z.length<=100:=by
 unfold b7 at h;rw [Z8,Z8] at h;have:=Xj h.1.2;omega
def nmP (b:B8):Str×Pl:=(b.n,b.m)
theorem Ip {β:Type} (g:B8->β) (M:List B8) (i j h:Int) (rj rh:List Int) (hg:∀ (b:B8) r,g { b with r:=r }=g b) (hh:∀ (b:B8),g { b with h:=some h }=g b):kv g (mvB M i j h rj rh)=kv g M:=by
 unfold mvB;rw [oP g _ _ _ hh,lN g _ _ _ (λ b=>hg b _),lN g _ _ _ (λ b=>hg b _)]
theorem J2 {β:Type} {g:B8->β} {M N:List B8} (h:kv g M=kv g N):M.map B8.i=N.map B8.i:=by
 have:=Z7 (List.map λ x:Key×β=>match x.1 with | .inl i=>i | .inr _=>0) h;unfold kv at this;rw [Zw,Zw] at this;exact this
theorem FV {M N:List B8} (h:kv nmP M=kv nmP N):∀ d ∈ M,∃ c ∈ N,c.i=d.i/\c.n=d.n/\c.m=d.m:=λ d hd=>by
 have:((.inl d.i:Key),nmP d) ∈ kv nmP M:=Z2.mpr ⟨d,hd,rfl⟩;rw [h] at this;obtain ⟨c,hc,e⟩:=Z2.mp this;have e':=Prod.mk.inj e;have e2:=Prod.mk.inj e'.2;exact ⟨c,hc,Sum.inl.inj e'.1,e2.1,e2.2⟩
theorem Dn {β:Type} (g:B8->β) {x p:Int} {nn:Str} (hg:∀ (b:B8) r,g { b with r:=r }=g b):kv g (fX M x b p gv nn)=kv g (M++[⟨gv,some x,nn,[],b6⟩]):=by
 unfold fX;exact lN g _ _ _ (λ b=>hg b _)
theorem D7 {i jj h:Int} {rj rh:List Int} (l:LOk nm j gv M ms) (mo:MOk gv (mvB M i jj h rj rh)):LOk nm (j+1) gv (mvB M i jj h rj rh) ms:=by
 have hk:=Ip nmP M i jj h rj rh (λ _ _=>rfl) (λ _=>rfl);have ln:=Ec M i jj h rj rh;refine ⟨mo,IK l.hd,by rw [ln]; exact l.lv,by rw [ln]; exact Nat.le_succ_of_le l.lm,λ d hd=>?_,Nat.le_succ_of_le l.ml,l.mb,λ x h0 h1=>?_,λ d hd=>?_⟩
 ·obtain ⟨c,hc,e1,_,e2⟩:=FV hk d hd
  rw [<- e1,<- e2];exact l.pl c hc
 · rw [J2 hk]; exact l.al x h0 h1
 ·obtain ⟨c,hc,_,e2,_⟩:=FV hk d hd
  rw [<- e2];exact l.nk c hc
theorem Bq (l:LOk nm j gv M ms) (hn:b7 nn=true) (m1:MOk (gv+1) (fX M x b p gv nn)):LOk nm (j+1) (gv+1) (fX M x b p gv nn) ms:=by
 have hk:=Dn (M:=M) (b:=b) (gv:=gv) nmP (x:=x) (p:=p) (nn:=nn) (λ _ _=>rfl);have hi:=J2 hk
 have ln:(fX M x b p gv nn).length=M.length+1:=by
  have:=Z7 List.length hi;rw [Za,Za,Z3] at this;exact this
 have lv:=l.lv;have lm:=l.lm;refine ⟨m1,Eo l.hd,by rw [ln]; omega,by rw [ln]; omega,λ d hd=>?_,Nat.le_succ_of_le l.ml,λ y hy=>by have:=l.mb y hy; omega,λ y h0 h1=>?_,λ d hd=>?_⟩
 ·obtain ⟨c,hc,e1,_,e2⟩:=FV hk d hd
  rw [<- e1,<- e2];rcases Zi.mp hc with q | q
  · exact l.pl c q
  ·rw [Zo.mp q]
   exact .inl ⟨rfl,λ q=>by have:=l.mb gv q; omega⟩
 ·rw [hi,Zp]
  by_cases e:y=gv
  · rw [e]; exact Zc _ (Zo.mpr rfl)
  · exact Zn _ (l.al y h0 (by omega))
 ·obtain ⟨c,hc,_,e2,_⟩:=FV hk d hd
  rw [<- e2];rcases Zi.mp hc with q | q
  · exact l.nk c q
  · rw [Zo.mp q]; exact zo hn
theorem xY (l:LOk nm (j+1) gv M ms) (hm:ms.length<=j) (hb:fd M x=some b) (hx:x ∉ ms):LOk nm (j+1) gv (stB M x (iF b.m nm)) (ms++[x]):=by
 have bk:b.m.k=[]:=by
  rcases l.pl b (aI hb) with q | q
  · exact q.1
  · rw [gA hb] at q; exact absurd q.2 hx
 have ek:(iF b.m nm).k=[nm]:=by
  unfold iF;rw [if_neg (by rw [bk]; exact Yd)];show b.m.k++[nm]=_;rw [bk]; rfl
 refine ⟨DX l.m x _,?_,?_,?_,λ d hd=>?_,by rw [Z3]; exact Nat.succ_le_succ hm,λ y hy=>?_,?_,λ d hd=>?_⟩
 ·obtain ⟨r,T,rfl,e⟩:=l.hd
  refine ⟨_,_,rfl,?_⟩;show (if r.i=x then { r with m:=_ } else r).i=0;split <;> exact e
 · unfold stB; rw [Za]; exact l.lv
 · unfold stB; rw [Za]; exact l.lm
 ·unfold stB at hd
  obtain ⟨c,hc,rfl⟩:=Z2.mp hd;split
  ·rename_i z
   exact .inr ⟨ek,Zc _ (by show c.i ∈ [x]; rw [z]; exact Zo.mpr rfl)⟩
  ·rename_i z
   rcases l.pl c hc with q | q
   · exact .inl ⟨q.1,λ y=>(Zi.mp y).elim q.2 λ y=>z (Zo.mp y)⟩
   · exact .inr ⟨q.1,Zn _ q.2⟩
 ·rcases Zi.mp hy with q | q
  · exact l.mb y q
  · rw [Zo.mp q,<- gA hb]; exact (l.m.lt b (aI hb)).2
 · rw [CW]; exact l.al
 ·unfold stB at hd
  obtain ⟨c,hc,rfl⟩:=Z2.mp hd;split <;> exact l.nk c hc
theorem Lj {nm:Str} (hn:b7 nm=true):LOk nm 0 1 [⟨0,none,nm,[],b6⟩] []:=by
 refine ⟨⟨?_,λ b hb=>?_,⟨_,rfl,rfl⟩,λ b hb h0=>?_,λ b hb c hc=>?_,λ b hb=>?_,λ b hb=>?_⟩,⟨_,_,rfl,rfl⟩,rfl,Zk _,λ b hb=>?_,Zk _,nofun,λ x h0 h1=>?_,λ b hb=>by rw [Zo.mp hb]; exact zo hn⟩
 ·unfold Nd
  simp
 ·rw [Zo.mp hb]
  exact ⟨Int.le_refl _,by show (0:Int) < 1; omega⟩
 ·rw [Zo.mp hb] at h0
  exact absurd rfl h0
 ·rw [Zo.mp hb] at hc
  exact nomatch hc
 ·rw [Zo.mp hb]
  exact .nil
 ·rw [Zo.mp hb]
  exact ⟨0,.top rfl rfl,by omega⟩
 ·rw [Zo.mp hb]
  exact .inl ⟨rfl,Yd⟩
 ·have:x=0:=by omega
  rw [this]; exact Zo.mpr rfl
end
end N13
end
section
namespace N13
open PySem L2
theorem pq (i j:Int):oGt (.int i) (.int j)=some (.bl (decide (j < i))):=rfl
section
variable {t:Adr}
abbrev sL (t:Adr) (ns:List Int) (nm:Str) (gv:Int) (M:List B8) (ms:List Int) (x6 x7 x8 x9 x10 x11 x12 x13 x14 x15 x16:Sm):List Sm:=[.shr (scr ns),.shr (.str nm),.mu false (trM t.ag gv M),.mu false (bxM M),.mu false (faM M),.mu false (lM (ms.map .int)),x6,x7,x8,x9,x10,x11,x12,x13,x14,x15,x16]
noncomputable def B5 (t:Adr) (e1 e2 e3:List Sm->Option Am):DSm:=(tR (tNt (tE (eC (fU t) (cP (qX (cD 2)) (cP (qX (cD 3)) (cP (qX (cD 4)) (cP e1 (cP e2 (cP e3 yI))))))))) (mY (eN (dC (D.bl false)))) kT)
noncomputable def Bo (t:Adr):DSm:=(tR (tS (dT (dOp oEq (dOp oMod (aH 7) (dC (D.int 3))) (dC (D.int 1))))) (gP (mZ (eM t.ag "mark" (eL t) (cD 2) (cP (qN (aH 8)) (cP (qN (aH 1)) yI)))) (xo (cD 5) (eN (aH 8)))) kT)
noncomputable def GI (t:Adr):DSm:=(gP (mX 8 (eS (gB kJ (aK (aH 3) d8)))) (gP (B5 t (qN (aH 8)) (qN (aH 7)) (qN (aH 6))) (Bo t)))
noncomputable def Iq (t:Adr):DSm:=(tR (tNt (tE (eC (dJ t) (cP (qX (cD 2)) (cP (qX (cD 3)) (cP (qX (cD 4)) (cP (qN (aH 7)) (cP (qN (dOp qv (dC (D.int 40)) (aH 6))) yI)))))))) (mY (eN (dC (D.bl false)))) kT)
noncomputable def xc (t:Adr):DSm:=(tR (tS (dOr (dT (dOp oGt (dOp oMod (dFn cW (aK (aH 7) (aK (dOp qv (dC (D.int 900)) (aH 6)) d8))) (dC (D.int 4))) (dC (D.int 0)))) (dT (dOp oLt (gB kJ (aK (aH 3) d8)) (dC (D.int 3)))))) (GI t) (Iq t))
variable {ns:List Int} {nm:Str} {gv:Int} {M:List B8} {ms:List Int} {k:Int} {j:Nat} {x6 x7 x8 x9 x10 x11 x12 x13 x14 x15 x16:Sm}
theorem nE:gB kJ (aK (aH 3) d8) (aQ (sL t ns nm gv M ms x6 x7 x8 x9 x10 x11 x12 x13 x14 x15 x16))=some (.int (M.length:Int)):=bC (ah (fV (b:=false) rfl (ja M)) aD) (zB M)
theorem ue (l:LOk nm j gv M ms) (hj:j < 30) {e1 e2 e3:List Sm->Option Am} {w:Int} (w0:0<=w) (w1:w<=900) (h1:e1 (sL t ns nm gv M ms x6 x7 x8 x9 x10 x11 x12 x13 x14 x15 x16)=some (.v (.int gv))) (h2:e2 (sL t ns nm gv M ms x6 x7 x8 x9 x10 x11 x12 x13 x14 x15 x16)=some (.v (.int k))) (h3:e3 (sL t ns nm gv M ms x6 x7 x8 x9 x10 x11 x12 x13 x14 x15 x16)=some (.v (.int w))) :
  ∃ M',LOk nm (j+1) (gv+1) M' ms/\B5 t e1 e2 e3 (sL t ns nm gv M ms x6 x7 x8 x9 x10 x11 x12 x13 x14 x15 x16)=some (.next (sL t ns nm (gv+1) M' ms x6 x7 x8 x9 x10 x11 x12 x13 x14 x15 x16)):=by
 have lm:=l.lm;obtain ⟨x,bb,p,nn,dp,hb,ch,h12,hn,e⟩:=Bp (t:=t) (c:=k) (w:=w) l.m (by omega) w0 w1;have m1:=Bk l.m (p:=p) (nm:=nn) hb ch h12;refine ⟨fX M x bb p gv nn,Bq l hn m1,?_⟩;unfold B5;exact iH (Jl (b:=true) (t_E (v_C (as:=[.p 2 [],.p 3 [],.p 4 [],.v (.int gv),.v (.int k),.v (.int w)]) (bF (q_X bU rfl) (bF (q_X bU rfl) (bF (q_X bU rfl) (bF h1 (bF h2 (bF h3 rfl)))))) rfl e rfl))) rfl
theorem uS (l:LOk nm (j+1) gv M ms) (hm:ms.length<=j) (hj:j < 30) (hn:b7 nm=true) {g:Int} {b:B8} (hb:fd M g=some b) (hg:g ∉ ms):∃ M' ms',LOk nm (j+1) gv M' ms'/\Bo t (sL t ns nm gv M ms x6 (.shr (.int k)) (.shr (.int g)) x9 x10 x11 x12 x13 x14 x15 x16)=some (.next (sL t ns nm gv M' ms' x6 (.shr (.int k)) (.shr (.int g)) x9 x10 x11 x12 x13 x14 x15 x16)):=by
 have et:tS (dT (dOp oEq (dOp oMod (aH 7) (dC (D.int 3))) (dC (D.int 1)))) (sL t ns nm gv M ms x6 (.shr (.int k)) (.shr (.int g)) x9 x10 x11 x12 x13 x14 x15 x16)=some (decide (k % 3=1),sL t ns nm gv M ms x6 (.shr (.int k)) (.shr (.int g)) x9 x10 x11 x12 x13 x14 x15 x16):=t_S (bu (aJ (aJ (ak rfl) e_c (a9 (by decide))) e_c (gr _ _)));unfold Bo
 by_cases h:k % 3=1
 ·rw [Zu h] at et
  have bl:b.m.k.length < 1000:=by
   rcases l.pl b (aI hb) with q | q
   · rw [q.1]; decide
   · rw [q.1]; exact Zb rfl
  refine ⟨_,_,xY l hm hb hg,rY et ?_⟩;refine aG (τ':=sL t ns nm gv (stB M g (iF b.m nm)) ms x6 (.shr (.int k)) (.shr (.int g)) x9 x10 x11 x12 x13 x14 x15 x16) ?_ ?_
  ·have bs:bxM (stB M g (iF b.m nm))=bxM M:=Z7 (Mt.n .d) (oU (p:=iF b.m nm) l.m.nd hb rfl)
   have fs:faM (stB M g (iF b.m nm))=faM M:=Z7 (Mt.n .d) (oU (p:=iF b.m nm) l.m.nd hb rfl);show _=some (wX.next [_,_,_,.mu false (bxM (stB M g (iF b.m nm))),.mu false (faM (stB M g (iF b.m nm))),_,_,_,_,_,_,_,_,_,_,_,_]);rw [bs,fs];unfold mZ;rw [v_M (C:=t.ag) (i:=2) (q:=[]) (as:=[.v (.int g),.v (.str nm)]) bU rfl rfl (bF (q_N (ak rfl)) (bF (q_N (ak rfl)) rfl)) rfl (Bn l.m.nd hb hn bl) rfl];rfl
  ·refine (Iv bU rfl (v_N (ak rfl)) rfl rfl (by rw [Za,Za]; omega)).trans ?_
   rw [gV rfl];refine Z7 (λ z=>some (wX.next (List.set _ 5 (Sm.mu false z)))) ?_
   show Mt.n .l _=lM _;unfold lM;rw [Zp,Zp];rfl
 ·rw [Zq h] at et
  exact ⟨M,ms,l,iH et rfl⟩
theorem xt (l:LOk nm j gv M ms) (hj:j < 24) (hn:b7 nm=true):∃ gv' M' ms' y8,LOk nm (j+1) gv' M' ms'/\GI t (sL t ns nm gv M ms (.shr (.int (j:Int))) (.shr (.int k)) x8 x9 x10 x11 x12 x13 x14 x15 x16)=some (.next (sL t ns nm gv' M' ms' (.shr (.int (j:Int))) (.shr (.int k)) y8 x9 x10 x11 x12 x13 x14 x15 x16)):=by
 obtain ⟨M1,l1,e1⟩:=ue (t:=t) (ns:=ns) (k:=k) (x6:=.shr (.int (j:Int))) (x7:=.shr (.int k)) (x8:=.shr (.int gv)) (x9:=x9) (x10:=x10) (x11:=x11) (x12:=x12) (x13:=x13) (x14:=x14) (x15:=x15) (x16:=x16) l (by omega) (e1:=qN (aH 8)) (e2:=qN (aH 7)) (e3:=qN (aH 6)) (w:=(j:Int)) (by omega) (by omega) rfl rfl rfl;have hx:gv ∉ ms:=λ q=>by have:=l.mb gv q; omega
 have g0:0<=gv:=by rw [l.lv]; omega
 obtain ⟨b,hbm,ebi⟩:=Z2.mp (l1.al gv g0 (by omega));have hb:fd M1 gv=some b:=by rw [<- ebi]; exact g7 l1.m.nd hbm
 obtain ⟨M2,ms2,l2,e2⟩:=uS (t:=t) (ns:=ns) (k:=k) (x6:=.shr (.int (j:Int))) (x9:=x9) (x10:=x10) (x11:=x11) (x12:=x12) (x13:=x13) (x14:=x14) (x15:=x15) (x16:=x16) l1 l.ml (by omega) hn hb hx;refine ⟨_,M2,ms2,.shr (.int gv),l2,?_⟩;unfold GI;refine aG (τ':=sL t ns nm gv M ms (.shr (.int (j:Int))) (.shr (.int k)) (.shr (.int gv)) x9 x10 x11 x12 x13 x14 x15 x16) ((bS (v_S (d:=.int gv) (by rw [nE,<- l.lv]) rfl) (Zb rfl) rfl).trans rfl) ?_
 exact aG e1 e2
theorem xQ (l:LOk nm j gv M ms) (hj:j < 24) (l2:2<=M.length):∃ M',LOk nm (j+1) gv M' ms/\Iq t (sL t ns nm gv M ms (.shr (.int (j:Int))) (.shr (.int k)) x8 x9 x10 x11 x12 x13 x14 x15 x16)=some (.next (sL t ns nm gv M' ms (.shr (.int (j:Int))) (.shr (.int k)) x8 x9 x10 x11 x12 x13 x14 x15 x16)):=by
 have lm:=l.lm;obtain ⟨i,jj,h,rj,rh,mo,e⟩:=uY (t:=t) (c:=k) (w:=40+(j:Int)) l.m l.hd (by omega) l2 (by omega) (by omega);refine ⟨mvB M i jj h rj rh,D7 l mo,?_⟩;unfold Iq;exact iH (Jl (b:=true) (t_E (v_C (as:=[.p 2 [],.p 3 [],.p 4 [],.v (.int k),.v (.int (40+(j:Int)))]) (bF (q_X bU rfl) (bF (q_X bU rfl) (bF (q_X bU rfl) (bF (q_N (ak rfl)) (bF (q_N (aJ e_c (ak rfl) (aY _ _))) rfl))))) rfl e rfl))) rfl
def Ci (t:Adr) (ns:List Int) (nm:Str) (j:Nat) (τ:List Sm):Prop:=∃ gv M ms x6 x7 x8,LOk nm j gv M ms/\τ=sL t ns nm gv M ms x6 x7 x8 .no .no .no .no .no .no .no .no
theorem z6 (hj:j < 24) (hn:b7 nm=true) {c:Int} {τ:List Sm} (h:Ci t ns nm j τ):∃ τ2,(gTm 2 (iJ (gNm 6) (iJ (gNm 7) qG)) (.tup [.int (j:Int),.int c]) τ).bind (xc t)=some (.next τ2)/\Ci t ns nm (j+1) τ2:=by
 obtain ⟨gv,M,ms,x6,x7,x8,l,rfl⟩:=h;obtain ⟨q,eq,q0,q1⟩:=md c (w:=900+(j:Int)) (by omega) (by omega);show ∃ τ2,xc t (sL t ns nm gv M ms (.shr (.int (j:Int))) (.shr (.int c)) x8 .no .no .no .no .no .no .no .no)=some (.next τ2)/\_
 have et:tS (dOr (dT (dOp oGt (dOp oMod (dFn cW (aK (aH 7) (aK (dOp qv (dC (D.int 900)) (aH 6)) d8))) (dC (D.int 4))) (dC (D.int 0)))) (dT (dOp oLt (gB kJ (aK (aH 3) d8)) (dC (D.int 3))))) (sL t ns nm gv M ms (.shr (.int (j:Int))) (.shr (.int c)) x8 .no .no .no .no .no .no .no .no)=some (decide (q % 4 > 0)||decide ((M.length:Int) < 3),sL t ns nm gv M ms (.shr (.int (j:Int))) (.shr (.int c)) x8 .no .no .no .no .no .no .no .no) :=
  t_S (zX (bu (aJ (aJ (eW (ah (ak rfl) (ah (aJ e_c (ak rfl) (aY _ _)) aD)) eq rfl) e_c (a9 (by decide))) e_c (pq _ _))) (bu (aJ nE e_c (l8 _ _))))
 unfold xc
 cases hb:(decide (q % 4 > 0)||decide ((M.length:Int) < 3)) with
 | true =>
  rw [hb] at et;obtain ⟨gv',M',ms',y8,l',e⟩:=xt (t:=t) (ns:=ns) (k:=c) (x8:=x8) (x9:=.no) (x10:=.no) (x11:=.no) (x12:=.no) (x13:=.no) (x14:=.no) (x15:=.no) (x16:=.no) l hj hn;exact ⟨_,rY et e,_,_,_,_,_,_,l',rfl⟩
 | false =>
  rw [hb] at et
  obtain ⟨M',l',e⟩:=xQ (t:=t) (ns:=ns) (k:=c) (x8:=x8) (x9:=.no) (x10:=.no) (x11:=.no) (x12:=.no) (x13:=.no) (x14:=.no) (x15:=.no) (x16:=.no) l hj (by
   have:=(Bool.or_eq_false_iff.mp hb).2;have:=of_decide_eq_false this
   omega)
  exact ⟨_,iH et e,_,_,_,_,_,_,l',rfl⟩
end
end N13
end
section
local macro_rules | `(tactic| walk_at "v")=>`(tactic| first | exact .inl rfl | exact .inr rfl | assumption)
local macro_rules | `(tactic| walk_at "w")=>`(tactic| first | exact .inl rfl | exact .inr (.inl rfl) | exact .inr (.inr rfl))
namespace N13
open PySem L2 PySem.W PyProof.Rows
section
variable {P:Program} {w:World} {K:W.Frag} {mg:Str->Option Value} {base:Heap} {t:Adr}
def wkC (P:Program) (w:World) (K:W.Frag) (mg:Str->Option Value) (base:Heap) (k:Nat) (q:Addr):Sp:=λ vs H Q E=>∀ (A:Around) (outer:List Env) (s:Shared) (us:List Value),cg k A->rE P w K mg base A outer s H->a7 vs us->codeAny (model P w) A (.call (.ref q) ⟨us,[]⟩) (CR CX0 outer P w H s Q E) s
theorem yM {k n:Nat} (q:Addr):Ck P w K mg base CX0 k q n (wkC P w K mg base k q):=λ A outer s H us vs Q E hr e0 r hl h=>h A outer s us hr e0 r
abbrev iK (x:Int):V:=.int x
abbrev iD (x:Int):D:=.int x
def Kp (P:Program) (w:World) (K:W.Frag) (mg:Str->Option Value) (base:Heap) (q:Addr) (H:Hp) (p:Int->Bool) (x:Int):Prop:=∀ H' (Q:VK),ba H H'->(∀ H2,ba H' H2->Q (.bl (p x)) H2)->wkC P w K mg base 3 q [.int x] H' Q E0
def Gx (t:Adr) (P:Program) (w:World) (mg:Str->Option Value) (base:Heap) (K:W.Frag):Sp:=λ vs H Q _=>∃ (tv:V) (n:Int) (q:Addr) (ob:Obj) (fd:FuncData) (d:D) (ns:List Int) (p:Int->Bool),vs=[tv,.int n,.ref q]/\Obj.data ob=.func fd/\H q=some (.ext (FnAt q ob))/\Rp K H tv d/\cz t [d,.int n]=some (.own (.lst (ns.map iD)))/\ns.length < 1000/\(∀ x ∈ n::ns,Kp P w K mg base q H p x) /\
 ∀ H' a,ba H H'->H' a=none->Q (.ref a) (upd H' a (.lst (((n::ns).filter p).map iK)))
theorem wa {it:DI} {σ:L2.St} {τ:List Sl} {H0 H:Hp} {xs:List Int} {q:Addr} {ob:Obj} {fd:FuncData} {p:Int->Bool} {Q:VK} {fp:List Addr} (st:StR K H0 H H σ τ fp) (e:it τ=some (xs.map iD)) (hl:xs.length<=1000) (hσ:σ[2]?=some (some (.ref q))) (ho:Obj.data ob=.func fd) (hq:H q=some (.ext (FnAt q ob)))
  (kp:∀ x ∈ xs,Kp P w K mg base q H p x) (k:∀ H' a,ba H H'->H' a=none->Q (.ref a) (upd H' a (.lst ((xs.filter p).map iK)))) :
  p7 (rdI K it) (tB (yP 1 1 (wkC P w K mg base 3) E0 (iw (oS 0) yO))) (oS 0) [("keep",2)] σ H Q:=by
 refine ⟨H0,H,τ,fp,_,st,.refl _,e,λ J Hs1 H1 g1 hJ=>?_⟩;refine ⟨λ i m ys H'=>m=xs.length - i/\i<=xs.length/\ys=((xs.take i).filter p).map iK/\∃ Hs2,Ext Hs1 H1 Hs2 H',⟨xs.length,rfl,Yb _,rfl,Hs1,.refl g1.sh⟩,?_⟩
 rintro i m ys H2 ⟨rfl,hi,rfl,Hs2,g2⟩
 obtain ⟨hgo,hstop⟩:=hJ Hs2 H2 g2.ss g2.sh
 have ly:(((xs.take i).filter p).map iK).length<=i:=by
  rw [Za];exact Z5 (Y5 _ _) (List.length_take_le _ _)
 by_cases hlt:i < xs.length
 ·obtain ⟨go,yl⟩:=hgo i (.int xs[i]) (by rw [List.getElem?_map,List.getElem?_eq_getElem hlt]; rfl)
  refine .inr ⟨go,le5 (by omega),λ v H3 y=>?_⟩;obtain ⟨Hs3,g3,rv⟩:=yl v H3 y;cases rv;have sa:ba H H3:=(g1.hh.trans g2.hh).trans g3.hh;have et:xs.take (i+1)=xs.take i++[xs[i]]:=by rw [List.take_add_one,List.getElem?_eq_getElem hlt]; rfl
  refine ⟨q,ob,fd,by show (([("keep",2)]:List (Str×Nat)).map λ p=>(σ[p.2]?).join)[0]?=_; rw [Zg,hσ]; rfl,ho,_,rfl,sa _ _ hq,rfl,kp _ (Y2 hlt) H3 _ sa λ H4 g4=>⟨_,rfl,?_⟩⟩;have g5:Ext Hs3 H3 Hs3 H4:=⟨.refl _,g3.sh.trans g4,g4,λ _ h _=>h⟩
  cases hp:p xs[i] with
  | true=>exact zD ⟨_,rfl,xs.length - (i+1),by omega,rfl,hlt,by rw [et,List.filter_append,List.filter_cons,hp]; simp,Hs3,(g2.trans g3).trans g5⟩
  | false=>exact El ⟨xs.length - (i+1),by omega,rfl,hlt,by rw [et,List.filter_append,List.filter_cons,hp]; simp,Hs3,(g2.trans g3).trans g5⟩
 ·have e0:i=xs.length:=by omega
  subst e0;refine .inl ⟨hstop _ (by rw [Za]; exact Zk _),pH (by omega),λ a ha=>?_⟩;have:=k H2 a (g1.hh.trans g2.hh) ha;rw [List.take_length];exact this
theorem kW (T:Txt K mg t):Go P w K mg base 4 "gathered" (Gx t P w mg base K):=by
 obtain ⟨a0,d0,F,m0,bi⟩:=T.lq;refine ⟨a0,d0,_,m0,F.kp,bi,F.ok (N:=["tree","box","keep"]) ⟨rfl,rfl,rfl,by decide +kernel,rfl,by decide +kernel,by decide +kernel⟩ (λ vs H Q E h=>by obtain ⟨_,_,_,_,_,_,_,_,rfl,_⟩:=h; rfl) λ cdv A outer s H vs Q E hr h=>?_⟩;obtain ⟨tv,n,q,ob,fd,d,ns,p,rfl,ho,hq,rt,eb,ln,kp,k⟩:=h;refine ⟨_,br (dG (l0 rfl (ckN [("keep",2)]) (bI (aN (wA (aN (bV (cF (aa 1)))) (aN (fh (nt T) hr (dB (aa 0) (aa 1))))))).out (λ _ _ _ _=>qk (qq (spq:=wkC P w K mg base 3) (n:=1) 1 (λ q=>yM q) hr rfl (by walk_at "w") iE (au (pv 0) aV))) (λ _ _ _ _=>pv 0))),?_⟩;refine wa (xs:=n::ns) (H0:=H) (.shr rt (.shr (.int n) (.no .nil))) ?_ (by rw [Zv]; omega) rfl ho hq kp k;have h1:([D.int n]:List D).length+(ns.map iD).length<=100000:=by rw [Za]; exact Z5 (Nat.add_le_add_left (Yk ln) 1) (Zb rfl)
 simp only [Cp,ES,FY,aK,aH,d8,BY,slO,Option.bind,Option.map,List.getElem?_cons_zero,List.getElem?_cons_succ,Zv,Y0,eb];simp only [Zv,Y0] at h1;rw [if_pos (Zb rfl:0+1<=100000)];simp only [Zv,Y0,if_pos h1];rfl
end
end N13
end
section
namespace N13
open PySem L2 PySem.W PyProof.Rows
theorem C3 {H:Hp} {c1 c2:Addr} {o1 o2:HO} (z1:H c1=none) (z2:H c2=none):ba H (upd (upd H c1 o1) c2 o2):=λ b u e=>by
 rw [af (λ z=>by rw [z,z2] at e; cases e),af (λ z=>by rw [z,z1] at e; cases e)];exact e
theorem xh {H H':Hp} {c1 c2:Addr} (z1:H c1=none) (z2:H c2=none) (g:ba H H'):ba H (iN H' c1 c2):=λ b u e=>by
 rw [cN (λ z=>by rw [z,z1] at e; cases e) (λ z=>by rw [z,z2] at e; cases e)];exact g _ _ e
theorem rM {H H2:Hp} {c1 c2:Addr} {o1 o2:HO} (e1:H c1=some o1) (e2:H c2=some o2) (g:ba (iN H c1 c2) H2):ba H (upd (upd H2 c1 o1) c2 o2):=λ b u e=>by
 by_cases h2:b=c2
 · subst h2; rw [ai,<- e2]; exact e
 rw [af h2]
 by_cases h1:b=c1
 · subst h1; rw [ai,<- e1]; exact e
 rw [af h1];exact g _ _ ((cN h1 h2).trans e)
section
variable {P:Program} {w:World} {K:W.Frag} {mg:Str->Option Value} {base:Heap} {t:Adr}
variable {px n1 n2 qual:Str} {params:Arguments} {body:Expr} {scope:Scope} {bD:List (Str×Addr)} {pm ctv:Value} {q c' c1 c2:Addr} {f:DE} {H1:Hp} {v1 v2:V} {d1 d2:D} {o1 o2:Obj} {p:Int->Bool} {x:Int}
theorem IA (S:iu [px,n1,n2] [px] n1 n2 scope) (C:sT bD n1 n2 c1 c2)
  (hq:H1 q=some (.ext (FnAt q (yf qual params body scope bD pm c' ctv)))) (hc:H1 c'=some (.ext (sU c' qual))) (z1:H1 c1=none) (z2:H1 c2=none)
  (hb:∀ s u,BindsTo s (fnE qual params body scope bD pm (.ref c') ctv) ⟨[u],[]⟩ [(px,u)])
  (hbody:∀ (A:Around) (outer:List Env) (s:Shared) (H':Hp),cg 2 (A.deeper (envX qual scope s.heap.objs.size q (.ref c') bD))->PEd (ka CX0 P w K mg base [px,n1,n2] qual scope q (.ref c') bD A outer s H' (iN H' c1 c2) E0) body f)
  (r1:Rp K H1 v1 d1) (r2:Rp K H1 v2 d2) (e:f [.shr (.int x),.shr d1,.shr d2]=some (.bl (p x))) :
  Kp P w K mg base q (upd (upd H1 c1 (.ext (eX c1 o1 v1))) c2 (.ext (eX c2 o2 v2))) p x:=by
 intro H' Q sa k A outer s us hr e0 r
 cases r with
 | cons rx r =>
 cases r;have sa1:ba H1 H':=(C3 z1 z2).trans sa;have h1:H' c1=some (.ext (eX c1 o1 v1)):=sa _ _ ((af C.ne).trans ai);have h2:H' c2=some (.ext (eX c2 o2 v2)):=sa _ _ ai;refine yd (k:=2) (vs:=[.int x]) S C hr e0 (sa1 _ _ hq) (sa1 _ _ hc) h1 h2 (hb _ _) rfl (.cons rx .nil) λ hr'=>⟨_,hbody A outer s H' hr',?_⟩
 refine ⟨H1,H1,[.shr (.int x),.shr d1,.shr d2],[],_,.shr (.int x) (.shr r1 (.shr r2 .nil)),xh z1 z2 sa1,e,λ v Hs' H2 g rv m1 m2=>?_⟩;cases rv;exact k _ (rM h1 h2 g.hh)
theorem IB (S:jw [px] scope) (hq:H1 q=some (.ext (FnAt q (yf qual params body scope [] pm c' ctv)))) (hc:H1 c'=some (.ext (sU c' qual)))
  (hb:∀ s u,BindsTo s (fnE qual params body scope [] pm (.ref c') ctv) ⟨[u],[]⟩ [(px,u)])
  (hbody:∀ (A:Around) (outer:List Env) (s:Shared) (H':Hp),PEd (ka CX0 P w K mg base [px] qual scope q (.ref c') [] A outer s H' H' E0) body f)
  (e:f [.shr (.int x)]=some (.bl (p x))):Kp P w K mg base q H1 p x:=by
 intro H' Q sa k A outer s us hr e0 r
 cases r with
 | cons rx r =>
 cases r;refine ye (k:=2) (vs:=[.int x]) S hr e0 (sa _ _ hq) (sa _ _ hc) (hb _ _) rfl (.cons rx .nil) λ hr'=>⟨_,hbody A outer s H',?_⟩
 refine ⟨H',H',[.shr (.int x)],[],_,.shr (.int x) .nil,.refl _,e,λ v Hs' H2 g rv=>?_⟩;cases rv;exact k _ g.hh
end
end N13
end
section
namespace N13
open PySem L2 PySem.W PyProof.Rows
def lsH (H:Hp) (Pt:Addr):Hp:=λ b=>if b=Pt then none else H b
def Fr (Pt:Addr) (H H':Hp):Prop:=∀ b u,b≠Pt->H b=some u->H' b=some u
theorem Fr.refl {Pt:Addr} {H:Hp}:Fr Pt H H:=λ _ _ _ h=>h
theorem Fr.trans {Pt:Addr} {H H' H'':Hp} (h:Fr Pt H H') (g:Fr Pt H' H''):Fr Pt H H'':=λ b u n e=>g b u n (h b u n e)
theorem Fr.ls {Pt:Addr} {H H':Hp} (h:Fr Pt H H'):ba (lsH H Pt) (lsH H' Pt):=λ b u e=>by
 unfold lsH at e ⊢;split at e
 · cases e
 · rw [if_neg ‹_›]; exact h b u ‹_› e
theorem Fr.sm {Pt:Addr} {H H':Hp} (h:Fr Pt H H'):ba (lsH H Pt) H':=λ b u e=>by
 unfold lsH at e;split at e
 · cases e
 · exact h b u ‹_› e
section
variable {t:Adr} {X:Cx} {Pt:Addr} {px n1 n2:Str} {params:Arguments} {body:Expr} {scope:Scope} {bD:List (Str×Addr)} {pos:Pos} {c1 c2:Addr} {i0 i1 j1 j2:Nat} {σ:L2.St} {H:Hp} {Q:VK} {f:DE} {tv v1 v2:V} {d d1 d2:D} {n:Int} {ns:List Int} {ps:Array Value} {p:Int->Bool}
theorem m3 (S:iu [px,n1,n2] [px] n1 n2 scope) (C:c1≠c2->sT bD n1 n2 c1 c2)
  (hb:∀ c' ctv s u,BindsTo s (fnE (X.env.qual++"<lambda>") params body scope bD ((X.mg "__name__").getD Value.none) (.ref c') ctv) ⟨[u],[]⟩ [(px,u)])
  (hbody:∀ (q c':Addr) (A:Around) (outer:List Env) (s:Shared) (H':Hp),cg 2 (A.deeper (envX (X.env.qual++"<lambda>") scope s.heap.objs.size q (.ref c') bD))->PEd (ka CX0 X.prog X.w X.K X.mg X.base [px,n1,n2] (X.env.qual++"<lambda>") scope q (.ref c') bD A outer s H' (iN H' c1 c2) E0) body f)
  (h0:σ[i0]?=some (some tv)) (h1:σ[i1]?=some (some (.int n))) (hj1:σ[j1]?=some (some v1)) (hj2:σ[j2]?=some (some v2))
  (hP:H Pt=some (.tbl ps)) (tr:TriplesOk ps.toList) (ca:codeAmong pos ps.toList=none) (rt:Rp X.K (lsH H Pt) tv d) (r1:Rp X.K (lsH H Pt) v1 d1) (r2:Rp X.K (lsH H Pt) v2 d2)
  (eb:cz t [d,.int n]=some (.own (.lst (ns.map iD)))) (ln:ns.length < 1000) (ef:∀ x ∈ n::ns,f [.shr (.int x),.shr d1,.shr d2]=some (.bl (p x)))
  (k:∀ H4 a c',Fr Pt H H4->H a=none->H4 a=some (.lst (((n::ns).filter p).map iK))->H4 Pt=some (.tbl (ps++#[rawInt (pos.line:Int),rawInt (pos.col:Int),.ref c']))->H4 c'=some (.ext (sU c' (X.env.qual++"<lambda>")))->Q (.ref a) H4) :
  yQ (Gx t X.prog X.w X.mg X.base X.K) c1 c2 j1 j2 (iw (oS i0) (iw (oS i1) (iw (E7 X Pt params body scope bD pos) yO))) σ H Q:=by
 refine ⟨_,h0,_,h1,ps,hP,tr,ca,λ q c' ctv nq nc qc=>⟨v1,v2,hj1,hj2,λ o1 o2 c12 m1 m2=>?_⟩⟩;have nPq:Pt≠q:=λ z=>by rw [<- z,hP] at nq; cases nq
 have nPc:Pt≠c':=λ z=>by rw [<- z,hP] at nc; cases nc
 generalize hH1:upd (upd (upd H Pt (.tbl (ps++#[rawInt (pos.line:Int),rawInt (pos.col:Int),.ref c']))) c' (.ext (sU c' (X.env.qual++"<lambda>")))) q (.ext (FnAt q (wR X params body scope bD c' ctv)))=H1 at m1 m2 ⊢
 have g1:Fr Pt H H1:=λ b u bP e=>by
  rw [<- hH1,af (λ z=>by rw [z,nq] at e; cases e),af (λ z=>by rw [z,nc] at e; cases e),af bP];exact e
 have hq:H1 q=some (.ext (FnAt q (wR X params body scope bD c' ctv))):=by rw [<- hH1]; exact ai
 have hc:H1 c'=some (.ext (sU c' (X.env.qual++"<lambda>"))):=by rw [<- hH1,af (Ne.symm qc)]; exact ai
 have hP1:H1 Pt=some (.tbl (ps++#[rawInt (pos.line:Int),rawInt (pos.col:Int),.ref c'])):=by rw [<- hH1,af nPq,af nPc]; exact ai
 have s2:ba H1 (upd (upd H1 c1 (.ext (eX c1 o1 v1))) c2 (.ext (eX c2 o2 v2))):=C3 m1 m2;refine ⟨tv,n,q,_,_,d,ns,p,rfl,rfl,s2 _ _ hq,(rt.same g1.sm).same s2,eb,ln,λ x hx=>IA S (C c12) hq hc m1 m2 (hb _ _) (hbody q c') (r1.same g1.sm) (r2.same g1.sm) (ef x hx),λ H' a g na=>?_⟩;have k1:H' c1=some (.ext (eX c1 o1 v1)):=g _ _ ((af c12).trans ai);have k2:H' c2=some (.ext (eX c2 o2 v2)):=g _ _ ai;have a1:c1≠a:=λ z=>by rw [<- z,k1] at na; cases na
 have a2:c2≠a:=λ z=>by rw [<- z,k2] at na; cases na
 have up:∀ b u,H1 b=some u->iN (upd H' a (.lst (((n::ns).filter p).map iK))) c1 c2 b=some u:=λ b u e=>by
  have e':=g _ _ (s2 _ _ e);rw [cN (λ z=>by rw [z,m1] at e; cases e) (λ z=>by rw [z,m2] at e; cases e),af (λ z=>by rw [z,na] at e'; cases e')];exact e'
 refine ⟨(af a1).trans k1,(af a2).trans k2,k _ a c' (λ b u bP e=>up b u (g1 b u bP e)) ?_ ?_ (up _ _ hP1) (up _ _ hc)⟩
 ·cases e:H a with
  | none=>rfl
  | some u =>
   by_cases aP:a=Pt
   · have:=g _ _ (s2 _ _ hP1); rw [<- aP,na] at this; cases this
   · have:=g _ _ (s2 _ _ (g1 a u aP e)); rw [na] at this; cases this
 · rw [cN (Ne.symm a1) (Ne.symm a2)]; exact ai
theorem De {E:XK} (S:jw [px] scope)
  (hb:∀ c' ctv s u,BindsTo s (fnE (X.env.qual++"<lambda>") params body scope [] ((X.mg "__name__").getD Value.none) (.ref c') ctv) ⟨[u],[]⟩ [(px,u)])
  (hbody:∀ (q c':Addr) (A:Around) (outer:List Env) (s:Shared) (H':Hp),PEd (ka CX0 X.prog X.w X.K X.mg X.base [px] (X.env.qual++"<lambda>") scope q (.ref c') [] A outer s H' H' E0) body f)
  (h0:σ[i0]?=some (some tv)) (h1:σ[i1]?=some (some (.int n))) (hP:H Pt=some (.tbl ps)) (tr:TriplesOk ps.toList) (ca:codeAmong pos ps.toList=none) (rt:Rp X.K (lsH H Pt) tv d)
  (eb:cz t [d,.int n]=some (.own (.lst (ns.map iD)))) (ln:ns.length < 1000) (ef:∀ x ∈ n::ns,f [.shr (.int x)]=some (.bl (p x)))
  (k:∀ H4 a c',Fr Pt H H4->H a=none->H4 a=some (.lst (((n::ns).filter p).map iK))->H4 Pt=some (.tbl (ps++#[rawInt (pos.line:Int),rawInt (pos.col:Int),.ref c']))->H4 c'=some (.ext (sU c' (X.env.qual++"<lambda>")))->Q (.ref a) H4) :
  xb (Gx t X.prog X.w X.mg X.base X.K) [] E (iw (oS i0) (iw (oS i1) (iw (E7 X Pt params body scope [] pos) yO))) σ H Q:=by
 refine ⟨_,h0,_,h1,ps,hP,tr,ca,λ q c' ctv nq nc qc=>?_⟩;have nPq:Pt≠q:=λ z=>by rw [<- z,hP] at nq; cases nq
 have nPc:Pt≠c':=λ z=>by rw [<- z,hP] at nc; cases nc
 generalize hH1:upd (upd (upd H Pt (.tbl (ps++#[rawInt (pos.line:Int),rawInt (pos.col:Int),.ref c']))) c' (.ext (sU c' (X.env.qual++"<lambda>")))) q (.ext (FnAt q (wR X params body scope [] c' ctv)))=H1
 have g1:Fr Pt H H1:=λ b u bP e=>by
  rw [<- hH1,af (λ z=>by rw [z,nq] at e; cases e),af (λ z=>by rw [z,nc] at e; cases e),af bP];exact e
 have hq:H1 q=some (.ext (FnAt q (wR X params body scope [] c' ctv))):=by rw [<- hH1]; exact ai
 have hc:H1 c'=some (.ext (sU c' (X.env.qual++"<lambda>"))):=by rw [<- hH1,af (Ne.symm qc)]; exact ai
 have hP1:H1 Pt=some (.tbl (ps++#[rawInt (pos.line:Int),rawInt (pos.col:Int),.ref c'])):=by rw [<- hH1,af nPq,af nPc]; exact ai
 refine ⟨tv,n,q,_,_,d,ns,p,rfl,rfl,hq,rt.same g1.sm,eb,ln,λ x hx=>IB S hq hc (hb _ _) (hbody q c') (ef x hx),λ H' a g na=>?_⟩
 have up:∀ b u,H1 b=some u->upd H' a (.lst (((n::ns).filter p).map iK)) b=some u:=λ b u e=>by
  have e':=g _ _ e;rw [af (λ z=>by rw [z,na] at e'; cases e')];exact e'
 refine k _ a c' (λ b u bP e=>up b u (g1 b u bP e)) ?_ ai (up _ _ hP1) (up _ _ hc)
 cases e:H a with
 | none=>rfl
 | some u =>
  by_cases aP:a=Pt
  · have:=g _ _ hP1; rw [<- aP,na] at this; cases this
  · have:=g _ _ (g1 a u aP e); rw [na] at this; cases this
end
end N13
end
section
local macro_rules | `(tactic| walk_at "v")=>`(tactic| first | exact .inl rfl | exact .inr rfl | assumption)
local macro_rules | `(tactic| walk_at "w")=>`(tactic| first | exact .inl rfl | exact .inr (.inl rfl) | exact .inr (.inr rfl))
namespace N13
open PySem L2 PySem.W PyProof.Rows
structure DfC (K:W.Frag) (mg:Str->Option Value) (x:Str) (st:Stmt) (ps:List Str) (Pt:Addr):Prop where
 ex:∃ a d c,Fun K x x st a d/\mg x=some (.ref a)/\Binds K d ps []/\d.code=.ref c/\(∀ h:Heap,K.In h->CodeHd h c Pt)
 pg:mainGlobals≠Pt
 bl:∀ h:Heap,K.In h->h.BuiltinsAt mg Pt
def f1:DE:=dOp oLe (dOp oMod (aH 0) (aH 1)) (aH 2)
noncomputable def f2 (t:Adr):DE:=dOp oGt (gB sX (aK (j9 t.ag "name_of" (cG t) (aH 1) (aK (aH 0) d8)) d8)) (aH 2)
noncomputable def f3 (t:Adr):DE:=dOp uK (aH 1) (nZ t.ag "marks_of" (bo t) (aH 2) (aK (aH 0) d8))
def f4:DE:=I9 (dOp uK (aH 0) (aH 1)) (dOp uK (aH 0) (EN (aH 2)))
abbrev lD (l:List Int):D:=.lst (l.map iD)
def Kw (t:Adr) (Pt:Addr) (K:W.Frag):Sp:=λ vs H Q _=>∃ (tv ua ma:V) (n ev lo sz:Int) (nm:Str) (d du dm:D) (ns:List Int) (p1 p2 p3 p4:Int->Bool),vs=[tv,.int n,ua,.int ev,.int lo,.int sz,.str nm,ma]/\H Pt=some (.tbl #[])/\Rp K (lsH H Pt) tv d/\Rp K (lsH H Pt) ua du/\Rp K (lsH H Pt) ma dm /\
 cz t [d,.int n]=some (.own (.lst (ns.map iD)))/\ns.length < 1000/\(∀ x ∈ n::ns,f1 [.shr (.int x),.shr (.int ev),.shr (.int lo)]=some (.bl (p1 x)))/\(∀ x ∈ n::ns,f2 t [.shr (.int x),.shr d,.shr (.int sz)]=some (.bl (p2 x)))/\(∀ x ∈ n::ns,f3 t [.shr (.int x),.shr (.str nm),.shr d]=some (.bl (p3 x)))/\(∀ x ∈ n::ns,f4 [.shr (.int x),.shr dm,.shr du]=some (.bl (p4 x))) /\
 ∀ v Hn H',Fr Pt H H'->ba Hn H'->(∀ b,Hn b≠none->H b=none)->Rp K Hn v (.lst ([(n::ns).filter p1,(n::ns).filter p2,(n::ns).filter p3,(n::ns).filter p4,n::ns].map lD))->Q v H'
abbrev NT:List Str:=["_law_tree","_law_box","_law_under_here","_law_every","_law_low","_law_size","_law_name_here","_law_marked","_law_tried_here"]
theorem Jc {n1 n2:Str} {c1 c2:Addr} (hn:(n1 == n2)=false) (h:c1≠c2):sT [(n1,c1),(n2,c2)] n1 n2 c1 c2 where
 l1:=by simp [List.lookup]
 l2:=by
  have:(n2 == n1)=false:=by rw [BEq.comm]; exact hn
  simp [List.lookup,this]
 only:=λ y c e=>by
  have m:=Z4 e;simp only [Zh,Yd,or_false,Prod.mk.injEq] at m;exact m
 ne:=h
theorem yw {n1 n2:Str} {c1 c2:Addr} (hn:(n1 == n2)=false) (h:c1≠c2):sT [(n2,c2),(n1,c1)] n1 n2 c1 c2 where
 l1:=by simp [List.lookup,hn]
 l2:=by simp [List.lookup]
 only:=λ y c e=>by
  have m:=Z4 e;simp only [Zh,Yd,or_false,Prod.mk.injEq] at m;exact m.symm
 ne:=h
theorem tO {px n1 n2:Str} {sc:Scope} (h:(decide ([px,n1,n2].Nodup)&&decide (sc.names.lookup px=some .local)&&(sc.names.all λ y=>!(y.2 == .cell))&&(sc.names.all λ y=>!(y.2 == .free)||(y.1 == n1||y.1 == n2))&&decide (sc.names.lookup n1=some .free)&&decide (sc.names.lookup n2=some .free))=true)
  (k:sc.kind=.function:=by rfl) (c:sc.isCoroutine=false:=by rfl) (g:sc.isGenerator=false:=by rfl):iu [px,n1,n2] [px] n1 n2 sc:=by
 simp only [Z8,decide_eq_true_eq,Yw] at h;obtain ⟨⟨⟨⟨⟨h1,h2⟩,h3⟩,h4⟩,h5⟩,h6⟩:=h;refine ⟨k,c,g,h1,rfl,λ x hx=>?_,λ y hy z=>?_,λ y hy=>?_,h5,h6⟩
 · rw [Zo.mp hx]; exact h2
 · have:=h3 y hy; rw [z] at this; cases this
 ·have:=h4 _ (Z4 hy)
  simp only [Bool.or_eq_true,beq_iff_eq] at this;rcases this with z | z | z
  · cases z
  · exact .inl z
  · exact .inr z
end N13
end
section
local macro_rules | `(tactic| walk_at "v")=>`(tactic| first | exact .inl rfl | exact .inr rfl | assumption)
local macro_rules | `(tactic| walk_at "w")=>`(tactic| first | exact .inl rfl | exact .inr (.inl rfl) | exact .inr (.inr rfl))
namespace N13
open PySem L2 PySem.W PyProof.Rows
section
variable {P:Program} {w:World} {K:W.Frag} {mg:Str->Option Value} {base:Heap} {t:Adr}
theorem qt {X:Cx} {KK:W.Frag} (hK:X.K=KK) {o e:Expr} {apos cpos:Pos} {to te:TE} (ho:PE X o to) (he:PE X e te)
  (hbase:attributeBase o "append" X.env (eval o X.env)=eval o X.env:=by rfl)
  (hfew:((backTo cpos (starEach [e] X.env)).all (λ x=>!x.1)&&(backToKw cpos (keywordEach [] X.env)).all (λ x=>x.1.isSome)
    && decide ([e].length+([]:List Keyword).length+(if ([]:List Keyword).isEmpty then 0 else 1) < 30))=true:=by rfl)
  (hline:(apos.endLine == cpos.line)=true:=by rfl) (hst:starEach [e] X.env=(false,eval e X.env)::starEach [] X.env:=by rfl) (hplain:(backTo cpos (starEach [] X.env)).any (·.1)=false:=by rfl) :
  PE X (.Call (.Attribute o "append" apos) [e] [] cpos) (tBM KK "list" lX to (iw te yO)):=by
 subst hK;exact pb Yn PySem.F.slot_list_append PySem.F.type_list_append jR ho (au he aV hst) hbase hfew hline hst hplain
theorem st1 {te:TE} {t2:TS} {D:Ends} {σ:L2.St} {H:Hp} {i:Nat} (h:te σ H λ v H1=>[v].length<=sizeLine/\∀ p,H1 p=none->t2 D (σ.set i (some (.ref p))) (upd H1 p (.lst [v]))):E6 (Gu (Jm (iw te yO)) (mq i)) t2 D σ H:=h
theorem st2 {te:TE} {t2:TS} {D:Ends} {σ:L2.St} {H:Hp} {i:Nat} {L:Addr} {xs:List V} (e:σ[i]?=some (some (.ref L))) (hL:H L=some (.lst xs)) (h:te σ H λ v H1=>lX (.ref L) [v] H1 λ _ H2=>t2 D σ H2):E6 (CO (tBM K "list" lX (oS i) (iw te yO))) t2 D σ H:=⟨_,e,.inl ⟨rfl,xs,SqL.of hL⟩,h⟩
def AL (Pt:Addr) (H0 H:Hp) (L:Addr):List Addr->List (List Int)->Prop
 | [],[]=>True
 | a::as,l::ls=>(H a=some (.lst (l.map iK))/\H0 a=none/\a≠L/\a≠Pt)/\AL Pt H0 H L as ls
 | _,_=>False
section
variable {Pt L:Addr} {H0 H H':Hp}
theorem AL.mono (g:∀ b u,b≠Pt->b≠L->H b=some u->H' b=some u):∀ {as:List Addr} {ls:List (List Int)},AL Pt H0 H L as ls->AL Pt H0 H' L as ls
 | [],[],_=>trivial
 | a::as,l::ls,⟨⟨h1,h2,h3,h4⟩,r⟩=>⟨⟨g _ _ h4 h3 h1,h2,h3,h4⟩,AL.mono g r⟩
theorem AL.snoc {a:Addr} {l:List Int} (h:H a=some (.lst (l.map iK))/\H0 a=none/\a≠L/\a≠Pt):∀ {as:List Addr} {ls:List (List Int)},AL Pt H0 H L as ls->AL Pt H0 H L (as++[a]) (ls++[l])
 | [],[],_=>⟨h,trivial⟩
 | b::as,k::ls,⟨h1,r⟩=>⟨h1,AL.snoc h r⟩
theorem AL.len:∀ {as:List Addr} {ls:List (List Int)},AL Pt H0 H L as ls->as.length=ls.length
 | [],[],_=>rfl
 | a::as,l::ls,⟨_,r⟩=>Z7 (·+1) (AL.len r)
theorem AL.old:∀ {as:List Addr} {ls:List (List Int)},AL Pt H0 H L as ls->∀ b ∈ as,H0 b=none
 | [],[],_,b,h=>nomatch h
 | a::as,l::ls,⟨h,r⟩,b,hb=>(Zh.mp hb).elim (λ e=>e ▸ h.2.1) (AL.old r b)
theorem mj {Hn:Hp}:∀ l:List Int,Rps K Hn (l.map iK) (l.map iD)
 | []=>.nil
 | x::l=>.cons (.int x) (mj l)
theorem AL.rps {Hn:Hp}:∀ {as:List Addr} {ls:List (List Int)},(∀ b ∈ as,Hn b=H b)->AL Pt H0 H L as ls->Rps K Hn (as.map .ref) (ls.map lD)
 | [],[],_,_=>.nil
 | a::as,l::ls,g,⟨h,r⟩=>.cons (.lst ((g a (Ze ..)).trans h.1) (mj l)) (AL.rps (λ b hb=>g b (Zd _ hb)) r)
structure TI (Pt:Addr) (H0 H:Hp) (L:Addr) (ls:List (List Int)):Prop where
 fr:Fr Pt H0 H
 nL:H0 L=none
 pL:L≠Pt
 ex:∃ as:List Addr,H L=some (.lst (as.map .ref))/\AL Pt H0 H L as ls
theorem TI.step {H4:Hp} {a:Addr} {l:List Int} {ls:List (List Int)} (h:TI Pt H0 H L ls) (g:Fr Pt H H4) (na:H a=none) (ha:H4 a=some (.lst (l.map iK))) (hP:H Pt≠none):∃ xs,H4 L=some (.lst xs)/\xs.length=ls.length/\TI Pt H0 (upd H4 L (.lst (xs++[.ref a]))) L (ls++[l]):=by
 obtain ⟨fr,nL,pL,as,hL,al⟩:=h;have aL:a≠L:=λ z=>by rw [z,hL] at na; cases na
 have aP:a≠Pt:=λ z=>hP (by rw [<- z]; exact na)
 have n0:H0 a=none:=by
  cases e:H0 a with
  | none=>rfl
  | some u=>rw [fr a u aP e] at na; cases na
 refine ⟨_,g L _ pL hL,by rw [Za]; exact al.len,λ b u bP e=>?_,nL,pL,as++[a],?_,?_⟩
 · rw [af (λ z=>by rw [z,nL] at e; cases e)]; exact g b u bP (fr b u bP e)
 · rw [ai,Zp]; rfl
 · exact AL.snoc ⟨(af aL).trans ha,n0,aL,aP⟩ (al.mono λ b u bP bL e=>by rw [af bL]; exact g b u bP e)
theorem TI.start {H4:Hp} {a:Addr} {l:List Int} (g:Fr Pt H H4) (na:H a=none) (ha:H4 a=some (.lst (l.map iK))) (hP:H Pt≠none) (hP4:H4 Pt≠none) (nL:H4 L=none):TI Pt H (upd H4 L (.lst [.ref a])) L [l]:=by
 have pL:L≠Pt:=λ z=>hP4 (by rw [<- z]; exact nL)
 have n0:H L=none:=by
  cases e:H L with
  | none=>rfl
  | some u=>rw [g L u pL e] at nL; cases nL
 have aL:a≠L:=λ z=>by rw [z,nL] at ha; cases ha
 refine ⟨λ b u bP e=>?_,n0,pL,[a],ai,⟨(af aL).trans ha,na,aL,λ z=>hP (by rw [<- z]; exact na)⟩,trivial⟩;rw [af (λ z=>by rw [z,n0] at e; cases e)]; exact g b u bP e
theorem TI.fin {ls:List (List Int)} (h:TI Pt H0 H L ls):∃ Hn,ba Hn H/\(∀ b,Hn b≠none->H0 b=none)/\Rp K Hn (.ref L) (.lst (ls.map lD)):=by
 obtain ⟨fr,nL,pL,as,hL,al⟩:=h;refine ⟨λ b=>if b=L\/b ∈ as then H b else none,λ b u e=>?_,λ b e=>?_,.lst ((if_pos (.inl rfl)).trans hL) (al.rps λ b hb=>if_pos (.inr hb))⟩
 ·replace e:(if b=L\/b ∈ as then H b else none)=some u:=e
  split at e
  · exact e
  · cases e
 ·replace e:(if b=L\/b ∈ as then H b else none)≠none:=e
  split at e
  ·rename_i z
   exact z.elim (λ z=>z ▸ nL) (al.old b)
  · exact absurd rfl e
end
set_option maxHeartbeats 4000000
theorem nu (T:Txt K mg t) (KB:K.In base) (Df:DfC K mg "_law_tried" (top 34) ["_law_tree","_law_box","_law_under_here","_law_every","_law_low","_law_size","_law_name_here","_law_marked"] Pt):Go P w K mg base 5 "_law_tried" (Kw t Pt K):=by
 obtain ⟨a0,d0,cd,F,m0,bi,hcode,hch⟩:=Df.ex;obtain ⟨f9,d9,p9,m9,k9,b9,o9⟩:=kW (P:=P) (w:=w) (base:=base) T;obtain ⟨oc,od,kV,doc0,pm,an,cdv,ct,osl,efd,lk,hcd⟩:=F.ex;refine ⟨a0,d0,_,m0,F.kp,bi,?_⟩;rw [efd] at hcode lk ⊢;have CH:=hch _ KB;have BL:=Df.bl _ KB;refine vC (N:=NT) lk hcd ⟨rfl,rfl,rfl,by decide +kernel,rfl,by decide +kernel,by decide +kernel⟩ (λ vs H Q E h=>by obtain ⟨_,_,_,_,_,_,_,_,_,_,_,_,_,_,_,_,rfl,_⟩:=h; rfl) λ A outer s H vs Q E hr h=>?_
 obtain ⟨tv,ua,ma,n,ev,lo,sz,nm,d,du,dm,ns,p1,p2,p3,p4,rfl,hP,rt,ru,rm,eb,ln,e1,e2,e3,e4,k⟩:=h
 refine ⟨_,(aX (fY (i:=8) (show NT.Nodup by decide +kernel) rfl (Or.inl rfl) (qp (au (gR (n1:="_law_every") (n2:="_law_low") (j1:=3) (j2:=4) o9 (hr.mono (by decide)) rfl m9 k9 b9 ⟨rfl,rfl,rfl,rfl,rfl,rfl,rfl,rfl,by decide +kernel⟩ (au (pv 0) (au (pv 1) (au (jG rfl hcode CH Df.pg BL) aV)))) aV)))
  (aX (bX (qt (KK:=K) rfl (pv 8) (gR (n1:="_law_tree") (n2:="_law_size") (j1:=0) (j2:=5) o9 (hr.mono (by decide)) rfl m9 k9 b9 ⟨rfl,rfl,rfl,rfl,rfl,rfl,rfl,rfl,by decide +kernel⟩ (au (pv 0) (au (pv 1) (au (jG rfl hcode CH Df.pg BL) aV))))))
  (aX (bX (qt (KK:=K) rfl (pv 8) (gR (n1:="_law_name_here") (n2:="_law_tree") (j1:=6) (j2:=0) o9 (hr.mono (by decide)) rfl m9 k9 b9 ⟨rfl,rfl,rfl,rfl,rfl,rfl,rfl,rfl,by decide +kernel⟩ (au (pv 0) (au (pv 1) (au (jG rfl hcode CH Df.pg BL) aV))))))
  (aX (bX (qt (KK:=K) rfl (pv 8) (gR (n1:="_law_marked") (n2:="_law_under_here") (j1:=7) (j2:=2) o9 (hr.mono (by decide)) rfl m9 k9 b9 ⟨rfl,rfl,rfl,rfl,rfl,rfl,rfl,rfl,by decide +kernel⟩ (au (pv 0) (au (pv 1) (au (jG rfl hcode CH Df.pg BL) aV))))))
  (aX (bX (qt (KK:=K) rfl (pv 8) (gq o9 (hr.mono (by decide)) rfl m9 k9 b9 .nil iE (au (pv 0) (au (pv 1) (au (jG rfl hcode CH Df.pg BL) aV))))))
  (br (dG (pv 8)))))))),?_⟩
 refine st1 ?_
 refine m3 (X:=lr CX0 P w K mg base NT "_law_tried" (ax (top 34)) a0 cdv A outer s H E) (t:=t) (px:="_law_one") (n1:="_law_every") (n2:="_law_low") (p:=p1) (f:=f1) (tO (by decide +kernel)) (yw (by decide +kernel)) (λ c' ctv s u=>.of_eq rfl) (λ q c' A outer s H' hr'=>(EY (dD (aa 0) (aa 1)) (aa 2)).out) rfl rfl rfl rfl hP trivial rfl rt (.int _) (.int _) eb ln e1 ?_
 intro H4 a c' g na ha hPz _;refine ⟨pH (Zb rfl),λ L nL4=>?_⟩;have I1:=TI.start (L:=L) g na ha (aR hP) (aR hPz) nL4;have hP1:=(af (o:=.lst [.ref a]) (Ne.symm I1.pL)).trans hPz;clear hPz ha na g nL4;obtain ⟨_,hL,_⟩:=I1.ex;refine st2 rfl hL ?_
 refine m3 (X:=lr CX0 P w K mg base NT "_law_tried" (ax (top 34)) a0 cdv A outer s H E) (t:=t) (px:="_law_two") (n1:="_law_tree") (n2:="_law_size") (p:=p2) (f:=f2 t) (tO (by decide +kernel)) (Jc (by decide +kernel)) (λ c' ctv s u=>.of_eq rfl) (λ q c' A outer s H' hr'=>(LA (aA gC T.dN (cF (bc T.ay (kI T) hr' (aa 1) (cF (aa 0))))) (aa 2)).out) rfl rfl rfl rfl hP1 trivial rfl (rt.same I1.fr.ls) (rt.same I1.fr.ls) (.int _) eb ln e2 ?_
 intro H4 a c' g na ha hPz _;obtain ⟨xs,hx,lx,I2⟩:=I1.step g na ha (aR hP1);refine ⟨L,xs,_,rfl,rfl,hx,by rw [lx]; exact le5 (Zb rfl),?_⟩;have hP2:=(af (o:=.lst (xs++[.ref a])) (Ne.symm I1.pL)).trans hPz;clear hPz ha na g hx lx hL;obtain ⟨_,hL,_⟩:=I2.ex;refine st2 rfl hL ?_
 refine m3 (X:=lr CX0 P w K mg base NT "_law_tried" (ax (top 34)) a0 cdv A outer s H E) (t:=t) (px:="_law_three") (n1:="_law_name_here") (n2:="_law_tree") (p:=p3) (f:=f3 t) (tO (by decide +kernel)) (yw (by decide +kernel)) (λ c' ctv s u=>.of_eq rfl) (λ q c' A outer s H' hr'=>(Jg (aa 1) (aN (wy T.ay (jL T) hr' (aa 2) (cF (aa 0))))).out) rfl rfl rfl rfl hP2 trivial rfl (rt.same I2.fr.ls) (.str _) (rt.same I2.fr.ls) eb ln e3 ?_
 intro H4 a c' g na ha hPz _;obtain ⟨xs,hx,lx,I3⟩:=I2.step g na ha (aR hP2);refine ⟨L,xs,_,rfl,rfl,hx,by rw [lx]; exact le5 (Zb rfl),?_⟩;have hP3:=(af (o:=.lst (xs++[.ref a])) (Ne.symm I2.pL)).trans hPz;clear hPz ha na g hx lx hL;obtain ⟨_,hL,_⟩:=I3.ex;refine st2 rfl hL ?_
 refine m3 (X:=lr CX0 P w K mg base NT "_law_tried" (ax (top 34)) a0 cdv A outer s H E) (t:=t) (px:="_law_four") (n1:="_law_marked") (n2:="_law_under_here") (p:=p4) (f:=f4) (tO (by decide +kernel)) (yw (by decide +kernel)) (λ c' ctv s u=>.of_eq rfl) (λ q c' A outer s H' hr'=>(Ca (Jg (aa 0) (aa 1)) (jt (Jg (aa 0) (aN (ro (aa 2)))))).out) rfl rfl rfl rfl hP3 trivial rfl (rt.same I3.fr.ls) (rm.same I3.fr.ls) (ru.same I3.fr.ls) eb ln e4 ?_
 intro H4 a c' g na ha hPz _;obtain ⟨xs,hx,lx,I4⟩:=I3.step g na ha (aR hP3);refine ⟨L,xs,_,rfl,rfl,hx,by rw [lx]; exact le5 (Zb rfl),?_⟩;have hP4:=(af (o:=.lst (xs++[.ref a])) (Ne.symm I3.pL)).trans hPz;clear hPz ha na g hx lx hL;obtain ⟨_,hL,_⟩:=I4.ex;refine st2 rfl hL ?_
 refine De (X:=lr CX0 P w K mg base NT "_law_tried" (ax (top 34)) a0 cdv A outer s H E) (t:=t) (px:="_law_five") (p:=λ _=>true) (f:=dC (.bl true)) ⟨rfl,rfl,rfl,by decide +kernel,by decide +kernel,by decide +kernel,by decide +kernel⟩ (λ c' ctv s u=>.of_eq rfl) (λ q c' A outer s H'=>bZ.out) rfl rfl hP4 trivial rfl (rt.same I4.fr.ls) eb ln (λ _ _=>rfl) ?_
 intro H4 a c' g na ha hPz _;obtain ⟨xs,hx,lx,I5⟩:=I4.step g na ha (aR hP4);refine ⟨L,xs,_,rfl,rfl,hx,by rw [lx]; exact le5 (Zb rfl),?_⟩;obtain ⟨Hn,s1,s2,s3⟩:=I5.fin (K:=K);refine ⟨_,rfl,k _ Hn _ I5.fr s1 s2 ?_⟩;have ft:(n::ns).filter (λ _=>true)=n::ns:=List.filter_eq_self.mpr λ _ _=>rfl
 rw [ft] at s3;exact s3
end
end N13
end
section
local macro_rules | `(tactic| walk_at "v")=>`(tactic| first | exact .inl rfl | exact .inr rfl | assumption)
local macro_rules | `(tactic| walk_at "w")=>`(tactic| first | exact .inl rfl | exact .inr (.inl rfl) | exact .inr (.inr rfl))
namespace N13
open PySem L2 PySem.W PyProof.Rows
abbrev sNm:Str:="names"
def FU:List Str:=["check","boxes_of","holder_of"]
section
variable {P:Program} {w:World} {K:W.Frag} {mg:Str->Option Value} {base:Heap} {t:Adr}
set_option maxHeartbeats 4000000
def GxF (P:Program) (w:World) (K:W.Frag) (mg:Str->Option Value) (base:Heap) (k:Nat) (x:Str) (sp:Sp):Prop:=∃ f fd ps,mg x=some (.ref f)/\keepIn K (.ref f)=true/\Binds K fd ps []/\gL P w K mg base (CX1 P w) k f fd ps sp
def GxM (P:Program) (w:World) (K:W.Frag) (mg:Str->Option Value) (base:Heap) (k:Nat) (C:Addr) (x:Str) (sp:Sp):Prop:=∃ f fd ps,yK K C x f/\Binds K fd ps []/\gL P w K mg base (CX1 P w) k f fd ps sp
def E8 (C R:Addr):Sp:=λ vs H _ E=>∃ (a dx nm:Addr) (j:Int) (fs:List (Str×V)) (kvs:List (Key×V)),vs=[.ref a,.int j]/\H a=some (.ins C dx fs)/\fs.lookup sNm=some (.ref nm)/\(∀ m ∈ FU,fs.lookup m=none)/\H nm=some (.dK kvs)/\cB kvs (.inl j)=none/\∀ H',ba H H'->E (.ref R) none H'
theorem uD (T:Txt K mg t):GxM P w K mg base 1 t.ag "check" (E8 t.ag t.c9):=by
 obtain ⟨a,d,F,m,bi⟩:=T.jc;refine ⟨a,d,_,m,bi,F.okX (N:=["self","box"]) ⟨rfl,rfl,rfl,by decide +kernel,rfl,by decide +kernel,by decide +kernel⟩ (λ vs H Q E h=>by obtain ⟨_,_,_,_,_,_,rfl,_⟩:=h; rfl) λ cdv A outer s H vs Q E hr h=>?_⟩;obtain ⟨a,dx,nm,j,fs,kvs,rfl,ha,hn,hc,hk,e,k⟩:=h;refine ⟨_,br (xC (uj (m7 (eY hr) (pv 1) (uv (pv 0) rfl))) (br (xB t9 rfl T.zU rfl T.me (au zg aV))) iC),?_⟩;have g:=sS.k (k:=.inl j) hk;rw [e] at g;exact ⟨_,rfl,_,rfl,a,t.ag,dx,fs,_,rfl,ha,T.ay,T.bR,hn,nm,_,rfl,g,_,rfl,zD ⟨Zb rfl,k _ (.refl _)⟩⟩
theorem uE (T:Txt K mg t):GxM P w K mg base 2 t.ag "boxes_of" (E8 t.ag t.c9):=by
 obtain ⟨a,d,F,m,bi⟩:=T.ff;obtain ⟨f1,d1,p1,m1,b1,o1⟩:=uD (P:=P) (w:=w) (base:=base) T;refine ⟨a,d,_,m,bi,F.okX (N:=["self","box"]) ⟨rfl,rfl,rfl,by decide +kernel,rfl,by decide +kernel,by decide +kernel⟩ (λ vs H Q E h=>by obtain ⟨_,_,_,_,_,_,rfl,_⟩:=h; rfl) λ cdv A outer s H vs Q E hr h=>?_⟩;obtain ⟨a,dx,nm,j,fs,kvs,rfl,ha,hn,hc,hk,e,k⟩:=h;exact ⟨_,aX (bX (qo (EX:=λ _=>E) (pv 0) T.ay m1 o1 (hr.mono (by decide)) b1 .nil (λ σ=>jH.at σ) (au (pv 1) aV))) (br lZ),_,rfl,a,dx,fs,rfl,ha,hc _ (by decide),_,rfl,a,dx,nm,j,fs,kvs,rfl,ha,hn,hc,hk,e,k⟩
theorem pe (T:Txt K mg t):GxF P w K mg base 3 "beneath" (E8 t.ag t.c9):=by
 obtain ⟨a,d,F,m,bi⟩:=T.nT;obtain ⟨f1,d1,p1,m1,b1,o1⟩:=uE (P:=P) (w:=w) (base:=base) T;refine ⟨a,d,_,m,F.kp,bi,F.okX (N:=["tree","box","found","left","one"]) ⟨rfl,rfl,rfl,by decide +kernel,rfl,by decide +kernel,by decide +kernel⟩ (λ vs H Q E h=>by obtain ⟨_,_,_,_,_,_,rfl,_⟩:=h; rfl) λ cdv A outer s H vs Q E hr h=>?_⟩;obtain ⟨a,dx,nm,j,fs,kvs,rfl,ha,hn,hc,hk,e,k⟩:=h;refine ⟨_,aX (fY (i:=2) (show (["tree","box","found","left","one"]:List Str).Nodup by decide +kernel) rfl (Or.inl rfl) (qp aV)) (aX (fY (i:=3) (show (["tree","box","found","left","one"]:List Str).Nodup by decide +kernel) rfl (Or.inl rfl) (zh rfl rfl T.jx (by decide +kernel) rfl T.fL (by decide +kernel) (qo (EX:=λ _=>E) (pv 0) T.ay m1 o1 (hr.mono (by decide)) b1 .nil (λ σ=>jH.at σ) (au (pv 1) aV)))) (aX lZ (br lZ))),?_⟩;refine ⟨Yb _,λ p hp=>?_⟩;have sa:=ar hp (.lst []);exact ⟨_,rfl,a,dx,fs,rfl,sa _ _ ha,hc _ (by decide),_,rfl,a,dx,nm,j,fs,kvs,rfl,sa _ _ ha,hn,hc,sa _ _ hk,e,λ H' g=>k H' (sa.trans g)⟩
def CZ (C R:Addr):Sp:=λ vs H Q E=>∃ v,E8 C R (vs.take 2) H Q E/\vs=vs.take 2++[v]
theorem ng (T:Txt K mg t):GxF P w K mg base 4 "gathered" (CZ t.ag t.c9):=by
 obtain ⟨a,d,F,m,bi⟩:=T.lq;obtain ⟨f1,d1,p1,m1,k1,b1,o1⟩:=pe (P:=P) (w:=w) (base:=base) T;refine ⟨a,d,_,m,F.kp,bi,F.okX (N:=["tree","box","keep"]) ⟨rfl,rfl,rfl,by decide +kernel,rfl,by decide +kernel,by decide +kernel⟩ (λ vs H Q E h=>by obtain ⟨_,⟨_,_,_,_,_,_,z,_⟩,z2⟩:=h; rw [z2,z]; rfl) λ cdv A outer s H vs Q E hr h=>?_⟩;obtain ⟨v,⟨a,dx,nm,j,fs,kvs,z,ha,hn,hc,hk,e,k⟩,z2⟩:=h;rw [z2,z];refine ⟨_,br (dG (l0 rfl (ckN [("keep",2)]) (uu (AF uC (qp (au (pv 1) aV)) (l3 (EX:=λ _=>E) o1 (hr.mono (by decide)) rfl m1 k1 b1 .nil (λ σ=>jH.at σ) (au (pv 0) (au (pv 1) aV))))) (λ _ _ _ _=>qk (qq (spq:=wkC P w K mg base 3) (n:=1) 1 (λ q=>yM q) hr rfl (by walk_at "w") iE (au (pv 0) aV))) (λ _ _ _ _=>pv 0))),?_⟩;refine ⟨_,rfl,pH (Zb rfl),λ p hp=>?_⟩;have sa:=ar hp (.lst [.int j]);exact ⟨_,rfl,_,rfl,a,dx,nm,j,fs,kvs,rfl,sa _ _ ha,hn,hc,sa _ _ hk,e,λ H' g=>k H' (sa.trans g)⟩
theorem AH {X:Cx} {pn:List (Addr×Obj)} {E:Value->Shared->Prop} {params:Arguments} {body:Expr} {scope:Scope} {pos:Pos} {c P:Addr} {bD:List (Str×Addr)} (hcl:closureFor scope X.env=pure bD) (hc:X.env.code=.ref c) (hC:CodeHd X.base c P) (hPg:mainGlobals≠P) (hB:X.base.BuiltinsAt X.mg P)
 (hd:params.defaults=[]:=by rfl) (hkd:params.kw_defaults=[]:=by rfl) (hex:X.ex=[]:=by rfl):PE (lQ X pn E) (.Lambda params body scope pos) (E7 X P params body scope bD pos):=jG (X:=lQ X pn E) hcl hc hC hPg hB hd hkd hex
theorem xG {X:Cx} {pn:List (Addr×Obj)} {E:Value->Shared->Prop} {params:Arguments} {body:Expr} {scope:Scope} {pos:Pos} {c P:Addr} {bD:List (Str×Addr)} (hcl:closureFor scope X.env=pure bD) (hc:X.env.code=.ref c) (hC:CodeHd X.base c P) (hB:X.base.BuiltinsAt X.mg P)
 (hd:params.defaults=[]:=by rfl) (hkd:params.kw_defaults=[]:=by rfl):PE (lQ X pn E) (.Lambda params body scope pos) (CN X P params body scope bD pos):=AI (X:=lQ X pn E) hcl hc hC hB hd hkd
def NoB (t:Adr) (d:D) (n:Int):Prop:=∃ fs ds,d=.obj t.ag fs/\(∀ m ∈ FU,fs.lookup m=none)/\fs.lookup sNm=some (.dct ds)/\iV ds (.inl n)=none
abbrev Jo (c':Addr):Array Value:=#[]++#[rawInt ((231:Nat):Int),rawInt ((38:Nat):Int),.ref c']
def TB (Pt:Addr) (H:Hp):Prop:=H Pt=some (.tbl #[])\/∃ c',H Pt=some (.tbl (Jo c'))
def Kx (t:Adr) (Pt:Addr) (K:W.Frag):Sp:=λ vs H Q _=>∃ tv n d,vs=[tv,.int n]/\Rp K (lsH H Pt) tv d/\NoB t d n/\TB Pt H/\∀ H',Fr Pt H H'->TB Pt H'->Q (.bl true) H'
theorem kH (T:Txt K mg t) (KB:K.In base) (Df:DfC K mg "_law_missing" (top 33) ["_law_tree","_law_box"] Pt):Go P w K mg base 5 "_law_missing" (Kx t Pt K):=by
 obtain ⟨a0,d0,cd,F,m0,bi,hcode,hch⟩:=Df.ex;obtain ⟨f1,d1,p1,m1,k1,b1,o1⟩:=ng (P:=P) (w:=w) (base:=base) T;obtain ⟨oc,od,kV,doc0,pm,an,cdv,ct,osl,efd,lk,hcd⟩:=F.ex;refine ⟨a0,d0,_,m0,F.kp,bi,?_⟩;rw [efd] at hcode lk ⊢;have CH:=hch _ KB;have BL:=Df.bl _ KB;refine vC (N:=["_law_tree","_law_box"]) lk hcd ⟨rfl,rfl,rfl,by decide +kernel,rfl,by decide +kernel,by decide +kernel⟩ (λ vs H Q E h=>by obtain ⟨_,_,_,rfl,_⟩:=h; rfl) λ A outer s H vs Q E hr h=>?_
 obtain ⟨tv,n,d,rfl,rt,⟨fs,ds,rfl,hm,hn,hv⟩,tb,k⟩:=h
 cases rt with
 | @obj a _ dx fv _ hH rf =>
 obtain ⟨vn,l1,l2⟩:=rf.look hn
 cases l2 with
 | @dct nm kvs _ hd rk =>
 have hvv:cB kvs (.inl n)=none:=(rk.val (k:=.inl n)).2 hv;have hmv:∀ m ∈ FU,fv.lookup m=none:=λ m h=>rf.xX (hm m h)
 have main:∀ {H1:Hp} {q:Addr} {E1:XK},Fr Pt H H1->TB Pt H1->(∀ H',ba H1 H'->E1 (.ref t.c9) none H')->∀ {Q1:VK},CZ t.ag t.c9 [.ref a,.int n,.ref q] H1 Q1 E1:=λ {H1 q E1} g _ z {Q1} =>
  ⟨.ref q,⟨a,dx,nm,n,fv,kvs,rfl,g.sm _ _ hH,l1,hmv,g.sm _ _ hd,hvv,z⟩,rfl⟩
 rcases tb with tb | ⟨c',tb⟩
 ·refine ⟨_,aX (zc (λ pn E EX hx=>br (bX (l3 o1 (hr.mono (by decide)) rfl m1 k1 b1 .nil hx (au (pv 0) (au (pv 1) (au (AH rfl hcode CH Df.pg BL) aV)))))) (zd rfl T.me (λ ea=>by exact br (dG rR)) ze) iC rfl rfl) (br (dG rR)),?_⟩
  refine ⟨_,rfl,_,rfl,#[],tb,trivial,rfl,λ q c' ctv nq nc qc=>?_⟩;have nPq:Pt≠q:=λ z=>by rw [<- z,tb] at nq; cases nq
  have nPc:Pt≠c':=λ z=>by rw [<- z,tb] at nc; cases nc
  refine main (q:=q) (λ b u bP e=>?_) (.inr ⟨c',?_⟩) λ H' sa ea=>⟨true,T.hG,zD (k H' (λ b u bP e=>sa _ _ ?_) (.inr ⟨c',sa _ _ ?_⟩))⟩
  · rw [af (λ z=>by rw [z,nq] at e; cases e),af (λ z=>by rw [z,nc] at e; cases e),af bP]; exact e
  · rw [af nPq,af nPc]; exact ai
  · rw [af (λ z=>by rw [z,nq] at e; cases e),af (λ z=>by rw [z,nc] at e; cases e),af bP]; exact e
  · rw [af nPq,af nPc]; exact ai
 ·refine ⟨_,aX (zc (λ pn E EX hx=>br (bX (l3 o1 (hr.mono (by decide)) rfl m1 k1 b1 .nil hx (au (pv 0) (au (pv 1) (au (xG rfl hcode CH BL) aV)))))) (zd rfl T.me (λ ea=>by exact br (dG rR)) ze) iC rfl rfl) (br (dG rR)),?_⟩
  refine ⟨_,rfl,_,rfl,Jo c',c',tb,trivial,rfl,λ q ctv nq=>?_⟩;have sq:=λ (o:HO)=>ar nq o
  exact main (q:=q) (λ b u bP e=>sq _ _ _ e) (.inr ⟨c',sq _ _ _ tb⟩) λ H' sa ea=>⟨true,T.hG,zD (k H' (λ b u bP e=>sa _ _ (sq _ _ _ e)) (.inr ⟨c',sa _ _ (sq _ _ _ tb)⟩))⟩
end
end N13
end
section
local macro_rules | `(tactic| walk_at "v")=>`(tactic| first | exact .inl rfl | exact .inr rfl | assumption)
local macro_rules | `(tactic| walk_at "w")=>`(tactic| first | exact .inl rfl | exact .inr (.inl rfl) | exact .inr (.inr rfl))
namespace N13
open PySem L2 PySem.W PyProof.Rows
abbrev NL:List Str:=["_law_script","_law_name_here","_law_tree","_law_rows","_law_facts","_law_marked","_law_k","_law_cell_here","_law_number","_law_box","_law_every","_law_low","_law_size","_law_under_here","_law_tried_here","_law_due","_law_again"]
abbrev XL (P:Program) (w:World) (K:W.Frag) (mg:Str->Option Value) (base:Heap) (f:Addr) (cdv:Value) (A:Around) (outer:List Env) (s:Shared) (H:Hp) (E:XK):Cx:=(lr CX0 P w K mg base NL "law" (ax (top 36)) f cdv A outer s H E).nox
abbrev gPt (a b:Nat) (t:Adr):Type:={G:DSm // ∀ {P w K mg base f cdv A outer s H E},Txt K mg t->cg 6 (A.deeper (envOfC "law" (ax (top 36)) s.heap.objs.size f cdv))->NL.Nodup->Bx (rC (XL P w K mg base f cdv A outer s H E) (((aO (top 36)).take b).drop a) G)}
set_option maxHeartbeats 4000000
noncomputable def G_a (t:Adr):gPt 0 11 t:=⟨_,λ T hr nd =>
 (ae (aC 1 nd (he:=ao (aS (av (jK T) hr (dB (av (bY T) hr (dB (aa 0) aj)) aj))))) (ae (aC 2 nd (he:=wB (jM T) hr T.zw (az (cb (aa 1)) cw))) (ae (aC 3 nd (he:=ao (wC (kc:=.inl 0) m5 (ou (bV bK))))) (ae (aC 4 nd (he:=ao (wC (kc:=.inl 0) m5 (aS (mH (dB ju (aa 1))))))) (ae (aC 5 nd (he:=ao (ou (bV bK)))) (ae (wq (sM T.oO (cF (aN (B7 (aa 0) (lH aj) (lH aj))))) (wF (n:=2) (kq (lI 6 nd) (kq (lI 7 nd) sO))) (aE (bE (c7 (dX (fR (sE (dD (av (bQ T) hr (dB (aa 7) (cS aj (aa 6)))) aj) aj) (fg (B6 (aA lB T.dN (cF (aa 3))) aj))))) (ae (aC 8 nd (he:=ao (il (aA lB T.dN (cF (aa 3)))))) (ae (bE (ki (kh (ko (kX T) hr (az (ig (aB 2)) (az (ig (aB 3)) (az (ig (aB 4)) (az (cb (aa 8)) (az (cb (aa 7)) (az (cb (aa 6)) cw))))))))) (aE (bH (ao (aS bZ)))) a6) (aE (bE (c7 (sF (dD (aa 7) aj) aj)) (ae (lE (fi T.ay (pk T) hr (aB 2) (az (cb (aa 8)) (az (cb (aa 1)) cw)))) (aE (wt (aB 5) (aS (aa 8))))) a6)))) (aE (bE (ki (kh (ko (nv T) hr (az (ig (aB 2)) (az (ig (aB 3)) (az (ig (aB 4)) (az (cb (aa 7)) (az (cb (cS aj (aa 6))) cw)))))))) (aE (bH (ao (aS bZ)))) a6))))) (ae (aC 9 nd (he:=ao (il (dD (av (bQ T) hr (dB (av (bY T) hr (dB (aa 0) aj)) aj)) (aA lB T.dN (cF (aa 3))))))) (ae (aC 10 nd (he:=ao (aS (cS aj (dD (av (bY T) hr (dB (aa 0) aj)) aj))))) (ae (aC 11 nd (he:=ao (aS (dD (av (bY T) hr (dB (aa 0) aj)) (aa 10))))) (ae (aC 12 nd (he:=ao (aS (dD (av (bY T) hr (dB (aa 0) aj)) aj)))) (aE (aC 13 nd (he:=ao (rq (fh (fc T) hr (dB (aa 3) (aa 9)))))))))))))))))⟩
noncomputable def G_b (t:Adr):gPt 14 15 t:=⟨_,λ T hr nd =>
 (aE (bE (ki (kh (ko (kX T) hr (az (ig (aB 2)) (az (ig (aB 3)) (az (ig (aB 4)) (az (EU (aA lB T.dN (cF (aa 3)))) (az (cb (av (bY T) hr (dB (aa 0) aj))) (az (cb aj) cw))))))))) (aE (bH (ao (aS bZ)))) a6))⟩
noncomputable def G_c (t:Adr):gPt 16 17 t:=⟨_,λ T hr nd =>
 (aE (bE (c7 (cK (dU (av (cX T) hr (dB (aa 16) (aN (dW (ckN [("_law_low",11),("_law_every",10)]) (bI (av (fc T) hr (dB (aa 3) (aa 9)))) (λ _ _ _ _=>(wj (dD (aa 0) (aa 2)) (aa 1))) (λ _ _ _ _=>(aa 0))))))))) (aE (bH (ao (aS bZ)))) a6))⟩
end N13
end
section
namespace L2
open PySem PySem.Spec PyProof.Rows
theorem nY (env:Env) (b:List Stmt):∀ a,execs (a++b) env=(do match <- execs a env with | .next=>execs b env | f=>pure f)
 | []=>by
  show execs b env=(do match <- pure Flow.next with | .next=>execs b env | f=>pure f);rw [pure_bind]
 | s::a=>by
  show (do match <- exec s env with | .next=>execs (a++b) env | f=>pure f)=(do match <- (do match <- exec s env with | .next=>execs a env | f=>pure f) with | .next=>execs b env | f=>pure f);rw [bind_assoc];congr 1
  funext f
  cases f with
  | next=>exact nY env b a
  | ret v=>exact (pure_bind _ _).symm
  | brk=>exact (pure_bind _ _).symm
  | cont=>exact (pure_bind _ _).symm
theorem oX {X:Cx} {a b:List Stmt} {t u:TS} (h1:PSs X a t) (h2:PSs X b u):PSs X (a++b) (E6 t u):=by
 intro pins s σ H D I h;rw [nY];refine Zl (Z9 (h1 pins s σ H _ I h) (λ f s' q=>?_) λ _ _ q=>q)
 cases f with
 | next=>obtain ⟨σ',H',I',q⟩:=q; exact h2 pins s' σ' H' D I' q
 | ret v=>exact Zx q
 | brk=>exact Zx q
 | cont=>exact Zx q
end L2
end
section
namespace L2
open PySem PySem.Spec PySem.W PyProof.Rows
def BZ (Pt:Addr) (K:W.Frag):W.Frag:=K.filter λ p=>!(p.1 == Pt)
theorem fQ {Pt a:Addr} (h:a≠Pt):∀ K:W.Frag,List.lookup a (BZ Pt K)=List.lookup a K
 | []=>rfl
 | (b,o)::K=>by
  have ih:=fQ h K;unfold BZ at *
  cases q:b == Pt with
  | true =>
   have e:b=Pt:=eq_of_beq q;rw [List.filter_cons_of_neg (by simp [q]),ih,Yq];have ne:(a == b)=false:=Yh.mpr λ z=>h (z.trans e)
   rw [ne]
  | false =>
   rw [List.filter_cons_of_pos (by simp [q]),Yq,Yq,ih]
theorem qW {Pt:Addr}:∀ K:W.Frag,List.lookup Pt (BZ Pt K)=none
 | []=>rfl
 | (b,o)::K=>by
  have ih:=qW (Pt:=Pt) K;unfold BZ at *
  cases q:b == Pt with
  | true=>rw [List.filter_cons_of_neg (by simp [q])]; exact ih
  | false =>
   rw [List.filter_cons_of_pos (by simp [q]),Yq,ih];have ne:(Pt == b)=false:=Yh.mpr λ z=>by rw [z,beq_self_eq_true] at q; cases q
   rw [ne]
theorem qY {Pt:Addr} {K:W.Frag} {h:Heap} (k:K.In h):(BZ Pt K).In h:=λ b o e=>by
 by_cases z:b=Pt
 · rw [z,qW] at e; cases e
 · rw [fQ z] at e; exact k b o e
section
variable {K:W.Frag} {Pt:Addr}
def codeHdIn (K:W.Frag) (cd:Value) (P:Addr):Bool:=match cd with
 | .ref c=>(match K.lookup c with
  | some ⟨.type n,_,.fields vs,_⟩=>n == "code"&&(match (vs[11]?:Option Value) with | some (Value.ref p)=>p == P | _=>false)&&(match vs.getD 18 .none with | .str _ _=>true | _=>false)&&(match vs.getD 7 .none with | .int _ _=>true | _=>false)&&(match vs.getD 9 .none with | .bool _=>true | _=>false)&&(match vs.getD 10 .none with | .int _ _=>true | _=>false)&&!(c == P)
  | _=>false)
 | _=>false
theorem og {cd:Value} {P:Addr} (e:codeHdIn K cd P=true):∃ c,cd=.ref c/\∀ h,(BZ P K).In h->CodeHd h c P:=by
 unfold codeHdIn at e;split at e
 ·rename_i c
  split at e
  ·rename_i n od vs sl hl
   simp only [Z8,Yz] at e;obtain ⟨⟨⟨⟨⟨⟨e1,e2⟩,e3⟩,e4⟩,e5⟩,e6⟩,e7⟩:=e;have en:n="code":=eq_of_beq e1;have ne:c≠P:=λ z=>by rw [z,beq_self_eq_true] at e7; cases e7
   have v11:vs[11]?=some (.ref P):=by
    split at e2
    · rename_i p hp; rw [hp,eq_of_beq e2]
    · cases e2
   split at e3
   ·rename_i f1 t1 h18
    split at e4
    ·rename_i f2 t2 h7
     split at e5
     ·rename_i f3 h9
      split at e6
      ·rename_i f4 t4 h10
       refine ⟨c,rfl,λ h k=>⟨_,vs,f1,t1,f2,t2,f3,f4,t4,k c _ ((fQ ne K).trans hl),by rw [en],rfl,v11,by rw [Array.getD_eq_getD_getElem?,v11]; rfl,h18,h7,h9,h10,ne⟩⟩
      · cases e6
     · cases e5
    · cases e4
   · cases e3
  · cases e
 · cases e
theorem kg {c P:Addr} (e:codeHdIn K (.ref c) P=true):∃ o vs,K.lookup c=some o/\o.cls=.type "code"/\o.data=.fields vs/\vs[11]?=some (.ref P):=by
 unfold codeHdIn at e;simp only at e;split at e
 ·rename_i n od vs sl hl
  simp only [Z8,Yz] at e;obtain ⟨⟨⟨⟨⟨⟨e1,e2⟩,e3⟩,e4⟩,e5⟩,e6⟩,e7⟩:=e;have en:n="code":=eq_of_beq e1;refine ⟨_,vs,hl,by rw [en],rfl,?_⟩;split at e2
  · rename_i p hp; rw [hp,eq_of_beq e2]
  · cases e2
 · cases e
def FZ (K:W.Frag) (bm P:Addr):Bool:=match K.lookup bm with
 | some ⟨.type n,some ns,.plain,_⟩=>n == "module"&&ns == builtinsNs&&!(bm == builtinsNs)&&!(bm == mainGlobals)&&!(bm == P)
 | _=>false
theorem E2 {bm P:Addr} {mg:Str->Option Value} (e:FZ K bm P=true) (m:mg "__builtins__"=some (.ref bm)):∀ h,(BZ P K).In h->h.BuiltinsAt mg P:=by
 unfold FZ at e;split at e
 ·rename_i n ns sl hl
  simp only [Z8,Yz,Yh] at e;obtain ⟨⟨⟨⟨e1,e2⟩,e3⟩,e4⟩,e5⟩:=e;have en:n="module":=eq_of_beq e1;have e2':ns=builtinsNs:=eq_of_beq e2;exact λ h k=>⟨bm,_,m,e3,e4,e5,k bm _ ((fQ e5 K).trans hl),by rw [en],by rw [e2'],rfl⟩
 · cases e
end
def yJ (Ps:List Addr) (H:Hp):Prop:=(∀ Pt ∈ Ps,H Pt=some (.tbl #[]))/\∀ b,b ∉ Ps->H b=none\/∃ o xs,H b=some (.frz o (.lst xs))
theorem vb {P:Program} {w:World} {K:W.Frag} {mg mb:Str->Option Value} {CX:CXT} {k:Nat} {fa a:Addr} {Ps:List Addr} {fd:FuncData} {x:Str} {sp:Sp} {s₁:Shared} {vs:List Value} {ns:List Int}
  (KX:K.In s₁.heap) (hT:∀ Pt ∈ Ps,s₁.heap.get? Pt=some (tabObj #[])/\K.lookup Pt=none/\isCodeTable s₁.heap Pt) (hns:s₁.heap.Ns mainGlobals mg) (hb:s₁.heap.Ns builtinsNs mb) (hbb:∀ x:Str,x≠"__name__"->mb x=bootBuiltins x) (hlim:s₁.heap.NoLimit) (hg:s₁.gens=#[])
  (ha:s₁.heap.get? a=some { cls:=.type "list",data:=.seq vs.toArray }) (hi:IntsAre vs ns) (hl:ns.length<=sizeLine) (hr:cg k callerA)
  (F:∀ base:Heap,K.In base->base.Ns mainGlobals mg->gL P w K mg base CX k fa fd [x] sp) (hbind:∀ (s:Shared) (u:Value),BindsTo s fd ⟨[u],[]⟩ [(x,u)])
  (hsp:∀ H:Hp,yJ Ps H->SqL K H a (ns.map V.int)->sp [.ref a] H (λ v _=>v=.bl true) λ _ _ _=>False)
  (hCX:∀ H e s',CX [] H s₁ (λ _ _ _=>False) e s'->False) :
  codeAny (model P w) callerA (.call (.ref fa) ⟨[.ref a],[]⟩) (λ r s'=>r=.ok (.ret (.bool true))/\OldK s₁.heap s'.heap/\s'.os=s₁.os/\AllBare s'.gens) s₁:=by
 have rv:=mQ hi;have lenV:=hi.length;have aP:a ∉ Ps:=λ z=>by rw [(hT _ z).1] at ha; cases ha
 have core:∀ H:Hp,yJ Ps H->SqL K H a (ns.map V.int)->HOk P w H s₁.heap->(∀ b,H b≠none->b=a\/b ∈ Ps)->(H a≠none->K.lookup a=none) ->
   codeAny (model P w) callerA (.call (.ref fa) ⟨[.ref a],[]⟩) (λ r s'=>r=.ok (.ret (.bool true))/\OldK s₁.heap s'.heap/\s'.os=s₁.os/\AllBare s'.gens) s₁:=by
  intro H hO hS hok hA hK;have base_of:∀ {b:Addr} {o:Obj},s₁.heap.get? b=some o->H b=none->(yj s₁.heap H).get? b=some o:=λ e n=>yi e n
  have noA:∀ {b:Addr} {o:Obj} {es:Array DictEntry} {ep:Nat},s₁.heap.get? b=some o->o.data=.dict es ep->H b=none:=λ {b o es ep} e d=>by
   cases q:H b with
   | none=>rfl
   | some u =>
    rcases hA b (by rw [q]; simp) with e' | e'
    ·subst e'
     rw [ha] at e; cases e
     have d':Data.seq vs.toArray _=Data.dict es ep:=d;cases d'
    ·rw [(hT _ e').1] at e; cases e
     have d':Data.fields _=Data.dict es ep:=d;cases d'
  have nsK:∀ {b:Addr} {m:Str->Option Value},s₁.heap.Ns b m->(yj s₁.heap H).Ns b m:=λ {b m} ⟨o,es,ep,e,d,r⟩=>⟨o,es,ep,base_of e (noA e d),d,r⟩
  have hKb:K.In (yj s₁.heap H):=λ b o e=>base_of (KX b o e) (by
   cases q:H b with
   | none=>rfl
   | some u =>
    rcases hA b (by rw [q]; simp) with e' | e'
    ·subst e'
     rw [hK (by rw [q]; simp)] at e; cases e
    · rw [(hT _ e').2.1] at e; cases e)
  have hM:Mod K mg (yj s₁.heap H):=⟨hKb,nsK hns,⟨mb,nsK hb,hbb⟩,let ⟨mc,h1,h2⟩:=hlim; ⟨mc,nsK h1,h2⟩⟩
  have e0:rE P w K mg (yj s₁.heap H) callerA [] s₁ H:=⟨rfl,hM,λ b o e=>AY e,Nat.le_of_eq (vt _ _),trivial,λ b hb=>absurd (show b ∈ ([]:List Addr) from hb) (by simp),hok,.of_eq hg⟩
  refine Xo ((F _ hKb (nsK hns)).run callerA [] s₁ H ⟨[.ref a],[]⟩ [.ref a] [.ref a] _ _ hr e0 (hbind s₁ (.ref a)) (.cons rfl .nil) (hsp H hO hS)) λ r s' h=>?_
  cases r with
  | error e=>exact (hCX H e s' h).elim
  | ok fl =>
   cases fl with
   | next=>exact False.elim h
   | brk=>exact False.elim h
   | cont=>exact False.elim h
   | ret u =>
    obtain ⟨v,H',os,bare,un,hok',r',q⟩:=h;have q':v=.bl true:=q;subst q';obtain rfl:u=Value.bool true:=r';refine ⟨rfl,⟨λ b o e=>?_,λ b o e=>un.there b o e (by simp)⟩,os,bare⟩
    by_cases hP:b ∈ Ps
    ·obtain ⟨more,z⟩:=un.lR b _ (hO.1 b hP)
     have z2:s'.heap.get? b=some (tabObj (#[]++more)):=hok' b _ z;rw [(hT b hP).1] at e;cases e;exact .inr (.inl ⟨(hT b hP).2.2,rfl,#[],more,rfl,z2⟩)
    ·refine .inl ?_
     cases q:H b with
     | none=>exact un.keep b o e q (by intro z; exact absurd (show b ∈ ([]:List Addr) from z) (by simp)) (by simp)
     | some u =>
      rcases hO.2 b hP with z | ⟨ob,xs,z⟩
      · rw [q] at z; cases z
      ·have z2:=un.mr b ob _ z
       obtain ⟨e1,_⟩:=hok b _ z;obtain ⟨e2,_⟩:=hok' b _ z2;rw [e] at e1; cases e1
       exact e2
 cases hk:K.lookup a with
 | some o =>
  have e:=KX a o hk;rw [ha] at e;cases e;refine core (λ b=>if b ∈ Ps then some (.tbl #[]) else none) ⟨λ b hb=>if_pos hb,λ b hb=>.inl (if_neg hb)⟩ (.inr ⟨_,vs.toArray,_,hk,rfl,rfl,rfl,by rw [Zs,lenV]; exact hl,by simpa using rv⟩) (λ b u z=>?_) (λ b z=>?_) λ z=>absurd (if_neg aP) z
  ·by_cases hb:b ∈ Ps
   ·have z':=(if_pos hb).symm.trans z
    cases z';exact (hT b hb).1
   ·have z':=(if_neg hb).symm.trans z
    cases z'
  ·by_cases hb:b ∈ Ps
   · exact .inr hb
   · exact absurd (if_neg hb) z
 | none =>
  refine core (λ b=>if b ∈ Ps then some (.tbl #[]) else if b=a then some (.frz { cls:=.type "list",data:=.seq vs.toArray } (.lst (ns.map V.int))) else none) ⟨λ b hb=>if_pos hb,λ b hb=>?_⟩ (.inl (.inr ⟨{ cls:=.type "list",data:=.seq vs.toArray },(if_neg aP).trans (if_pos rfl)⟩)) (λ b u z=>?_) (λ b z=>?_) λ _=>hk
  ·by_cases ha':b=a
   · exact .inr ⟨_,_,(if_neg hb).trans (if_pos ha')⟩
   · exact .inl ((if_neg hb).trans (if_neg ha'))
  ·by_cases hb:b ∈ Ps
   ·have z':=(if_pos hb).symm.trans z
    cases z';exact (hT b hb).1
   ·have z1:=(if_neg hb).symm.trans z
    by_cases ha':b=a
    ·have z':=(if_pos ha').symm.trans z1
     cases z';subst ha';exact ⟨ha,by rw [Za]; exact hl,vs,_,rv,ha⟩
    ·have z':=(if_neg ha').symm.trans z1
     cases z'
  ·by_cases hb:b ∈ Ps
   · exact .inr hb
   ·by_cases ha':b=a
    · exact .inl ha'
    · exact absurd ((if_neg hb).trans (if_neg ha')) z
theorem wZ {l:PySem.W.OpenLaw} {n k:Nat} {q:Program} {loose:List Str} {XP:(Str->Option Value)->Heap->Prop} {d:DefRec} {K Kc:Params->W.Frag} {CX:CXT} {sp:W.Frag->Sp} {x:Str} {Ps:List Addr}
    (hn:l.most=some n) (hn2:n<=sizeLine) (hdf:d.params.defaults=[]) (hr:cg k callerA)
    (hc:∀ P b o,List.lookup b (Kc P)=some o->List.lookup b (K P)=some o) (hPt:∀ P,∀ Pt ∈ Ps,List.lookup Pt (K P)=some (tabObj #[])/\List.lookup Pt (Kc P)=none/\∃ c o vs,List.lookup c (K P)=some o/\o.cls=.type "code"/\o.data=.fields vs/\vs[11]?=some (.ref Pt))
    (F : ∀ (w:World) (mg:Str->Option Value) (fa:Addr) (h:Heap),(Kc w.params).In h->h.Ns mainGlobals mg->mg d.name=some (.ref fa) ->
      ∃ fd:FuncData,(∀ (s:Shared) (u:Value),BindsTo s fd ⟨[u],[]⟩ [(x,u)]) /\
        ∀ base:Heap,(Kc w.params).In base->base.Ns mainGlobals mg->gL l.prog w (Kc w.params) mg base CX k fa fd [x] (sp (Kc w.params)))
    (hsp:∀ (K:W.Frag) (H:Hp) (a:Addr) (ns:List Int),ns.length<=n->yJ Ps H->SqL K H a (ns.map V.int)->sp K [.ref a] H (λ v _=>v=.bl true) λ _ _ _=>False)
    (hCX:∀ (H:Hp) (s:Shared) (e:Value) (s':Shared),CX [] H s (λ _ _ _=>False) e s'->False) :
    PySem.W.WalkO q loose XP (PySem.W.InK K) l.row.toRowW d [] (λ f vs=>PySem.call f vs):=by
  refine Att.pW hn hdf λ w s₀ s₁ mg mb fa o pm cd doc a vs ns G Y ho hd hcd hmg hobj hints hlen hg=>?_
  have KX:(K w.params).In s₁.heap:=Y;have KC:(Kc w.params).In s₁.heap:=λ b o e=>KX b o (hc _ b o e)
  obtain ⟨fd,hb,hF⟩:=F w mg fa _ KC G.T.g hmg;exact vb KC (λ Pt hp=>have ⟨h1,h2,c,oc,vc,e1,e2,e3,e4⟩:=hPt w.params Pt hp; ⟨KX _ _ h1,h2,c,oc,vc,KX _ _ e1,e2,e3,e4⟩) G.T.g G.T.b G.T.builtins G.T.nolimit hg hobj hints (Z5 hlen hn2) hr hF hb (λ H hO hS=>hsp _ H a ns hlen hO hS) λ H e s'=>hCX H s₁ e s'
end L2
end
section
local macro_rules | `(tactic| walk_at "v")=>`(tactic| first | exact .inl rfl | exact .inr rfl | assumption)
local macro_rules | `(tactic| walk_at "w")=>`(tactic| first | exact .inl rfl | exact .inr (.inl rfl) | exact .inr (.inr rfl))
namespace N13
open PySem L2 PySem.W PyProof.Rows
section
variable {K:W.Frag} {Hs0 H0 Hs H H' Hn:Hp} {ρ:List (Option Addr)} {σ:L2.St} {τ:List Sm} {Pt:Addr} {u:HO}
def jn (Hs Hn:Hp):Hp:=λ b=>match Hs b with
 | some u=>some u
 | none=>Hn b
theorem IC:ba Hs (jn Hs Hn):=λ b u e=>by unfold jn; rw [e]
theorem FW {b:Addr} (e:Hs b=none):jn Hs Hn b=Hn b:=by unfold jn; rw [e]
theorem J3 {b:Addr} {u:HO} (h:Hs b=none) (e:Hn b=some u):jn Hs Hn b=some u:=(FW h).trans e
theorem gX {H:Hp} {b:Addr} (h:b≠Pt):lsH H Pt b=H b:=if_neg h
theorem zy {H:Hp}:lsH H Pt Pt=none:=if_pos rfl
theorem t6 (r:be K Hs0 H0 ρ Hs H σ τ) (nP:Hs Pt=none) (hP:H0 Pt≠none) (g:Fr Pt H H') (s1:ba Hn H') (s2:∀ b,Hn b≠none->H b=none):be K Hs0 (lsH H0 Pt) ρ (jn Hs Hn) H' σ τ:=by
 obtain ⟨fp,st⟩:=r.st
 have n2:∀ b,H b≠none->Hn b=none:=λ b h=>by
  cases e:Hn b with
  | none=>rfl
  | some x=>exact absurd (s2 b (aR e)) h
 refine ⟨⟨r.ext.ss.trans IC,λ b x e=>?_,λ b x e=>?_,λ b h1 h2=>?_⟩,fp,?_⟩
 ·cases q:Hs b with
  | some y =>
   rw [IC (Hn:=Hn) b y q] at e;cases e;exact g b _ (λ z=>by rw [z,nP] at q; cases q) (r.sm b _ q)
  | none=>rw [FW q] at e; exact s1 b x e
 ·by_cases z:b=Pt
  · rw [z,zy] at e; cases e
  · rw [gX z] at e; exact g b x z (r.ext.hh b x e)
 ·by_cases z:b=Pt
  · exact absurd (by rw [z]; exact zy) h2
  ·rw [gX z] at h2
   rw [FW (r.ext.fr b h1 h2)]; exact n2 b (r.ext.hh.live h2)
 ·have lv:=st.live
  refine (st.mv IC λ b hb=>?_).rebase λ b hb=>?_
  ·obtain ⟨h1,h2,h3⟩:=lv b hb
   have bP:b≠Pt:=λ z=>hP (by rw [<- z]; exact h3)
   refine ⟨by rw [FW h1]; exact n2 b h2,?_⟩
   cases e:H b with
   | none=>exact absurd e h2
   | some x=>exact g b x bP e
  ·obtain ⟨h1,h2,h3⟩:=lv b hb
   rw [gX λ z=>hP (by rw [<- z]; exact h3)]; exact h3
theorem tK {H0 Hs H:Hp}:∀ {n:Nat} {σ:L2.St},σ.length=n->StR K H0 Hs H σ (List.replicate n .no) []
 | 0,[],_=>.nil
 | n+1,_::σ,h=>.no (tK (Nat.succ.inj h))
theorem Gw {H0 Hs H:Hp} {v:V} {d:D} {n:Nat}:∀ {σ:L2.St},σ.length=n+1->σ[0]?=some (some v)->Rp K Hs v d->StR K H0 Hs H σ (.shr d::List.replicate n .no) []
 | o::σ,h,e,r=>by
  have e':o=some v:=Zj e;subst e';exact .shr r (tK (Nat.succ.inj h))
theorem Fr.of {Pt:Addr} (h:ba H H'):Fr Pt H H':=λ b u _ e=>h b u e
theorem z7 (r:be K Hs0 H0 ρ Hs H σ τ) (nP:Hs Pt=none) (hP:H0 Pt≠none):StR K (lsH H Pt) (lsH H Pt) (lsH H Pt) σ (aQ τ) []:=by
 obtain ⟨fp,st⟩:=r.st;refine StM.aQ (st.mv (H':=lsH H Pt) (.refl _) λ b hb=>?_) λ b x e=>?_
 ·obtain ⟨h1,h2,h3⟩:=st.live b hb
  exact ⟨h1,if_neg λ z=>hP (by rw [<- z]; exact h3)⟩
 · exact (if_neg λ z=>by rw [z,nP] at e; cases e).trans (r.sm b x e)
theorem CV {o:Option V} {fp:List Addr} (h:StM K H0 Hs H ρ σ τ fp):∀ i:Nat,∃ fp',StM K H0 Hs H ρ (σ.set i o) (τ.set i .no) fp'/\∀ c ∈ fp',c ∈ fp:=by
 induction h with
 | nil=>exact λ i=>⟨[],.nil,λ _ h=>h⟩
 | no r ih =>
  intro i
  cases i with
  | zero=>exact ⟨_,.no r,λ _ h=>h⟩
  | succ i=>obtain ⟨fp',h1,h2⟩:=ih i; exact ⟨fp',.no h1,h2⟩
 | shr h r ih =>
  intro i
  cases i with
  | zero=>exact ⟨_,.no r,λ _ h=>h⟩
  | succ i=>obtain ⟨fp',h1,h2⟩:=ih i; exact ⟨fp',.shr h h1,h2⟩
 | mu h hp z j r ih =>
  intro i
  cases i with
  | zero=>exact ⟨_,.no r,λ _ h=>Zc _ h⟩
  | succ i =>
   obtain ⟨fp',h1,h2⟩:=ih i;exact ⟨_,.mu h hp z (λ c hc q=>j c hc (h2 c q)) h1,λ c hc=>(Zi.mp hc).elim (Zn _) λ q=>Zc _ (h2 c q)⟩
theorem t7 {o:Option V} (r:be K Hs0 H0 ρ Hs H σ τ) (i:Nat):be K Hs0 H0 ρ Hs H (σ.set i o) (τ.set i .no):=by
 obtain ⟨fp,st⟩:=r.st;obtain ⟨fp',h,_⟩:=CV (o:=o) st i;exact ⟨r.ext,fp',h⟩
end
def yS (Ps:List Addr) (K:W.Frag):Sp:=λ vs H Q _=>∃ (a:Addr) (ns:List Int),vs=[.ref a]/\yJ Ps H/\SqL K H a (ns.map V.int)/\ns.length<=63/\∀ H',Q (.bl true) H'
def fn1:DE:=gB kJ (aK (aH 3) d8)
noncomputable def fn2:DE:=dOp DP (dUn DR (dC (.int 1))) (dOp oMod (dFn dv (aK (aH 0) (aK (dC (.int 0)) d8))) (dOp DQ (dC (.int 10)) (dC (.int 29))))
abbrev Gg (ns:List Int):List Sm:=.shr (scr ns)::List.replicate 16 .no
abbrev BR (n:Int) (us:List Int) (p1 p2 p3 p4:Int->Bool):D:=.lst ([(n::us).filter p1,(n::us).filter p2,(n::us).filter p3,(n::us).filter p4,n::us].map lD)
noncomputable def wnt:DE:=BY cT (aK (aH 4) (aK (aH 13) (aK (aH 10) (aK (aH 11) (aK (aH 12) (aK (aH 5) d8))))))
noncomputable def tst:DT:=ER (dT (dFn bM (aK (dOp oIx (aH 14) (aH 6)) (aK (dOp oIx (aH 15) (aH 6)) d8))))
structure J8 (t:Adr) (ns:List Int) where
 τ1:List Sm
 τ2:List Sm
 τ3:List Sm
 nm:Str
 bx:Int
 ev:Int
 lo:Int
 sz:Int
 us:List Int
 us2:List Int
 d:D
 d2:D
 du:D
 dm:D
 k1:Int
 k2:Int
 p1:Int->Bool
 p2:Int->Bool
 p3:Int->Bool
 p4:Int->Bool
 g1:(G_a t).1 (Gg ns)=some (.next τ1)
 x1:(aQ τ1)[1]?=some (.shr (.str nm))/\(aQ τ1)[2]?=some (.shr d)/\(aQ τ1)[5]?=some (.shr dm)/\(aQ τ1)[9]?=some (.shr (.int bx))/\(aQ τ1)[10]?=some (.shr (.int ev))/\(aQ τ1)[11]?=some (.shr (.int lo))/\(aQ τ1)[12]?=some (.shr (.int sz))/\(aQ τ1)[13]?=some (.shr du)
 b1:cz t [d,.int bx]=some (.own (.lst (us.map iD)))
 l1:us.length < 1000
 e1:∀ x ∈ bx::us,f1 [.shr (.int x),.shr (.int ev),.shr (.int lo)]=some (.bl (p1 x))
 e2:∀ x ∈ bx::us,f2 t [.shr (.int x),.shr d,.shr (.int sz)]=some (.bl (p2 x))
 e3:∀ x ∈ bx::us,f3 t [.shr (.int x),.shr (.str nm),.shr d]=some (.bl (p3 x))
 e4:∀ x ∈ bx::us,f4 [.shr (.int x),.shr dm,.shr du]=some (.bl (p4 x))
 y1:τ1.length=17
 ds:List D
 w1:wnt (aQ (τ1.set 14 (.shr (BR bx us p1 p2 p3 p4))))=some (.lst ds)
 w2:∀ i:Nat,i < 5->tst ((((List.replicate 17 Sl.no).set 6 (.shr (.int i))).set 14 (.shr (BR bx us p1 p2 p3 p4))).set 15 (.shr (.lst ds)))=some false
 g2:(G_b t).1 (((τ1.set 14 (.shr (BR bx us p1 p2 p3 p4))).set 15 .no).set 6 .no)=some (.next τ2)
 x2:(aQ τ2)[2]?=some (.shr d2)/\(aQ τ2)[9]?=some (.shr (.int bx))/\(aQ τ2)[10]?=some (.shr (.int ev))/\(aQ τ2)[11]?=some (.shr (.int lo))
 b2:cz t [d2,.int bx]=some (.own (.lst (us2.map iD)))
 l2:us2.length < 1000
 e1':∀ x ∈ bx::us2,f1 [.shr (.int x),.shr (.int ev),.shr (.int lo)]=some (.bl (p1 x))
 g3:(G_c t).1 (τ2.set 16 (.shr (lD ((bx::us2).filter p1))))=some (.next τ3)
 y3:τ3.length=17
 x3:(aQ τ3)[2]?=some (.shr d2)/\(aQ τ3)[0]?=some (.shr (scr ns))
 h1:fn1 (aQ τ3)=some (.int k1)
 h2:fn2 (.shr (scr ns)::List.replicate 16 .no)=some (.int k2)
 n1:NoB t d2 k1
 n2:NoB t d2 k2
abbrev SL (i:Nat):Stmt:=(aO (top 36)).getD i (.Pass ⟨0,0,0,0⟩)
section
variable {P:Program} {w:World} {K:W.Frag} {mg:Str->Option Value} {base:Heap} {t:Adr}
set_option maxHeartbeats 4000000
theorem DJ {P1 P2 P3 fa cl:Addr} {fd:FuncData} (T:Txt K mg t) (KB:K.In base) (Dt:DfC K mg "_law_tried" (top 34) ["_law_tree","_law_box","_law_under_here","_law_every","_law_low","_law_size","_law_name_here","_law_marked"] P1) (Dm:DfC K mg "_law_missing" (top 33) ["_law_tree","_law_box"] P2)
  (F:Fun K "law" "law" (top 36) fa fd) (hcode:fd.code=.ref cl) (CH:CodeHd base cl P3) (pg:mainGlobals≠P3) (BL:base.BuiltinsAt mg P3) (n12:P1≠P2) (n13:P1≠P3) (n23:P2≠P3) (hl:∀ ns:List Int,ns.length<=63->Nonempty (J8 t ns)) :
  gL P w K mg base CX0 7 fa fd ["_law_script"] (yS [P1,P2,P3] K):=by
 obtain ⟨f1',d1',p1',m1',k1',b1',o1'⟩:=nu (P:=P) (w:=w) T KB Dt;obtain ⟨f2',d2',p2',m2',k2',b2',o2'⟩:=kH (P:=P) (w:=w) T KB Dm;obtain ⟨f3',d3',p3',m3',k3',b3',o3'⟩:=kW (P:=P) (w:=w) (base:=base) T;obtain ⟨oc,od,kV,doc0,pm,an,cdv,ct,osl,efd,lk,hcd⟩:=F.ex;rw [efd] at hcode lk ⊢;refine vC (N:=NL) lk hcd ⟨rfl,rfl,rfl,by decide +kernel,rfl,by decide +kernel,by decide +kernel⟩ (λ vs H Q E h=>by obtain ⟨_,_,rfl,_⟩:=h; rfl) λ A outer s H vs Q E hr h=>?_
 obtain ⟨a,ns,rfl,hO,hS,h63,k⟩:=h;obtain ⟨L⟩:=hl ns h63;have nd:NL.Nodup:=by decide +kernel
 refine ⟨_,PSs.nox (show PSs (XL P w K mg base fa cdv A outer s H E) ((((aO (top 36)).take 11).drop 0)++(SL 11::SL 12::SL 13::((((aO (top 36)).take 15).drop 14)++(SL 15::((((aO (top 36)).take 17).drop 16)++[SL 17]))))) _ from oX ((G_a t).2 T hr nd).out (aX (fY (i:=14) nd rfl (Or.inl rfl) (gq o1' (hr.mono (by decide)) rfl m1' k1' b1' .nil iE (au (pv 2) (au (pv 9) (au (pv 13) (au (pv 10) (au (pv 11) (au (pv 12) (au (pv 1) (au (pv 5) aV))))))))))
  (aX (fY (i:=15) nd rfl (Or.inl rfl) (fh (l6 T) hr (cf (aa 4) (cf (aa 13) (cf (aa 10) (cf (aa 11) (cf (aa 12) (cf (aa 5) bK))))))).out)
  (aX (uo .never rfl (m4 rfl T.oK (au m5 aV)) (jF (i:=6) nd rfl (Or.inl rfl)) (br (xC (cK (dU (av (cX T) hr (dB (bJ (aa 14) (aa 6)) (bJ (aa 15) (aa 6)))))).out (br (dG rR)) iC)))
  (oX ((G_b t).2 T hr nd).out (aX (fY (i:=16) nd rfl (Or.inl rfl) (gR (n1:="_law_every") (n2:="_law_low") (j1:=10) (j2:=11) o3' (hr.mono (by decide)) rfl m3' k3' b3' ⟨rfl,rfl,rfl,rfl,rfl,rfl,rfl,rfl,by decide +kernel⟩ (au (pv 2) (au (pv 9) (au (jG rfl hcode CH pg BL) aV)))))
  (oX ((G_c t).2 T hr nd).out (br (dG (zj (gq o2' (hr.mono (by decide)) rfl m2' k2' b2' .nil iE (au (pv 2) (au (aA lB T.dN (cF (aa 3))).out aV)))
    (zi (gq o2' (hr.mono (by decide)) rfl m2' k2' b2' .nil iE (au (pv 2) (au (yE (zP aj) (dD (av (bY T) hr (dB (aa 0) aj)) (Jf aj aj))).out aV)))))))))))))),?_⟩
 have t1:H P1=some (.tbl #[]):=hO.1 P1 (by simp);have t2:H P2=some (.tbl #[]):=hO.1 P2 (by simp);have t3:H P3=some (.tbl #[]):=hO.1 P3 (by simp)
 let Hs0:Hp:=λ b=>if b ∈ [P1,P2,P3] then none else H b
 have z1:Hs0 P1=none:=if_pos (by simp);have z2:Hs0 P2=none:=if_pos (by simp);have z3:Hs0 P3=none:=if_pos (by simp)
 have sm:ba Hs0 H:=λ b u e=>by
  by_cases y:b ∈ [P1,P2,P3]
  · rw [show Hs0 b=none from if_pos y] at e; cases e
  · rw [show Hs0 b=H b from if_neg y] at e; exact e
 have nPt:∀ b u,H b=some u->(∀ x,u≠.tbl x)->Hs0 b=some u:=λ b u e z=>by
  refine (if_neg λ y=>?_).trans e;rw [hO.1 b y] at e; cases e; exact z _ rfl
 have hS0:SqL K Hs0 a (ns.map V.int):=by
  rcases hS with (y | ⟨o,y⟩) | y
  · exact .inl (.inl (nPt a _ y λ _ q=>nomatch q))
  · exact .inl (.inr ⟨o,nPt a _ y λ _ q=>nomatch q⟩)
  · exact .inr y
 have r0:be K Hs0 H ([none]++List.replicate 16 none) Hs0 H (start NL [.ref a]) (Gg ns):=⟨⟨.refl _,sm,.refl _,λ _ h _=>h⟩,[],(StM.shr (p:=none) (.fz hS0 (Rps.ints ns)) .nil).startM 16⟩
 refine ⟨Hs0,H,λ d o u e=>aR e,_,Hs0,Gg ns,_,r0,L.g1,λ σ1 Hs1 H1 r1=>?_⟩;have st1:=z7 r1 (r1.ext.fr _ z1 (aR t1)) (aR t1);obtain ⟨x1,x2,x5,x9,x10,x11,x12,x13⟩:=L.x1;obtain ⟨v1,s1,rv1⟩:=st1.get x1;obtain ⟨v2,s2,rv2⟩:=st1.get x2;obtain ⟨v5,s5,rv5⟩:=st1.get x5;obtain ⟨v9,s9,rv9⟩:=st1.get x9;obtain ⟨v10,s10,rv10⟩:=st1.get x10;obtain ⟨v11,s11,rv11⟩:=st1.get x11;obtain ⟨v12,s12,rv12⟩:=st1.get x12;obtain ⟨v13,s13,rv13⟩:=st1.get x13;cases rv1;cases rv9;cases rv10;cases rv11;cases rv12;refine ⟨_,s2,_,s9,_,s13,_,s10,_,s11,_,s12,_,s1,_,s5,v2,v13,v5,L.bx,L.ev,L.lo,L.sz,L.nm,L.d,L.du,L.dm,L.us,L.p1,L.p2,L.p3,L.p4,rfl,r1.ext.hh _ _ t1,rv2,rv13,rv5,L.b1,L.l1,L.e1,L.e2,L.e3,L.e4,λ v Hn H2 g h1 h2 rn=>?_⟩;have r2:=t6 r1 (r1.ext.fr _ z1 (aR t1)) (aR t1) g h1 h2
 have r2':=r2.oV (i:=14) (rn.same λ b u e=>J3 (by
  cases q:Hs1 b with
  | none=>rfl
  | some y=>have:=h2 b (aR e); rw [r1.sm b y q] at this; cases this) e)
 obtain ⟨fq,stq⟩:=r2'.st;refine ⟨H2,H2,_,[],_,stq.aQ r2'.sm,.refl _,L.w1,λ a15 Hs3 H3 g3 ow n15=>?_⟩;have r3:=t7 (o:=some (.ref a15)) (r2'.grow g3.hh) 15
 have l17:((σ1.set 14 (some v)).set 15 (some (V.ref a15))).length=17:=by
  obtain ⟨_,q⟩:=r3.st;rw [q.len,Ye,Ye]; exact L.y1
 have rd15:Rp K H3 (.ref a15) (.lst L.ds):=by
  cases ow with
  | lst h n r=>exact .lst h (r.same g3.sh)
 have rd14:Rp K H3 v (BR L.bx L.us L.p1 L.p2 L.p3 L.p4):=rn.same (h1.trans g3.hh);generalize hσ:(σ1.set 14 (some v)).set 15 (some (V.ref a15))=σb at r3 l17;have b14:σb[14]?=some (some v):=by rw [<- hσ,List.getElem?_set_ne (by decide),List.getElem?_set_self]; rw [<- hσ,Ye,Ye] at l17; omega
 have b15:σb[15]?=some (some (.ref a15)):=by rw [<- hσ,List.getElem?_set_self]; rw [<- hσ,Ye] at l17; omega
 refine ⟨5,rfl,by decide,by decide,vA (lo:=0) (n:=5) (λ _ σ H'=>σ.set 6 none=σb.set 6 none/\ba H3 H') ⟨Z7 (λ l=>List.set l 6 none) hσ,.refl _⟩ (λ i σ Hc hi ⟨es,sc⟩=>?_) λ σ Hc ⟨es,sc⟩=>?_⟩
 ·have ln:(σ.set 6 (some (V.int (0+(i:Int))))).length=17:=by
    have:=Z7 List.length es;rw [Ye,Ye] at this;rw [Ye,this]; exact l17
  have at':∀ k,k≠6->(σ.set 6 (some (V.int (0+(i:Int)))))[k]?=σb[k]?:=λ k hk=>by
    have:=Z7 (λ l=>l[k]?) es;simp only [List.getElem?_set_ne (Ne.symm hk)] at this;rw [List.getElem?_set_ne (Ne.symm hk)]; exact this
  have c6:(σ.set 6 (some (V.int (0+(i:Int)))))[6]?=some (some (.int (0+(i:Int)))):=by rw [List.getElem?_set_self]; rw [Ye] at ln; omega
  obtain ⟨_,q1,s1⟩:=(tK (K:=K) (H0:=Hc) (Hs:=Hc) (H:=Hc) ln).oV (i:=6) (.int (0+(i:Int)));obtain ⟨_,q2,s2⟩:=s1.oV (i:=14) (rd14.same sc);obtain ⟨_,q3,s3⟩:=s2.oV (i:=15) (rd15.same sc);rw [lV c6,lV ((at' 14 (by decide)).trans b14),lV ((at' 15 (by decide)).trans b15)] at s3;have w:=L.w2 i hi;rw [show ((i:Int))=0+(i:Int) by omega] at w;refine ⟨Hc,Hc,_,_,_,s3,.refl _,w,λ Hs' H' g=>El ⟨?_,sc.trans g.hh⟩⟩;rw [List.set_set]; exact es
 have t2':lsH H P1 P2=some (.tbl #[]):=(gX (Ne.symm n12)).trans t2;have t3':lsH H P1 P3=some (.tbl #[]):=(gX (Ne.symm n13)).trans t3;have nf2:Nf H (lsH H P1):=λ d o u e=>aR ((gX λ z=>by rw [z,t1] at e; cases e).trans e)
 have ls:σ.length=17:=by
  have:=Z7 List.length es;rw [Ye,Ye] at this;rw [this]; exact l17
 have r3':=t7 (o:=σ[6]) (t7 (o:=none) (r3.grow sc) 6) 6;rw [<- es,List.set_set,List.set_set,List.set_getElem_self] at r3';refine ⟨Hs0,lsH H P1,nf2,_,_,_,_,r3',L.g2,λ σ3 Hs3 H3 r3=>?_⟩;have nP3:=r3.ext.fr _ z3 (aR t3');have st3:=z7 r3 nP3 (aR t3');obtain ⟨y2,y9,y10,y11⟩:=L.x2;obtain ⟨w2,u2,rw2⟩:=st3.get y2;obtain ⟨w9,u9,rw9⟩:=st3.get y9;obtain ⟨w10,u10,rw10⟩:=st3.get y10;obtain ⟨w11,u11,rw11⟩:=st3.get y11;cases rw9;cases rw10;cases rw11;refine m3 (X:=XL P w K mg base fa cdv A outer s H E) (t:=t) (px:="_law_six") (n1:="_law_every") (n2:="_law_low") (p:=L.p1) (f:=f1) (tO (by decide +kernel)) (yw (by decide +kernel)) (λ c' ctv s u=>.of_eq rfl) (λ q c' A outer s H' hr'=>(EY (dD (aa 0) (aa 1)) (aa 2)).out) u2 u9 u10 u11 (r3.ext.hh _ _ t3') trivial rfl rw2 (.int _) (.int _) L.b2 L.l2 L.e1' ?_
 intro H4 a4 c' g4 na ha _ _
 have h1':ba (λ b=>if b=a4 then H4 b else none) H4:=λ b u e=>by
  replace e:(if b=a4 then H4 b else none)=some u:=e
  split at e
  · exact e
  · cases e
 have h2':∀ b,(λ b=>if b=a4 then H4 b else none) b≠none->H3 b=none:=λ b e=>by
  replace e:(if b=a4 then H4 b else none)≠none:=e
  split at e
  · rename_i z; rw [z]; exact na
  · exact absurd rfl e
 have r4:=t6 r3 nP3 (aR t3') g4 h1' h2'
 have a4s:Hs3 a4=none:=by
  cases q:Hs3 a4 with
  | none=>rfl
  | some y=>rw [r3.sm a4 y q] at na; cases na
 have r4':=r4.oV (i:=16) (v:=.ref a4) (d:=lD ((L.bx::L.us2).filter L.p1)) (.lst (J3 a4s ((if_pos rfl).trans ha)) (mj _));have t2'':lsH (lsH H P1) P3 P2=some (.tbl #[]):=(gX n23).trans t2';have nf3:Nf H (lsH (lsH H P1) P3):=λ d o u e=>aR ((gX λ z=>by rw [z,t3] at e; cases e).trans ((gX λ z=>by rw [z,t1] at e; cases e).trans e))
 refine ⟨Hs0,lsH (lsH H P1) P3,nf3,_,_,_,_,r4',L.g3,λ σ5 Hs5 H5 r5=>?_⟩;have st5:=z7 r5 (r5.ext.fr _ z2 (aR t2'')) (aR t2'');have q5:=r5.ext.hh _ _ t2'';obtain ⟨y2,y0⟩:=L.x3;obtain ⟨w2,u2,rw2⟩:=st5.get y2;obtain ⟨w0,u0,rw0⟩:=st5.get y0;have sm5:ba (lsH H5 P2) H5:=Fr.refl.sm
 have l5:σ5.length=16+1:=by
  have:=st5.len;rw [Za,L.y3] at this;exact this
 refine ⟨_,u2,lsH H5 P2,lsH H5 P2,aQ L.τ3,[],_,st5.ext ⟨.refl _,sm5,sm5,λ _ h _=>h⟩,sm5,L.h1,λ v Hs6 H6 g6 rv=>?_⟩;cases rv;have f6:Fr P2 H5 H6:=Fr.of g6.hh;refine ⟨w2,L.k1,L.d2,rfl,rw2.same f6.ls,L.n1,.inl (g6.hh _ _ q5),λ H7 f7 tb=>⟨true,rfl,zD ?_⟩⟩;have f57:=f6.trans f7;have sm7:ba (lsH H7 P2) H7:=Fr.refl.sm;refine ⟨_,u2,lsH H7 P2,lsH H7 P2,_,[],_,Gw l5 u0 (rw0.same f57.ls),sm7,L.h2,λ v Hs8 H8 g8 rv=>?_⟩;cases rv;have f8:Fr P2 H7 H8:=Fr.of g8.hh;refine ⟨w2,L.k2,L.d2,rfl,rw2.same (f57.trans f8).ls,L.n2,?_,λ H9 _ _=>k H9⟩;rcases tb with tb | ⟨c',tb⟩
 · exact .inl (g8.hh _ _ tb)
 · exact .inr ⟨c',g8.hh _ _ tb⟩
end
end N13
end
section
namespace N13
open PySem L2
section
variable {t:Adr} {gv i:Int} {M:List B8} {b:B8} {nm:Str} {j:Nat} {ms:List Int}
theorem A8 (h:fd M i=some b):cG t [trD t.ag gv M,.int i]=some (.shr (.str b.n)):=by
 unfold cG dO;exact fW (cA (chk h) (jB (aJ (iM e_v fN) e_v (bz h))))
def pA (ev lo x:Int):Bool:=decide (x % ev<=lo)
def pB (M:List B8) (sz x:Int):Bool:=match fd M x with
 | some b=>decide (sz < (b.n.length:Int))
 | none=>false
def pC (ms:List Int) (x:Int):Bool:=decide (x ∈ ms)
def pD (ms u:List Int) (x:Int):Bool:=decide (x ∈ ms)||decide (x ∈ ev2 u)
theorem EG {ev lo x:Int} (h:0 < ev):f1 [.shr (.int x),.shr (.int ev),.shr (.int lo)]=some (.bl (pA ev lo x)):=aJ (aJ (ak rfl) (ak rfl) (a9 h)) (ak rfl) rfl
theorem Eb {z:Str} (h:z.length<=100):sX [.str z]=some (.int (z.length:Int)):=if_pos (Z5 h (Zb rfl))
theorem IW {sz x:Int} (h:fd M x=some b) (hn:b.n.length<=100):f2 t [.shr (.int x),.shr (trD t.ag gv M),.shr (.int sz)]=some (.bl (pB M sz x)):=by
 unfold f2 pB;rw [h];exact aJ (bC (ah (eU (ak rfl) (ah (ak rfl) aD) rfl (A8 h) rfl) aD) (Eb hn)) (ak rfl) (pq _ _)
theorem Ku (w:Str):wN [w]=[w]:=by unfold wN; exact List.mergeSort_singleton w
theorem Kv:wN []=[]:=by unfold wN; exact List.mergeSort_nil
theorem BG (w:Str):uK (.str w) (.lst [.str w])=some (.bl true):=by
 show (inS (.str w) [.str w]).map D.bl=_;simp [inS,scD,Ab,eqV,inV]
theorem IV {x:Int} (h:fd M x=some b) (hp:(b.m.k=[]/\b.i ∉ ms)\/(b.m.k=[nm]/\b.i ∈ ms)):f3 t [.shr (.int x),.shr (.str nm),.shr (trD t.ag gv M)]=some (.bl (pC ms x)):=by
 have em:∀ l,wN b.m.k=l->b.m.k.length < 64->nZ t.ag "marks_of" (bo t) (aH 2) (aK (aH 0) d8) [.shr (.int x),.shr (.str nm),.shr (trD t.ag gv M)]=some (.lst (l.map .str)):=λ l hl hk=>by
  have:=xS (t:=t) (gv:=gv) h hk;rw [hl] at this;show (match trD t.ag gv M with | .obj C' fs=>if C'=t.ag/\fs.lookup ("marks_of":Str)=none then (bo t [trD t.ag gv M,.int x]).bind slO else none | _=>none)=_;rw [this];unfold trD;exact if_pos ⟨rfl,rfl⟩
 unfold f3 pC;rw [<- gA h];rcases hp with ⟨h1,h2⟩ | ⟨h1,h2⟩
 ·rw [Zq h2,gA h]
  exact aJ (ak rfl) (em [] (by rw [h1]; exact Kv) (by rw [h1]; decide)) rfl
 ·rw [Zu h2,gA h]
  exact aJ (ak rfl) (em [nm] (by rw [h1]; exact Ku nm) (by rw [h1]; exact Zb rfl)) (BG nm)
theorem uU:∀ l:List Int,ev2 (l.map D.int)=(ev2 l).map D.int
 | []=>rfl
 | [x]=>rfl
 | x::_::r=>Z7 (D.int x::·) (uU r)
theorem EK {f:DE} {τ:List Sl} {l:List Int} (h:f τ=some (.lst (l.map .int))):EN f τ=some (.lst ((ev2 l).map .int)):=by
 unfold EN;rw [h];show some (D.lst (ev2 (l.map D.int)))=_;rw [uU]
theorem IU {x:Int} {u:List Int}:f4 [.shr (.int x),.shr (.lst (ms.map .int)),.shr (.lst (u.map .int))]=some (.bl (pD ms u x)):=by
 unfold f4 pD;have e1:dOp uK (aH 0) (aH 1) [.shr (.int x),.shr (.lst (ms.map .int)),.shr (.lst (u.map .int))]=some (.bl (decide (x ∈ ms))):=aJ (ak rfl) (ak rfl) (k7 x ms);have e2:dOp uK (aH 0) (EN (aH 2)) [.shr (.int x),.shr (.lst (ms.map .int)),.shr (.lst (u.map .int))]=some (.bl (decide (x ∈ ev2 u))):=aJ (ak rfl) (EK (ak rfl)) (k7 x (ev2 u));unfold I9;rw [e1];show (match D.bl (decide (x ∈ ms)) with | .bl true=>_ | .bl false=>_ | _=>_)=_
 cases decide (x ∈ ms) with
 | true=>rfl
 | false=>exact e2
theorem cI {τ:List Sl} {c:DT} {cs:List (Str×Nat)} {l:List Int} {p:Int->Bool} {f:DE} (h1:f τ=some (.lst (l.map .int))) (hl:l.length<=1000) (h2:∀ x ∈ l,c (.shr (.int x)::dA τ cs)=some (p x)):hW (Cp f) c (aH 0) cs τ=some (.lst ((l.filter p).map .int)):=by
 refine mz (ds:=l.map .int) ?_ (by rw [Za]; omega) (nQ h2)
 unfold Cp;rw [h1];rfl
theorem tf {ev lo sz:Int} {u:List Int} (h:0 < ev) (hu:∀ x ∈ u,∃ b,fd M x=some b/\b.n.length<=100) (hl:u.length<=1000):cT [faD M,.lst (u.map .int),.int ev,.int lo,.int sz,.lst (ms.map .int)]=some (.own (.lst ([u.filter (pA ev lo),u.filter (pB M sz),u.filter (pC ms),u.filter (pD ms u),u].map lD))):=by
 have hv:∀ (τ:List Sl),τ[1]?=some (.shr (.lst (u.map .int)))->aH 1 τ=some (.lst (u.map .int)):=λ τ e=>ak e
 unfold cT eG;dsimp only;refine fW ?_
 refine cA (kS (ji (ah (cI (p:=pA ev lo) (ak rfl) hl λ x _=>bu (aJ (aJ (ak rfl) (ak rfl) (a9 h)) (ak rfl) rfl)) aD) (Zb rfl)) (Zb rfl)) ?_
 refine cA (rN (cI (p:=pB M sz) (ak rfl) hl λ x hx=>?_) rfl (Zb rfl)) ?_
 ·obtain ⟨b,hb,hn⟩:=hu x hx
  unfold pB;rw [hb];exact bu (aJ (bC (ah (aJ (aJ (ak rfl) (ak rfl) (bz hb)) e_c (uJ _ _ _)) aD) (Eb hn)) (ak rfl) (pq _ _))
 refine cA (rN (cI (p:=pC ms) (ak rfl) hl λ x _=>bu (aJ (ak rfl) (ak rfl) (k7 x ms))) rfl (Zb rfl)) ?_
 refine cA (rN (cI (p:=pD ms u) (ak rfl) hl λ x _=>zX (bu (aJ (ak rfl) (ak rfl) (k7 x ms))) (bu (aJ (ak rfl) (EK (ak rfl)) (k7 x (ev2 u))))) rfl (Zb rfl)) ?_
 refine cA (rN (ak rfl) rfl (Zb rfl)) ?_
 exact qf rfl
end
end N13
end
section
namespace N13
open PySem L2
section
variable {t:Adr} {gv:Int} {M:List B8} {nm:Str} {j:Nat} {ms:List Int}
theorem ET:Cu 10 29:=⟨by decide,by decide,by decide⟩
theorem noB {k:Int} (h:fd M k=none):NoB t (trD t.ag gv M) k:=by
 refine ⟨_,_,rfl,λ m hm=>?_,rfl,?_⟩
 ·simp only [FU,Zh,Yd,or_false] at hm
  rcases hm with rfl | rfl | rfl <;> rfl
 · rw [tm,h]; rfl
theorem yR (l:LOk nm j gv M ms) (hj:j < 30) {x:Int} (h0:0<=x) (h1:x < gv):∃ b us,fd M x=some b/\Sub M [x] (x::us)/\Sub M b.r us/\(x::us).length<=31/\∀ y ∈ x::us,∃ c,fd M y=some c:=by
 obtain ⟨b,hm,rfl⟩:=Z2.mp (l.al x h0 h1);have hb:=g7 l.m.nd hm;obtain ⟨us,hs,hs'⟩:=Sub.of l.m hb;have:=sub_len (hs.nodup l.m (List.pairwise_singleton _ _)) hs.in;have lm:=l.lm;exact ⟨b,us,hb,hs,hs',by omega,hs.in⟩
theorem Cf (l:List Int):(l.map D.int).all sca=true:=Yw.mpr λ d hd=>by
 obtain ⟨x,_,rfl⟩:=Z2.mp hd; rfl
theorem CC {A B C D' E:List Int} (hA:A.length < 1000) (hB:B.length < 1000) (hC:C.length < 1000) (hD:D'.length < 1000) (hE:E.length < 1000):∀ i:Nat,i < 5->tst ((((List.replicate 17 Sl.no).set 6 (.shr (.int i))).set 14 (.shr (.lst ([A,B,C,D',E].map lD)))).set 15 (.shr (.lst ([A,B,C,D',E].map lD))))=some false:=by
 have one:∀ (i:Nat) (l:List Int),l.length < 1000->oIx (.lst ([A,B,C,D',E].map lD)) (.int i)=some (lD l)->tst ((((List.replicate 17 Sl.no).set 6 (.shr (.int i))).set 14 (.shr (.lst ([A,B,C,D',E].map lD)))).set 15 (.shr (.lst ([A,B,C,D',E].map lD))))=some false:=λ i l hl e =>
  lS (b:=true) (bu (eW (ah (aJ (ak rfl) (ak rfl) e) (ah (aJ (ak rfl) (ak rfl) e) aD)) (gj l hl) rfl))
 intro i hi
 match i,hi with
 | 0,_=>exact one 0 A hA rfl
 | 1,_=>exact one 1 B hB rfl
 | 2,_=>exact one 2 C hC rfl
 | 3,_=>exact one 3 D' hD rfl
 | 4,_=>exact one 4 E hE rfl
theorem Iy (t:Adr) (ns:List Int):Nonempty (J8 t ns):=by
 obtain ⟨c0,e0⟩:=wc ns (k:=0) (Int.le_refl _);obtain ⟨c1,ec1⟩:=wc ns (k:=1) (by decide);obtain ⟨c2,ec2⟩:=wc ns (k:=2) (by decide);obtain ⟨nm,en,hn⟩:=zt c0 (w:=9) (by omega) (by omega);obtain ⟨cs,e2,hl⟩:=Ky ns;obtain ⟨qm,eqm,qm0,qm1⟩:=md c1 (w:=1) (by omega) (by omega)
 obtain ⟨τ1,f1,i1⟩:=yn (b:=λ d τ=>(gTm 2 (iJ (gNm 6) (iJ (gNm 7) qG)) d τ).bind (xc t)) (ds:=iL (cs.map .int)) (τ:=sL t ns nm 1 [⟨0,none,nm,[],b6⟩] [] .no .no .no .no .no .no .no .no .no .no .no) (Ci t ns nm) ⟨_,_,_,_,_,_,Lj hn,rfl⟩ λ j d τ hd h=>by
  obtain ⟨c,rfl,hc⟩:=yq hd;have:=(List.getElem?_eq_some_iff.mp hc).1;exact z6 (by omega) hn h
 rw [yp] at i1;obtain ⟨gv,M,ms,x6,x7,x8,l,rfl⟩:=i1;have lm:=l.lm;have lv:=l.lv;have hM:0 < M.length:=by obtain ⟨r,T,rfl,_⟩:=l.hd; exact Nat.succ_pos _
 have b0:0<=qm % (M.length:Int):=Yu _ (by omega);have b1:qm % (M.length:Int) < gv:=by rw [lv]; exact Yv _ (by omega)
 obtain ⟨b,us,hb,hs,hs',hu,hi⟩:=yR l (by omega) b0 b1;have ev0:0 < 2+c1 % 5:=by have:=Yu c1 (b:=5) (by decide); omega
 generalize hbx:qm % (M.length:Int)=bx at b0 b1 hb hs hu hi;generalize hev:2+c1 % 5=ev at ev0;generalize hlo:c2 % ev=lo;generalize hsz:c2 % 9=sz;have hu':(bx::us).length<=1000:=by omega
 have hus:us.length < 1000:=by rw [Zv] at hu; omega
 have nk:∀ x ∈ bx::us,∃ b,fd M x=some b/\b.n.length<=100:=λ x hx=>by
  obtain ⟨c,hc⟩:=hi x hx;exact ⟨c,hc,l.nk c (aI hc)⟩
 have fl:∀ p:Int->Bool,((bx::us).filter p).length < 1000:=λ p=>Nat.lt_of_le_of_lt (Y5 _ _) (by omega)
 have sm:∀ x9 x10 x11 x12 x13 x14 x15 x16,aH 5 (aQ (sL t ns nm gv M ms x6 x7 x8 x9 x10 x11 x12 x13 x14 x15 x16))=some (.lst (ms.map .int)):=λ _ _ _ _ _ _ _ _=>fV (b:=false) rfl (gf _)
 have sf:∀ x9 x10 x11 x12 x13 x14 x15 x16,aH 4 (aQ (sL t ns nm gv M ms x6 x7 x8 x9 x10 x11 x12 x13 x14 x15 x16))=some (faD M):=λ _ _ _ _ _ _ _ _=>fV (b:=false) rfl (lh _)
 obtain ⟨M',l',eb⟩:=ue (t:=t) (ns:=ns) (k:=c1) (x6:=.no) (x7:=x7) (x8:=x8) (x9:=.shr (.int bx)) (x10:=.shr (.int ev)) (x11:=.shr (.int lo)) (x12:=.shr (.int sz)) (x13:=.shr (.lst ((bx::us).map .int))) (x14:=.shr (BR bx us (pA ev lo) (pB M sz) (pC ms) (pD ms (bx::us)))) (x15:=.no) (x16:=.no) l (by omega) (e1:=qS (gB kJ (aK (aH 3) d8))) (e2:=qN (dFn dv (aK (aH 0) (aK (dC (D.int 1)) d8)))) (e3:=qN (dC (D.int 99))) (w:=99) (by decide) (by decide) (by unfold qS; rw [nE,lv]; rfl) (q_N (eW (ah (ak rfl) (ah e_c aD)) ec1 rfl)) rfl;obtain ⟨b',us2,hb2,hs2,hs2',hu2,hi2⟩:=yR l' (by omega) b0 (show bx < gv+1 by omega);have hus2:us2.length < 1000:=by rw [Zv] at hu2; omega
 have k1:fd M' ((M'.length:Int))=none:=by rw [<- l'.lv]; exact l'.m.new
 have k2:fd M' (-1 - c0 % 10 ^ 29)=none:=fd_none.mpr λ b hb e=>by
  have h1:=(l'.m.lt b hb).1;have h2:=Yu c0 (b:=10 ^ 29) (by decide);omega
 exact ⟨{
  τ1:=sL t ns nm gv M ms x6 x7 x8 (.shr (.int bx)) (.shr (.int ev)) (.shr (.int lo)) (.shr (.int sz)) (.shr (.lst ((bx::us).map .int))) .no .no .no
  τ2:=sL t ns nm (gv+1) M' ms .no x7 x8 (.shr (.int bx)) (.shr (.int ev)) (.shr (.int lo)) (.shr (.int sz)) (.shr (.lst ((bx::us).map .int))) (.shr (BR bx us (pA ev lo) (pB M sz) (pC ms) (pD ms (bx::us)))) .no .no
  τ3:=sL t ns nm (gv+1) M' ms .no x7 x8 (.shr (.int bx)) (.shr (.int ev)) (.shr (.int lo)) (.shr (.int sz)) (.shr (.lst ((bx::us).map .int))) (.shr (BR bx us (pA ev lo) (pB M sz) (pC ms) (pD ms (bx::us)))) .no (.shr (lD ((bx::us2).filter (pA ev lo))))
  nm:=nm
  bx:=bx
  ev:=ev
  lo:=lo
  sz:=sz
  us:=us
  us2:=us2
  d:=trD t.ag gv M
  d2:=trD t.ag (gv+1) M'
  du:=.lst ((bx::us).map .int)
  dm:=.lst (ms.map .int)
  k1:=(M'.length:Int)
  k2:=-1 - c0 % 10 ^ 29
  p1:=pA ev lo
  p2:=pB M sz
  p3:=pC ms
  p4:=pD ms (bx::us)
  g1 := by
   unfold G_a;dsimp only;refine aG (τ':=[.shr (scr ns),.shr (.str nm),.no,.no,.no,.no,.no,.no,.no,.no,.no,.no,.no,.no,.no,.no,.no]) (bS (v_N (eW (ah (eW (ah (ak rfl) (ah e_c aD)) e0 rfl) (ah e_c aD)) en rfl)) (Zb rfl) rfl) ?_
   refine aG (τ':=[.shr (scr ns),.shr (.str nm),.mu false (trM t.ag 1 [⟨0,none,nm,[],b6⟩]),.no,.no,.no,.no,.no,.no,.no,.no,.no,.no,.no,.no,.no,.no]) (bS (v_K (as:=[.v (.str nm)]) (bF (q_N (ak rfl)) rfl) rfl (BF hn) rfl) (Zb rfl) rfl) ?_
   refine aG (bS (Jj (v_O (ji aD (Yb _)) rfl) rfl) (Zb rfl) rfl) ?_
   refine aG (bS (Jj (v_N (yr (ah e_c (ah (ak rfl) aD)) (Zb rfl))) rfl) (Zb rfl) rfl) ?_
   refine aG (τ':=sL t ns nm 1 [⟨0,none,nm,[],b6⟩] [] .no .no .no .no .no .no .no .no .no .no .no) ((bS (v_O (ji aD (Yb _)) rfl) (Zb rfl) rfl).trans rfl) ?_
   refine aG (τ':=sL t ns nm gv M ms x6 x7 x8 .no .no .no .no .no .no .no .no) ?_ ?_
   ·unfold C7
    rw [En (J4 (ak rfl) (ux e_c) (ux e_c) e2)];exact f1
   refine aG (τ':=sL t ns nm gv M ms x6 x7 x8 (.shr (.int bx)) .no .no .no .no .no .no .no) ((bS (v_S (d:=.int bx) (by rw [<- hbx]; exact aJ (eW (ah (eW (ah (ak rfl) (ah e_c aD)) ec1 rfl) (ah e_c aD)) eqm rfl) nE (a9 (by omega))) rfl) (Zb rfl) rfl).trans rfl) ?_
   refine aG (τ':=sL t ns nm gv M ms x6 x7 x8 (.shr (.int bx)) (.shr (.int ev)) .no .no .no .no .no .no) ((bS (v_N (d:=.int ev) (by rw [<- hev]; exact aJ e_c (aJ (eW (ah (ak rfl) (ah e_c aD)) ec1 rfl) e_c (a9 (by decide))) (aY _ _))) (Zb rfl) rfl).trans rfl) ?_
   refine aG (τ':=sL t ns nm gv M ms x6 x7 x8 (.shr (.int bx)) (.shr (.int ev)) (.shr (.int lo)) .no .no .no .no .no) ((bS (v_N (d:=.int lo) (by rw [<- hlo]; exact aJ (eW (ah (ak rfl) (ah e_c aD)) ec2 rfl) (ak rfl) (a9 ev0))) (Zb rfl) rfl).trans rfl) ?_
   refine aG (τ':=sL t ns nm gv M ms x6 x7 x8 (.shr (.int bx)) (.shr (.int ev)) (.shr (.int lo)) (.shr (.int sz)) .no .no .no .no) ((bS (v_N (d:=.int sz) (by rw [<- hsz]; exact aJ (eW (ah (ak rfl) (ah e_c aD)) ec2 rfl) e_c (a9 (by decide)))) (Zb rfl) rfl).trans rfl) ?_
   exact (bS (v_F (yt (ah (fV (b:=false) rfl (ja _)) (ah (ak rfl) aD)) (lP hs hu') rfl) (Cf _)) (Zb rfl) rfl).trans rfl
  x1:=⟨rfl,Z7 (λ z=>some (Sl.shr z)) (lg _ _ _),Z7 (λ z=>some (Sl.shr z)) (gf _),rfl,rfl,rfl,rfl,rfl⟩
  b1:=wI hb hs' (Yk hus)
  l1:=hus
  e1:=λ x _=>EG ev0
  e2:=λ x hx=>by obtain ⟨c,hc,hk⟩:=nk x hx; exact IW hc hk
  e3:=λ x hx=>by obtain ⟨c,hc,hk⟩:=nk x hx; exact IV hc (l.pl c (aI hc))
  e4:=λ x _=>IU
  y1:=rfl
  ds:=[(bx::us).filter (pA ev lo),(bx::us).filter (pB M sz),(bx::us).filter (pC ms),(bx::us).filter (pD ms (bx::us)),bx::us].map lD
  w1:=yt (ah (sf _ _ _ _ _ _ _ _) (ah (ak rfl) (ah (ak rfl) (ah (ak rfl) (ah (ak rfl) (ah (sm _ _ _ _ _ _ _ _) aD)))))) (tf ev0 nk hu') rfl
  w2:=CC (fl _) (fl _) (fl _) (fl _) (by omega)
  g2:=by
   unfold G_b;dsimp only;exact eb
  x2:=⟨Z7 (λ z=>some (Sl.shr z)) (lg _ _ _),rfl,rfl,rfl⟩
  b2:=wI hb2 hs2' (Yk hus2)
  l2:=hus2
  e1':=λ x _=>EG ev0
  g3:=by
   unfold G_c;dsimp only;refine iH (t_S (lS (b:=true) (bu (eW (ah (ak rfl) (ah (cI (l:=bx::us2) (p:=pA ev lo) (eW (ah (fV (b:=false) rfl (ja _)) (ah (ak rfl) aD)) (lP hs2 (by omega)) rfl) (by omega) λ x _=>bu (aJ (aJ (ak rfl) (ak rfl) (a9 ev0)) (ak rfl) rfl)) aD)) (gj _ (Nat.lt_of_le_of_lt (Y5 _ _) (by omega))) rfl)))) rfl
  y3:=rfl
  x3:=⟨Z7 (λ z=>some (Sl.shr z)) (lg _ _ _),rfl⟩
  h1:=nE
  h2:=aJ (IX e_c rfl) (aJ (eW (ah (ak rfl) (ah e_c aD)) e0 rfl) (aJ e_c e_c (AZ ET)) (a9 (by decide))) (gT _ _)
  n1:=noB k1
  n2:=noB k2 }⟩
end
end N13
end
section
namespace N13
open PySem L2 PySem.W PyProof.Rows
section
variable {K:W.Frag} {x:Str} {st:Stmt} {f c bm Pt:Addr} {h:Heap} {mg:Str->Option Value} {ps:List Str} {od an:Option Addr} {sl:Array (Option Value)} {oc kV dc pm ct:Value}
theorem zK (a:nsIn K mainGlobals x=some (some (.ref f))) (l:K.lookup f=some ⟨oc,od,.func (fnOf x x (bA st) (aO st) (ax st) .none kV dc pm an (.ref c) ct),sl⟩) (cc:codeIn K (.ref c) x=true) (k:keepIn K (.ref f)=true) (m:nsIn K mainGlobals "__builtins__"=some (some (.ref bm))) (X:K.In h) (G:h.Ns mainGlobals mg)
  (hb:∀ (kV doc pm:Value) (an:Option Addr) (cdv ct:Value) (us:List Value),us.length=ps.length->bindArgs (fnOf x x (bA st) (aO st) (ax st) .none kV doc pm an cdv ct) ⟨us,[]⟩=pure (ps.zip us)) (hc:codeHdIn K (.ref c) Pt=true) (hm:FZ K bm Pt=true) (pg:mainGlobals≠Pt):DfC K mg x st ps Pt:=by
 obtain ⟨c',e,H⟩:=og hc;cases e;exact ⟨⟨_,_,c,gc (st:=st) l cc k,mg_of X G a,(gc (st:=st) l cc k).binds hb,rfl,λ h kk=>H h (qY kk)⟩,pg,λ h kk=>E2 hm (mg_of X G m) h (qY kk)⟩
theorem D8 {y:Str} (a:nsIn K mainGlobals x=some (some (.ref f))) (l:K.lookup f=some ⟨oc,od,.func (fnOf x x (bA st) (aO st) (ax st) .none kV dc pm an (.ref c) ct),sl⟩) (cc:codeIn K (.ref c) x=true) (k:keepIn K (.ref f)=true) (m:nsIn K mainGlobals "__builtins__"=some (some (.ref bm))) (X:K.In h) (G:h.Ns mainGlobals mg)
  (hb:∀ (kV doc pm:Value) (an:Option Addr) (cdv ct:Value) (s:Shared) (u:Value),BindsTo s (fnOf x x (bA st) (aO st) (ax st) .none kV doc pm an cdv ct) ⟨[u],[]⟩ [(y,u)]) (hc:codeHdIn K (.ref c) Pt=true) (hm:FZ K bm Pt=true) :
  ∃ a d c,Fun K x x st a d/\mg x=some (.ref a)/\(∀ (s:Shared) (u:Value),BindsTo s d ⟨[u],[]⟩ [(y,u)])/\d.code=.ref c/\∀ h,K.In h->CodeHd h c Pt/\h.BuiltinsAt mg Pt:=by
 obtain ⟨c',e,H⟩:=og hc;cases e;exact ⟨_,_,c,gc (st:=st) l cc k,mg_of X G a,hb _ _ _ _ _ _,rfl,λ h kk=>⟨H h (qY kk),E2 hm (mg_of X G m) h (qY kk)⟩⟩
theorem lk1 {K:W.Frag} {a:Addr} {x:Obj} (ha:K.lookup a=none):∀ k o,List.lookup k K=some o->List.lookup k ((a,x)::K)=some o:=λ k o e=>by
 rw [Yq];have:(k == a)=false:=Yh.mpr λ z=>by rw [z,ha] at e; cases e
 rw [this];exact e
end
end N13
end
namespace N13
open PySem L2
theorem u1 {P:List Value->Prop} (k:∀ x0,P [x0]):∀ us,us.length=1->P us
 | [x0],_=>k x0
theorem u2 {P:List Value->Prop} (k:∀ x0 x1,P [x0,x1]):∀ us,us.length=2->P us
 | [x0,x1],_=>k x0 x1
theorem u3 {P:List Value->Prop} (k:∀ x0 x1 x2,P [x0,x1,x2]):∀ us,us.length=3->P us
 | [x0,x1,x2],_=>k x0 x1 x2
theorem u4 {P:List Value->Prop} (k:∀ x0 x1 x2 x3,P [x0,x1,x2,x3]):∀ us,us.length=4->P us
 | [x0,x1,x2,x3],_=>k x0 x1 x2 x3
theorem u5 {P:List Value->Prop} (k:∀ x0 x1 x2 x3 x4,P [x0,x1,x2,x3,x4]):∀ us,us.length=5->P us
 | [x0,x1,x2,x3,x4],_=>k x0 x1 x2 x3 x4
theorem u6 {P:List Value->Prop} (k:∀ x0 x1 x2 x3 x4 x5,P [x0,x1,x2,x3,x4,x5]):∀ us,us.length=6->P us
 | [x0,x1,x2,x3,x4,x5],_=>k x0 x1 x2 x3 x4 x5
theorem u8 {P:List Value->Prop} (k:∀ x0 x1 x2 x3 x4 x5 x6 x7,P [x0,x1,x2,x3,x4,x5,x6,x7]):∀ us,us.length=8->P us
 | [x0,x1,x2,x3,x4,x5,x6,x7],_=>k x0 x1 x2 x3 x4 x5 x6 x7
theorem CB {K:W.Frag} {mg:Str->Option Value} {c0 c1:Addr} (h:Txt K mg ⟨c0,c1⟩):∃ t,Txt K mg t:=⟨_,h⟩
end N13
open PySem PySem.W PyProof.Rows
set_option maxRecDepth 100000 in
set_option maxHeartbeats 0 in
theorem PySem.Challenge.cw_stylehouse_k13_gathered_holds : PySem.Challenge.rw_stylehouse_k13_gathered.Holds := by
 refine PySem.W.holds_law HD13.Er fun said=>?_
 refine HD13.Eu said ?hw (by rfl) (by rfl) (by rfl) ?hc
 case hw=>w_witness2
 have _:HD13.hKc=HD13.hKc/\PySem.Challenge.rw_stylehouse_k13_gathered=PySem.Challenge.rw_stylehouse_k13_gathered:=by (k_fill; exact ⟨rfl,rfl⟩)
 refine L2.w6 (fun P=>rfl) ?_
 refine L2.wZ (l:=PySem.Challenge.rw_stylehouse_k13_gathered) (n:=63) (k:=7) (x:="_law_script") (K:=HD13.hK) (Kc:=HD13.hKc) (Ps:=[336,329,348]) (CX:=L2.CX0) (sp:=N13.yS [336,329,348]) rfl (by decide) rfl ⟨rfl,by decide,by decide⟩ ?c ?P ?F ?S ?C
 case c=>exact fun P b o e=>N13.lk1 (by kernel_rfl) b o (N13.lk1 (by kernel_rfl) b o (N13.lk1 (by kernel_rfl) b o e))
 case P =>
  intro P Pt hp
  simp only [List.mem_cons,List.not_mem_nil,or_false] at hp
  rcases hp with rfl | rfl | rfl
  · exact ⟨by kernel_rfl,by kernel_rfl,340,L2.kg (by kernel_rfl)⟩
  · exact ⟨by kernel_rfl,by kernel_rfl,333,L2.kg (by kernel_rfl)⟩
  · exact ⟨by kernel_rfl,by kernel_rfl,350,L2.kg (by kernel_rfl)⟩
 case F =>
  intro w mg fa h KX G hmg
  have T:∃ t,N13.Txt (L2.KOf KX) mg t:=by
   dsimp only [L2.KOf]
   refine' N13.CB ?h
   case h =>
   constructor
   case zw=>exact PySem.W.mg_of KX G (by k_is)
   case me=>exact PySem.W.mg_of KX G (by k_is)
   exact ⟨by k_is,by k_is,by k_is,by k_is⟩
   iterate 7 ((show W.findIn _ _ _=_; k_is))
   iterate 3 (exact L2.Fn0.df ⟨_,_,_,_,_,_,_,_,_,by k_is,by k_is,by k_is,by k_is⟩ KX G fun _ _ _ _ _ _=>N13.u1 fun _=>rfl)
   exact L2.Iw ⟨_,_,_,_,_,_,_,_,_,by k_is,by k_is,by k_is,by k_is⟩ KX G (fun _ _ _ _ _ _ s v=>.of_eq rfl)
   iterate 11 (exact L2.Fn0.df ⟨_,_,_,_,_,_,_,_,_,by k_is,by k_is,by k_is,by k_is⟩ KX G fun _ _ _ _ _ _=>N13.u2 fun _ _=>rfl)
   exact L2.Fn0.df ⟨_,_,_,_,_,_,_,_,_,by k_is,by k_is,by k_is,by k_is⟩ KX G fun _ _ _ _ _ _=>N13.u3 fun _ _ _=>rfl
   exact L2.Fn0.df ⟨_,_,_,_,_,_,_,_,_,by k_is,by k_is,by k_is,by k_is⟩ KX G fun _ _ _ _ _ _=>N13.u5 fun _ _ _ _ _=>rfl
   iterate 2 (exact L2.Fn0.df ⟨_,_,_,_,_,_,_,_,_,by k_is,by k_is,by k_is,by k_is⟩ KX G fun _ _ _ _ _ _=>N13.u6 fun _ _ _ _ _ _=>rfl)
   exact L2.Fn0.df ⟨_,_,_,_,_,_,_,_,_,by k_is,by k_is,by k_is,by k_is⟩ KX G fun _ _ _ _ _ _=>N13.u8 fun _ _ _ _ _ _ _ _=>rfl
   exact L2.IE (by k_is) (by k_is) (by k_is) (by k_is) (by k_is) (by k_is) (by k_is) fun _ _ _ _ _ _=>N13.u2 fun _ _=>rfl
   iterate 5 (exact L2.Bl (by k_is) (by k_is) (by k_is) (by k_is) (by k_is) fun _ _ _ _ _ _=>N13.u2 fun _ _=>rfl)
   iterate 2 (exact L2.Bl (by k_is) (by k_is) (by k_is) (by k_is) (by k_is) fun _ _ _ _ _ _=>N13.u3 fun _ _ _=>rfl)
   iterate 2 (exact L2.Bl (by k_is) (by k_is) (by k_is) (by k_is) (by k_is) fun _ _ _ _ _ _=>N13.u4 fun _ _ _ _=>rfl)
   iterate 13 (exact PySem.W.mg_none_of KX G (by k_is))
   iterate 4 (exact ⟨_,PySem.W.mg_of KX G (by k_is)⟩)
   iterate 3 (kernel_rfl)
  obtain ⟨t,T⟩:=T
  have Dt:N13.DfC (L2.KOf KX) mg "_law_tried" (N13.top 34) ["_law_tree","_law_box","_law_under_here","_law_every","_law_low","_law_size","_law_name_here","_law_marked"] 336:=by
   dsimp only [L2.KOf]
   exact N13.zK (by k_is) (by k_is) (by k_is) (by k_is) (by k_is) KX G (fun _ _ _ _ _ _=>N13.u8 fun _ _ _ _ _ _ _ _=>rfl) (by kernel_rfl) (by kernel_rfl) (by decide)
  have Dm:N13.DfC (L2.KOf KX) mg "_law_missing" (N13.top 33) ["_law_tree","_law_box"] 329:=by
   dsimp only [L2.KOf]
   exact N13.zK (by k_is) (by k_is) (by k_is) (by k_is) (by k_is) KX G (fun _ _ _ _ _ _=>N13.u2 fun _ _=>rfl) (by kernel_rfl) (by kernel_rfl) (by decide)
  have Dl:∃ a d c,L2.Fun (L2.KOf KX) "law" "law" (N13.top 36) a d/\mg "law"=some (.ref a)/\(∀ (s:Shared) (u:Value),BindsTo s d ⟨[u],[]⟩ [("_law_script",u)])/\d.code=.ref c/\∀ h,(L2.KOf KX).In h->CodeHd h c 348/\h.BuiltinsAt mg 348:=by
   dsimp only [L2.KOf]
   exact N13.D8 (by k_is) (by k_is) (by k_is) (by k_is) (by k_is) KX G (fun _ _ _ _ _ _ s v=>.of_eq rfl) (by kernel_rfl) (by kernel_rfl)
  obtain ⟨a,d,c,Fl,ml,bl,hc,hh⟩:=Dl
  have e0:=hmg.symm.trans ml
  cases e0
  exact ⟨d,bl,fun base kb nb=>N13.DJ T kb Dt Dm Fl hc (hh _ kb).1 (by decide) (hh _ kb).2 (by decide) (by decide) (by decide) fun ns _=>N13.Iy _ ns⟩
 case S=>exact fun K H a ns hl hO hS=>⟨a,ns,rfl,hO,hS,hl,fun _=>rfl⟩
 case C=>exact fun H s e s' z=>z
