import PyProof.Rows.All
import Wide.All
import OpenK.AllK
import Wide.FinOn
import Lean
import PyProof.EqAt
import PyProof.EqKinds
import PyProof.TupleCall
import PyProof.ZipIter
import PyProof.Rows.ZipGen
import PyProof.EnumIter
import PyProof.EnumFor
import PyProof.EnumMake
import PyProof.EnumStmt
import PyProof.SliceStr2
import PyProof.StrBlockI
import PyProof.MinMaxWalk
import PyProof.Rows.CallKwBuiltin
import PyProof.Rows.Range3
import KE.KRevIter
import PyProof.AttrMissHeap
import KE.KDictOf
import PyProof.FactsAll.range_2
import PyProof.P3Eq
import PyProof.DictWalks
import PyProof.Rows.SeqMore2
import PyProof.Rows.SortStr
import PySem.Challenge.RW_stylehouse_k14_plain_traits
set_option Elab.async false
set_option linter.all false
set_option maxRecDepth 100000
theorem Zj {α:Type _} {a b:α} (h:some a=some b):a=b:=Option.some.inj h
theorem Zb {a b:Nat} (h:Nat.ble a b=true):a<=b:=Nat.le_of_ble_eq_true h
theorem Zf:false≠true:=Bool.false_ne_true
theorem Zm {α:Type _} {β:Type _} {f:α->β} {x:Option α} {b:β} (h:x.map f=some b):∃ a,x=some a/\f a=b:=Option.map_eq_some_iff.mp h
def Za:=@List.length_map
def Zc:=@List.mem_append_right
def Zd:=@List.mem_cons_of_mem
def Ze:=@List.mem_cons_self
def Zg:=@List.map_cons
def Zh:=@List.mem_append
def Zi:=@List.map_append
def Zk:=@decide_eq_false
def Zl:=@List.mem_cons
def Zn:=@Nat.le_refl
def Zo:=@PySem.wpAny_bind
def Zp:=@List.mem_append_left
def Zq:=@decide_eq_true
def Zr:=@List.size_toArray
def Zs:=@PySem.Heap.lt_size
def Zt:=@List.mem_singleton
def Zu:=@List.map_congr_left
def Zv:=@List.map_map
def Zw:=@List.nodup_cons
def Zx:=@List.append_nil
def Zy:=@Nat.ne_of_lt
def Zz:=@List.length_append
def Z0:=@List.length_cons
def Z1:=@PySem.wpAny_pure
def Z2:=@List.mem_map
def Z3:=@Nat.lt_of_lt_of_le
def Z4:=@PySem.W.Fast.te14364793385576792824
def Z5:=@List.flatMap_cons
def Z6:=@Nat.le_trans
def Z7:=@Nat.zero_le
def Z8:=@Int.emod_lt_of_pos
def Z9:=@PySem.F.plainAttrs_list
def Yb:=@List.nodup_append
def Yc:=@Int.emod_nonneg
def Yd:=@List.mem_flatMap
def Ye:=@Option.bind_some
def Yg:=@PySem.wpAny_truthy_bool
def Yh:=@PySem.W.Fast.te10110043849684766642
def Yi:=@PySem.W.kia_one
def Yj:=@PySem.mem_of_lookup
def Yk:=@List.mem_map_of_mem
def Yl:=@List.flatMap_append
def Ym:=@PySem.wpAny_mono
def Yn:=@congrArg
def Yo:=@Nat.le_of_lt
def Yp:=@Bool.and_eq_true
def Yq:=@Nat.lt_irrefl
def Yr:=@List.length_reverse
def Ys:=@List.drop_eq_getElem_cons
def Yt:=@PySem.wpAny_Call_Name_kw
def Yu:=@List.all_eq_true
def Yv:=@Nat.lt_succ_of_lt
def Yw:=@List.mem_filter
def Yy:=@PyProof.Rows.callWith_type1
def Yz:=@List.any_cons
def Y0:=@List.length_take
def Y1:=@PySem.F.plain_max_loop
def Y2:=@List.length_filter_le
def Y3:=@Classical.choose_spec
def Y4:=@PySem.wpAny_passesOwn
def Y5:=@Bool.eq_iff_iff
def Y6:=@List.reverse_cons
def Y7:=@Nat.sub_self
def Y8:=@Option.isSome_iff_exists
def Y9:=@List.idxOf_lt_length_iff
def Xa:=@beq_eq_false_iff_ne
def Xb:=@Array.length_toList
def Xc:=@List.replicate_succ
def Xd:=@List.mem_range
def Xe:=@PySem.Heap.size_push
def Xf:=@Nat.lt_succ_self
def Xg:=@List.not_mem_nil
def Xh:=@PySem.wpAny_getItem_str_slice
def Xi:=@PySem.Calls.spliced_cons
def Xj:=@PySem.Calls.callWith_builtin
def Xk:=@List.map_nil
def Xm:=@PySem.tupleKind_room_in1
def Xn:=@List.length_singleton
def Xo:=@PySem.wpAny_pyIter_list
def Xp:=@PySem.sizeLine_eq
def Xq:=@PySem.lookup_relabel_local
def Xr:=@List.getElem_mem
def Xs:=@List.drop_length
def Xu:=@List.length_drop
def Xv:=@List.any_eq_true
def Xw:=@List.all_cons
def Xx:=@List.length_nil
def Xy:=@PySem.call_meets
section
namespace L2
open PySem PySem.Spec PyProof.Rows
abbrev Key:=Sum Int Str
def oo:Key->Value->Bool
 | .inl k,v=>Value.isInt k v
 | .inr x,v=>Value.isStrOf x v
def N6 (w:World):Key->Int
 | .inl k=>hashInt k
 | .inr x=>hashStr w x
theorem bw:∀ {k:Key} {v:Value},oo k v=true->(∃ i t,k=Sum.inl i/\v=Value.int i t)\/(∃ x t,k=Sum.inr x/\v=Value.str x t)
 | .inl i,v,h=>by
  obtain ⟨t,e⟩:=Value.isInt_shape (k:=i) (v:=v) h;exact .inl ⟨i,t,rfl,e⟩
 | .inr x,v,h=>by
  obtain ⟨t,e⟩:=Value.isStrOf_shape (x:=x) (v:=v) h;exact .inr ⟨x,t,rfl,e⟩
theorem wq (i:Int) (t:Tok):oo (.inl i) (.int i t)=true:=by simp [oo,Value.isInt]
theorem wo (x:Str) (t:Tok):oo (.inr x) (.str x t)=true:=by simp [oo,Value.isStrOf]
theorem Gh (a b:Int):decide ((Sum.inl a:Key)=Sum.inl b)=(a == b):=by
 by_cases e:a=b
 · subst e; simp
 ·have h:¬ (Sum.inl a:Key)=Sum.inl b:=λ q=>e (Sum.inl.inj q)
  rw [Zk h];exact (Xa.mpr e).symm
theorem Ge (a b:Str):decide ((Sum.inr a:Key)=Sum.inr b)=decide (a=b):=by
 by_cases e:a=b
 · subst e; simp
 ·have h:¬ (Sum.inr a:Key)=Sum.inr b:=λ q=>e (Sum.inr.inj q)
  rw [Zk h,Zk e]
theorem Gg (a:Int) (b:Str):decide ((Sum.inl a:Key)=Sum.inr b)=false:=Zk (λ q=>nomatch q)
theorem Gf (a:Str) (b:Int):decide ((Sum.inr a:Key)=Sum.inl b)=false:=Zk (λ q=>nomatch q)
def bB (prog:Program) (w:World):PySem.KeyKind prog w Key where
 is:=oo
 hash:=N6 w
 inj:=λ v a b ha hb=>by
  rcases bw ha with ⟨i,t,rfl,rfl⟩ | ⟨x,t,rfl,rfl⟩
  ·rcases bw hb with ⟨j,u,rfl,e⟩ | ⟨y,u,rfl,e⟩
   · injection e with e1 _; rw [e1]
   · exact nomatch e
  ·rcases bw hb with ⟨j,u,rfl,e⟩ | ⟨y,u,rfl,e⟩
   · exact nomatch e
   · injection e with e1 _; rw [e1]
 byValue:=λ k v h=>by
  rcases bw h with ⟨i,t,rfl,rfl⟩ | ⟨x,t,rfl,rfl⟩ <;> rfl
 pyHash:=λ hv h=>by
  rcases bw hv with ⟨i,t,rfl,rfl⟩ | ⟨x,t,rfl,rfl⟩
  · exact wpAny_pyHash_int h
  · exact wpAny_pyHash_str h
 eqBool:=λ hu hv h=>by
  rcases bw hu with ⟨i,t,rfl,rfl⟩ | ⟨x,t,rfl,rfl⟩
  ·rcases bw hv with ⟨j,u,rfl,rfl⟩ | ⟨y,u,rfl,rfl⟩
   · rw [Gh] at h; exact wpAny_eqBool_int h
   · rw [Gg] at h; exact SeqAt.EqAt.int_str i t y u _ _ _ _ h
  ·rcases bw hv with ⟨j,u,rfl,rfl⟩ | ⟨y,u,rfl,rfl⟩
   · rw [Gf] at h; exact SeqAt.EqAt.str_int x t j u _ _ _ _ h
   · rw [Ge] at h; exact wpAny_eqBool_str h
 «strs»:=λ k x t v h=>by
  rcases bw h with ⟨i,u,rfl,e⟩ | ⟨y,u,rfl,e⟩
  · exact nomatch e
  ·injection e with e1 _
   subst e1;cases v <;> rfl
theorem pS (prog:Program) (w:World) (i:Int) (t:Tok):(bB prog w).is (.inl i) (.int i t)=true:=wq i t
theorem pR (prog:Program) (w:World) (x:Str) (t:Tok):(bB prog w).is (.inr x) (.str x t)=true:=wo x t
end L2
namespace L2
open PySem PySem.Spec PyProof.Rows
inductive V where
 | non | bl (b:Bool) | int (i:Int) | str (x:Str) | byt (b:Array UInt8) | flt (b:UInt64) | ref (a:Addr) | ty (n:String)
 deriving DecidableEq
def RelV:V->Value->Prop
 | .non,u=>u=Value.none
 | .bl b,u=>u=Value.bool b
 | .int i,u=>∃ t,u=Value.int i t
 | .str x,u=>∃ t,u=Value.str x t
 | .byt b,u=>∃ t,u=Value.bytes b t
 | .flt b,u=>∃ t,u=Value.float b t
 | .ref a,u=>u=Value.ref a
 | .ty n,u=>u=Value.type n
abbrev bN:List V->List Value->Prop:=Paired RelV
theorem bN.length (r:bN xs us):xs.length=us.length:=Paired.length r
theorem bN.get:∀ {xs:List V} {us:List Value} {i:Nat} {x:V},bN xs us->xs[i]?=some x->∃ u,us[i]?=some u/\RelV x u
 | _,_,_,_,.nil,e=>by simp at e
 | _,_,0,_,.cons r _,e=>by simp at e; subst e; exact ⟨_,rfl,r⟩
 | _,_,i+1,x,.cons _ t,e=>by
  obtain ⟨u,h1,h2⟩:=bN.get (i:=i) (x:=x) t (by simpa using e);exact ⟨u,by simpa using h1,h2⟩
theorem bN.append:∀ {xs ys:List V} {us ws:List Value},bN xs us->bN ys ws->bN (xs++ys) (us++ws)
 | _,_,_,_,.nil,s=>s
 | _,_,_,_,.cons r t,s=>.cons r (bN.append t s)
theorem bN.take:∀ {xs:List V} {us:List Value} (n:Nat),bN xs us->bN (xs.take n) (us.take n)
 | _,_,0,_=>.nil
 | _,_,_+1,.nil=>.nil
 | _,_,n+1,.cons r t=>.cons r (bN.take n t)
theorem bN.drop:∀ {xs:List V} {us:List Value} (n:Nat),bN xs us->bN (xs.drop n) (us.drop n)
 | _,_,0,r=>r
 | _,_,_+1,.nil=>.nil
 | _,_,n+1,.cons _ t=>bN.drop n t
def nr:Option V->Option Value->Prop
 | some v,some u=>RelV v u
 | none,none=>True
 | _,_=>False
def KV {κ:Type}:List (κ×V)->List (κ×Value)->Prop:=Paired λ (p:κ×V) (q:κ×Value)=>p.1=q.1/\RelV p.2 q.2
def kV:Key->V
 | .inl i=>.int i
 | .inr x=>.str x
inductive HO where
 | lst (xs:List V)
 | tup (xs:List V)
 | dK (kvs:List (Key×V)) | dT (kvs:List (List Key×V))
 | set (S:Int->Bool) (n:Nat)
 | ins (C dx:Addr) (fs:List (Str×V))
 | own (x:Addr)
 | xd (fs:List (Str×V))
 | met (f x:Addr)
 | rng (lo hi:Int)
 | frz (o:Obj) (u:HO)
 | tbl (ps:Array Value)
 | ext (φ:Heap->Prop)
abbrev Hp:=Addr->Option HO
def upd (H:Hp) (a:Addr) (o:HO):Hp:=λ b=>if b=a then some o else H b
theorem aw:upd H a o a=some o:=by unfold upd; rw [if_pos rfl]
theorem ak (h:b≠a):upd H a o b=H b:=by unfold upd; rw [if_neg h]
theorem Bd:upd (upd H a o) a u=upd H a u:=by
 funext b; unfold upd; split <;> rfl
theorem KZ {H:Hp} {a b:Addr} {o u:HO} (h:H a=some o) (h':H b=some u) (d:o≠u):a≠b:=by
 intro e; subst e; rw [h] at h'; exact d (Zj h')
theorem de {H:Hp} {a b:Addr} {o:HO} (h:H a=some o) (h':H b=none):a≠b:=by
 intro e; subst e; rw [h] at h'; cases h'
section
variable (P:Program) (w:World)
def cR (H:Hp) (h:Heap) (a:Addr):HO->Prop
 | .lst xs=>xs.length<=sizeLine/\∃ (its:List Value) (n:Nat),bN xs its/\h.get? a=some { cls:=.type "list",data:=.seq its.toArray n }
 | .tup xs=>xs.length<=sizeLine/\∃ its:List Value,bN xs its/\IsTup h a its.toArray
 | .dK kvs=>kvs.length<=sizeLine/\(a == sysModules)=false/\∃ vs,KV kvs vs/\h.DictOf (bB P w) a vs
 | .dT kvs=>kvs.length<=sizeLine/\(a == sysModules)=false/\∃ xs:List (List Key×Addr×Value),
  Paired (λ (p:List Key×V) (q:List Key×Addr×Value)=>p.1=q.1/\H q.2.1=some (.tup (p.1.map kV))/\RelV p.2 q.2.2) kvs xs /\
  ∃ o es ep,h.get? a=some o/\o.ExactDict/\o.data=.dict es ep/\es.toList=xs.map (entryOfKey (tupleKind (bB P w)))/\(xs.map (·.1)).Nodup
 | .set S n=>h.SetOf (intKind P w) a S n
 | .ins C dx fs=>H dx=some (.own a)/\fs.length<=1000/\dx≠a/\h.get? a=some (PySem.W.instObj C dx) /\
  ∃ mA,h.Ns1 dx mA/\(∀ f,nr (fs.lookup f) (mA f))/\PySem.Within mA (fs.map (·.1))
 | .own _=>∃ o,h.get? a=some o
 | .xd fs=>∃ mA,h.Ns1 a mA/\∀ f,nr (fs.lookup f) (mA f)
 | .rng lo hi=>∃ t u v,h.get? a=some { cls:=.type "range",data:=.fields #[.int lo t,.int hi u,.int 1 v] }
 | .frz o u=>h.get? a=some o/\cR H h a u
 | .tbl ps=>h.get? a=some { cls:=.none,data:=.fields ps }
 | .met f x=>h.get? a=some (PySem.W.methodObj (.ref f) (.ref x))
 | .ext φ=>φ h/\(∃ o,h.get? a=some o)/\∀ h1 h2:Heap,φ h1->(∀ o,h1.get? a=some o->h2.get? a=some o)->φ h2
def HOk (H:Hp) (h:Heap):Prop:=∀ a o,H a=some o->cR P w H h a o
end
section
variable {P:Program} {w:World} {H H':Hp} {h h':Heap} {a:Addr} {o:HO}
theorem cR.lt (x:cR P w H h a o):a < h.objs.size:=by
 cases o with
 | lst xs=>obtain ⟨_,_,_,_,e⟩:=x; exact Zs e
 | tup xs=>obtain ⟨_,_,_,p⟩:=x; exact p.lt
 | dK kvs=>obtain ⟨_,_,_,_,o,_,_,e,_⟩:=x; exact Zs e
 | dT kvs=>obtain ⟨_,_,_,_,o,_,_,e,_⟩:=x; exact Zs e
 | set S n=>obtain ⟨o,_,_,_,e,_⟩:=x; exact Zs e
 | ins C dx fs=>obtain ⟨_,_,_,e,_⟩:=x; exact Zs e
 | own y=>obtain ⟨_,e⟩:=x; exact Zs e
 | xd fs=>obtain ⟨_,⟨_,_,_,e,_⟩,_⟩:=x; exact Zs e
 | rng lo hi=>obtain ⟨_,_,_,e⟩:=x; exact Zs e
 | frz ob u=>obtain ⟨e,_⟩:=x; exact Zs e
 | tbl ps=>exact Zs (show h.get? a=some _ from x)
 | met f y=>exact Zs (show h.get? a=some _ from x)
 | ext φ=>obtain ⟨_,⟨_,e⟩,_⟩:=x; exact Zs e
theorem Paired.Lb {α β:Type} {F G:α->β->Prop}:∀ {l₁:List α} {l₂:List β},Paired F l₁ l₂->(∀ a b,F a b->G a b)->Paired G l₁ l₂
 | _,_,.nil,_=>.nil
 | _,_,.cons r t,f=>.cons (f _ _ r) (Paired.Lb t f)
theorem cR.qA (x:cR P w H h a o) (k:∀ b u,(b=a\/H b=some (.own a))->h.get? b=some u->h'.get? b=some u)
  (ho:∀ b,H b=some (.own a)->H' b=some (.own a)) (ht:∀ b xs,H b=some (.tup xs)->H' b=some (.tup xs)):cR P w H' h' a o:=by
 induction o with
 | lst xs=>obtain ⟨z,its,n,r,e⟩:=x; exact ⟨z,its,n,r,k _ _ (.inl rfl) e⟩
 | tup xs=>obtain ⟨z,its,r,ob,e,c⟩:=x; exact ⟨z,its,r,ob,k _ _ (.inl rfl) e,c⟩
 | dK kvs=>obtain ⟨z,y,vs,r,ob,es,ep,e,c⟩:=x; exact ⟨z,y,vs,r,ob,es,ep,k _ _ (.inl rfl) e,c⟩
 | dT kvs =>
  obtain ⟨z,y,xs,r,ob,es,ep,e,c⟩:=x;exact ⟨z,y,xs,Paired.Lb r λ p q z=>⟨z.1,ht _ _ z.2.1,z.2.2⟩,ob,es,ep,k _ _ (.inl rfl) e,c⟩
 | set S n=>obtain ⟨ob,es,ep,t,e,c⟩:=x; exact ⟨ob,es,ep,t,k _ _ (.inl rfl) e,c⟩
 | ins C dx fs =>
  obtain ⟨d,z,ne,e,mA,⟨od,es,ep,e2,c⟩,r⟩:=x;exact ⟨ho _ d,z,ne,k _ _ (.inl rfl) e,mA,⟨od,es,ep,k _ _ (.inr d) e2,c⟩,r⟩
 | own y=>obtain ⟨ob,e⟩:=x; exact ⟨ob,k _ _ (.inl rfl) e⟩
 | xd fs=>obtain ⟨mA,⟨od,es,ep,e,c⟩,r⟩:=x; exact ⟨mA,⟨od,es,ep,k _ _ (.inl rfl) e,c⟩,r⟩
 | rng lo hi=>obtain ⟨t,u,v,e⟩:=x; exact ⟨t,u,v,k _ _ (.inl rfl) e⟩
 | frz ob u ih=>obtain ⟨e,q⟩:=x; exact ⟨k _ _ (.inl rfl) e,ih q⟩
 | tbl ps =>
  have e:h.get? a=some { cls:=.none,data:=.fields ps }:=x;show h'.get? a=some { cls:=.none,data:=.fields ps };exact k a _ (.inl rfl) e
 | met f y =>
  have e:h.get? a=some (PySem.W.methodObj (.ref f) (.ref y)):=x;show h'.get? a=some (PySem.W.methodObj (.ref f) (.ref y));exact k a _ (.inl rfl) e
 | ext φ=>obtain ⟨p,⟨o,e⟩,st⟩:=x; exact ⟨st _ _ p λ o q=>k _ _ (.inl rfl) q,⟨o,k _ _ (.inl rfl) e⟩,st⟩
theorem HOk.lt (x:HOk P w H h) (e:H a=some o):a < h.objs.size:=(x a o e).lt
theorem HOk.fresh (x:HOk P w H h) (e:h.objs.size<=a):H a=none:=by
 cases q:H a with
 | none=>rfl
 | some u=>exact absurd (Z3 (x.lt q) e) (Yq _)
theorem HOk.kept (x:HOk P w H h) (k:∀ b u,h.get? b=some u->h'.get? b=some u):HOk P w H h':=λ a o e =>
 (x a o e).qA (λ b u _ q=>k b u q) (λ _ q=>q) λ _ _ q=>q
theorem HOk.laid (x:HOk P w H h) (k:∀ b u,h.get? b=some u->h'.get? b=some u) (hp:h.objs.size<=a) (new:cR P w (upd H a o) h' a o):HOk P w (upd H a o) h':=λ b u e=>by
 have hn:=x.fresh hp
 by_cases hb:b=a
 · subst hb; rw [aw] at e; cases e; exact new
 ·rw [ak hb] at e
  exact (x b u e).qA (λ c v _ q=>k c v q) (λ c q=>by rw [ak (de q hn)]; exact q) λ c xs q=>by rw [ak (de q hn)]; exact q
end
def Rd (H:Hp) (a:Addr) (u:HO):Prop:=H a=some u\/∃ o,H a=some (.frz o u)
theorem Rd.ok (r:Rd H a u) (x:HOk P w H h):cR P w H h a u:=by
 rcases r with r | ⟨o,r⟩
 · exact x a u r
 ·obtain ⟨_,q⟩:=x a _ r
  exact q
def Mut:Option HO->Prop
 | some (.lst _)=>True
 | some (.dK _)=>True
 | some (.dT _)=>True
 | some (.set _ _)=>True
 | some (.ins _ _ _)=>True
 | some (.ext _)=>True
 | _=>False
section
variable {P:Program} {w:World} {H:Hp} {h h':Heap} {x e:Addr} {o':HO}
theorem HOk.write (ok:HOk P w H h) (mu:Mut (H x)) (he:e=x\/H e=some (.own x)) (k:∀ b u,b≠e->h.get? b=some u->h'.get? b=some u) (heo:∃ u,h'.get? e=some u)
  (new:cR P w (upd H x o') h' x o'):HOk P w (upd H x o') h':=λ b u q=>by
 have nown:∀ c y,H c=some (.own y)->c≠x:=λ c y r z=>by subst z; rw [r] at mu; exact mu
 have ntup:∀ c xs,H c=some (.tup xs)->c≠x:=λ c xs r z=>by subst z; rw [r] at mu; exact mu
 by_cases hb:b=x
 · subst hb; rw [aw] at q; cases q; exact new
 ·rw [ak hb] at q
  by_cases hbe:b=e
  ·have q':H b=some (.own x):=by
    rcases he with z | z
    · exact absurd (hbe.trans z) hb
    · rw [hbe]; exact z
   rw [q] at q'; cases q'
   obtain ⟨v,hv⟩:=heo;exact ⟨v,by rw [hbe]; exact hv⟩
  ·refine (ok b u q).qA (λ c v hc r=>k c v ?_ r) (λ c r=>by rw [ak (nown c b r)]; exact r) λ c xs r=>by rw [ak (ntup c xs r)]; exact r
   rcases hc with rfl | hc
   · exact hbe
   ·rintro rfl
    rcases he with z | z
    · exact nown c b hc z
    · rw [hc] at z; cases z; exact hb rfl
end
structure Un (fs ex:List Addr) (H H':Hp) (h h':Heap):Prop where
 keep:∀ b o,h.get? b=some o->H b=none->b ∉ fs->b ∉ ex->h'.get? b=some o
 slot:∀ b o,h.get? b=some o->H b=none->b ∈ fs->b ∉ ex->∃ sl,h'.get? b=some { o with slots:=sl }
 free:∀ b o,h.get? b=some o->H b=none->b ∉ ex->H' b=none
 there:∀ b o,h.get? b=some o->b ∉ ex->∃ o',h'.get? b=some o'
 ud:∀ b xs,H b=some (.tup xs)->H' b=some (.tup xs)
 tY:∀ b o u,H b=some (.frz o u)->H' b=some (.frz o u)
 uj:∀ b ps,H b=some (.tbl ps)->∃ more,H' b=some (.tbl (ps++more))
section
variable {fs fs' ex ex':List Addr} {H H1 H2:Hp} {h h1 h2 h':Heap} {a x e:Addr} {o:HO}
theorem Un.any (u:Un fs ex H H1 h h1) (q:h.get? b=some ob) (n:H b=none) (hx:b ∉ ex):∃ sl,h1.get? b=some { ob with slots:=sl }:=by
 by_cases hb:b ∈ fs
 · exact u.slot b ob q n hb hx
 · exact ⟨ob.slots,u.keep b ob q n hb hx⟩
theorem Un.kept (k:∀ b u,h.get? b=some u->h'.get? b=some u):Un fs ex H H h h' :=
 ⟨λ b ob q _ _ _=>k b ob q,λ b ob q _ _ _=>⟨ob.slots,k b ob q⟩,λ _ _ _ n _=>n,λ b ob q _=>⟨ob,k b ob q⟩,λ _ _ q=>q,λ _ _ _ q=>q,λ _ ps q=>⟨#[],by rw [q]; simp⟩⟩
theorem Un.refl:Un fs ex H H h h:=Un.kept λ _ _ q=>q
theorem Un.laid (k:∀ b u,h.get? b=some u->h'.get? b=some u) (hp:h.objs.size<=a) (hn:H a=none):Un fs ex H (upd H a o) h h' where
 keep:=λ b u q _ _ _=>k b u q
 slot:=λ b u q _ _ _=>⟨u.slots,k b u q⟩
 free:=λ b u q n _=>by rw [ak (Zy (Z3 (Zs q) hp))]; exact n
 there:=λ b u q _=>⟨u,k b u q⟩
 ud:=λ b xs q=>by rw [ak (de q hn)]; exact q
 tY:=λ b u xs q=>by rw [ak (de q hn)]; exact q
 uj:=λ b ps q=>⟨#[],by rw [ak (de q hn),q]; simp⟩
theorem Un.write (mu:Mut (H x)) (he:e=x\/H e=some (.own x)) (k:∀ b u,b≠e->h.get? b=some u->h'.get? b=some u) (heo:∃ u,h'.get? e=some u):Un fs ex H (upd H x o) h h':=by
 have hx:∀ b,H b=none->b≠x:=λ b n z=>by subst z; rw [n] at mu; exact mu
 have hb:∀ b,H b=none->b≠e:=λ b n z=>by
  subst z;rcases he with r | r
  · exact hx b n r
  · rw [n] at r; cases r
 have hm:∀ b u,H b=some u->¬ Mut (some u)->b≠x:=λ b u q nm z=>by subst z; rw [q] at mu; exact nm mu
 refine ⟨λ b u q n _ _=>k b u (hb b n) q,λ b u q n _ _=>⟨u.slots,k b u (hb b n) q⟩,λ b u q n _=>by rw [ak (hx b n)]; exact n,λ b u q _=>?_,
  λ b xs q=>by rw [ak (hm b _ q λ z=>z)]; exact q,λ b u xs q=>by rw [ak (hm b _ q λ z=>z)]; exact q,λ b ps q=>⟨#[],by rw [ak (hm b _ q λ z=>z),q]; simp⟩⟩
 by_cases hbe:b=e
 · subst hbe; exact heo
 · exact ⟨u,k b u hbe q⟩
end
def trk (h:Heap) (H:Hp):List Addr:=(List.range h.objs.size).filter λ a=>(H a).isSome
def zy (h:Heap) (H:Hp):Heap:=PySem.W.hideAll h (trk h H)
theorem wF (h:Heap) (H:Hp):(zy h H).objs.size=h.objs.size:=PySem.W.hideAll_size _ _
theorem zx (e:h.get? b=some o) (n:H b=none):(zy h H).get? b=some o :=
 PySem.W.hideAll_get _ e λ hm=>by
  have q:(H b).isSome=true:=(Yw.mp hm).2;rw [n] at q; simp at q
theorem CD (e:(zy h H).get? b=some o):h.get? b=some o/\H b=none:=by
 have e':h.get? b=some o:=PySem.W.of_hideAll (trk h H) e;refine ⟨e',?_⟩
 cases q:H b with
 | none=>rfl
 | some x =>
  have hm:b ∈ trk h H:=Yw.mpr ⟨Xd.mpr (Zs e'),by simp [q]⟩;have z:(zy h H).get? b=none:=PySem.W.hideAll_none (trk h H) hm;rw [z] at e; cases e
end L2
namespace L2
open PySem PySem.Spec PyProof.Rows
structure Mod (K:W.Frag) (mg:Str->Option Value) (base:Heap):Prop where
 kin:K.In base
 glob:base.Ns mainGlobals mg
 blt:∃ mb,base.Ns builtinsNs mb/\∀ x:Str,x≠"__name__"->mb x=bootBuiltins x
 nolimit:base.NoLimit
structure Cx where
 prog:Program
 w:World
 K:W.Frag
 mg:Str->Option Value
 base:Heap
 A:Around
 N:List Str
 s₀:Shared
 H₀:Hp
 env:Env
 outer:List Env
 stack:List Env
 ex:List Addr
 fn:Str->Bool
 calm:Bool
 pn:List (Addr×Obj)
 xe:Value->Shared->Prop
def frs (l:List Env):List Addr:=l.filterMap (·.frame)
abbrev Cx.fs (X:Cx):List Addr:=frs X.outer
def Vis (sc:Scope) (x:Str):Prop:=sc.names.lookup x=some .local\/sc.names.lookup x=some .cell\/sc.names.lookup x=some .free
def Loc (sc:Scope) (x:Str):Prop:=sc.names.lookup x=some .local\/sc.names.lookup x=some .cell
def Look (env:Env) (h:Heap) (m:Str->Option Value) (x:Str) (u:Value):Prop :=
 (env.kindOf x=some .local/\m x=some u)\/((env.kindOf x=some .cell\/env.kindOf x=some .free)/\∃ c,env.cells.lookup x=some c/\h.IsCell c (some u))
structure Cx.Ok (X:Cx):Prop where
 mod:Mod X.K X.mg X.base
 kind:X.env.scope.kind=.function
 glob:X.env.globals=mainGlobals
 blt:X.env.builtins=builtinsNs
 above:X.s₀.heap.objs.size<=X.env.locals
 inj:∀ x y c,X.env.cells.lookup x=some c->X.env.cells.lookup y=some c->x=y
 has:∀ x,(X.env.kindOf x=some .cell\/X.env.kindOf x=some .free)->∃ c,X.env.cells.lookup x=some c
 cab:∀ x c,X.fn x=true->X.env.cells.lookup x=some c->X.s₀.heap.objs.size<=c
 hd:X.calm=true->X.A.handled=none
 frames:X.A.frames=some X.stack
 stk:X.stack=X.outer\/(X.stack=X.env::X.outer/\X.env.frame=some X.env.locals)
 exf:∀ b ∈ X.ex,b≠X.env.locals/\∀ x c,X.env.cells.lookup x=some c->c≠b
 bs:∀ b o,X.base.get? b=some o->X.s₀.heap.get? b=some o/\X.H₀ b=none
 bsz:X.base.objs.size<=X.s₀.heap.objs.size
 FY:∀ b o,X.base.get? b=some o->b ∉ X.ex
 IA:∀ b ∈ X.ex,b ∉ X.fs
 tX:X.s₀.heap.FunFrames X.base X.outer
 frf:∀ b ∈ X.fs,X.H₀ b=none
structure Inv (X:Cx) (pins:List (Addr×Obj)) (σ:List (Option V)) (H:Hp) (s:Shared):Prop where
 ok:X.Ok
 os:s.os=X.s₀.os
 bare:AllBare s.gens
 base:Un X.fs X.ex X.H₀ H X.s₀.heap s.heap
 loc:∃ m,s.heap.Ns X.env.locals m/\∀ (i:Nat) (x:Str) (v:V),X.N[i]?=some x->σ[i]?=some (some v)->Vis X.env.scope x->∃ u,RelV v u/\Look X.env s.heap m x u
 cell:∀ x c,X.env.cells.lookup x=some c->∃ v,s.heap.IsCell c v
 free:H X.env.locals=none
 kq:∀ x c,X.env.cells.lookup x=some c->H c=none
 pin:∀ p ∈ X.pn++pins,s.heap.get? p.1=some p.2/\H p.1=none/\p.1≠X.env.locals/\p.1 ∉ X.fs/\∀ v,p.2.data≠.cell v
 hok:HOk X.prog X.w H s.heap
 len:σ.length=X.N.length
section
variable {X:Cx} {pins:List (Addr×Obj)} {σ:List (Option V)} {H H':Hp} {s:Shared} {h':Heap}
theorem Cx.Ok.NJ (ok:X.Ok) (e:X.base.get? b=some o):b ∉ X.fs:=λ hb=>by
 have:=(ok.tX.mem hb).1;rw [e] at this; cases this
theorem Inv.bs (I:Inv X pins σ H s):∀ b o,X.base.get? b=some o->s.heap.get? b=some o/\H b=none:=λ b o e =>
 ⟨I.base.keep b o (I.ok.bs b o e).1 (I.ok.bs b o e).2 (I.ok.NJ e) (I.ok.FY b o e),I.base.free b o (I.ok.bs b o e).1 (I.ok.bs b o e).2 (I.ok.FY b o e)⟩
theorem Inv.bk (I:Inv X pins σ H s):∀ b o,X.base.get? b=some o->s.heap.get? b=some o:=λ b o e=>(I.bs b o e).1
theorem Inv.mod (I:Inv X pins σ H s):Mod X.K X.mg X.base:=I.ok.mod
theorem Inv.kIn (I:Inv X pins σ H s):X.K.In s.heap:=I.ok.mod.kin.keeps I.bk
theorem Inv.lt (I:Inv X pins σ H s):X.env.locals < s.heap.objs.size:=let ⟨_,hn,_⟩:=I.loc; hn.lt
theorem Inv.sz (I:Inv X pins σ H s):X.s₀.heap.objs.size<=s.heap.objs.size:=Z6 I.ok.above (Yo I.lt)
theorem Inv.NI (I:Inv X pins σ H s) (h:s.heap.objs.size<=a):a ∉ X.fs:=λ hb=>by
 obtain ⟨_,o,ho,_⟩:=I.ok.tX.mem hb;exact absurd (Z3 (Zs ho) (Z6 I.sz h)) (Yq _)
theorem Inv.cne (I:Inv X pins σ H s):∀ x c,X.env.cells.lookup x=some c->c≠X.env.locals:=λ x c e z=>by
 obtain ⟨v,o,ho,hd⟩:=I.cell x c e;obtain ⟨m,⟨o',es,ep,ho',hd',_⟩,_⟩:=I.loc;rw [z,ho'] at ho; cases ho; rw [hd'] at hd; cases hd
theorem Inv.tX (I:Inv X pins σ H s):s.heap.FunFrames X.base X.outer:=by
 have all:∀ (l:List Env),(∀ b ∈ frs l,b ∈ X.fs)->X.s₀.heap.FunFrames X.base l->s.heap.FunFrames X.base l:=by
  intro l
  induction l with
  | nil=>intro _ _; trivial
  | cons env r ih =>
   intro hs hl;obtain ⟨hk,⟨L,o,hf,hn,ho,hd⟩,hr⟩:=hl;have hL:L ∈ X.fs:=hs L (by unfold frs; rw [List.filterMap_cons,hf]; exact Ze);obtain ⟨sl,e⟩:=I.base.slot L o ho (I.ok.frf L hL) hL λ z=>I.ok.IA L z hL
   exact ⟨hk,⟨L,_,hf,hn,e,hd⟩,ih (λ b hb=>hs b (by unfold frs; rw [List.filterMap_cons,hf]; exact Zd _ hb)) hr⟩
 exact all X.outer (λ _ hb=>hb) I.ok.tX
theorem Inv.stack (I:Inv X pins σ H s):s.heap.FunFrames X.base X.stack:=by
 rcases I.ok.stk with e | ⟨e,hf⟩
 · rw [e]; exact I.tX
 ·rw [e]
  obtain ⟨m,hn,_⟩:=I.loc;refine .cons (by rw [I.ok.kind]; decide) hf hn ?_ I.tX;exact Heap.get?_none_of_le (Z6 I.ok.bsz I.ok.above)
theorem Inv.nF (I:Inv X pins σ H s):∀ b ∈ frs X.stack,b ∈ X.env.locals::X.fs:=λ b hb=>by
 rcases I.ok.stk with e | ⟨e,hf⟩
 · rw [e] at hb; exact Zd _ hb
 ·rw [e] at hb
  unfold frs at hb;rw [List.filterMap_cons,hf] at hb;exact hb
theorem Inv.uq (I:Inv X pins σ H s):∀ b ∈ frs X.stack,H b=none:=λ b hb=>by
 rcases Zl.mp (I.nF b hb) with e | hb
 · rw [e]; exact I.free
 ·obtain ⟨_,o,ho,_⟩:=I.ok.tX.mem hb
  exact I.base.free b o ho (I.ok.frf b hb) λ z=>I.ok.IA b z hb
theorem Inv.step {g':Array GenState} {t':Nat} {d':Drawn} {ch:List Addr} (I:Inv X pins σ H s)
  (hch:∀ b ∈ ch,(b ∈ X.ex\/X.s₀.heap.objs.size<=b)/\b≠X.env.locals/\(∀ x c,X.env.cells.lookup x=some c->c≠b)/\∀ p ∈ X.pn++pins,p.1≠b)
  (keep:∀ b o,b≠X.env.locals->b ∉ X.fs->b ∉ ch->s.heap.get? b=some o->H b=none->h'.get? b=some o)
  (slot:∀ b o,b≠X.env.locals->b ∈ X.fs->b ∉ ch->s.heap.get? b=some o->H b=none->∃ sl,h'.get? b=some { o with slots:=sl }) (free:∀ b o,b ∉ ch->s.heap.get? b=some o->H b=none->H' b=none)
  (there:∀ b o,b ∉ ch->s.heap.get? b=some o->∃ o',h'.get? b=some o')
  (ud:∀ b xs,H b=some (.tup xs)->H' b=some (.tup xs)) (tY:∀ b o u,H b=some (.frz o u)->H' b=some (.frz o u)) (uj:∀ b ps,H b=some (.tbl ps)->∃ more,H' b=some (.tbl (ps++more)))
  (ns:∀ m,s.heap.Ns X.env.locals m->h'.Ns X.env.locals m) (hok:HOk X.prog X.w H' h') (hg:AllBare g') :
  Inv X pins σ H' { s with heap:=h',gens:=g',drawn:=d',toks:=t' }:=by
 have neL:∀ b o,X.s₀.heap.get? b=some o->b≠X.env.locals:=λ b o e=>Zy (Z3 (Zs e) I.ok.above)
 have neC:∀ b o,X.s₀.heap.get? b=some o->b ∉ X.ex->b ∉ ch:=λ b o e hx hb=>by
  rcases (hch b hb).1 with z | z
  · exact hx z
  · exact absurd (Z3 (Zs e) z) (Yq _)
 have cellK:∀ x c,X.env.cells.lookup x=some c->∀ v,s.heap.IsCell c v->h'.IsCell c v:=λ x c e v ⟨o,ho,hd⟩=>by
  have nch:c ∉ ch:=λ z=>(hch c z).2.2.1 x c e rfl
  by_cases hc:c ∈ X.fs
  ·obtain ⟨sl,q⟩:=slot c o (I.cne x c e) hc nch ho (I.kq x c e)
   exact ⟨_,q,hd⟩
  · exact ⟨o,keep c o (I.cne x c e) hc nch ho (I.kq x c e),hd⟩
 refine ⟨I.ok,I.os,hg,⟨λ b o e n hb hx=>?_,λ b o e n hb hx=>?_,λ b o e n hx=>?_,λ b o e hx=>?_,λ b xs e=>ud b xs (I.base.ud b xs e),λ b o xs e=>tY b o xs (I.base.tY b o xs e),λ b ps e=>?_⟩,?_,λ x c e=>?_,?_,λ x c e=>?_,λ p hp=>?_,hok,I.len⟩
 · exact keep b o (neL b o e) hb (neC b o e hx) (I.base.keep b o e n hb hx) (I.base.free b o e n hx)
 ·obtain ⟨sl,e1⟩:=I.base.slot b o e n hb hx
  obtain ⟨sl',e2⟩:=slot b _ (neL b o e) hb (neC b o e hx) e1 (I.base.free b o e n hx);exact ⟨sl',e2⟩
 ·obtain ⟨o',e1⟩:=I.base.there b o e hx
  exact free b o' (neC b o e hx) e1 (I.base.free b o e n hx)
 ·obtain ⟨o',e1⟩:=I.base.there b o e hx
  exact there b o' (neC b o e hx) e1
 ·obtain ⟨m1,e1⟩:=I.base.uj b ps e
  obtain ⟨m2,e2⟩:=uj b _ e1;exact ⟨m1++m2,by rw [e2,Array.append_assoc]⟩
 ·obtain ⟨m,hn,hl⟩:=I.loc
  refine ⟨m,ns m hn,λ i x v e1 e2 e3=>?_⟩;obtain ⟨u,r,l⟩:=hl i x v e1 e2 e3;refine ⟨u,r,?_⟩;rcases l with l | ⟨k,c,e,z⟩
  · exact .inl l
  · exact .inr ⟨k,c,e,cellK x c e _ z⟩
 ·obtain ⟨v,z⟩:=I.cell x c e
  exact ⟨v,cellK x c e v z⟩
 ·obtain ⟨m,⟨o,_,_,ho,_⟩,_⟩:=I.loc
  exact free _ o (λ z=>(hch _ z).2.1 rfl) ho I.free
 ·obtain ⟨v,o,ho,hd⟩:=I.cell x c e
  exact free c o (λ z=>(hch c z).2.2.1 x c e rfl) ho (I.kq x c e)
 ·obtain ⟨e,n,ne,nf,d⟩:=I.pin p hp
  have nch:p.1 ∉ ch:=λ z=>(hch p.1 z).2.2.2 p hp rfl
  exact ⟨keep p.1 p.2 ne nf nch e n,free p.1 p.2 nch e n,ne,nf,d⟩
theorem Inv.un {t':Nat} (I:Inv X pins σ H s) (u:Un X.fs [] H H' s.heap h') (hok:HOk X.prog X.w H' h'):Inv X pins σ H' { s with heap:=h',toks:=t' }:=by
 obtain ⟨m,⟨o,es,ep,ho,r⟩,_⟩:=id I.loc;obtain ⟨sl,hL⟩:=u.any ho I.free (by simp)
 exact I.step (g':=s.gens) (d':=s.drawn) (ch:=[]) (λ _ z=>nomatch z) (λ b o _ hb _ e n=>u.keep b o e n hb (by simp)) (λ b o _ hb _ e n=>u.slot b o e n hb (by simp)) (λ b o _ e n=>u.free b o e n (by simp)) (λ b o _ e=>u.there b o e (by simp)) u.ud u.tY u.uj (λ m' hm=>by
  obtain ⟨o',es',ep',ho',r'⟩:=hm;rw [ho] at ho'; cases ho'
  exact ⟨_,es',ep',hL,r'⟩) hok I.bare
theorem Inv.call {g':Array GenState} {t':Nat} {d':Drawn} {ch:List Addr} (I:Inv X pins σ H s) (u:Un (frs X.stack) ch H H' s.heap h') (hok:HOk X.prog X.w H' h') (hg:AllBare g')
  (hch:∀ b ∈ ch,(b ∈ X.ex\/X.s₀.heap.objs.size<=b)/\b≠X.env.locals/\(∀ x c,X.env.cells.lookup x=some c->c≠b)/\∀ p ∈ X.pn++pins,p.1≠b) :
  Inv X pins σ H' { s with heap:=h',gens:=g',drawn:=d',toks:=t' }:=by
 obtain ⟨m,⟨o,es,ep,ho,r⟩,_⟩:=id I.loc;obtain ⟨sl,hL⟩:=u.any ho I.free λ z=>(hch _ z).2.1 rfl
 exact I.step (ch:=ch) hch (λ b o hL hb hc e n=>u.keep b o e n (λ z=>(Zl.mp (I.nF b z)).elim hL hb) hc) (λ b o _ _ hc e n=>u.any e n hc) (λ b o hc e n=>u.free b o e n hc) (λ b o hc e=>u.there b o e hc) u.ud u.tY u.uj (λ m' hm=>by
  obtain ⟨o',es',ep',ho',r'⟩:=hm;rw [ho] at ho'; cases ho'
  exact ⟨_,es',ep',hL,r'⟩) hok hg
theorem Inv.turned {t':Nat} {it:Addr} (I:Inv X pins σ H s) (k:∀ b o,b≠it->s.heap.get? b=some o->h'.get? b=some o) (hn:H it=none) (hL:it≠X.env.locals)
  (h1:it ∈ X.ex\/X.s₀.heap.objs.size<=it) (h2:∀ x c,X.env.cells.lookup x=some c->c≠it) (h3:∀ p ∈ X.pn++pins,p.1≠it):Inv X pins σ H { s with heap:=h',toks:=t' }:=by
 have nit:∀ b u,H b=some u->b≠it:=λ b u e z=>by rw [z,hn] at e; cases e
 refine I.step (g':=s.gens) (d':=s.drawn) (ch:=[it]) (λ b hb=>?_) (λ b o _ _ hc e _=>k b o (λ z=>hc (by simp [z])) e) (λ b o _ _ hc e _=>⟨o.slots,k b o (λ z=>hc (by simp [z])) e⟩) (λ _ _ _ _ n=>n)
  (λ b o hc e=>⟨o,k b o (λ z=>hc (by simp [z])) e⟩) (λ _ _ e=>e) (λ _ _ _ e=>e) (λ b ps e=>⟨#[],by rw [e]; simp⟩) (λ m hm=>?_) (λ b u e=>?_) I.bare
 ·have e:b=it:=by simpa using hb
  subst e;exact ⟨h1,hL,h2,h3⟩
 ·obtain ⟨o,es,ep,ho,r⟩:=hm
  exact ⟨o,es,ep,k _ o (Ne.symm hL) ho,r⟩
 ·refine (I.hok b u e).qA (λ c v hc q=>k c v ?_ q) (λ _ q=>q) λ _ _ q=>q
  rcases hc with z | z
  · rw [z]; exact nit b u e
  · exact nit c _ z
theorem Inv.tok (I:Inv X pins σ H s) (t:Nat):Inv X pins σ H { s with toks:=t }:=I.un (h':=s.heap) (t':=t) Un.refl I.hok
theorem Inv.kept (I:Inv X pins σ H s) (k:∀ b u,s.heap.get? b=some u->h'.get? b=some u):Inv X pins σ H { s with heap:=h',toks:=t' }:=I.un (Un.kept k) (I.hok.kept k)
theorem Inv.laid (I:Inv X pins σ H s) (k:∀ b u,s.heap.get? b=some u->h'.get? b=some u) (hp:s.heap.objs.size<=a) (new:cR X.prog X.w (upd H a o) h' a o) :
 Inv X pins σ (upd H a o) { s with heap:=h',toks:=t' }:=I.un (Un.laid k hp (I.hok.fresh hp)) (I.hok.laid k hp new)
theorem Inv.write (I:Inv X pins σ H s) (mu:Mut (H x)) (he:e=x\/H e=some (.own x)) (k:∀ b u,b≠e->s.heap.get? b=some u->h'.get? b=some u) (heo:∃ u,h'.get? e=some u)
 (new:cR X.prog X.w (upd H x o) h' x o):Inv X pins σ (upd H x o) { s with heap:=h',toks:=t' }:=I.un (Un.write mu he k heo) (I.hok.write mu he k heo new)
theorem Inv.gG (I:Inv X pins σ H s) (h:∀ p ∈ pins',s.heap.get? p.1=some p.2/\H p.1=none/\p.1≠X.env.locals/\p.1 ∉ X.fs/\∀ v,p.2.data≠.cell v):Inv X pins' σ H s :=
 ⟨I.ok,I.os,I.bare,I.base,I.loc,I.cell,I.free,I.kq,λ p hp=>(Zh.mp hp).elim (λ z=>I.pin p (Zp _ z)) (h p),I.hok,I.len⟩
theorem qW {N:List Str} (hN:N.Nodup) {i j:Nat} {x:Str} (a:N[i]?=some x) (b:N[j]?=some x):i=j:=by
 obtain ⟨h1,e1⟩:=List.getElem?_eq_some_iff.mp a;obtain ⟨h2,e2⟩:=List.getElem?_eq_some_iff.mp b;exact (List.getElem_inj hN).mp (e1.trans e2.symm)
theorem nE {M:Model} {A:Around} {E:Value->Shared->Prop} {i:Nat} {x:Str} {v:V} {u:Value} {Q:Unit->Shared->Prop} (I:Inv X pins σ H s) (hN:X.N.Nodup) (hi:X.N[i]?=some x) (hx:Loc X.env.scope x) (r:RelV v u)
  (h:∀ s',Inv X pins (σ.set i (some v)) H s'->(∃ a,Heap.SameBut a s.heap s'.heap/\(a=X.env.locals\/X.env.cells.lookup x=some a))->Q () s') (hf:X.fn x=true\/X.env.scope.names.lookup x=some .local:=by first | exact .inl rfl | exact .inr rfl | assumption):wpAny M A (storeName X.env x u) Q E s:=by
 obtain ⟨m,hn,hl⟩:=id I.loc;have hcls:(X.env.scope.kind == .class||(X.env.scope.kind == .module&&X.env.locals != X.env.globals))=false:=by rw [I.ok.kind]; rfl
 have hiσ:i < σ.length:=by rw [I.len]; exact (List.getElem?_eq_some_iff.mp hi).1
 have cne:=I.cne
 have tracked:∀ {a:Addr} {h':Heap},(∃ o,s.heap.get? a=some o/\H a=none)->Heap.SameBut a s.heap h'->HOk X.prog X.w H h':=λ {a h'} ha hs b ob e=>by
  obtain ⟨_,_,hfree⟩:=ha;refine (I.hok b ob e).qA (λ c w' hc q=>(hs.2 c ?_).trans q) (λ _ q=>q) λ _ _ q=>q
  rintro rfl
  rcases hc with rfl | hc
  · rw [hfree] at e; cases e
  · rw [hfree] at hc; cases hc
 rcases hx with hk | hk
 ·refine wpAny_storeName_local hk hn (λ h' hn' hs=>?_) hcls
  obtain ⟨oL,_,_,hoL,_⟩:=id hn;refine h _ ⟨I.ok,I.os,I.bare,⟨λ b o e n hb hx=>?_,λ b o e n hb hx=>?_,I.base.free,λ b o e hx=>?_,I.base.ud,I.base.tY,I.base.uj⟩,⟨_,hn',λ j y v' e1 e2 e3=>?_⟩,λ y c e=>?_,I.free,I.kq,λ p hp=>?_,tracked ⟨oL,hoL,I.free⟩ hs,by simpa using I.len⟩ ⟨_,hs,.inl rfl⟩
  · exact (hs.2 b (Zy (Z3 (Zs e) I.ok.above))).trans (I.base.keep b o e n hb hx)
  ·obtain ⟨sl,e1⟩:=I.base.slot b o e n hb hx
   exact ⟨sl,(hs.2 b (Zy (Z3 (Zs e) I.ok.above))).trans e1⟩
  ·obtain ⟨o',e1⟩:=I.base.there b o e hx
   exact ⟨o',(hs.2 b (Zy (Z3 (Zs e) I.ok.above))).trans e1⟩
  ·by_cases hj:j=i
   ·subst hj
    rw [hi] at e1; cases e1
    rw [List.getElem?_set_self hiσ] at e2;cases e2;exact ⟨u,r,.inl ⟨hk,by simp⟩⟩
   ·rw [List.getElem?_set_ne (Ne.symm hj)] at e2
    obtain ⟨u',r',q⟩:=hl j y v' e1 e2 e3;refine ⟨u',r',?_⟩;rcases q with ⟨k,e⟩ | ⟨k,c,e,z⟩
    ·refine .inl ⟨k,?_⟩
     have:y≠x:=λ e=>hj (qW hN e1 (e ▸ hi))
     simp [this,e]
    · exact .inr ⟨k,c,e,z.sameBut hs (cne y c e)⟩
  ·obtain ⟨w',z⟩:=I.cell y c e
   exact ⟨w',z.sameBut hs (cne y c e)⟩
  ·obtain ⟨e,n,ne,nf,d⟩:=I.pin p hp
   exact ⟨(hs.2 p.1 ne).trans e,n,ne,nf,d⟩
 ·have hfn:X.fn x=true:=by
   rcases hf with z | z
   · exact z
   · rw [z] at hk; cases hk
  obtain ⟨c,hc⟩:=I.ok.has x (.inl hk);obtain ⟨w',z⟩:=I.cell x c hc;refine wpAny_storeName_cell I.ok.kind hk hc z (λ h' hc' hs=>?_);obtain ⟨oc,hoc,hocd⟩:=id z;refine h { s with heap:=h' } ⟨I.ok,I.os,I.bare,⟨λ b o e n hb hx=>?_,λ b o e n hb hx=>?_,I.base.free,λ b o e hx=>?_,I.base.ud,I.base.tY,I.base.uj⟩,⟨m,hn.sameBut hs (Ne.symm (cne x c hc)),λ j y v' e1 e2 e3=>?_⟩,λ y c' e=>?_,I.free,I.kq,λ p hp=>?_,tracked ⟨oc,hoc,I.kq x c hc⟩ hs,by simpa using I.len⟩ ⟨c,hs,.inr hc⟩
  · exact (hs.2 b (Zy (Z3 (Zs e) (I.ok.cab x c hfn hc)))).trans (I.base.keep b o e n hb hx)
  ·obtain ⟨sl,e1⟩:=I.base.slot b o e n hb hx
   exact ⟨sl,(hs.2 b (Zy (Z3 (Zs e) (I.ok.cab x c hfn hc)))).trans e1⟩
  ·obtain ⟨o',e1⟩:=I.base.there b o e hx
   exact ⟨o',(hs.2 b (Zy (Z3 (Zs e) (I.ok.cab x c hfn hc)))).trans e1⟩
  ·by_cases hj:j=i
   ·subst hj
    rw [hi] at e1; cases e1
    rw [List.getElem?_set_self hiσ] at e2;cases e2;exact ⟨u,r,.inr ⟨.inl hk,c,hc,hc'⟩⟩
   ·rw [List.getElem?_set_ne (Ne.symm hj)] at e2
    obtain ⟨u',r',q⟩:=hl j y v' e1 e2 e3;refine ⟨u',r',?_⟩;rcases q with q | ⟨k,c',e,z'⟩
    · exact .inl q
    ·refine .inr ⟨k,c',e,z'.sameBut hs ?_⟩
     rintro rfl
     exact hj (qW hN e1 (I.ok.inj _ _ _ e hc ▸ hi))
  ·by_cases hcc:c'=c
   · subst hcc; exact ⟨_,hc'⟩
   ·obtain ⟨w2,z2⟩:=I.cell y c' e
    exact ⟨w2,z2.sameBut hs hcc⟩
  ·obtain ⟨e,n,ne,nf,d⟩:=I.pin p hp
   refine ⟨(hs.2 p.1 ?_).trans e,n,ne,nf,d⟩;intro q;rw [q,hoc] at e;have q':oc=p.2:=Zj e;exact d w' (by rw [<- q']; exact hocd)
theorem qz (I:Inv X pins σ H s) (hN:X.N.Nodup) (hi:X.N[i]?=some x) (hx:Loc X.env.scope x) (r:RelV v u)
  (h:∀ s',Inv X pins (σ.set i (some v)) H s'->Q () s') (hf:X.fn x=true\/X.env.scope.names.lookup x=some .local:=by first | exact .inl rfl | exact .inr rfl | assumption):wpAny M A (storeName X.env x u) Q E s :=
 nE I hN hi hx r (λ s' I' _=>h s' I') hf
theorem Inv.GV (I:Inv X pins σ H s) (ho:s'.os=s.os) (u:Un (frs X.stack) ch H H' s.heap s'.heap) (hok:HOk X.prog X.w H' s'.heap) (hg:AllBare s'.gens)
  (hch:∀ b ∈ ch,(b ∈ X.ex\/X.s₀.heap.objs.size<=b)/\b≠X.env.locals/\(∀ x c,X.env.cells.lookup x=some c->c≠b)/\∀ p ∈ X.pn++pins,p.1≠b):Inv X pins σ H' s':=by
 obtain ⟨h',g',d',t',o'⟩:=s';have e:o'=s.os:=ho;subst e;exact I.call (g':=g') (t':=t') (d':=d') u hok hg hch
end
abbrev XK:=Value->Option Addr->Hp->Prop
abbrev St:=List (Option V)
abbrev VK:=V->Hp->Prop
abbrev TE:=St->Hp->VK->Prop
abbrev TT:=St->Hp->(Bool->Hp->Prop)->Prop
abbrev TA:=St->Hp->(List V->Hp->Prop)->Prop
structure Ends where
 nx:St->Hp->Prop
 rt:VK
 bk:St->Hp->Prop:=λ _ _=>False
 ct:St->Hp->Prop:=λ _ _=>False
abbrev TS:=Ends->St->Hp->Prop
def EP (X:Cx) (pins:List (Addr×Obj)) (σ:St) (Q:VK) (u:Value) (s':Shared):Prop:=∃ v H',Inv X pins σ H' s'/\RelV v u/\Q v H'
def TP (X:Cx) (pins:List (Addr×Obj)) (σ:St) (Q:Bool->Hp->Prop) (b:Bool) (s':Shared):Prop:=∃ H',Inv X pins σ H' s'/\Q b H'
def AP (X:Cx) (pins:List (Addr×Obj)) (σ:St) (Q:List V->Hp->Prop) (us:List Value) (s':Shared):Prop:=∃ vs H',Inv X pins σ H' s'/\bN vs us/\Q vs H'
def SP (X:Cx) (pins:List (Addr×Obj)) (D:Ends) (f:Flow) (s':Shared):Prop :=
 match f with
 | .next=>∃ σ' H',Inv X pins σ' H' s'/\D.nx σ' H'
 | .brk=>∃ σ' H',Inv X pins σ' H' s'/\D.bk σ' H'
 | .cont=>∃ σ' H',Inv X pins σ' H' s'/\D.ct σ' H'
 | .ret u=>∃ v σ' H',Inv X pins σ' H' s'/\RelV v u/\D.rt v H'
def PE (X:Cx) (e:Expr) (t:TE):Prop :=
 ∀ (pins:List (Addr×Obj)) (s:Shared) (σ:St) (H:Hp) (Q:VK),Inv X pins σ H s->t σ H Q->wpAny (model X.prog X.w) X.A (eval e X.env) (EP X pins σ Q) X.xe s
def PT (X:Cx) (e:Expr) (t:TT):Prop :=
 ∀ (pins:List (Addr×Obj)) (s:Shared) (σ:St) (H:Hp) (Q:Bool->Hp->Prop),Inv X pins σ H s->t σ H Q->wpAny (model X.prog X.w) X.A (isTrue e X.env (eval e X.env)) (TP X pins σ Q) X.xe s
def PW (X:Cx) (e:Expr) (t:TT):Prop :=
 ∀ (whole:Sem Value) (pins:List (Addr×Obj)) (s:Shared) (σ:St) (H:Hp) (Q:Bool->Hp->Prop),Inv X pins σ H s->t σ H Q->wpAny (model X.prog X.w) X.A (isTrue e X.env whole) (TP X pins σ Q) X.xe s
theorem PW.pt (h:PW X e t):PT X e t:=h _
def PA (X:Cx) (es:List Expr) (t:TA):Prop :=
 ∀ (pos:Pos) (pins:List (Addr×Obj)) (s:Shared) (σ:St) (H:Hp) (Q:List V->Hp->Prop),Inv X pins σ H s->t σ H Q->wpAny (model X.prog X.w) X.A (spliced (backTo pos (starEach es X.env))) (AP X pins σ Q) X.xe s
def PS (X:Cx) (st:Stmt) (t:TS):Prop :=
 ∀ (pins:List (Addr×Obj)) (s:Shared) (σ:St) (H:Hp) (D:Ends),Inv X pins σ H s->t D σ H->wpAny (model X.prog X.w) X.A (exec st X.env) (SP X pins D) X.xe s
def PSs (X:Cx) (st:List Stmt) (t:TS):Prop :=
 ∀ (pins:List (Addr×Obj)) (s:Shared) (σ:St) (H:Hp) (D:Ends),Inv X pins σ H s->t D σ H->wpAny (model X.prog X.w) X.A (execs st X.env) (SP X pins D) X.xe s
theorem thn {α:Type} {t:Sem α} {Q Q':α->Shared->Prop} (h:wpAny M A t Q E s) (hQ:∀ a s,Q a s->Q' a s):wpAny M A t Q' E s:=Ym h hQ λ _ _ x=>x
end L2
namespace L2
open PySem PySem.Spec PyProof.Rows
section
variable {X:Cx}
def LO (i:Nat):TE:=λ σ H Q=>∃ v,σ[i]?=some (some v)/\Q v H
def tC (v:V):TE:=λ _ H Q=>Q v H
theorem gu (hN:X.N[i]?=some x) (hv:Vis X.env.scope x) (hd:(x == ("__debug__":Str))=false:=by decide) (hcd:(x == ("__classdict__":Str))=false:=by decide):PE X (.Name x pos) (LO i):=by
 intro pins s σ H Q I h;obtain ⟨v,e,h⟩:=h;obtain ⟨m,hn,hl⟩:=I.loc;obtain ⟨u,r,l⟩:=hl i x v hN e hv;have fin:EP X pins σ Q u s:=⟨v,H,I,r,h⟩
 rcases l with ⟨hk,hm⟩ | ⟨hk,c,hc,hcell⟩
 · exact wpAny_Name (wpAny_loadName_local I.ok.kind hk hn hm fin) hd
 ·rcases hk with hk | hk
  · exact wpAny_Name (wpAny_loadName_cell I.ok.kind hk hc hcell fin) hd
  · exact wpAny_Name (wpAny_loadName_free I.ok.kind hk hc hcell fin hcd) hd
theorem lV {i j pos}:PE X (.Constant (.int i) j pos) (tC (.int i)):=λ _ _ _ H _ I h=>wpAny_Constant_int ⟨.int i,H,I.tok _,⟨_,rfl⟩,h⟩
theorem Jk {b j pos}:PE X (.Constant (.bool b) j pos) (tC (.bl b)):=λ _ _ _ H _ I h=>Constant_bool ⟨.bl b,H,I,rfl,h⟩
theorem Fc {j pos}:PE X (.Constant .none j pos) (tC .non):=λ _ _ _ H _ I h=>Constant_none ⟨.non,H,I,rfl,h⟩
theorem E7 {x j pos}:PE X (.Constant (.str x) j pos) (tC (.str x)):=λ _ _ _ H _ I h=>Calls.Constant_str ⟨.str x,H,I.tok _,⟨_,rfl⟩,h⟩
def Gl (X:Cx) (x:Str):Prop:=X.env.kindOf x=some .globalImplicit
theorem pT (I:Inv X pins σ H s) (hg:Gl X x) (hm:X.mg x=some u) (h:Q u s)
  (hd:(x == ("__debug__":Str))=false:=by decide):wpAny (model X.prog X.w) X.A (eval (.Name x pos) X.env) Q E s :=
 Calls.Name_function_global I.ok.kind hg (Calls.loadGlobal_global (by rw [I.ok.glob]; exact I.mod.glob.keeps I.bk) hm h) hd
theorem ka (I:Inv X pins σ H s) (hg:Gl X x) (hm:X.mg x=none) (hv:bootBuiltins x=some u) (h:Q u s)
  (hn:x≠"__name__":=by decide) (hd:(x == ("__debug__":Str))=false:=by decide):wpAny (model X.prog X.w) X.A (eval (.Name x pos) X.env) Q E s:=by
 obtain ⟨mb,h1,h2⟩:=I.mod.blt;exact Calls.Name_function_global I.ok.kind hg (Calls.loadGlobal_builtin (by rw [I.ok.glob]; exact I.mod.glob.keeps I.bk) hm (by rw [I.ok.blt]; exact h1.keeps I.bk) ((h2 x hn).trans hv) h) hd
theorem Cg (hg:Gl X x) (hm:X.mg x=some u) (r:RelV v u) (hd:(x == ("__debug__":Str))=false:=by decide):PE X (.Name x pos) (tC v) :=
 λ _ _ _ H _ I h=>pT I hg hm ⟨v,H,I,r,h⟩ hd
theorem Ck (hg:Gl X x) (hm:X.mg x=none) (hv:bootBuiltins x=some u) (r:RelV v u) (hn:x≠"__name__":=by decide) (hd:(x == ("__debug__":Str))=false:=by decide):PE X (.Name x pos) (tC v) :=
 λ _ _ _ H _ I h=>ka I hg hm hv ⟨v,H,I,r,h⟩ hn hd
variable {a b:Expr} {ta tb:TE} {pos:Pos}
def PC (X:Cx) (op:CmpOp) (a b:Expr) (t:TE):Prop :=
  ∀ (pins:List (Addr×Obj)) (s:Shared) (σ:St) (H:Hp) (Q:VK),Inv X pins σ H s->t σ H Q ->
    wpAny (model X.prog X.w) X.A (eval a X.env) (λ v s₁=>wpAny (model X.prog X.w) X.A (eval b X.env) (λ u s₂=>wpAny (model X.prog X.w) X.A (compareOp op v u) (EP X pins σ Q) X.xe s₂) X.xe s₁) X.xe s
def tB (t:TE):TT:=λ σ H Q=>t σ H λ x H1=>∃ c,x=.bl c/\Q c H1
theorem Aq (h:PC X op a b t) (h1:behindInMarks op b=false:=by first | exact nobehind _ (by decide) (by decide) | rfl):PT X (.Compare a [op] [b] pos) (tB t):=by
 intro pins s σ H Q I hw;refine wpAny_isTrue_Compare1 (thn (h pins s σ H _ I hw) λ v s1 h1=>thn h1 λ u s2 h2=>thn h2 λ c s3 ⟨x,H1,I1,r1,q1⟩=>?_) h1;obtain ⟨d,rfl,q⟩:=q1;cases r1;exact Yg ⟨H1,I1,q⟩
theorem EV (h:PE X e t) (he:∀ whole,isTrue e X.env whole=(do let v <- whole; standAt e.pos; holding [v] (truthy v)):=by intro _; rfl):PT X e (tB t):=by
 intro pins s σ H Q I hw;refine isTrue_plain (thn (h pins s σ H _ I hw) λ v s1 ⟨x,H1,I1,r1,q1⟩=>?_) (he _);obtain ⟨d,rfl,q⟩:=q1;cases r1;exact Yg ⟨H1,I1,q⟩
variable {tA tB':TT} {rest:List Expr}
def MX (t u:TT):TT:=λ σ H Q=>t σ H λ c H1=>if c=true then u σ H1 Q else Q false H1
def tOr (t u:TT):TT:=λ σ H Q=>t σ H λ c H1=>if c=true then Q true H1 else u σ H1 Q
def MQ (t:TT):TT:=λ σ H Q=>t σ H λ c H1=>Q (!c) H1
theorem pw_and1 (ha:PT X a tA):PW X (.BoolOp .And [a] pos) tA:=by
 intro wh pins s σ H Q I h;refine isTrue_and (thn (ha pins s σ H Q I h) λ c s1 e=>?_)
 cases c with
 | true=>exact isTrue_and_nil e
 | false=>exact e
theorem pw_or1 (ha:PT X a tA):PW X (.BoolOp .Or [a] pos) tA:=by
 intro wh pins s σ H Q I h;refine isTrue_or (thn (ha pins s σ H Q I h) λ c s1 e=>?_)
 cases c with
 | false=>exact isTrue_or_nil e
 | true=>exact e
theorem pw_and (ha:PT X a tA) (hb:PW X (.BoolOp .And (b::rest) pos) tB'):PW X (.BoolOp .And (a::b::rest) pos) (MX tA tB'):=by
 intro wh pins s σ H Q I h;refine isTrue_and (thn (ha pins s σ H _ I h) λ c s1 ⟨H1,I1,q1⟩=>?_)
 cases c with
 | true=>exact hb wh pins s1 σ H1 Q I1 q1
 | false=>exact ⟨H1,I1,q1⟩
theorem pw_or (ha:PT X a tA) (hb:PW X (.BoolOp .Or (b::rest) pos) tB'):PW X (.BoolOp .Or (a::b::rest) pos) (tOr tA tB'):=by
 intro wh pins s σ H Q I h;refine isTrue_or (thn (ha pins s σ H _ I h) λ c s1 ⟨H1,I1,q1⟩=>?_)
 cases c with
 | true=>exact ⟨H1,I1,q1⟩
 | false=>exact hb wh pins s1 σ H1 Q I1 q1
theorem EW (ha:PT X a tA):PT X (.UnaryOp .Not a pos) (MQ tA):=by
 intro pins s σ H Q I h;exact isTrue_not (ha pins s σ H (λ c H1=>Q (!c) H1) I h)
def IY (ta tb:TE):TE:=λ σ H Q=>ta σ H λ x H1=>∃ c,x=.bl c/\if c=true then tb σ H1 Q else Q (.bl false) H1
def IS (ta:TE):TE:=λ σ H Q=>ta σ H λ x H1=>∃ c,x=.bl c/\Q (.bl (!c)) H1
theorem E9 {op} (h:PE X a t):PE X (.BoolOp op [a] pos) t:=λ pins s σ H Q I hw=>BoolOp_one (h pins s σ H Q I hw)
theorem Ff (ha:PE X a ta) (hb:PE X (.BoolOp .And (b::rest) pos) tb):PE X (.BoolOp .And (a::b::rest) pos) (IY ta tb):=by
 intro pins s σ H Q I h;refine BoolOp_and (thn (ha pins s σ H _ I h) λ v s1 ⟨x,H1,I1,r1,q1⟩=>?_);obtain ⟨c,rfl,q1⟩:=q1;cases r1;refine Yg ?_
 cases c with
 | true=>exact hb pins s1 σ H1 Q I1 q1
 | false=>exact ⟨.bl false,H1,I1,rfl,q1⟩
theorem Fb (ha:PE X a ta):PE X (.UnaryOp .Not a pos) (IS ta):=by
 intro pins s σ H Q I h;refine UnaryOp_ (thn (ha pins s σ H _ I h) λ v s1 ⟨x,H1,I1,r1,q1⟩=>?_);obtain ⟨c,rfl,q1⟩:=q1;cases r1;exact not_of (Yg ⟨.bl (!c),H1,I1,rfl,q1⟩)
def tIf (t:TT) (ta tb:TE):TE:=λ σ H Q=>t σ H λ c H1=>if c=true then ta σ H1 Q else tb σ H1 Q
theorem yI (hc:PT X c tA) (ha:PE X a ta) (hb:PE X b tb):PE X (.IfExp c a b pos) (tIf tA ta tb):=by
 intro pins s σ H Q I h;refine wpAny_IfExp (thn (hc pins s σ H _ I h) λ d s1 ⟨H1,I1,q1⟩=>?_)
 cases d with
 | true=>exact ha pins s1 σ H1 Q I1 q1
 | false=>exact hb pins s1 σ H1 Q I1 q1
end
end L2
namespace L2
open PySem PySem.Spec PyProof.Rows
def SqL (K:W.Frag) (H:Hp) (a:Addr) (xs:List V):Prop :=
 Rd H a (.lst xs) \/
  ∃ (o:Obj) (its:Array Value) (n:Nat),K.lookup a=some o/\o.cls=.type "list"/\o.dict=none/\o.data=.seq its n/\its.size<=sizeLine/\bN xs its.toList
def SqT (K:W.Frag) (H:Hp) (a:Addr) (xs:List V):Prop :=
 Rd H a (.tup xs) \/
  ∃ (o:Obj) (its:Array Value) (n:Nat),K.lookup a=some o/\o.cls=.type "tuple"/\o.data=.seq its n/\its.size<=sizeLine/\bN xs its.toList
def Oj:Value->Option V
 | .none=>some .non
 | .bool b=>some (.bl b)
 | .int i _=>some (.int i)
 | .str x _=>some (.str x)
 | .bytes b _=>some (.byt b)
 | .float b _=>some (.flt b)
 | .ref a=>some (.ref a)
 | .type n=>some (.ty n)
 | _=>none
theorem RelV.abs (r:RelV x u):Oj u=some x:=by
 cases x with
 | non=>cases r; rfl
 | bl _=>cases r; rfl
 | int _=>obtain ⟨t,rfl⟩:=r; rfl
 | str _=>obtain ⟨t,rfl⟩:=r; rfl
 | byt _=>obtain ⟨t,rfl⟩:=r; rfl
 | flt _=>obtain ⟨t,rfl⟩:=r; rfl
 | ref _=>cases r; rfl
 | ty _=>cases r; rfl
theorem RelV.inj (r:RelV x u) (q:RelV y u):x=y:=Zj (r.abs.symm.trans q.abs)
theorem bN.inj:∀ {xs ys:List V} {us:List Value},bN xs us->bN ys us->xs=ys
 | _,_,_,.nil,.nil=>rfl
 | _,_,_,.cons r t,.cons r' t'=>by rw [r.inj r',bN.inj t t']
section
variable {X:Cx} {pins:List (Addr×Obj)} {σ:St} {H:Hp} {s:Shared} {a:Addr} {xs ys:List V}
theorem SqL.of {K:W.Frag} (h:H a=some (.lst xs)):SqL K H a xs:=.inl (.inl h)
theorem SqT.of {K:W.Frag} (h:H a=some (.tup xs)):SqT K H a xs:=.inl (.inl h)
theorem Inv.list (I:Inv X pins σ H s) (h:SqL X.K H a xs):∃ its:List Value,bN xs its/\PlainL s.heap a its.toArray/\xs.length<=sizeLine:=by
 rcases h with h | ⟨o,its,n,hk,hc,hd,hs,hz,r⟩
 ·obtain ⟨z,its,n,r,e⟩:=h.ok I.hok
  exact ⟨its,r,⟨_,n,e,rfl,rfl,rfl⟩,z⟩
 ·refine ⟨its.toList,r,⟨o,n,I.kIn a o hk,hc,hd,by simpa using hs⟩,?_⟩
  have e:=r.length;simp only [Xb] at e;omega
theorem Inv.tuple (I:Inv X pins σ H s) (h:SqT X.K H a xs):∃ its:List Value,bN xs its/\IsTup s.heap a its.toArray/\xs.length<=sizeLine:=by
 rcases h with h | ⟨o,its,n,hk,hc,hs,hz,r⟩
 ·obtain ⟨z,its,r,p⟩:=h.ok I.hok
  exact ⟨its,r,p,z⟩
 ·refine ⟨its.toList,r,⟨o,I.kIn a o hk,hc,n,by simpa using hs⟩,?_⟩
  have e:=r.length;simp only [Xb] at e;omega
theorem Inv.zm (I:Inv X pins σ H s) (h:SqL X.K H a xs) (h':SqL X.K H a ys):xs=ys:=by
 obtain ⟨its,r,⟨o,n,e,_,_,d⟩,_⟩:=I.list h;obtain ⟨its',r',⟨o',n',e',_,_,d'⟩,_⟩:=I.list h';rw [e] at e'; cases e'
 rw [d] at d';injection d' with d1 _
 have:its=its':=by simpa using Yn Array.toList d1
 subst this;exact r.inj r'
theorem Inv.ue (I:Inv X pins σ H s) (h:SqT X.K H a xs) (h':SqT X.K H a ys):xs=ys:=by
 obtain ⟨its,r,⟨o,e,_,n,d⟩,_⟩:=I.tuple h;obtain ⟨its',r',⟨o',e',_,n',d'⟩,_⟩:=I.tuple h';rw [e] at e'; cases e'
 rw [d] at d';injection d' with d1 _
 have:its=its':=by simpa using Yn Array.toList d1
 subst this;exact r.inj r'
end
abbrev Cx.xM (X:Cx) (E:Value->Shared->Prop):Cx:={ X with xe:=E }
abbrev Cx.nox (X:Cx):Cx:=X.xM λ _ _=>False
theorem Cx.Ok.xM {X:Cx} (ok:X.Ok) (E:Value->Shared->Prop):(X.xM E).Ok :=
 ⟨ok.mod,ok.kind,ok.glob,ok.blt,ok.above,ok.inj,ok.has,ok.cab,ok.hd,ok.frames,ok.stk,ok.exf,ok.bs,ok.bsz,ok.FY,ok.IA,ok.tX,ok.frf⟩
theorem Cx.Ok.iY {X:Cx} {E:Value->Shared->Prop} (ok:(X.xM E).Ok):X.Ok :=
 ⟨ok.mod,ok.kind,ok.glob,ok.blt,ok.above,ok.inj,ok.has,ok.cab,ok.hd,ok.frames,ok.stk,ok.exf,ok.bs,ok.bsz,ok.FY,ok.IA,ok.tX,ok.frf⟩
section
variable {X:Cx} {pins:List (Addr×Obj)} {σ:St} {H:Hp} {s:Shared} {E:Value->Shared->Prop}
theorem Inv.xM (I:Inv X pins σ H s) (E:Value->Shared->Prop):Inv (X.xM E) pins σ H s:=⟨I.ok.xM E,I.os,I.bare,I.base,I.loc,I.cell,I.free,I.kq,I.pin,I.hok,I.len⟩
theorem Inv.iY (I:Inv (X.xM E) pins σ H s):Inv X pins σ H s:=⟨I.ok.iY,I.os,I.bare,I.base,I.loc,I.cell,I.free,I.kq,I.pin,I.hok,I.len⟩
theorem SP.iY (h:SP (X.xM E) pins D f s'):SP X pins D f s':=by
 cases f with
 | next=>obtain ⟨σ',H',I,q⟩:=h; exact ⟨σ',H',I.iY,q⟩
 | brk=>obtain ⟨σ',H',I,q⟩:=h; exact ⟨σ',H',I.iY,q⟩
 | cont=>obtain ⟨σ',H',I,q⟩:=h; exact ⟨σ',H',I.iY,q⟩
 | ret u=>obtain ⟨v,σ',H',I,r,q⟩:=h; exact ⟨v,σ',H',I.iY,r,q⟩
theorem PSs.nox {st:List Stmt} {t:TS} (h:PSs X.nox st t):PSs X st t:=λ pins s σ H D I hw =>
 Ym (h pins s σ H D (I.xM _) hw) (λ _ _ q=>q.iY) λ _ _ z=>False.elim z
end
section
variable {X:Cx} {st:Stmt} {rest:List Stmt} {t u:TS} {e:Expr} {te:TE} {pos:Pos}
def IT:TS:=λ D σ H=>D.nx σ H
def MN (t u:TS):TS:=λ D σ H=>t { D with nx:=u D } σ H
theorem pH:PSs X [] IT:=λ _ _ σ H _ I h=>wpAny_execs_nil ⟨σ,H,I,h⟩
theorem qJ (h1:PS X st t) (h2:PSs X rest u):PSs X (st::rest) (MN t u):=by
 intro pins s σ H D I h;refine wpAny_execs_cons (thn (h1 pins s σ H { D with nx:=u D } I h) λ f s1 q=>?_)
 cases f with
 | next =>
  obtain ⟨σ',H',I',q⟩:=q;exact h2 pins s1 σ' H' D I' q
 | ret v=>exact q
 | brk=>exact q
 | cont=>exact q
theorem jM (h1:PS X st t):PSs X [st] t:=by
 intro pins s σ H D I h;refine wpAny_execs_cons (thn (h1 pins s σ H D I h) λ f s1 q=>?_)
 cases f with
 | next=>exact wpAny_execs_nil q
 | ret v=>exact q
 | brk=>exact q
 | cont=>exact q
theorem Inv.quiet (I:Inv X pins σ H s):interactive X.env=false:=by simp [interactive,I.ok.kind]
def IV (te:TE):TS:=λ D σ H=>te σ H λ _ H1=>D.nx σ H1
theorem dq (he:PE X e te) (hs:swapsWith e none pos.line X.env=pure false:=by rfl):PS X (.Expr e pos) (IV te):=by
 intro pins s σ H D I h;exact wpAny_Expr_any (thn (he pins s σ H _ I h) λ v s1 ⟨x,H1,I1,r1,q1⟩=>⟨σ,H1,I1,q1⟩) I.quiet hs
def MP (te:TE):TS:=λ D σ H=>te σ H D.rt
theorem nO (he:PE X e te):PS X (.Return (some e) pos) (MP te):=by
 intro pins s σ H D I h;exact wpAny_Return_some (thn (he pins s σ H _ I h) λ v s1 ⟨x,H1,I1,r1,q1⟩=>⟨x,σ,H1,I1,r1,q1⟩)
def MS (c:TT) (t u:TS):TS:=λ D σ H=>c σ H λ b H1=>if b=true then t D σ H1 else u D σ H1
theorem BW (hc:PT X c tc) (ha:PSs X a t) (hb:PSs X b u):PS X (.If c a b pos) (MS tc t u):=by
 intro pins s σ H D I h;refine wpAny_If (thn (hc pins s σ H _ I h) λ d s1 ⟨H1,I1,q1⟩=>?_)
 cases d with
 | true=>exact ha pins s1 σ H1 D I1 q1
 | false=>exact hb pins s1 σ H1 D I1 q1
end
abbrev TG:=V->St->Hp->(St->Hp->Prop)->Prop
def PG (X:Cx) (target:Expr) (t:TG):Prop :=
  ∀ (pins:List (Addr×Obj)) (s:Shared) (σ:St) (H:Hp) (v:V) (u:Value) (Q:St->Hp->Prop),Inv X pins σ H s->RelV v u->t v σ H Q ->
    wpAny (model X.prog X.w) X.A (assign target X.env u) (λ _ s'=>∃ σ' H',Inv X pins σ' H' s'/\Q σ' H') X.xe s
section
variable {X:Cx} {pos:Pos}
def ox (i:Nat):TG:=λ v σ H Q=>Q (σ.set i (some v)) H
theorem jN (hN:X.N.Nodup) (hi:X.N[i]?=some x) (hx:Loc X.env.scope x) (hf:X.fn x=true\/X.env.scope.names.lookup x=some .local:=by first | exact .inl rfl | exact .inr rfl | assumption):PG X (.Name x pos) (ox i):=by
 intro pins s σ H v u Q I r h;exact wpAny_assign_Name (qz I hN hi hx r (λ s' I'=>⟨_,H,I',h⟩) hf)
def LP (te:TE) (g:TG):TS:=λ D σ H=>te σ H λ x H1=>g x σ H1 D.nx
theorem qM {i:Nat} {x:Str} {e:Expr} {te:TE} {pos':Pos} (hN:X.N.Nodup) (hi:X.N[i]?=some x) (hx:Loc X.env.scope x) (he:PE X e te) (hs:swapsWith e (some (.Name x pos')) pos.line X.env=pure false:=by rfl) (hf:X.fn x=true\/X.env.scope.names.lookup x=some .local:=by first | exact .inl rfl | exact .inr rfl | assumption) :
  PS X (.Assign [.Name x pos'] e pos) (LP te (ox i)):=by
 intro pins s σ H D I h;refine wpAny_Assign_Name (thn (he pins s σ H _ I h) λ v s1 ⟨y,H1,I1,r1,q1⟩=>?_) hs;exact qz I1 hN hi hx r1 (λ s2 I2=>⟨_,H1,I2,q1⟩) hf
end
section
variable {X:Cx} {pos:Pos}
def Er (c:TT) (tb:TS):TS:=λ D σ H=>∃ W:Nat->St->Hp->Prop,(∃ m,W m σ H)/\∀ m σ H,W m σ H ->
 c σ H λ b H1=>if b=true then ∃ N:St->Hp->Prop,(∀ σ' H',N σ' H'->∃ m',m' < m/\W m' σ' H')/\tb { D with nx:=N,ct:=N,bk:=D.nx } σ H1 else D.nx σ H1
theorem qK (hp:PassesOwn (model X.prog X.w) X.A X.env X.xe) (hc:PT X c tc) (hb:PSs X body tb):PS X (.While c body [] pos) (Er tc tb):=by
 intro pins s σ H D I h;obtain ⟨W,⟨m0,w0⟩,turn⟩:=h;refine wpAny_While (codeAny_whileLoop (λ n s'=>∃ σ' H',Inv X pins σ' H' s'/\W n σ' H') ?_ m0 ⟨σ,H,I,w0⟩)
 rintro n s1 ⟨σ1,H1,I1,w1⟩
 refine Y4 hp (thn (hc pins s1 σ1 H1 _ I1 (turn n σ1 H1 w1)) λ b s2 ⟨H2,I2,q2⟩=>?_)
 cases b with
 | true =>
  obtain ⟨N,hN,q2⟩:=q2;rw [if_pos rfl];refine Y4 hp (thn (hb pins s2 σ1 H2 _ I2 q2) λ f s3 q3=>?_)
  cases f with
  | next =>
   obtain ⟨σ3,H3,I3,n3⟩:=q3;obtain ⟨m',hm,w3⟩:=hN σ3 H3 n3;exact ⟨m',hm,σ3,H3,I3,w3⟩
  | cont =>
   obtain ⟨σ3,H3,I3,n3⟩:=q3;obtain ⟨m',hm,w3⟩:=hN σ3 H3 n3;exact ⟨m',hm,σ3,H3,I3,w3⟩
  | brk=>exact q3
  | ret v=>exact q3
 | false =>
  rw [if_neg Zf];exact wpAny_execs_nil ⟨σ1,H2,I2,q2⟩
end
structure It where
 go:Nat->Hp->Prop
 yld:Nat->Hp->V->Hp->Prop
 stop:Nat->Hp->Prop
def tU (X:Cx) (pins:List (Addr×Obj)) (H:Hp) (b:Addr):Prop :=
 H b=none/\b≠X.env.locals/\b ∉ X.fs/\(b ∈ X.ex\/X.s₀.heap.objs.size<=b)/\(∀ x c,X.env.cells.lookup x=some c->c≠b)/\∀ p ∈ X.pn++pins,p.1≠b
theorem Inv.xN (I:Inv X pins σ H s) (hb:s.heap.objs.size<=b) (hn:H' b=none):tU X pins H' b:=by
 refine ⟨hn,Nat.ne_of_gt (Z3 I.lt hb),I.NI hb,.inr (Z6 I.sz hb),λ x c e z=>?_,λ p hp z=>?_⟩
 ·obtain ⟨v,q⟩:=I.cell x c e
  exact absurd (Z3 q.lt (by rw [z]; exact hb)) (Yq _)
 · exact absurd (Z3 (Zs (I.pin p hp).1) (by rw [z]; exact hb)) (Yq _)
structure Turn (P:Program) (w:World) (K:W.Frag) (tg:Expr) (J:It) (fp:List Addr) (it:Addr) (tn:Nat->Heap->Prop):Prop where
 mem:it ∈ fp
 obj:∀ i h,tn i h->∀ b ∈ fp,∃ o,h.get? b=some o/\∀ v,o.data≠.cell v
 keep:∀ i h h',tn i h->(∀ b ∈ fp,∀ o,h.get? b=some o->h'.get? b=some o)->tn i h'
 item:∀ (X:Cx),X.prog=P->X.w=w->X.K=K->X.calm=true->∀ (i:Nat) (pins:List (Addr×Obj)) (s:Shared) (σ:St) (H:Hp) (E:Value->Shared->Prop),Inv X pins σ H s->(∀ b ∈ fp,tU X pins H b)->tn i s.heap->J.go i H ->
  wpAny (model P w) X.A (pyNext (.ref it)) (λ r s1=>∃ u,r=some u /\
   wpAny (model P w) X.A (letOwnedTupleGo tg (.ref it) u) (λ _ s2=>∃ x H',Inv X pins σ H' s2/\RelV x u/\J.yld i H x H'/\tn (i+1) s2.heap/\∀ b ∈ fp,H' b=none) E s1) E s
 done:∀ (X:Cx),X.prog=P->X.w=w->X.K=K->X.calm=true->∀ (i:Nat) (pins:List (Addr×Obj)) (s:Shared) (σ:St) (H:Hp) (E:Value->Shared->Prop),Inv X pins σ H s->(∀ b ∈ fp,tU X pins H b)->tn i s.heap->J.stop i H ->
  wpAny (model P w) X.A (pyNext (.ref it)) (λ r s1=>r=none/\Inv X pins σ H s1) E s
 self:∀ (A:Around) (i:Nat) (s:Shared) (Q:Value->Shared->Prop) (E:Value->Shared->Prop),tn i s.heap->Q (.ref it) s->wpAny (model P w) A (pyIter (.ref it)) Q E s
abbrev TI:=St->Hp->(It->Hp->Prop)->Prop
def PIE (X:Cx) (pins:List (Addr×Obj)) (σ:St) (tg:Expr) (R:It->Hp->Prop) (itv:Value) (s2:Shared):Prop :=
 ∃ (it:Addr) (fp:List Addr) (tn:Nat->Heap->Prop) (J:It) (H':Hp),itv=.ref it/\Inv X pins σ H' s2/\Turn X.prog X.w X.K tg J fp it tn/\tn 0 s2.heap/\(∀ b ∈ fp,tU X pins H' b)/\R J H'
def PI (X:Cx) (tg iter:Expr) (wi:TI):Prop :=
  ∀ (pins:List (Addr×Obj)) (s:Shared) (σ:St) (H:Hp) (R:It->Hp->Prop),Inv X pins σ H s->wi σ H R ->
    wpAny (model X.prog X.w) X.A (eval iter X.env) (λ v s1=>wpAny (model X.prog X.w) X.A (pyIter v) (PIE X pins σ tg R) X.xe s1) X.xe s
theorem tf (ho:s.heap.get? it=some o) (hc:o.cls=.type n) (hd:o.data=.fields vs)
    (hn:["enumerate","zip","dict_itemiterator","dict_reverseitemiterator","odict_iterator","itertools.zip_longest","itertools.pairwise"].contains n=false) (hQ:Q () s):wpAny M A (letOwnedTupleGo tg (.ref it) u) Q E s:=by
  unfold letOwnedTupleGo
  cases tg <;> first
    | exact Z1 hQ
    | (cases u <;> first
        | exact Z1 hQ
        | (refine Zo (wpAny_load ho ?_)
           rw [hc,hd];show wpAny M A (if (["enumerate","zip","dict_itemiterator","dict_reverseitemiterator","odict_iterator","itertools.zip_longest","itertools.pairwise"].contains n&&vs[0]? == some (rawInt _))=true then _ else _) Q E s;rw [if_neg (by intro h; rw [hn,Bool.false_and] at h; cases h)]
           exact Z1 hQ))
def Itl (K:W.Frag) (a:Addr):It :=
 ⟨λ i H=>∃ xs x,SqL K H a xs/\xs[i]?=some x,λ i H x H'=>H'=H/\∀ xs,SqL K H a xs->xs[i]?=some x,λ i H=>∃ xs,SqL K H a xs/\xs.length<=i⟩
def Itt (K:W.Frag) (a:Addr):It :=
 ⟨λ i H=>∃ xs x,SqT K H a xs/\xs[i]?=some x,λ i H x H'=>H'=H/\∀ xs,SqT K H a xs->xs[i]?=some x,λ i H=>∃ xs,SqT K H a xs/\xs.length<=i⟩
def Itr (lo:Int) (n:Nat):It:=⟨λ i _=>i < n,λ i H x H'=>H'=H/\x=.int (lo+i),λ i _=>n<=i⟩
theorem ub {P:Program} {w:World} {K:W.Frag} {tg:Expr} (a it:Addr):Turn P w K tg (Itl K a) [it] it (λ i h=>h.IsListIter it a i) where
 mem:=by simp
 obj:=λ i h st b hb=>by
  have e:b=it:=by simpa using hb
  subst e;obtain ⟨o,e,c,d⟩:=st;exact ⟨o,e,λ v z=>by rw [d] at z; cases z⟩
 keep:=λ i h h' st k=>st.at λ o e=>k it (by simp) o e
 item:=by
  intro X hP hw hK hc i pins s σ H E I hf st hg;subst hP hw hK;obtain ⟨xs,x,hq,hx⟩:=hg;obtain ⟨its,rv,p,hz⟩:=I.list hq;obtain ⟨u,hu,ru⟩:=rv.get hx;obtain ⟨f0,f1,f2,f3,f4,f5⟩:=hf it (by simp);refine wpAny_pyNext_list_item st p.isList (x:=u) (by simpa using hu) λ h' st' sb=>?_
  have I1:Inv X pins σ H { s with heap:=h' }:=I.turned (t':=s.toks) (λ b o hb e=>(sb.2 b hb).trans e) f0 f1 f3 f4 f5;obtain ⟨o,e,c,d⟩:=id st';exact ⟨u,rfl,tf (s:={ s with heap:=h' }) e c d (by decide) ⟨x,H,I1,ru,⟨rfl,λ ys hy=>by rw [I.zm hy hq]; exact hx⟩,st',λ b hb=>(hf b hb).1⟩⟩
 done:=by
  intro X hP hw hK hc i pins s σ H E I hf st hg;subst hP hw hK;obtain ⟨xs,hq,hx⟩:=hg;obtain ⟨its,rv,p,hz⟩:=I.list hq;obtain ⟨f0,f1,f2,f3,f4,f5⟩:=hf it (by simp);have hl:=rv.length;exact wpAny_pyNext_list_end (I.ok.hd hc) st p.isList (by simp; omega) λ h' eb=>⟨rfl,I.turned (t':=s.toks) (λ b o hb e=>eb b o hb e) f0 f1 f3 f4 f5⟩
 self:=λ _ _ _ _ _ st h=>wpAny_pyIter_listiter st h
theorem r9 {P:Program} {w:World} {K:W.Frag} {tg:Expr} (a it:Addr):Turn P w K tg (Itt K a) [it] it (λ i h=>h.IsTupleIter it a i) where
 mem:=by simp
 obj:=λ i h st b hb=>by
  have e:b=it:=by simpa using hb
  subst e;obtain ⟨o,e,c,d⟩:=st;exact ⟨o,e,λ v z=>by rw [d] at z; cases z⟩
 keep:=λ i h h' st k=>st.at λ o e=>k it (by simp) o e
 item:=by
  intro X hP hw hK hc i pins s σ H E I hf st hg;subst hP hw hK;obtain ⟨xs,x,hq,hx⟩:=hg;obtain ⟨its,rv,p,hz⟩:=I.tuple hq;obtain ⟨u,hu,ru⟩:=rv.get hx;obtain ⟨f0,f1,f2,f3,f4,f5⟩:=hf it (by simp);refine wpAny_pyNext_tuple_item st (show s.heap.IsTuple a its.toArray from p) (x:=u) (by simpa using hu) λ h' st' sb=>?_
  have I1:Inv X pins σ H { s with heap:=h' }:=I.turned (t':=s.toks) (λ b o hb e=>(sb.2 b hb).trans e) f0 f1 f3 f4 f5;obtain ⟨o,e,c,d⟩:=id st';exact ⟨u,rfl,tf (s:={ s with heap:=h' }) e c d (by decide) ⟨x,H,I1,ru,⟨rfl,λ ys hy=>by rw [I.ue hy hq]; exact hx⟩,st',λ b hb=>(hf b hb).1⟩⟩
 done:=by
  intro X hP hw hK hc i pins s σ H E I hf st hg;subst hP hw hK;obtain ⟨xs,hq,hx⟩:=hg;obtain ⟨its,rv,p,hz⟩:=I.tuple hq;obtain ⟨f0,f1,f2,f3,f4,f5⟩:=hf it (by simp);have hl:=rv.length;exact wpAny_pyNext_tuple_end (I.ok.hd hc) st (show s.heap.IsTuple a its.toArray from p) (by simp; omega) λ h' eb=>⟨rfl,I.turned (t':=s.toks) (λ b o hb e=>eb b o hb e) f0 f1 f3 f4 f5⟩
 self:=λ _ _ _ _ _ st h=>wpAny_pyIter_tupleiter st h
theorem sd {P:Program} {w:World} {K:W.Frag} {tg:Expr} (it:Addr) (lo:Int) (n:Nat):Turn P w K tg (Itr lo n) [it] it (λ i h=>IsRangeIter h it (lo+(i:Nat) * 1) ((n:Int) - (i:Nat)) 1) where
 mem:=by simp
 obj:=λ i h st b hb=>by
  have e:b=it:=by simpa using hb
  subst e
  exact ⟨_,st,λ v z=>by
   have z':Data.fields _=Data.cell v:=z
   cases z'⟩
 keep:=λ i h h' st k=>k it (by simp) _ st
 item:=by
  intro X hP hw hK hc i pins s σ H E I hf st hg;subst hP hw hK;obtain ⟨f0,f1,f2,f3,f4,f5⟩:=hf it (by simp);have W:=Walks.range (prog:=X.prog) (w:=X.w) (I.ok.hd hc) it lo 1 n;refine W.item i s _ _ hg st λ v h' tk hv st' kk=>?_
  obtain ⟨t,rfl⟩:=hv;have I1:Inv X pins σ H { s with heap:=h',toks:=tk }:=I.turned (λ b o hb e=>kk b o (by simpa using hb) e) f0 f1 f3 f4 f5;refine ⟨_,rfl,tf (s:={ s with heap:=h',toks:=tk }) (n:="range_iterator") st' rfl rfl (by decide) ⟨.int (lo+i),H,I1,⟨t,?_⟩,⟨rfl,rfl⟩,st',λ b hb=>(hf b hb).1⟩⟩;rw [Int.mul_one]
 done:=by
  intro X hP hw hK hc i pins s σ H E I hf st hg;subst hP hw hK;obtain ⟨f0,f1,f2,f3,f4,f5⟩:=hf it (by simp);exact wpAny_pyNext_range_end (I.ok.hd hc) st (by have:n<=i:=hg; omega) λ h' eb=>⟨rfl,I.turned (t':=s.toks) (λ b o hb e=>eb b o hb e) f0 f1 f3 f4 f5⟩
 self:=λ _ _ _ _ _ st h=>wpAny_pyIter_rangeiter st h
end L2
namespace L2
open PySem PySem.Spec PyProof.Rows
section
variable {X:Cx} {tg:Expr}
def Ll (K:W.Frag) (tl:TE):TI:=λ σ H R=>tl σ H λ x H1=>∃ a,x=.ref a/\(∃ xs,SqL K H1 a xs)/\R (Itl K a) H1
def N7 (K:W.Frag) (tl:TE):TI:=λ σ H R=>tl σ H λ x H1=>∃ a,x=.ref a/\(∃ xs,SqT K H1 a xs)/\R (Itt K a) H1
theorem Cf {l:Expr} {tl:TE} (hl:PE X l tl):PI X tg l (Ll X.K tl):=by
 intro pins s σ H R I h;refine thn (hl pins s σ H _ I h) λ v s1 ⟨x,H1,I1,r1,q1⟩=>?_
 obtain ⟨a,e,⟨xs,hq⟩,q⟩:=q1;subst e;cases r1;obtain ⟨its,rv,p,hz⟩:=I1.list hq;refine Xo p.isList ?_
 refine ⟨s1.heap.objs.size,[s1.heap.objs.size],_,_,H1,rfl,I1.kept (t':=s1.toks) λ b o e=>Heap.get?_push_of_some _ e,ub a _,⟨_,Heap.get?_push_size _ rfl,rfl,rfl⟩,λ b hb=>?_,q⟩;have e:b=s1.heap.objs.size:=by simpa using hb
 subst e;exact I1.xN (Zn _) (I1.hok.fresh (Zn _))
theorem E5 {l:Expr} {tl:TE} (hl:PE X l tl):PI X tg l (N7 X.K tl):=by
 intro pins s σ H R I h;refine thn (hl pins s σ H _ I h) λ v s1 ⟨x,H1,I1,r1,q1⟩=>?_
 obtain ⟨a,e,⟨xs,hq⟩,q⟩:=q1;subst e;cases r1;obtain ⟨its,rv,p,hz⟩:=I1.tuple hq;refine wpAny_pyIter_tuple (show s1.heap.IsTuple a its.toArray from p) ?_
 refine ⟨s1.heap.objs.size,[s1.heap.objs.size],_,_,H1,rfl,I1.kept (t':=s1.toks) λ b o e=>Heap.get?_push_of_some _ e,r9 a _,⟨_,Heap.get?_push_size _ rfl,rfl,rfl⟩,λ b hb=>?_,q⟩;have e:b=s1.heap.objs.size:=by simpa using hb
 subst e;exact I1.xN (Zn _) (I1.hok.fresh (Zn _))
theorem yd {pins:List (Addr×Obj)} {σ:St} {H:Hp} {s:Shared} {R:It->Hp->Prop} {E:Value->Shared->Prop} {lo hi:Int} {t u v:Tok} {tk:Nat} (I:Inv X pins σ H s) (h1:-(2 ^ 62)<=lo) (h2:lo < 2 ^ 62) (h3:-(2 ^ 62)<=hi) (h4:hi < 2 ^ 62)
  (q:R (Itr lo (hi - lo).toNat) H):wpAny (model X.prog X.w) X.A (pyIter (.ref s.heap.objs.size)) (PIE X pins σ tg R) E { s with heap:=s.heap.push { cls:=.type "range",data:=.fields #[.int lo t,.int hi u,.int 1 v] },toks:=tk }:=by
 refine wpAny_pyIter_range (IsRange.new ..) (small_one h1 h2 h3 h4) ?_
 have I1:Inv X pins σ H { s with heap:=s.heap.push { cls:=.type "range",data:=.fields #[.int lo t,.int hi u,.int 1 v] },toks:=tk }:=I.kept λ b o e=>Heap.get?_push_of_some _ e
 refine ⟨(s.heap.push { cls:=.type "range",data:=.fields #[.int lo t,.int hi u,.int 1 v] }).objs.size,[(s.heap.push { cls:=.type "range",data:=.fields #[.int lo t,.int hi u,.int 1 v] }).objs.size],_,_,H,rfl,
  I1.kept (t':=tk) λ b o e=>Heap.get?_push_of_some _ e,sd _ lo (hi - lo).toNat,?_,λ b hb=>?_,q⟩
 ·have e1:lo+((0:Nat):Int) * 1=lo:=by simp
  have e2:(((hi - lo).toNat:Nat):Int) - ((0:Nat):Int)=Builtin.Range.rangeSize lo hi 1:=by rw [rangeSize_one]; split <;> omega
  show IsRangeIter _ _ (lo+((0:Nat):Int) * 1) ((((hi - lo).toNat:Nat):Int) - ((0:Nat):Int)) 1;rw [e1,e2];exact Heap.get?_push_size _ rfl
 ·have e:b=(s.heap.push { cls:=.type "range",data:=.fields #[.int lo t,.int hi u,.int 1 v] }).objs.size:=by simpa using hb
  subst e;exact I1.xN (Zn _) (I1.hok.fresh (Zn _))
def Lk (ta:TA):TI:=λ σ H R=>ta σ H λ vs H1=>∃ j:Int,vs=[.int j]/\-(2 ^ 62)<=j/\j < 2 ^ 62/\R (Itr 0 j.toNat) H1
theorem vo {a:Expr} {ta:TA} {p pos:Pos} (hg:Gl X "range") (hm:X.mg "range"=none) (ha:PA X [a] ta) (hs:starEach [a] X.env=[(false,eval a X.env)]:=by rfl):PI X tg (.Call (.Name "range" p) [a] [] pos) (Lk ta):=by
 intro pins s σ H R I h;refine Call_ (ka I hg hm boot_range (Yy (thn (ha pos pins s σ H _ I h) λ us s1 ⟨vs,H1,I1,r1,q1⟩=>?_) hs rfl));obtain ⟨j,e,q1,q2,q⟩:=q1;subst e
 cases r1 with
 | cons r rr =>
  cases rr;obtain ⟨t,rfl⟩:=r;exact call_range_1 (yd I1 (by omega) (by omega) q1 q2 (by simpa using q))
def MT (wi:TI) (g:TG) (tb:TS):TS:=λ D σ H=>wi σ H λ J H1=>∃ W:Nat->Nat->St->Hp->Prop,(∃ m,W 0 m σ H1)/\∀ i m σ H,W i m σ H ->
 (J.stop i H/\D.nx σ H)\/(J.go i H/\∃ N:St->Hp->Prop,(∀ σ' H',N σ' H'->∃ m',m' < m/\W (i+1) m' σ' H')/\∀ x H',J.yld i H x H'->g x σ H' λ σ2 H2=>tb { D with nx:=N,ct:=N,bk:=D.nx } σ2 H2)
def qQ (fp:List Addr) (h:Heap):List (Addr×Obj):=fp.filterMap λ b=>(h.get? b).map λ o=>(b,o)
theorem eG (hb:b ∈ fp) (e:h.get? b=some o):(b,o) ∈ qQ fp h:=List.mem_filterMap.mpr ⟨b,hb,by rw [e]; rfl⟩
theorem vE (hp:p ∈ qQ fp h):p.1 ∈ fp/\h.get? p.1=some p.2:=by
 obtain ⟨b,hb,e⟩:=List.mem_filterMap.mp hp
 cases q:h.get? b with
 | none=>rw [q] at e; cases e
 | some o =>
  rw [q] at e;have e':(b,o)=p:=Zj e;subst e';exact ⟨hb,q⟩
theorem Inv.pinned (I:Inv X pins σ H s) (hf:∀ b ∈ fp,tU X pins H b) (ho:∀ b ∈ fp,∃ o,s.heap.get? b=some o/\∀ v,o.data≠.cell v):Inv X (pins++qQ fp s.heap) σ H s :=
 I.gG λ p hp=>(Zh.mp hp).elim (λ z=>I.pin p (Zc _ z)) λ z=>by
  obtain ⟨hb,e⟩:=vE z;obtain ⟨f0,f1,f2,_⟩:=hf p.1 hb;obtain ⟨o,e',d⟩:=ho p.1 hb;rw [e] at e'; cases e'
  exact ⟨e,f0,f1,f2,d⟩
theorem Inv.mB (I:Inv X (pins++pl) σ H s):Inv X pins σ H s:=I.gG λ p hp=>I.pin p (Zc _ (Zp _ hp))
theorem vg (hp:PassesOwn (model X.prog X.w) X.A X.env X.xe) (hc:X.calm=true) (hi:PI X tg iter wi) (hg:PG X tg g) (hb:PSs X body tb)
  (hs:∀ x,foldedSetIterable iter X.env x=pure x:=by intro _; rfl):PS X (.For tg iter body [] pos) (MT wi g tb):=by
 intro pins s σ H D I h;refine wpAny_For (thn (hi pins s σ H _ I h) λ v s1 h1=>thn h1 λ itv s2 h2=>?_) hs;obtain ⟨it,fp,tn,J,H2,e,I2,T,st2,f2,W,⟨m0,w0⟩,turn⟩:=h2;subst e;have stat:∀ {H':Hp},(∀ b ∈ fp,H' b=none)->∀ b ∈ fp,tU X pins H' b:=λ hn b hb=>⟨hn b hb,(f2 b hb).2⟩
 refine codeAny_forLoop_any (λ n s'=>∃ i σ' H',Inv X pins σ' H' s'/\tn i s'.heap/\(∀ b ∈ fp,H' b=none)/\W i n σ' H') ?_ m0 ⟨0,σ,H2,I2,st2,λ b hb=>(f2 b hb).1,w0⟩
 rintro n s3 ⟨i,σ3,H3,I3,st3,fr3,w3⟩
 rcases turn i n σ3 H3 w3 with ⟨stop,qn⟩ | ⟨go,N,hN,step⟩
 ·refine Y4 hp (thn (T.done X rfl rfl rfl hc i pins s3 σ3 H3 X.xe I3 (stat fr3) st3 stop) λ r s4 ⟨hr,I4⟩=>?_)
  subst hr;exact wpAny_execs_nil ⟨σ3,H3,I4,qn⟩
 ·refine Y4 hp (thn (T.item X rfl rfl rfl hc i pins s3 σ3 H3 X.xe I3 (stat fr3) st3 go) λ r s4 ⟨u,hr,h4⟩=>?_)
  subst hr;refine Y4 hp (thn h4 λ _ s5 ⟨x,H5,I5,r5,y5,st5,fr5⟩=>?_);have I5':=I5.pinned (stat fr5) (T.obj _ _ st5);refine Y4 hp (thn (hg _ s5 σ3 H5 x u _ I5' r5 (step x H5 y5)) λ _ s6 ⟨σ6,H6,I6,q6⟩=>?_);refine Y4 hp (thn (hb _ s6 σ6 H6 _ I6 q6) λ f s7 q7=>?_)
  have again:∀ {σ7:St} {H7:Hp},Inv X (pins++qQ fp s5.heap) σ7 H7 s7->N σ7 H7->∃ m,m < n/\∃ i σ' H',Inv X pins σ' H' s7/\tn i s7.heap/\(∀ b ∈ fp,H' b=none)/\W i m σ' H':=λ {σ7 H7} I7 n7=>by
   obtain ⟨m',hm,w7⟩:=hN σ7 H7 n7;refine ⟨m',hm,i+1,σ7,H7,I7.mB,T.keep _ _ _ st5 λ b hb o e=>(I7.pin (b,o) (Zc _ (Zc _ (eG hb e)))).1,λ b hb=>?_,w7⟩;obtain ⟨o,e,d⟩:=T.obj _ _ st5 b hb;exact (I7.pin (b,o) (Zc _ (Zc _ (eG hb e)))).2.1
  cases f with
  | next=>obtain ⟨σ7,H7,I7,n7⟩:=q7; exact again I7 n7
  | cont=>obtain ⟨σ7,H7,I7,n7⟩:=q7; exact again I7 n7
  | brk=>obtain ⟨σ7,H7,I7,q7⟩:=q7; exact ⟨σ7,H7,I7.mB,q7⟩
  | ret v=>obtain ⟨x7,σ7,H7,I7,r7,q7⟩:=q7; exact ⟨x7,σ7,H7,I7.mB,r7,q7⟩
end
end L2
namespace L2
open PySem PySem.Spec PyProof.Rows
abbrev R2:=V->V->Hp->VK->Prop
def OpR (X:Cx) (f:Value->Value->Sem Value) (r:R2):Prop :=
  ∀ (pins:List (Addr×Obj)) (s:Shared) (σ:St) (H:Hp) (x y:V) (v u:Value) (Q:VK),Inv X pins σ H s->RelV x v->RelV y u->r x y H Q ->
    wpAny (model X.prog X.w) X.A (f v u) (EP X pins σ Q) X.xe s
def UnR (X:Cx) (f:Value->Sem Value) (r:V->Hp->VK->Prop):Prop :=
  ∀ (pins:List (Addr×Obj)) (s:Shared) (σ:St) (H:Hp) (x:V) (v:Value) (Q:VK),Inv X pins σ H s->RelV x v->r x H Q ->
    wpAny (model X.prog X.w) X.A (f v) (EP X pins σ Q) X.xe s
def fo (X:Cx) (f:Value) (r:List V->Hp->VK->Prop):Prop :=
  ∀ (pins:List (Addr×Obj)) (s:Shared) (σ:St) (H:Hp) (xs:List V) (us:List Value) (Q:VK),Inv X pins σ H s->bN xs us->r xs H Q ->
    wpAny (model X.prog X.w) X.A (call f us) (EP X pins σ Q) X.xe s
def Ol (X:Cx) (r:V->Hp->(Bool->Hp->Prop)->Prop):Prop :=
  ∀ (pins:List (Addr×Obj)) (s:Shared) (σ:St) (H:Hp) (x:V) (v:Value) (Q:Bool->Hp->Prop),Inv X pins σ H s->RelV x v->r x H Q ->
    wpAny (model X.prog X.w) X.A (truthy v) (TP X pins σ Q) X.xe s
def tOp (r:R2) (ta tb:TE):TE:=λ σ H Q=>ta σ H λ x H1=>tb σ H1 λ y H2=>r x y H2 Q
def tUn (r:V->Hp->VK->Prop) (ta:TE):TE:=λ σ H Q=>ta σ H λ x H1=>r x H1 Q
def rI (C:Int->Int->Prop) (g:Int->Int->V):R2:=λ x y H Q=>∃ i j,x=.int i/\y=.int j/\C i j/\Q (g i j) H
def rI0 (g:Int->Int->V):R2:=λ x y H Q=>∃ i j,x=.int i/\y=.int j/\Q (g i j) H
def rU (g:Int->V):V->Hp->VK->Prop:=λ x H Q=>∃ i,x=.int i/\Q (g i) H
section
variable {X:Cx} {a b c:Expr} {ta tb tc:TE} {pos:Pos}
theorem LI (ha:PE X a ta) (hb:PE X b tb) {pins:List (Addr×Obj)} {s:Shared} {σ:St} {H:Hp} {R:V->V->Hp->Prop} (I:Inv X pins σ H s)
  (h:ta σ H λ x H1=>tb σ H1 λ y H2=>R x y H2) {Q:Value->Shared->Prop} {f:Value->Value->Sem Value}
  (hf:∀ v u s2 x y H2,Inv X pins σ H2 s2->RelV x v->RelV y u->R x y H2->wpAny (model X.prog X.w) X.A (f v u) Q X.xe s2) :
  wpAny (model X.prog X.w) X.A (eval a X.env) (λ v s₁=>wpAny (model X.prog X.w) X.A (eval b X.env) (λ u s₂=>wpAny (model X.prog X.w) X.A (f v u) Q X.xe s₂) X.xe s₁) X.xe s:=by
 refine thn (ha pins s σ H _ I h) λ v s1 ⟨x,H1,I1,r1,q1⟩=>?_
 refine thn (hb pins s1 σ H1 _ I1 q1) λ u s2 ⟨y,H2,I2,r2,q2⟩=>?_
 exact hf v u s2 x y H2 I2 r1 r2 q2
theorem Jj {op:Operator} {r:R2} (ho:OpR X (binaryOp op) r) (ha:PE X a ta) (hb:PE X b tb):PE X (.BinOp a op b pos) (tOp r ta tb):=by
 intro pins s σ H Q I h;exact wpAny_BinOp (LI ha hb I h λ v u s2 x y H2 I2 rx ry q=>ho pins s2 σ H2 x y v u Q I2 rx ry q)
theorem Ji (ho:UnR X (unaryOp op) r) (ha:PE X a ta):PE X (.UnaryOp op a pos) (tUn r ta):=by
 intro pins s σ H Q I h;exact UnaryOp_ (thn (ha pins s σ H _ I h) λ v s1 ⟨x,H1,I1,r1,q1⟩=>ho pins s1 σ H1 x v Q I1 r1 q1)
theorem opI {f:Value->Value->Sem Value} {C:Int->Int->Prop} {g:Int->Int->Int}
  (rule:∀ (i j:Int) (t u:Tok) (s:Shared) (Q:Value->Shared->Prop) (E:Value->Shared->Prop),C i j->Q (.int (g i j) s.toks) { s with toks:=s.toks+1 }->wpAny (model X.prog X.w) X.A (f (.int i t) (.int j u)) Q E s) :
  OpR X f (rI C λ i j=>.int (g i j)):=by
 intro pins s σ H x y v u Q I rx ry h;obtain ⟨i,j,rfl,rfl,hc,q⟩:=h;obtain ⟨t,rfl⟩:=rx;obtain ⟨t',rfl⟩:=ry;exact rule i j t t' s _ _ hc ⟨.int (g i j),H,I.tok _,⟨_,rfl⟩,q⟩
theorem LW {f:Value->Value->Sem Value} {g:Int->Int->Int}
  (rule:∀ (i j:Int) (t u:Tok) (s:Shared) (Q:Value->Shared->Prop) (E:Value->Shared->Prop),Q (.int (g i j) s.toks) { s with toks:=s.toks+1 }->wpAny (model X.prog X.w) X.A (f (.int i t) (.int j u)) Q E s) :
  OpR X f (rI0 λ i j=>.int (g i j)):=by
 intro pins s σ H x y v u Q I rx ry h;obtain ⟨i,j,rfl,rfl,q⟩:=h;obtain ⟨t,rfl⟩:=rx;obtain ⟨t',rfl⟩:=ry;exact rule i j t t' s _ _ ⟨.int (g i j),H,I.tok _,⟨_,rfl⟩,q⟩
theorem Jw {f:Value->Value->Sem Value} {g:Int->Int->Bool}
  (rule:∀ (i j:Int) (t u:Tok) (s:Shared) (Q:Value->Shared->Prop) (E:Value->Shared->Prop),Q (.bool (g i j)) s->wpAny (model X.prog X.w) X.A (f (.int i t) (.int j u)) Q E s) :
  OpR X f (rI0 λ i j=>.bl (g i j)):=by
 intro pins s σ H x y v u Q I rx ry h;obtain ⟨i,j,rfl,rfl,q⟩:=h;obtain ⟨t,rfl⟩:=rx;obtain ⟨t',rfl⟩:=ry;exact rule i j t t' s _ _ ⟨.bl (g i j),H,I,rfl,q⟩
def Ed (i j:Int):Prop:=0<=j/\j<=1000000/\i.natAbs < 2 ^ 64
def A8 (i j:Int):Prop:=(-(2 ^ 64) < i/\i < 2 ^ 64)\/(-(2 ^ 64) < j/\j < 2 ^ 64)
theorem A8.ok (h:A8 i j):IntMulOk i j:=by
 rcases h with ⟨h1,h2⟩ | ⟨h1,h2⟩
 · exact .of_left (intBits_le_64 h1 h2)
 · exact .of_right (intBits_le_64 h1 h2)
theorem FG:OpR X (binaryOp .Add) (rI0 λ i j=>.int (i+j)):=LW λ _ _ _ _ _ _ _ q=>add_int q
theorem Fx:OpR X (binaryOp .Sub) (rI0 λ i j=>.int (i - j)):=LW λ _ _ _ _ _ _ _ q=>sub_int q
theorem Cz:OpR X (binaryOp .Mod) (rI (λ _ j=>j≠0) λ i j=>.int (i.fmod j)):=opI λ _ _ _ _ _ _ _ hc q=>mod_int' hc q
theorem Fy:OpR X (binaryOp .Pow) (rI Ed λ i j=>.int (i ^ j.toNat)):=opI λ _ _ _ _ _ _ _ hc q=>pow_int_small hc.1 hc.2.1 hc.2.2 q
theorem unI {f:Value->Sem Value} {g:Int->Int}
  (rule:∀ (i:Int) (t:Tok) (s:Shared) (Q:Value->Shared->Prop) (E:Value->Shared->Prop),Q (.int (g i) s.toks) { s with toks:=s.toks+1 }->wpAny (model X.prog X.w) X.A (f (.int i t)) Q E s) :
  UnR X f (rU λ i=>.int (g i)):=by
 intro pins s σ H x v Q I rx h;obtain ⟨i,rfl,q⟩:=h;obtain ⟨t,rfl⟩:=rx;exact rule i t s _ _ ⟨.int (g i),H,I.tok _,⟨_,rfl⟩,q⟩
theorem Ek:UnR X (unaryOp .USub) (rU λ i=>.int (-i)):=unI λ _ _ _ _ _ q=>neg_int q
end
def IZ:V->V->Bool
 | .non,.non=>true | .non,.int _=>true | .int _,.non=>true | .non,.bl _=>true | .bl _,.non=>true | .non,.str _=>true | .str _,.non=>true
 | .int _,.int _=>true | .bl _,.bl _=>true | .str _,.str _=>true | .byt _,.byt _=>true
 | .int _,.str _=>true | .str _,.int _=>true | .bl _,.str _=>true | .str _,.bl _=>true
 | _,_=>false
def rEq:R2:=λ x y H Q=>IZ x y=true/\Q (.bl (decide (x=y))) H
def rNe:R2:=λ x y H Q=>IZ x y=true/\Q (.bl (!decide (x=y))) H
theorem xa:decide (V.int i=V.int j)=(i == j):=by
 rw [Y5];simp
theorem A0:decide (V.bl i=V.bl j)=(i == j):=by
 rw [Y5];simp
theorem w9:decide (V.str i=V.str j)=(i == j):=by
 rw [Y5];simp
theorem xb:decide (V.byt i=V.byt j)=(i.toList == j.toList):=by
 rw [Y5];cases i;cases j;simp
section
variable {X:Cx} {a b c:Expr} {ta tb tc:TE} {pos:Pos}
theorem ba (I:Inv X pins σ H s) (q:Q (.bl k) H) (e:k=k'):EP X pins σ Q (.bool k') s:=by
 subst e;exact ⟨.bl k,H,I,rfl,q⟩
theorem Jv:OpR X (compareOp .Eq) rEq:=by
 intro pins s σ H x y v u Q I rx ry h;obtain ⟨hs,q⟩:=h
 cases x with
 | non =>
  cases rx
  cases y with
  | non=>cases ry; exact PySem.EqNone.eq_none_none (ba I q (by simp))
  | bl j=>cases ry; exact PySem.EqNone.eq_none_bool (ba I q (by simp))
  | int j=>obtain ⟨t',rfl⟩:=ry; exact PySem.EqNone.eq_none_int (ba I q (by simp))
  | str j=>obtain ⟨t',rfl⟩:=ry; exact PySem.EqNone.eq_none_str (ba I q (by simp))
  | _=>exact absurd (show false=true from hs) Zf
 | bl i =>
  cases rx
  cases y with
  | non=>cases ry; exact PySem.EqNone.eq_bool_none (ba I q (by simp))
  | bl j=>cases ry; exact eq_bool (ba I q A0)
  | str j=>obtain ⟨t',rfl⟩:=ry; exact PySem.EqMixed.eq_bool_str (ba I q (by simp))
  | _=>exact absurd (show false=true from hs) Zf
 | int i =>
  obtain ⟨t,rfl⟩:=rx
  cases y with
  | non=>cases ry; exact PySem.EqNone.eq_int_none (ba I q (by simp))
  | int j=>obtain ⟨t',rfl⟩:=ry; exact eq_int (ba I q xa)
  | str j=>obtain ⟨t',rfl⟩:=ry; exact PySem.EqMixed.eq_int_str (ba I q (by simp))
  | _=>exact absurd (show false=true from hs) Zf
 | str i =>
  obtain ⟨t,rfl⟩:=rx
  cases y with
  | non=>cases ry; exact PySem.EqNone.eq_str_none (ba I q (by simp))
  | bl j=>cases ry; exact PySem.EqMixed.eq_str_bool (ba I q (by simp))
  | int j=>obtain ⟨t',rfl⟩:=ry; exact PySem.EqMixed.eq_str_int (ba I q (by simp))
  | str j=>obtain ⟨t',rfl⟩:=ry; exact eq_str (ba I q w9)
  | _=>exact absurd (show false=true from hs) Zf
 | byt i =>
  obtain ⟨t,rfl⟩:=rx
  cases y with
  | byt j=>obtain ⟨t',rfl⟩:=ry; exact PySem.W.eq_bytes (ba I q xb)
  | _=>exact absurd (show false=true from hs) Zf
 | _=>cases y <;> exact absurd (show false=true from hs) Zf
theorem Jr:OpR X (compareOp .NotEq) rNe:=by
 intro pins s σ H x y v u Q I rx ry h;obtain ⟨hs,q⟩:=h
 cases x with
 | non =>
  cases rx
  cases y with
  | non=>cases ry; exact PySem.EqNone.ne_none_none (ba I q (by simp))
  | bl j=>cases ry; exact PySem.EqNone.ne_none_bool (ba I q (by simp))
  | int j=>obtain ⟨t',rfl⟩:=ry; exact PySem.EqNone.ne_none_int (ba I q (by simp))
  | str j=>obtain ⟨t',rfl⟩:=ry; exact PySem.EqNone.ne_none_str (ba I q (by simp))
  | _=>exact absurd (show false=true from hs) Zf
 | bl i =>
  cases rx
  cases y with
  | non=>cases ry; exact PySem.EqNone.ne_bool_none (ba I q (by simp))
  | bl j=>cases ry; exact ne_bool (ba I q (Yn not A0))
  | str j=>obtain ⟨t',rfl⟩:=ry; exact PySem.EqMixed.ne_bool_str (ba I q (by simp))
  | _=>exact absurd (show false=true from hs) Zf
 | int i =>
  obtain ⟨t,rfl⟩:=rx
  cases y with
  | non=>cases ry; exact PySem.EqNone.ne_int_none (ba I q (by simp))
  | int j=>obtain ⟨t',rfl⟩:=ry; exact ne_int (ba I q (Yn not xa))
  | str j=>obtain ⟨t',rfl⟩:=ry; exact PySem.EqMixed.ne_int_str (ba I q (by simp))
  | _=>exact absurd (show false=true from hs) Zf
 | str i =>
  obtain ⟨t,rfl⟩:=rx
  cases y with
  | non=>cases ry; exact PySem.EqNone.ne_str_none (ba I q (by simp))
  | bl j=>cases ry; exact PySem.EqMixed.ne_str_bool (ba I q (by simp))
  | int j=>obtain ⟨t',rfl⟩:=ry; exact PySem.EqMixed.ne_str_int (ba I q (by simp))
  | str j=>obtain ⟨t',rfl⟩:=ry; exact ne_str (ba I q (Yn not w9))
  | _=>exact absurd (show false=true from hs) Zf
 | byt i =>
  obtain ⟨t,rfl⟩:=rx
  cases y with
  | byt j=>obtain ⟨t',rfl⟩:=ry; exact PySem.W.ne_bytes (ba I q (Yn not xb))
  | _=>exact absurd (show false=true from hs) Zf
 | _=>cases y <;> exact absurd (show false=true from hs) Zf
theorem Js:OpR X (compareOp .Lt) (rI0 λ i j=>.bl (decide (i < j))):=Jw λ _ _ _ _ _ _ _ q=>lt_int q
theorem Jt:OpR X (compareOp .LtE) (rI0 λ i j=>.bl (decide (i<=j))):=Jw λ _ _ _ _ _ _ _ q=>le_int q
theorem Ju:OpR X (compareOp .Gt) (rI0 λ i j=>.bl (decide (j < i))):=Jw λ _ _ _ _ _ _ _ q=>gt_int q
theorem vz:OpR X (compareOp .Lt) (λ x y H Q=>∃ i j,x=.str i/\y=.str j/\Q (.bl (decide (i.cps.toList < j.cps.toList))) H):=by
 intro pins s σ H x y v u Q I rx ry h;obtain ⟨i,j,rfl,rfl,q⟩:=h;obtain ⟨t,rfl⟩:=rx;obtain ⟨t',rfl⟩:=ry;exact lt_str (ba I q rfl)
theorem FA:OpR X (compareOp .Is) (λ x y H Q=>y=.non/\Q (.bl (decide (x=.non))) H):=by
 intro pins s σ H x y v u Q I rx ry h;obtain ⟨rfl,q⟩:=h;cases ry;refine is_none_gen (ba I q ?_)
 cases x <;> first
  | (cases rx; rfl)
  | (obtain ⟨t,rfl⟩:=rx; rfl)
theorem Cw:OpR X (compareOp .IsNot) (λ x y H Q=>y=.non/\Q (.bl (!decide (x=.non))) H):=by
 intro pins s σ H x y v u Q I rx ry h;obtain ⟨rfl,q⟩:=h;cases ry;refine isnot_none_gen (ba I q ?_)
 cases x <;> first
  | (cases rx; rfl)
  | (obtain ⟨t,rfl⟩:=rx; rfl)
theorem OpR.or (h:OpR X f r) (h':OpR X f r'):OpR X f (λ x y H Q=>r x y H Q\/r' x y H Q):=by
 intro pins s σ H x y v u Q I rx ry q;rcases q with q | q
 · exact h pins s σ H x y v u Q I rx ry q
 · exact h' pins s σ H x y v u Q I rx ry q
theorem Ay (b:Expr) (h:op≠.In:=by decide) (h2:op≠.NotIn:=by decide):behindInMarks op b=false:=by
 have e1:(op == CmpOp.In)=false:=by cases op <;> first | rfl | exact absurd rfl h
 have e2:(op == CmpOp.NotIn)=false:=by cases op <;> first | rfl | exact absurd rfl h2
 cases b <;> simp [behindInMarks,e1,e2]
theorem Cj (ho:OpR X (compareOp op) r) (ha:PE X a ta) (hb:PE X b tb) (hm:behindInMarks op b=false):PE X (.Compare a [op] [b] pos) (tOp r ta tb):=by
 intro pins s σ H Q I h;exact wpAny_Compare1 (LI ha hb I h λ v u s2 x y H2 I2 rx ry q=>ho pins s2 σ H2 x y v u Q I2 rx ry q) hm
def Es (t:TE):TT:=λ σ H Q=>t σ H λ x H'=>∃ k,x=.bl k/\Q k H'
theorem BG (ho:OpR X (compareOp op) r) (ha:PE X a ta) (hb:PE X b tb) (hm:behindInMarks op b=false):PT X (.Compare a [op] [b] pos) (Es (tOp r ta tb)):=by
 intro pins s σ H Q I h
 refine wpAny_isTrue_Compare1 (thn (ha pins s σ H _ I h) λ v s1 ⟨x,H1,I1,r1,q1⟩=>thn (hb pins s1 σ H1 _ I1 q1) λ u s2 ⟨y,H2,I2,r2,q2⟩ =>
  thn (ho pins s2 σ H2 x y v u _ I2 r1 r2 q2) λ c s3 ⟨z,H3,I3,r3,k,e,q3⟩=>?_) hm
 subst e;cases r3;exact Yg ⟨H3,I3,q3⟩
def um (r r':R2) (ta tb tc:TE):TE:=λ σ H Q=>ta σ H λ x H1=>tb σ H1 λ y H2=>r x y H2 λ z H3=>∃ k,z=.bl k /\
 (if k=true then tc σ H3 λ w' H4=>r' y w' H4 Q else Q (.bl false) H3)
theorem yN (ho:OpR X (compareOp op) r) (ho':OpR X (compareOp op') r') (ha:PE X a ta) (hb:PE X b tb) (hc:PE X c tc)
  (hm:lastMarks [op,op'] [b,c]=false:=by with_unfolding_all rfl):PE X (.Compare a [op,op'] [b,c] pos) (um r r' ta tb tc):=by
 intro pins s σ H Q I h
 refine Compare_chain (thn (ha pins s σ H _ I h) λ v s1 ⟨x,H1,I1,r1,q1⟩=>chain_link (thn (hb pins s1 σ H1 _ I1 q1) λ u s2 ⟨y,H2,I2,r2,q2⟩ =>
  thn (ho pins s2 σ H2 x y v u _ I2 r1 r2 q2) λ d s3 ⟨z,H3,I3,r3,k,e,q3⟩=>?_)) hm
 subst e;cases r3;refine Yg ?_
 cases k with
 | false=>exact ite_ff ⟨.bl false,H3,I3,rfl,q3⟩
 | true=>exact ite_tt (chain_last (thn (hc pins s3 σ H3 _ I3 q3) λ w' s4 ⟨z',H4,I4,r4,q4⟩=>ho' pins s4 σ H4 y z' u w' Q I4 r2 r4 q4))
theorem yk (ho:OpR X (compareOp op) r) (ho':OpR X (compareOp op') r') (ha:PE X a ta) (hb:PE X b tb) (hc:PE X c tc)
  (hm:lastMarks [op,op'] [b,c]=false:=by with_unfolding_all rfl):PT X (.Compare a [op,op'] [b,c] pos) (Es (um r r' ta tb tc)):=by
 intro pins s σ H Q I h
 refine isTrue_chain (thn (ha pins s σ H _ I h) λ v s1 ⟨x,H1,I1,r1,q1⟩=>test_link (thn (hb pins s1 σ H1 _ I1 q1) λ u s2 ⟨y,H2,I2,r2,q2⟩ =>
  thn (ho pins s2 σ H2 x y v u _ I2 r1 r2 q2) λ d s3 ⟨z,H3,I3,r3,k,e,q3⟩=>?_)) hm
 subst e;cases r3;refine Yg ?_
 cases k with
 | false =>
  obtain ⟨k',e',q'⟩:=q3;cases e';exact ite_ff ⟨H3,I3,q'⟩
 | true =>
  refine ite_tt (test_last (thn (hc pins s3 σ H3 _ I3 q3) λ w' s4 ⟨z',H4,I4,r4,q4⟩=>thn (ho' pins s4 σ H4 y z' u w' _ I4 r2 r4 q4) λ d' s5 ⟨z2,H5,I5,r5,k2,e2,q5⟩=>?_));subst e2;cases r5;exact Yg ⟨H5,I5,q5⟩
def MJ (K:W.Frag) (x:V) (H:Hp) (k:Bool):Prop :=
 match x with
 | .non=>k=false
 | .bl b=>k=b
 | .int i=>k=(i != 0)
 | .str y=>y.length<=sizeLine/\k=((y.length:Int) != 0)
 | .byt y=>y.size<=sizeLine/\k=((y.size:Int) != 0)
 | .ref p=>(∃ xs,SqL K H p xs/\k=!xs.isEmpty)\/(∃ xs,SqT K H p xs/\k=!xs.isEmpty)\/∃ kvs,H p=some (.dK kvs)/\k=!kvs.isEmpty
 | _=>False
theorem sX {κ:Type} {kvs:List (κ×V)} {vs:List (κ×Value)} (r:KV kvs vs):(!vs.isEmpty)=!kvs.isEmpty:=by
 cases r <;> rfl
theorem l3 (r:bN xs its):(!its.toArray.isEmpty)=!xs.isEmpty:=by
 cases r <;> simp
theorem og:(sizeLine:Nat) < 2 ^ 63:=by rw [Xp]; decide
theorem Em:Ol X (λ x H Q=>∃ k,MJ X.K x H k/\Q k H):=by
 intro pins s σ H x v Q I rx h;obtain ⟨k,e,q⟩:=h;have hl:=og;have hs:sizeLine=16777216:=Xp
 cases x with
 | non =>
  cases rx;have e':k=false:=e;subst e';exact truthy_none ⟨H,I,q⟩
 | bl b =>
  cases rx;have e':k=b:=e;subst e';exact Yg ⟨H,I,q⟩
 | int i =>
  obtain ⟨t,rfl⟩:=rx;have e':k=(i != 0):=e;subst e';exact PySem.P.truthy_int ⟨H,I,q⟩
 | str y =>
  obtain ⟨t,rfl⟩:=rx;obtain ⟨hy,e'⟩:y.length<=sizeLine/\k=((y.length:Int) != 0):=e;subst e';exact PySem.P.truthy_str (by omega) ⟨H,I.tok _,q⟩
 | byt y =>
  obtain ⟨t,rfl⟩:=rx;obtain ⟨hy,e'⟩:y.size<=sizeLine/\k=((y.size:Int) != 0):=e;subst e';exact PySem.W.truthy_bytes (by omega) ⟨H,I.tok _,q⟩
 | ref p =>
  cases rx;have e':(∃ xs,SqL X.K H p xs/\k=!xs.isEmpty)\/(∃ xs,SqT X.K H p xs/\k=!xs.isEmpty)\/∃ kvs,H p=some (.dK kvs)/\k=!kvs.isEmpty:=e
  rcases e' with ⟨xs,hx,e'⟩ | ⟨xs,hx,e'⟩ | ⟨kvs,hx,e'⟩
  ·subst e'
   obtain ⟨its,r,pl,hz⟩:=I.list hx;have hlen:=r.length;exact wpAny_truthy_list pl.isList (by simp only [Zr]; omega) ⟨H,I.tok _,by rw [l3 r]; exact q⟩
  ·subst e'
   obtain ⟨its,r,pl,hz⟩:=I.tuple hx;have hlen:=r.length;exact truthy_tuple pl (by simp only [Zr]; omega) ⟨H,I.tok _,by rw [l3 r]; exact q⟩
  ·subst e'
   obtain ⟨hz,hS,vs,r,m⟩:kvs.length<=sizeLine/\(p == sysModules)=false/\∃ vs,KV kvs vs/\s.heap.DictOf (bB X.prog X.w) p vs:=I.hok p _ hx
   have hlen:kvs.length=vs.length:=Paired.length r;exact wpAny_truthy_dict hS m (by omega) ⟨H,I.tok _,by rw [sX r]; exact q⟩
 | _=>exact (show False from e).elim
theorem yj (ha:PE X a ta) (he:∀ whole,isTrue a X.env whole=(do let v <- whole; standAt a.pos; holding [v] (truthy v))) :
  PT X a (λ σ H Q=>ta σ H λ x H'=>∃ k,MJ X.K x H' k/\Q k H'):=by
 intro pins s σ H Q I h;exact isTrue_plain (thn (ha pins s σ H _ I h) λ v s1 ⟨x,H1,I1,r1,q1⟩=>Em pins s1 σ H1 x v Q I1 r1 q1) (he _)
theorem sE:OpR X (binaryOp .Add) (λ x y H Q=>∃ i j,x=.str i/\y=.str j/\i.length+j.length<=sizeLine/\Q (.str (i++j)) H):=by
 intro pins s σ H x y v u Q I rx ry h;obtain ⟨i,j,rfl,rfl,hz,q⟩:=h;obtain ⟨t,rfl⟩:=rx;obtain ⟨t',rfl⟩:=ry;exact add_str (λ t' tk=>⟨.str (i++j),H,I.tok _,⟨_,rfl⟩,q⟩) hz
theorem vals1 (r:bN [x] us):∃ u,us=[u]/\RelV x u:=by
 cases r with
 | cons r1 r2=>cases r2; exact ⟨_,rfl,r1⟩
theorem vals2 (r:bN [x,y] us):∃ u w',us=[u,w']/\RelV x u/\RelV y w':=by
 cases r with
 | cons r1 r2 =>
  cases r2 with
  | cons r3 r4=>cases r4; exact ⟨_,_,rfl,r1,r3⟩
def Om (K:W.Frag) (x:V) (H:Hp) (n:Nat):Prop :=
 match x with
 | .str y=>y.length<=sizeLine/\n=y.length
 | .byt y=>y.size<=sizeLine/\n=y.size
 | .ref p=>(∃ xs,SqL K H p xs/\n=xs.length)\/∃ xs,SqT K H p xs/\n=xs.length
 | _=>False
theorem zZ:fo X (.builtin "len") (λ xs H Q=>∃ x n,xs=[x]/\Om X.K x H n/\Q (.int n) H):=by
 intro pins s σ H xs us Q I r h;obtain ⟨x,n,rfl,e,q⟩:=h;obtain ⟨u,rfl,rx⟩:=vals1 r;have hl:=og;have hs:sizeLine=16777216:=Xp
 cases x with
 | str y =>
  obtain ⟨t,rfl⟩:=rx;obtain ⟨hy,e'⟩:y.length<=sizeLine/\n=y.length:=e;subst e';exact len_str (by omega) ⟨.int _,H,I.tok _,⟨_,rfl⟩,q⟩
 | byt y =>
  obtain ⟨t,rfl⟩:=rx;obtain ⟨hy,e'⟩:y.size<=sizeLine/\n=y.size:=e;subst e';exact PySem.W.len_bytes (by omega) ⟨.int _,H,I.tok _,⟨_,rfl⟩,q⟩
 | ref p =>
  cases rx;have e':(∃ xs,SqL X.K H p xs/\n=xs.length)\/∃ xs,SqT X.K H p xs/\n=xs.length:=e
  rcases e' with ⟨xs,hx,e'⟩ | ⟨xs,hx,e'⟩
  ·subst e'
   obtain ⟨its,r',pl,hz⟩:=I.list hx;have hlen:=r'.length;exact Calls.call_len_list pl.isList (by simp only [Zr]; omega) ⟨.int xs.length,H,I.tok _,⟨_,by simp only [Zr]; rw [hlen]⟩,q⟩
  ·subst e'
   obtain ⟨its,r',pl,hz⟩:=I.tuple hx;have hlen:=r'.length;exact len_tuple pl (by simp only [Zr]; omega) ⟨.int xs.length,H,I.tok _,⟨_,by simp only [Zr]; rw [hlen]⟩,q⟩
 | _=>exact (show False from e).elim
end
end L2
namespace L2
open PySem PySem.Spec PyProof.Rows
structure D3 (h:Heap) (x dx C:Addr) (mA:Str->Option Value):Prop where
 obj:h.get? x=some (PySem.W.instObj C dx)
 ns:h.Ns1 dx mA
 ne:dx≠x
theorem wc {h:Heap} {dx:Addr} {mA:Str->Option Value} (n:h.Ns1 dx mA):∃ od,h.get? dx=some od/\∀ name,PySem.W.lookIn name od=some (mA name):=by
 obtain ⟨o,es,ep,ho,hd,hk,_,hm⟩:=n;refine ⟨o,ho,λ name=>?_⟩;have e:=hm name;unfold nsFind findBy at e;rw [<- Array.find?_toList] at e;unfold PySem.W.lookIn;rw [hd];dsimp only;split
 ·rename_i y q
  rw [q] at e;exact Yn some e
 ·rename_i q
  rw [q] at e
  have a:es.toList.any (·.refKey)=false:=by
   rw [List.any_eq_false];intro y hy;obtain ⟨z,t,hkey⟩:=hk y (Array.mem_toList_iff.mp hy);simp [DictEntry.refKey,hkey]
  have a':¬ es.toList.any (·.refKey)=true:=by rw [a]; exact Zf
  rw [if_neg a'];exact Yn some e
theorem D3.look (I:D3 h x dx C mA):∃ od,PySem.W.InstAt h x (PySem.W.instObj C dx) C (some od)/\∀ name,PySem.W.lookIn name od=some (mA name) :=
 let ⟨od,ho,hl⟩:=wc I.ns
 ⟨od,⟨I.obj,rfl,rfl,ho⟩,hl⟩
section
variable {prog:Program} {w:World} {A:Around} {E:Value->Shared->Prop} {s:Shared} {K:W.Frag} {x dx C f:Addr} {mA:Str->Option Value} {name:Str} {v:Value}
theorem get_map (X:K.In s.heap) (I:D3 s.heap x dx C mA) (hg:PySem.W.plainGet K C name=true) (hh:PySem.W.hasDictIn K C=true)
  (ha:W.findIn K (.ref C) name=some none) (hv:mA name=some v) (hv':PySem.W.handedIn v=true) (h:Q v { s with toks:=s.toks+1 }) :
  wpAny (model prog w) A (getAttr (.ref x) name expr) Q E s:=by
 obtain ⟨od,J,hl⟩:=I.look;exact PySem.W.get_value X J (PySem.W.plainGet_of hg).1 (PySem.W.findObj_own hh ha rfl (by rw [hl,hv])) hv' h
theorem zF (X:K.In s.heap) (I:D3 s.heap x dx C mA) (hg:PySem.W.plainGet K C name=true)
  (hf:W.findIn K (.ref C) name=some (some (.ref f))) (ht:PySem.W.isFn K (.ref f)=true) (hv:mA name=none) (h:Q (.ref f,[.ref x]) s) :
  wpAny (model prog w) A (getMethod (.ref x) name pl) Q E s:=by
 obtain ⟨od,J,hl⟩:=I.look;exact PySem.W.method_fn X J (PySem.W.plainGet_of hg).1 (PySem.W.plainGet_of hg).2 hf (beq_iff_eq.mp ht) (by show (PySem.W.lookIn name od).map (·.isSome)=some false; rw [hl,hv]; rfl) h
theorem Bn (X:K.In s.heap) (I:D3 s.heap x dx C mA)
  (hs:W.findIn K (.ref C) "__setattr__"=some (some (.builtin "object.__setattr__"))) (hp:PySem.W.plainOver K C=true) (ht:PySem.W.takerIn K C name=some none) (hh:PySem.W.hasDictIn K C=true)
  (hw:PySem.Within mA ns) (hsz:ns.length<=sizeLine)
  (h:∀ h',D3 h' x dx C (λ y=>if y=name then some v else mA y)->Heap.SameBut dx s.heap h'->Q () { s with heap:=h',toks:=s.toks+2 }) :
  wpAny (model prog w) A (setAttr (.ref x) name v) Q E s:=by
 obtain ⟨od,J,hl⟩:=I.look;refine PySem.W.set_plain X J hs (PySem.W.osa_open (s:={ s with toks:=s.toks+1 }) (r:=none) X J hp ht λ b=>?_);obtain ⟨cd,hc,hd'⟩:=PySem.W.any_some hh;have hx:s.heap.get? x=some ⟨.ref C,some dx,.plain,#[]⟩:=I.obj;refine Zo (Z1 (Zo (Zo (wpAny_loadPart hx (Zo (PySem.W.Looks.here (s:={ s with toks:=s.toks+1 }) (PySem.W.looks_clsIn X hc) ?_))))));rw [hd'];refine Z1 (a:=some dx) (Zo (Z1 (Zo ?_)));refine wpAny_nsSet1 (s:={ s with toks:=s.toks+1 }) I.ns λ h' hn2 hs2=>?_
 obtain ⟨oD,esD,epD,hoD,hdD,hcD⟩:=hn2.count (PySem.Within.cons name v hw);refine Zo (wpAny_lookBehind hoD (by rw [hdD]; exact pastItsLine_dict (Z6 hcD (by rw [Z0]; omega))) ?_);exact Z1 (h _ ⟨(hs2.2 _ (Ne.symm I.ne)).trans I.obj,hn2,I.ne⟩ hs2)
theorem zf (X:K.In s.heap) (hm:PySem.W.makesIn K C=true)
  (hi:W.findIn K (.ref C) "__init__"=some (some (.ref f))) (hf:PySem.W.typeIn K (.ref f)=some (.type "function"))
  (h : codeAny (model prog w) (A.under (.builtin "type.__call__" ⟨.ref C::vs,kw⟩)) (.call (.ref f) ⟨.ref (s.heap.objs.size+1)::vs,kw⟩) (PySem.W.InitBack (s.heap.objs.size+1) R)
    { s with heap:=(s.heap.push PySem.W.emptyDict).push (PySem.W.instObj C s.heap.objs.size) }) :
  codeAny (model prog w) A (.call (.ref C) ⟨vs,kw⟩) R s:=by
 obtain ⟨hh,g,d,t,os⟩:=s;exact PySem.W.make_core (PySem.W.makes_of X hm) (PySem.W.looks_findIn X hi) (λ self=>PySem.W.bind_fn X self hf) (.inl rfl) h
end
def lE (f:Str) (v:V):List (Str×V)->List (Str×V)
 | []=>[(f,v)]
 | (g,x)::r=>if g=f then (g,v)::r else (g,x)::lE f v r
theorem j7 (f g:Str) (v:V):∀ fs:List (Str×V),(lE f v fs).lookup g=if g=f then some v else fs.lookup g
 | []=>by
  show List.lookup g [(f,v)]=_
  by_cases h:g=f
  ·have hb:(g == f)=true:=beq_iff_eq.mpr h
   simp only [List.lookup,hb,if_pos h]
  ·have hb:(g == f)=false:=Xa.mpr h
   simp only [List.lookup,hb,if_neg h]
 | (k,x)::r=>by
  have ih:=j7 f g v r;rw [show lE f v ((k,x)::r)=(if k=f then (k,v)::r else (k,x)::lE f v r) from rfl]
  by_cases hk:k=f
  ·rw [if_pos hk]
   by_cases h:g=k
   ·have hb:(g == k)=true:=beq_iff_eq.mpr h
    simp only [List.lookup,hb,if_pos (h.trans hk)]
   ·have hb:(g == k)=false:=Xa.mpr h
    simp only [List.lookup,hb,if_neg (λ e:g=f=>h (e.trans hk.symm))]
  ·rw [if_neg hk]
   by_cases h:g=k
   ·have hb:(g == k)=true:=beq_iff_eq.mpr h
    simp only [List.lookup,hb,if_neg (λ e:g=f=>hk (h.symm.trans e))]
   ·have hb:(g == k)=false:=Xa.mpr h
    simp only [List.lookup,hb];exact ih
theorem kg (f:Str) (v:V):∀ fs:List (Str×V),f ∈ (lE f v fs).map (·.1)/\∀ g,g ∈ fs.map (·.1)->g ∈ (lE f v fs).map (·.1)
 | []=>⟨by simp [lE],λ g h=>by simp at h⟩
 | (k,x)::r=>by
  obtain ⟨i1,i2⟩:=kg f v r;rw [show lE f v ((k,x)::r)=(if k=f then (k,v)::r else (k,x)::lE f v r) from rfl]
  by_cases hk:k=f
  ·rw [if_pos hk]
   subst hk;exact ⟨by simp,λ g h=>by simpa using h⟩
  ·rw [if_neg hk]
   refine ⟨?_,λ g h=>?_⟩
   ·rw [Zg]
    exact Zd _ i1
   ·rw [Zg] at h ⊢
    rcases Zl.mp h with e | e
    · exact Zl.mpr (.inl e)
    · exact Zd _ (i2 g e)
theorem j8 (f:Str) (v:V):∀ fs:List (Str×V),(lE f v fs).length<=fs.length+1
 | []=>by simp [lE]
 | (k,x)::r=>by
  have ih:=j8 f v r;rw [show lE f v ((k,x)::r)=(if k=f then (k,v)::r else (k,x)::lE f v r) from rfl]
  by_cases hk:k=f
  · rw [if_pos hk,Z0,Z0]; omega
  · rw [if_neg hk,Z0,Z0]; omega
theorem nr.some_of (r:nr (some v) o):∃ u,o=some u/\RelV v u:=by
 cases o with
 | none=>exact (show False from r).elim
 | some u=>exact ⟨u,rfl,r⟩
theorem nr.none_of (r:nr none o):o=none:=by
 cases o with
 | none=>rfl
 | some u=>exact (show False from r).elim
theorem wG (r:RelV v u):PySem.W.handedIn u=true:=by
 cases v with
 | non=>cases (show u=Value.none from r); rfl
 | bl b=>cases (show u=Value.bool b from r); rfl
 | int i=>obtain ⟨t,e⟩:=(show ∃ t,u=Value.int i t from r); cases e; rfl
 | str x=>obtain ⟨t,e⟩:=(show ∃ t,u=Value.str x t from r); cases e; rfl
 | byt b=>obtain ⟨t,e⟩:=(show ∃ t,u=Value.bytes b t from r); cases e; rfl
 | flt b=>obtain ⟨t,e⟩:=(show ∃ t,u=Value.float b t from r); cases e; rfl
 | ref a=>cases (show u=Value.ref a from r); rfl
 | ty n=>cases (show u=Value.type n from r); rfl
section
variable {P:Program} {w:World} {H H':Hp} {h h':Heap} {a C dx:Addr} {fs fs':List (Str×V)}
theorem mU (hok:HOk P w H h) (e:H a=some (.ins C dx fs)):∃ mA,D3 h a dx C mA/\(∀ f,nr (fs.lookup f) (mA f))/\PySem.Within mA (fs.map (·.1))/\fs.length<=1000/\H dx=some (.own a):=by
 obtain ⟨d,z,ne,ob,mA,n,r,q⟩:=(show cR P w H h a (.ins C dx fs) from hok a _ e)
 exact ⟨mA,⟨ob,n,ne⟩,r,q,z,d⟩
end
structure Cls (K:W.Frag) (C:Addr):Prop where
 pg:PySem.W.plainGet K C Str.empty=true
 hd:PySem.W.hasDictIn K C=true
 po:PySem.W.plainOver K C=true
 sa:W.findIn K (.ref C) "__setattr__"=some (some (.builtin "object.__setattr__"))
theorem Cls.get {K:W.Frag} {C:Addr} (c:Cls K C) (f:Str):PySem.W.plainGet K C f=true:=c.pg
def cF (K:W.Frag) (C:Addr) (f:Str):Prop:=W.findIn K (.ref C) f=some none
theorem cF.IK {K:W.Frag} {C:Addr} {f:Str} (n:cF K C f):PySem.W.takerIn K C f=some none:=by
 unfold PySem.W.takerIn;rw [show W.findIn K (.ref C) f=some none from n];rfl
structure A7 (K:W.Frag) (C:Addr) (m:Str) (f:Addr):Prop where
 at_:W.findIn K (.ref C) m=some (some (.ref f))
 fn:PySem.W.isFn K (.ref f)=true
 kp:W.keepIn K (.ref f)=true
section
variable {X:Cx} {pins:List (Addr×Obj)} {σ:St} {H:Hp} {s:Shared} {a C dx:Addr} {fs:List (Str×V)} {f:Str} {v:V} {A:Around} {E:Value->Shared->Prop}
theorem tj (I:Inv X pins σ H s) (e:H a=some (.ins C dx fs)) (c:Cls X.K C) (n:cF X.K C f) (l:fs.lookup f=some v)
  (h:∀ u s',Inv X pins σ H s'->RelV v u->Q u s'):wpAny (model X.prog X.w) A (getAttr (.ref a) f b) Q E s:=by
 obtain ⟨mA,O,r,_,_,_⟩:=mU I.hok e;obtain ⟨u,hu,ru⟩:=nr.some_of (v:=v) (o:=mA f) (by rw [<- l]; exact r f);exact get_map I.kIn O (c.get f) c.hd n hu (wG ru) (h u _ (I.tok _) ru)
theorem l4 (I:Inv X pins σ H s) (e:H a=some (.ins C dx fs)) (c:Cls X.K C) (k:A7 X.K C m g) (l:fs.lookup m=none)
  (h:Q (.ref g,[.ref a]) s):wpAny (model X.prog X.w) A (getMethod (.ref a) m pl) Q E s:=by
 obtain ⟨mA,O,r,_,_,_⟩:=mU I.hok e;have hn:mA m=none:=nr.none_of (by rw [<- l]; exact r m);exact zF I.kIn O (c.get m) k.at_ k.fn hn h
theorem so (I:Inv X pins σ H s) (e:H a=some (.ins C dx fs)) (c:Cls X.K C) (n:cF X.K C f) (hl:fs.length < 1000) (ry:RelV y u)
  (h:∀ s',Inv X pins σ (upd H a (.ins C dx (lE f y fs))) s'->Q () s'):wpAny (model X.prog X.w) A (setAttr (.ref a) f u) Q E s:=by
 obtain ⟨mA,O,r,wi,_,ho⟩:=mU I.hok e;have hz:(fs.map (·.1)).length<=sizeLine:=by rw [Za,Xp]; omega
 refine Bn I.kIn O c.sa c.po n.IK c.hd wi hz λ h' O' sb=>h _ ?_
 have hd:∃ o,h'.get? dx=some o:=let ⟨o,_,_,e',_⟩:=O'.ns; ⟨o,e'⟩
 refine I.write (x:=a) (e:=dx) (by rw [e]; exact True.intro) (.inr ho) (λ b q hb z=>(sb.2 b hb).trans z) hd ?_
 refine ⟨by rw [ak O.ne]; exact ho,?_,O.ne,O'.obj,_,O'.ns,λ g=>?_,λ g hg=>?_⟩
 · have:=j8 f y fs; omega
 ·show nr ((lE f y fs).lookup g) (if g=f then some u else mA g)
  rw [j7]
  by_cases q:g=f
  · rw [if_pos q,if_pos q]; exact ry
  · rw [if_neg q,if_neg q]; exact r g
 ·by_cases q:g=f
  · rw [q]; exact (kg f y fs).1
  ·refine (kg f y fs).2 g (wi g λ z=>hg ?_)
   show (if g=f then some u else mA g)=none;rw [if_neg q]; exact z
theorem Inv.made (I:Inv X pins σ H s):Inv X pins σ (upd (upd H s.heap.objs.size (.own (s.heap.objs.size+1))) (s.heap.objs.size+1) (.ins C s.heap.objs.size []))
  { s with heap:=(s.heap.push PySem.W.emptyDict).push (PySem.W.instObj C s.heap.objs.size) }:=by
 have e1:(s.heap.push PySem.W.emptyDict).get? s.heap.objs.size=some PySem.W.emptyDict:=Heap.get?_push_size s.heap rfl
 have e2:((s.heap.push PySem.W.emptyDict).push (PySem.W.instObj C s.heap.objs.size)).get? (s.heap.objs.size+1)=some (PySem.W.instObj C s.heap.objs.size):=by
  have:=Heap.get?_push_size (s.heap.push PySem.W.emptyDict) (o:=PySem.W.instObj C s.heap.objs.size) rfl
  rwa [Xe] at this
 have e3:(s.heap.push PySem.W.emptyDict).Ns s.heap.objs.size (λ _=>none):=⟨PySem.W.emptyDict,#[],_,e1,rfl,(λ e he=>absurd he (by simp)),λ _=>rfl⟩
 have I1:=I.laid (a:=s.heap.objs.size) (o:=.own (s.heap.objs.size+1)) (h':=s.heap.push PySem.W.emptyDict) (t':=s.toks) (λ b u q=>Heap.get?_push_of_some _ q) (Zn _) ⟨_,e1⟩;refine I1.laid (a:=s.heap.objs.size+1) (o:=.ins C s.heap.objs.size []) (t':=s.toks) (λ b u q=>Heap.get?_push_of_some _ q) (Nat.le_of_eq (Xe _ _)) ?_
 have ne:s.heap.objs.size≠s.heap.objs.size+1:=Zy (Xf _);refine ⟨by rw [ak ne,aw],Z7 _,ne,e2,λ _=>none,(Heap.Ns1.of_empty e3).at λ o q=>Heap.get?_push_of_some _ q,λ _=>True.intro,λ y hy=>absurd rfl hy⟩
theorem D1 (hb:attributeBase e f env (eval e env)=eval e env)
  (h:wpAny (model prog w) A (eval e env) (λ o s₁=>wpAny (model prog w) A (getAttr o f true) Q E s₁) E s):wpAny (model prog w) A (eval (.Attribute e f pos) env) Q E s :=
 Attribute_any_ h (by rw [arm_eval_Attribute,hb])
end
def MU (K:W.Frag) (ta:TE) (f:Str):TE:=λ σ H Q=>ta σ H λ x H1=>∃ a C dx fs v,x=.ref a/\H1 a=some (.ins C dx fs)/\Cls K C/\cF K C f/\fs.lookup f=some v/\Q v H1
def M7 (K:W.Frag) (ta tv:TE) (f:Str):TS:=λ D σ H=>tv σ H λ y H1=>ta σ H1 λ x H2=>∃ a C dx fs,x=.ref a/\H2 a=some (.ins C dx fs)/\Cls K C/\cF K C f/\fs.length < 1000 /\
 D.nx σ (upd H2 a (.ins C dx (lE f y fs)))
section
variable {X:Cx} {o e value:Expr} {f:Str} {pos pos' tpos:Pos} {ta tv:TE}
theorem Av (he:PE X e ta) (hb:attributeBase e f X.env (eval e X.env)=eval e X.env):PE X (.Attribute e f pos) (MU X.K ta f):=by
 intro pins s σ H Q I h;refine D1 hb (thn (he pins s σ H _ I h) λ u s1 ⟨x,H1,I1,rx,a,C,dx,fs,v,ex,ea,c,n,l,q⟩=>?_);subst ex;obtain rfl:u=Value.ref a:=rx;exact tj I1 ea c n l λ u' s2 I2 ru=>⟨v,H1,I2,ru,q⟩
theorem Ar (ha:PE X o ta) (hv:PE X value tv) (hs:swapsWith value (some (.Attribute o f pos')) pos.line X.env=pure false):PS X (.Assign [.Attribute o f pos'] value pos) (M7 X.K ta tv f):=by
 intro pins s σ H D I h;refine plainObj_wpAny_Assign_Attribute (thn (hv pins s σ H _ I h) λ u s1 ⟨y,H1,I1,ry,q⟩=>thn (ha pins s1 σ H1 _ I1 q) λ ov s2 ⟨x,H2,I2,rx,a,C,dx,fs,ex,ea,c,n,l,q2⟩=>?_) hs;subst ex;obtain rfl:ov=Value.ref a:=rx;exact so I2 ea c n l ry λ s3 I3=>⟨σ,_,I3,q2⟩
end
section
variable {X:Cx} {pins:List (Addr×Obj)} {σ:St} {H:Hp} {s:Shared} {A:Around} {E:Value->Shared->Prop} {Q:Value->Shared->Prop} {c:Value} {b:Bool}
inductive tR (K:W.Frag) (H:Hp):V->Value->Prop where
 | non:tR K H .non (.type "NoneType")
 | bl (x:Bool):tR K H (.bl x) (.type "bool")
 | int (i:Int):tR K H (.int i) (.type "int")
 | str (x:Str):tR K H (.str x) (.type "str")
 | flt (x:UInt64):tR K H (.flt x) (.type "float")
 | lst {a:Addr} {xs:List V} (e:H a=some (.lst xs)):tR K H (.ref a) (.type "list")
 | frz {a:Addr} {o:Obj} {xs:List V} (e:H a=some (.frz o (.lst xs))):tR K H (.ref a) (.type "list")
 | tup {a:Addr} {xs:List V} (e:H a=some (.tup xs)):tR K H (.ref a) (.type "tuple")
 | dK {a:Addr} {kvs:List (Key×V)} (e:H a=some (.dK kvs)):tR K H (.ref a) (.type "dict")
 | dT {a:Addr} {kvs:List (List Key×V)} (e:H a=some (.dT kvs)):tR K H (.ref a) (.type "dict")
 | ins {a C dx:Addr} {fs:List (Str×V)} (e:H a=some (.ins C dx fs)) (cl:Cls K C) (ha:W.findIn K (.ref C) "__class__"=some (some (.builtin "object.__class__")))
  (hn:PySem.W.specialIn K (.builtin "object.__class__") "__get__"=some (some (.builtin "getset_descriptor.__get__"))) (htk:PySem.W.takesIn K (.builtin "object.__class__")=some true)
  (hm:PySem.W.mroIn K C (.type "object")=some true):tR K H (.ref a) (.ref C)
theorem wy (I:Inv X pins σ H s) (rx:RelV x u) (ty:tR X.K H x t) (e:PySem.W.kitOne X.K t c=some b) (h:∀ tk,Q (.bool b) { s with toks:=tk }) :
  wpAny (model X.prog X.w) A (call (.builtin "isinstance") [u,c]) Q E s:=by
 cases ty with
 | non=>cases (show u=Value.none from rx); exact Yi PySem.W.kitx_none I.kIn True.intro e (λ z=>nomatch z) h
 | bl y=>cases (show u=Value.bool y from rx); exact Yi PySem.W.kitx_bool I.kIn True.intro e (λ z=>nomatch z) h
 | int i=>obtain ⟨t,q⟩:=(show ∃ t,u=Value.int i t from rx); cases q; exact Yi PySem.W.kitx_int I.kIn True.intro e (λ z=>nomatch z) h
 | str y=>obtain ⟨t,q⟩:=(show ∃ t,u=Value.str y t from rx); cases q; exact Yi PySem.W.kitx_str I.kIn True.intro e (λ z=>nomatch z) h
 | flt y=>obtain ⟨t,q⟩:=(show ∃ t,u=Value.float y t from rx); cases q; exact Yi PySem.W.kitx_float I.kIn True.intro e (λ z=>nomatch z) h
 | @lst a xs ea =>
  cases (show u=Value.ref a from rx);obtain ⟨_,_,n,_,h1⟩:=(show cR X.prog X.w H s.heap a (.lst xs) from I.hok a _ ea)
  exact Yi PySem.W.kitx_list I.kIn ⟨_,h1,rfl⟩ e (λ z=>nomatch z) h
 | @frz a ob xs ea =>
  cases (show u=Value.ref a from rx);obtain ⟨_,_,_,n,_,h1⟩:=(show cR X.prog X.w H s.heap a (.frz ob (.lst xs)) from I.hok a _ ea)
  exact Yi PySem.W.kitx_list I.kIn ⟨_,h1,rfl⟩ e (λ z=>nomatch z) h
 | @tup a xs ea =>
  cases (show u=Value.ref a from rx);obtain ⟨_,_,_,p⟩:=(show cR X.prog X.w H s.heap a (.tup xs) from I.hok a _ ea)
  obtain ⟨o,h1,h2,_⟩:=p;exact Yi PySem.W.kitx_tuple I.kIn ⟨o,h1,h2⟩ e (λ z=>nomatch z) h
 | @dK a kvs ea =>
  cases (show u=Value.ref a from rx);obtain ⟨_,_,vs,_,p⟩:=(show cR X.prog X.w H s.heap a (.dK kvs) from I.hok a _ ea)
  obtain ⟨o,es,ep,h1,h2,_⟩:=p;exact Yi PySem.W.kitx_dict I.kIn ⟨o,h1,h2.1⟩ e (λ z=>nomatch z) h
 | @dT a kvs ea =>
  cases (show u=Value.ref a from rx);obtain ⟨_,_,xs,_,o,es,ep,h1,h2,_⟩:=(show cR X.prog X.w H s.heap a (.dT kvs) from I.hok a _ ea)
  exact Yi PySem.W.kitx_dict I.kIn ⟨o,h1,h2.1⟩ e (λ z=>nomatch z) h
 | @ins a C dx fs ea cl ha hn htk hm =>
  cases (show u=Value.ref a from rx);obtain ⟨mA,O,_⟩:=mU I.hok ea;obtain ⟨od,J,_⟩:=O.look;exact Yi (PySem.W.kitx_own (cl.get _) cl.hd ha hn htk hm) I.kIn J e (λ z=>nomatch z) h
end
end L2
namespace L2
open PySem PySem.Spec PyProof.Rows
structure dm (k:Nat) (A:Around):Prop where
 hd:A.handled=none
 dp:A.depth+3 * k+5 < recursionLimit
 un:A.units+16 * k+200 < cLine
theorem dm.mono (r:dm k A) (h:j<=k):dm j A:=⟨r.hd,by have:=r.dp; omega,by have:=r.un; omega⟩
theorem dm.deeper (r:dm (k+1) A) (env:Env):dm k (A.deeper env) :=
 ⟨r.hd,by have:=r.dp; show A.depth+1+3 * k+5 < _; omega,by have:=r.un; show A.units+3+16 * k+200 < _; omega⟩
theorem sR {A:Around} {C:Addr} {us:List Value} {kw:List (Str×Value)}:(A.under (.builtin "type.__call__" ⟨.ref C::us,kw⟩)).depth=A.depth+1:=by
 first | rfl | simp [Around.under,Code.weight,Code.isCreation,Code.isGuard,Code.isCaller,Code.frames,Code.isFrame,guardIds]
theorem sQ {A:Around} {C:Addr} {us:List Value} {kw:List (Str×Value)}:(A.under (.builtin "type.__call__" ⟨.ref C::us,kw⟩)).units=A.units+1:=by
 first | rfl | simp [Around.under,Code.cUnits,Code.frames,Code.isFrame]
theorem dm.make (r:dm (k+1) A) (C:Addr) (us:List Value) (kw:List (Str×Value)):dm k (A.under (.builtin "type.__call__" ⟨.ref C::us,kw⟩)) :=
 ⟨r.hd,by have:=r.dp; rw [sR]; omega,by have:=r.un; rw [sQ]; omega⟩
theorem dm.depth (r:dm k A):A.depth < recursionLimit:=by have:=r.dp; omega
theorem dm.units (r:dm k A):A.units+64 < cLine:=by have:=r.un; omega
def Ha:TA:=λ _ H Q=>Q [] H
def xU (ta:TE) (tr:TA):TA:=λ σ H Q=>ta σ H λ x H1=>tr σ H1 λ xs H2=>Q (x::xs) H2
section
variable {X:Cx} {e:Expr} {es:List Expr} {te:TE} {t:TA} {pos:Pos}
theorem dr:PA X [] Ha:=λ _ _ _ _ H Q I h=>Calls.spliced_nil ⟨[],H,I,.nil,h⟩
theorem b7 (ha:PE X e te) (hr:PA X es t) (hs:starEach (e::es) X.env=(false,eval e X.env)::starEach es X.env:=by rfl):PA X (e::es) (xU te t):=by
 intro pos pins s σ H Q I h;rw [hs];show wpAny _ _ (spliced ((false,eval e X.env)::backTo pos (starEach es X.env))) _ _ s;refine Xi (thn (ha pins s σ H _ I h) λ u s1 ⟨x,H1,I1,r1,q1⟩=>?_);exact thn (hr pos pins s1 σ H1 _ I1 q1) λ us s2 ⟨xs,H2,I2,r2,q2⟩=>⟨x::xs,H2,I2,.cons r1 r2,q2⟩
def MM (t:TA):TE:=λ σ H Q=>t σ H λ xs H1=>xs.length<=sizeLine/\∀ p,H1 p=none->Q (.ref p) (upd H1 p (.tup xs))
def MR (t:TA):TE:=λ σ H Q=>t σ H λ xs H1=>xs.length<=sizeLine/\∀ p,H1 p=none->Q (.ref p) (upd H1 p (.lst xs))
theorem As {x1} (h:PA X es t):PE X (.Tuple es x1 pos) (MM t):=by
 intro pins s σ H Q I hq;refine wpAny_Tuple_spliced (thn (h pos pins s σ H _ I hq) λ us s1 ⟨xs,H1,I1,r,z,q⟩=>⟨by rw [<- r.length]; exact z,?_⟩);have hf:H1 s1.heap.objs.size=none:=I1.hok.fresh (Zn _);refine ⟨.ref s1.heap.objs.size,upd H1 s1.heap.objs.size (.tup xs),I1.laid (t':=s1.toks) (λ b u e=>Heap.get?_push_of_some _ e) (Zn _) ?_,rfl,q _ hf⟩;exact ⟨z,us,r,⟨_,Heap.get?_push_size _ rfl,rfl,_,rfl⟩⟩
theorem Au (h:PA X es t):PE X (.List es pos) (MR t):=by
 intro pins s σ H Q I hq;refine wpAny_List_spliced (thn (h pos pins s σ H _ I hq) λ us s1 ⟨xs,H1,I1,r,z,q⟩=>⟨by rw [<- r.length]; exact z,?_⟩);have hf:H1 s1.heap.objs.size=none:=I1.hok.fresh (Zn _);refine ⟨.ref s1.heap.objs.size,upd H1 s1.heap.objs.size (.lst xs),I1.laid (t':=s1.toks) (λ b u e=>Heap.get?_push_of_some _ e) (Zn _) ?_,rfl,q _ hf⟩;exact ⟨z,us,0,r,Heap.get?_push_size _ rfl⟩
end
abbrev Sp:=List V->Hp->VK->XK->Prop
abbrev CXT:=List Env->Hp->Shared->XK->Value->Shared->Prop
structure D5 (P:Program) (w:World) (K:W.Frag) (mg:Str->Option Value) (base:Heap) (A:Around) (outer:List Env) (s:Shared) (H:Hp):Prop where
 frames:A.frames=some outer
 mod:Mod K mg base
 bs:∀ b o,base.get? b=some o->s.heap.get? b=some o/\H b=none
 bsz:base.objs.size<=s.heap.objs.size
 tX:s.heap.FunFrames base outer
 frf:∀ b ∈ frs outer,H b=none
 hok:HOk P w H s.heap
 bare:AllBare s.gens
def CE (outer:List Env) (P:Program) (w:World) (H:Hp) (s:Shared) (Q:VK) (u:Value) (s':Shared):Prop :=
 ∃ v H',s'.os=s.os/\AllBare s'.gens/\Un (frs outer) [] H H' s.heap s'.heap/\HOk P w H' s'.heap/\RelV v u/\Q v H'
def CR (CX:CXT) (outer:List Env) (P:Program) (w:World) (H:Hp) (s:Shared) (Q:VK) (E:XK) (r:Result) (s':Shared):Prop :=
 match r with
 | .ok (.ret u)=>CE outer P w H s Q u s'
 | .ok _=>False
 | .error e=>CX outer H s E e s'
structure gY (P:Program) (w:World) (K:W.Frag) (mg:Str->Option Value) (base:Heap) (CX:CXT) (k:Nat) (f:Addr) (fd:FuncData) (ps:List Str) (sp:Sp):Prop where
 len:∀ vs H Q E,sp vs H Q E->vs.length=ps.length
 run:∀ (A:Around) (outer:List Env) (s:Shared) (H:Hp) (args:Args) (us:List Value) (vs:List V) (Q:VK) (E:XK),dm k A->D5 P w K mg base A outer s H->BindsTo s fd args (ps.zip us)->bN vs us->sp vs H Q E ->
  codeAny (model P w) A (.call (.ref f) args) (CR CX outer P w H s Q E) s
theorem gY.imp {P:Program} {w:World} {K:W.Frag} {mg:Str->Option Value} {base:Heap} {CX:CXT} {k:Nat} {f:Addr} {fd:FuncData} {ps:List Str} {sp sp':Sp} (F:gY P w K mg base CX k f fd ps sp)
  (h:∀ vs H Q E,sp' vs H Q E->sp vs H Q E):gY P w K mg base CX k f fd ps sp' :=
 ⟨λ vs H Q E q=>F.len vs H Q E (h _ _ _ _ q),λ A outer s H args us vs Q E hr he hb hv hs=>F.run A outer s H args us vs Q E hr he hb hv (h _ _ _ _ hs)⟩
theorem D5.make {P:Program} {w:World} {K:W.Frag} {mg:Str->Option Value} {base:Heap} {A:Around} {outer:List Env} {s:Shared} {H:Hp} (e:D5 P w K mg base A outer s H) (C:Addr) (us:List Value) (kw:List (Str×Value)) :
 D5 P w K mg base (A.under (.builtin "type.__call__" ⟨.ref C::us,kw⟩)) outer s H:=⟨by first | exact e.frames | (simpa [Around.under,Code.envs,Code.isFrame,pushEnvs] using e.frames),e.mod,e.bs,e.bsz,e.tX,e.frf,e.hok,e.bare⟩
section
variable {X:Cx} {pins:List (Addr×Obj)} {σ:St} {H:Hp} {s s':Shared}
theorem Inv.MH (I:Inv X pins σ H s):D5 X.prog X.w X.K X.mg X.base X.A X.stack s H :=
 ⟨I.ok.frames,I.ok.mod,I.bs,Z6 I.ok.bsz I.sz,I.stack,I.uq,I.hok,I.bare⟩
theorem Inv.after (I:Inv X pins σ H s) (h:CE X.stack X.prog X.w H s Q u s'):EP X pins σ Q u s':=by
 obtain ⟨v,H',os,bare,un,hok,r,q⟩:=h;obtain ⟨hh,g,d,t,os'⟩:=s';obtain rfl:os'=s.os:=os;exact ⟨v,H',I.call (h':=hh) (g':=g) (d':=d) (t':=t) (ch:=[]) un hok bare (λ b z=>absurd z (by simp)),r,q⟩
end
def Bl (sp:Sp) (dvs:List V) (E:XK) (t:TA):TE:=λ σ H Q=>t σ H λ vs H1=>sp (vs++dvs) H1 Q E
def Bi (C:Addr) (m:Str) (sp:Sp) (dvs:List V) (E:XK) (ta:TE) (t:TA):TE:=λ σ H Q=>ta σ H λ x H1=>∃ a dx fs,x=.ref a/\H1 a=some (.ins C dx fs)/\fs.lookup m=none /\
 t σ H1 λ vs H2=>sp (x::(vs++dvs)) H2 Q E
def IU (C:Addr) (sp:Sp) (dvs:List V) (E:XK) (t:TA):TE:=λ σ H Q=>t σ H λ vs H1=>∀ x dx,H1 x=none->H1 dx=none->dx≠x ->
 sp (.ref x::(vs++dvs)) (upd (upd H1 dx (.own x)) x (.ins C dx [])) (λ v H2=>v=.non/\Q (.ref x) H2) E
def Binds (K:W.Frag) (fd:FuncData) (ps:List Str) (ds:List Value):Prop :=
 ∀ (s:Shared) (us:List Value),K.In s.heap->(us++ds).length=ps.length->BindsTo s fd ⟨us,[]⟩ (ps.zip (us++ds))
theorem Binds.all {K:W.Frag} {fd:FuncData} {ps:List Str} (h:∀ us:List Value,us.length=ps.length->bindArgs fd ⟨us,[]⟩=pure (ps.zip us)):Binds K fd ps []:=λ s us _ hl=>by
 rw [Zx] at hl ⊢;exact .of_eq (h us hl)
def kX (CX:CXT) (X:Cx) (E:XK):Prop:=∀ (pins:List (Addr×Obj)) (σ:St) (H:Hp) (s:Shared) (e:Value) (s':Shared),Inv X pins σ H s->CX X.stack H s E e s'->X.xe e s'
section
variable {X:Cx} {CX:CXT} {k:Nat} {f C:Addr} {fd:FuncData} {ps:List Str} {sp:Sp} {dvs:List V} {ds:List Value} {E:XK} {x m:Str} {p pos apos:Pos} {e o:Expr} {es:List Expr} {ta:TE} {t:TA}
theorem uK (F:gY X.prog X.w X.K X.mg X.base CX k f fd ps sp) (hr:dm k X.A) (hb:Binds X.K fd ps ds) (hd:bN dvs ds) (hx:kX CX X E)
  (I:Inv X pins σ H s) (r:bN vs us) (h:sp (vs++dvs) H Q E):wpAny (model X.prog X.w) X.A (call (.ref f) us) (EP X pins σ Q) X.xe s:=by
 have r2:bN (vs++dvs) (us++ds):=r.append hd;have hl:(us++ds).length=ps.length:=by rw [<- r2.length]; exact F.len _ _ _ _ h
 refine wpAny_call (codeAny_mono (F.run X.A X.stack s H ⟨us,[]⟩ (us++ds) (vs++dvs) Q E hr I.MH (hb s us I.kIn hl) r2 h) λ r s' hq=>?_)
 cases r with
 | error e=>exact hx pins σ H s e s' I hq
 | ok fl =>
  cases fl with
  | ret u=>exact I.after hq
  | next=>exact False.elim hq
  | brk=>exact False.elim hq
  | cont=>exact False.elim hq
theorem pI (F:gY X.prog X.w X.K X.mg X.base CX k f fd ps sp) (hr:dm k X.A) (hg:Gl X x) (hm:X.mg x=some (.ref f)) (hk:W.keepIn X.K (.ref f)=true) (hb:Binds X.K fd ps ds) (hd:bN dvs ds) (hx:kX CX X E)
  (ha:PA X (e::es) t) (hdb:(x == ("__debug__":Str))=false:=by decide) (he:starEach (e::es) X.env=(false,eval e X.env)::starEach es X.env:=by rfl) (hpl:(backTo pos (starEach es X.env)).any (·.1)=false:=by rfl) :
  PE X (.Call (.Name x p) (e::es) [] pos) (Bl sp dvs E t):=by
 intro pins s σ H Q I h;refine Yt (pT I hg hm ?_ hdb);refine PySem.W.callWith_K (h₀:=X.base) I.ok.mod.kin hk (thn (ha pos pins s σ H _ I h) λ us s1 ⟨vs,H1,I1,r,q⟩=>⟨I1.kIn,?_⟩) he hpl;exact uK F hr hb hd hx I1 r q
theorem vq (he:PE X o ta) (c:Cls X.K C) (hm:A7 X.K C m f) (F:gY X.prog X.w X.K X.mg X.base CX k f fd ps sp) (hr:dm k X.A) (hb:Binds X.K fd ps ds) (hd:bN dvs ds) (hx:kX CX X E) (ha:PA X (e::es) t)
  (hst:starEach (e::es) X.env=(false,eval e X.env)::starEach es X.env:=by rfl) (hpl:(backTo pos (starEach es X.env)).any (·.1)=false:=by rfl)
  (ht:eval (.Call (.Attribute o m apos) (e::es) [] pos) X.env=(do
    let ov <- eval o X.env
    standAt apos.atName
    let (f,first) <- holding [ov] (getMethod ov m pl)
    callWith pos f first (backTo pos (starEach (e::es) X.env)) (backToKw pos (keywordEach [] X.env))):=by rfl) :
  PE X (.Call (.Attribute o m apos) (e::es) [] pos) (Bi C m sp dvs E ta t):=by
 intro pins s σ H Q I h;refine PySem.W.methodCall_KW (pl:=pl) (thn (he pins s σ H _ I h) λ u s1 ⟨x,H1,I1,rx,a,dx,fs,ex,ea,l,q⟩=>?_) ht;subst ex;obtain rfl:u=Value.ref a:=rx;refine l4 I1 ea c hm l ?_
 refine PySem.W.callWith_K (first:=[.ref a]) (h₀:=X.base) I.ok.mod.kin hm.kp (thn (ha pos pins s1 σ H1 _ I1 q) λ us s2 ⟨vs,H2,I2,r,q2⟩=>⟨I2.kIn,?_⟩) hst hpl;exact uK (us:=.ref a::us) (vs:=.ref a::vs) F hr hb hd hx I2 (.cons rfl r) q2
theorem yH (he:PE X o ta) (c:Cls X.K C) (hm:A7 X.K C m f) (F:gY X.prog X.w X.K X.mg X.base CX k f fd ps sp) (hr:dm k X.A) (hb:Binds X.K fd ps ds) (hd:bN dvs ds) (hx:kX CX X E)
  (ht:eval (.Call (.Attribute o m apos) [] [] pos) X.env=(do
    let ov <- eval o X.env
    standAt apos.atName
    let (f,first) <- holding [ov] (getMethod ov m pl)
    callWith pos f first (backTo pos (starEach [] X.env)) (backToKw pos (keywordEach [] X.env))):=by rfl) :
  PE X (.Call (.Attribute o m apos) [] [] pos) (Bi C m sp dvs E ta Ha):=by
 intro pins s σ H Q I h;refine PySem.W.methodCall_KW (pl:=pl) (thn (he pins s σ H _ I h) λ u s1 ⟨x,H1,I1,rx,a,dx,fs,ex,ea,l,q⟩=>?_) ht;subst ex;obtain rfl:u=Value.ref a:=rx;refine l4 I1 ea c hm l ?_
 exact PySem.W.callWith_K0 (first:=[.ref a]) I1.kIn hm.kp (uK (us:=[.ref a]) (vs:=[.ref a]) F hr hb hd hx I1 (.cons rfl .nil) q)
structure Mk (K:W.Frag) (C f:Addr):Prop where
 makes:PySem.W.makesIn K C=true
 init:W.findIn K (.ref C) "__init__"=some (some (.ref f))
 fn:PySem.W.isFn K (.ref f)=true
 kp:W.keepIn K (.ref C)=true
theorem ya (M:Mk X.K C f) (F:gY X.prog X.w X.K X.mg X.base CX k f fd ps sp) (hr:dm (k+1) X.A) (hb:Binds X.K fd ps ds) (hd:bN dvs ds)
  (hx:kX CX X E) (I:Inv X pins σ H s) (r:bN vs us)
  (h:∀ x dx,H x=none->H dx=none->dx≠x->sp (.ref x::(vs++dvs)) (upd (upd H dx (.own x)) x (.ins C dx [])) (λ v H2=>v=.non/\Q (.ref x) H2) E) :
  wpAny (model X.prog X.w) X.A (call (.ref C) us) (EP X pins σ Q) X.xe s:=by
 have hq:=h (s.heap.objs.size+1) s.heap.objs.size (I.hok.fresh (Nat.le_succ _)) (I.hok.fresh (Zn _)) (Zy (Xf _));have I2:=Inv.made (C:=C) I;have r2:bN (V.ref (s.heap.objs.size+1)::(vs++dvs)) (Value.ref (s.heap.objs.size+1)::(us++ds)):=.cons rfl (r.append hd)
 have hl:(Value.ref (s.heap.objs.size+1)::us++ds).length=ps.length:=by
  have e:=r2.length;rw [F.len _ _ _ _ hq] at e;exact e.symm
 refine wpAny_call (zf (f:=f) I.kIn M.makes M.init (beq_iff_eq.mp M.fn) (codeAny_mono (F.run _ X.stack _ _ ⟨Value.ref (s.heap.objs.size+1)::us,[]⟩ (Value.ref (s.heap.objs.size+1)::(us++ds)) _ _ E (hr.make C us [])
  (I2.MH.make C us []) (hb _ (Value.ref (s.heap.objs.size+1)::us) I2.kIn hl) r2 hq) λ r s' hq'=>?_))
 cases r with
 | error e=>exact hx pins σ _ _ e s' I2 hq'
 | ok fl =>
  cases fl with
  | ret u =>
   obtain ⟨v,H',I3,rv,ev,q3⟩:=I2.after hq';subst ev;exact ⟨rv,⟨V.ref (s.heap.objs.size+1),H',I3,rfl,q3⟩⟩
  | next=>exact False.elim hq'
  | brk=>exact False.elim hq'
  | cont=>exact False.elim hq'
theorem vr (M:Mk X.K C f) (F:gY X.prog X.w X.K X.mg X.base CX k f fd ps sp) (hr:dm (k+1) X.A) (hg:Gl X x) (hm:X.mg x=some (.ref C)) (hb:Binds X.K fd ps ds) (hd:bN dvs ds) (hx:kX CX X E)
  (ha:PA X (e::es) t) (hdb:(x == ("__debug__":Str))=false:=by decide) (he:starEach (e::es) X.env=(false,eval e X.env)::starEach es X.env:=by rfl) (hpl:(backTo pos (starEach es X.env)).any (·.1)=false:=by rfl) :
  PE X (.Call (.Name x p) (e::es) [] pos) (IU C sp dvs E t):=by
 intro pins s σ H Q I h;refine Yt (pT I hg hm ?_ hdb);refine PySem.W.callWith_K (h₀:=X.base) I.ok.mod.kin M.kp (thn (ha pos pins s σ H _ I h) λ us s1 ⟨vs,H1,I1,r,q⟩=>⟨I1.kIn,?_⟩) he hpl;exact ya M F hr hb hd hx I1 r q
end
def PK (X:Cx) (kws:List Keyword) (t:TA):Prop :=
 ∀ (pos:Pos) (pins:List (Addr×Obj)) (s:Shared) (σ:St) (H:Hp) (Q:List V->Hp->Prop),Inv X pins σ H s->t σ H Q->wpAny (model X.prog X.w) X.A (evalAll ((backToKw pos (keywordEach kws X.env)).map (·.2))) (AP X pins σ Q) X.xe s
section
variable {X:Cx} {CX:CXT} {k:Nat} {f C:Addr} {fd:FuncData} {ps ks:List Str} {sp:Sp} {E:XK} {x m:Str} {p pos apos kpos:Pos} {e o:Expr} {es:List Expr} {kws:List Keyword} {te ta:TE} {t tk:TA} {nm:Option Str}
theorem E4:PK X [] Ha:=λ _ _ _ _ H Q I h=>wpAny_evalAll_nil ⟨[],H,I,.nil,h⟩
theorem Cb (ha:PE X e te) (hr:PK X kws t):PK X (⟨nm,e,kpos⟩::kws) (xU te t):=by
 intro pos pins s σ H Q I h;show wpAny _ _ (evalAll ((do let v <- eval e X.env; standAt pos; pure v)::(backToKw pos (keywordEach kws X.env)).map (·.2))) _ _ s;refine wpAny_evalAll_cons (Zo (thn (ha pins s σ H _ I h) λ u s1 ⟨x,H1,I1,r1,q1⟩=>Zo (wpAny_standAt (Z1 ?_))));exact thn (hr pos pins s1 σ H1 _ I1 q1) λ us s2 ⟨xs,H2,I2,r2,q2⟩=>⟨x::xs,H2,I2,.cons r1 r2,q2⟩
variable {g:List Value->List Value->List Value} {gV:List V->List V->List V}
end
structure dJ (N P:List Str) (sc:Scope):Prop where
 kind:sc.kind=.function
 co:sc.isCoroutine=false
 gen:sc.isGenerator=false
 nd:N.Nodup
 pre:N.take P.length=P
 par:∀ x ∈ P,sc.names.lookup x=some .local\/sc.names.lookup x=some .cell
 FX:∀ y ∈ sc.names,y.2≠.free
theorem ph {kindOf:Str->Option NameKind} {x:Str}:∀ {binds:List (Str×Value)} {m:Str->Option Value},(∀ v,(x,v) ∉ binds)->bindL kindOf binds m x=m x
 | [],_,_=>rfl
 | (n,v)::r,m,h=>by
  unfold bindL;rw [ph λ w hw=>h w (Zd _ hw)];split
  ·have:x≠n:=by rintro rfl; exact h v Ze
   simp [this]
  · rfl
theorem pk {kindOf:Str->Option NameKind} {x:Str}:∀ {binds:List (Str×Value)} {m:Str->Option Value},(∀ v,(x,v) ∉ binds)->bindC kindOf binds m x=m x
 | [],_,_=>rfl
 | (n,v)::r,m,h=>by
  unfold bindC;rw [pk λ w hw=>h w (Zd _ hw)];split
  · rfl
  ·have:x≠n:=by rintro rfl; exact h v Ze
   simp [this]
theorem pj {kindOf:Str->Option NameKind} {x:Str} {v:Value}:∀ {P:List Str} {vs:List Value} {i:Nat} {m:Str->Option Value},P.Nodup->P[i]?=some x->vs[i]?=some v->kindOf x=some .local ->
  bindL kindOf (P.zip vs) m x=some v
 | [],_,_,_,_,h,_,_=>by simp at h
 | _::_,[],_,_,_,_,h,_=>by simp at h
 | p::P,w::vs,0,m,nd,h1,h2,hk=>by
  simp at h1 h2; subst h1; subst h2
  show bindL kindOf ((p,w)::P.zip vs) m p=_;unfold bindL;rw [ph λ v hv=>(Zw.mp nd).1 (List.of_mem_zip hv).1,if_pos hk];simp
 | p::P,w::vs,i+1,m,nd,h1,h2,hk=>by
  show bindL kindOf ((p,w)::P.zip vs) m x=_;unfold bindL;exact pj (i:=i) (Zw.mp nd).2 (by simpa using h1) (by simpa using h2) hk
theorem pq {kindOf:Str->Option NameKind} {x:Str} {v:Value}:∀ {P:List Str} {vs:List Value} {i:Nat} {m:Str->Option Value},P.Nodup->P[i]?=some x->vs[i]?=some v->kindOf x≠some .local ->
  bindC kindOf (P.zip vs) m x=some v
 | [],_,_,_,_,h,_,_=>by simp at h
 | _::_,[],_,_,_,_,h,_=>by simp at h
 | p::P,w::vs,0,m,nd,h1,h2,hk=>by
  simp at h1 h2; subst h1; subst h2
  show bindC kindOf ((p,w)::P.zip vs) m p=_;unfold bindC;rw [pk λ v hv=>(Zw.mp nd).1 (List.of_mem_zip hv).1,if_neg hk];simp
 | p::P,w::vs,i+1,m,nd,h1,h2,hk=>by
  show bindC kindOf ((p,w)::P.zip vs) m x=_;unfold bindC;exact pq (i:=i) (Zw.mp nd).2 (by simpa using h1) (by simpa using h2) hk
def start (N:List Str) (vs:List V):St:=vs.map some++List.replicate (N.length - vs.length) none
def zX (CX:CXT) (P:Program) (w:World) (K:W.Frag) (mg:Str->Option Value) (base:Heap) (N:List Str) (qual:Str) (scope:Scope) (f:Addr) (cd:Value) (A:Around) (outer:List Env) (s:Shared) (H:Hp) (E:XK):Cx where
 prog:=P
 w:=w
 K:=K
 mg:=mg
 base:=base
 A:=A.deeper (envOfC qual scope s.heap.objs.size f cd)
 N:=N
 s₀:=s
 H₀:=H
 env:=envOfC qual scope s.heap.objs.size f cd
 outer:=outer
 stack:=envOfC qual scope s.heap.objs.size f cd::outer
 ex:=[]
 calm:=true
 fn:=λ _=>true
 pn:=[]
 xe:=λ e s'=>wpAny (model P w) (A.deeper (envOfC qual scope s.heap.objs.size f cd)) (leaving (envOfC qual scope s.heap.objs.size f cd) e) (λ _ s''=>CX outer H s E e s'') (λ e' s''=>CX outer H s E e' s'') s'
theorem rS {sc:Scope} {n:Nat} {x:Str} (h:sc.names.lookup x=some .cell):∃ c,(cellsFrom n sc.names []).lookup x=some c:=by
 have q:=PySem.W.cellsFrom_some sc.names n [] (.inl h);exact Y8.mp q
theorem wA {CX:CXT} {P:Program} {w:World} {K:W.Frag} {mg:Str->Option Value} {base:Heap} {N ps:List Str} {qual:Str} {scope:Scope} {f:Addr} {cd:Value} {A:Around} {outer:List Env} {s s1:Shared} {H:Hp} {E:XK} {us:List Value} {vs:List V}
  (S:dJ N ps scope) (hd:A.handled=none) (e0:D5 P w K mg base A outer s H) (hl:vs.length=ps.length) (r:bN vs us)
  (x:InCallC s s.heap.objs.size (bindL (envOfC qual scope s.heap.objs.size f cd).kindOf (ps.zip us) λ _=>none) (cellsFrom (s.heap.objs.size+1) scope.names []) (bindC (envOfC qual scope s.heap.objs.size f cd).kindOf (ps.zip us) λ _=>none) s1) :
  Inv (zX CX P w K mg base N qual scope f cd A outer s H E) [] (start N vs) H s1:=by
 have hpl:ps.length<=N.length:=by have:=Yn List.length S.pre; rw [Y0] at this; omega
 obtain ⟨h1,tk,rfl,hk⟩:=x.done;have noA:∀ b:Addr,b ∉ (zX CX P w K mg base N qual scope f cd A outer s H E).ex:=λ b z=>absurd (show b ∈ ([]:List Addr) from z) (by simp)
 refine ⟨⟨e0.mod,S.kind,rfl,rfl,Zn _,λ y z c h1 h2=>?_,λ y hy=>?_,λ y c _ h=>?_,λ _=>hd,Around.frames_deeper e0.frames,.inr ⟨rfl,rfl⟩,λ b z=>absurd z (noA b),e0.bs,e0.bsz,λ b _ _=>noA b,λ b z=>absurd z (noA b),e0.tX,e0.frf⟩,
  rfl,e0.bare,Un.kept hk,⟨_,x.toInCall.ns,λ i y v h1 h2 h3=>?_⟩,λ y c h=>⟨_,x.cell y c h⟩,e0.hok.fresh (Zn _),λ y c h=>?_,λ p hp=>absurd (show p ∈ ([]:List (Addr×Obj)) from hp) (by simp),e0.hok.kept hk,?_⟩
 · exact name_of_addr x.apart (Yj h1) (Yj h2)
 ·have hy:scope.names.lookup y=some .cell\/scope.names.lookup y=some .free:=hy
  rcases hy with hy | hy
  · exact rS hy
  · exact absurd rfl (S.FX _ (Yj hy))
 · exact Yo (x.above y c (Yj h))
 ·have hi:i < vs.length:=by
   unfold start at h2
   by_cases hi:i < vs.length
   · exact hi
   ·rw [List.getElem?_append_right (by simpa using hi)] at h2
    rw [List.getElem?_replicate] at h2;split at h2 <;> cases h2
  have ha:vs[i]?=some v:=by
   unfold start at h2;rw [List.getElem?_append_left (by simpa using hi),List.getElem?_map] at h2
   cases e:vs[i]? with
   | none=>rw [e] at h2; cases h2
   | some a=>rw [e] at h2; cases h2; rfl
  obtain ⟨u,hu,rv⟩:=r.get ha
  have hp:ps[i]?=some y:=by
   rw [<- S.pre,List.getElem?_take_of_lt (by omega)]; exact h1
  have ndP:ps.Nodup:=by rw [<- S.pre]; exact S.nd.sublist (List.take_sublist _ _)
  refine ⟨u,rv,?_⟩;rcases S.par y (List.mem_of_getElem? hp) with k | k
  · exact .inl ⟨k,pj ndP hp hu k⟩
  ·obtain ⟨c,e⟩:=rS (n:=s.heap.objs.size+1) k
   refine .inr ⟨.inl k,c,e,?_⟩;have q:=x.cell y c e;rw [pq ndP hp hu (by show scope.names.lookup y≠_; rw [k]; decide)] at q;exact q
 · exact e0.hok.fresh (Yo (x.above y c (Yj h)))
 ·unfold start
  show _=N.length;rw [Zz,Za,List.length_replicate];omega
theorem Lr {CX:CXT} {P:Program} {w:World} {K:W.Frag} {mg:Str->Option Value} {base:Heap} {k:Nat} {f:Addr} {name qual:Str} {params:Arguments} {body:List Stmt} {scope:Scope} {dV kV doc pm cdv ct oc:Value} {an od:Option Addr}
  {osl:Array (Option Value)} {N ps:List Str} {sp:Sp} (lk:K.lookup f=some ⟨oc,od,.func (PySem.W.fnOf name qual params body scope dV kV doc pm an cdv ct),osl⟩) (hcd:PySem.W.codeIn K cdv qual=true) (S:dJ N ps scope)
  (len:∀ vs H Q E,sp vs H Q E->vs.length=ps.length)
  (hbody:∀ (A:Around) (outer:List Env) (s:Shared) (H:Hp) (vs:List V) (Q:VK) (E:XK),dm k (A.deeper (envOfC qual scope s.heap.objs.size f cdv))->sp vs H Q E ->
    ∃ t,PSs (zX CX P w K mg base N qual scope f cdv A outer s H E) body t/\t { nx:=λ _ H'=>Q .non H',rt:=Q } (start N vs) H) :
  gY P w K mg base CX (k+1) f (PySem.W.fnOf name qual params body scope dV kV doc pm an cdv ct) ps sp:=by
 refine ⟨len,λ A outer s H args us vs Q E hr e0 hb r hsp=>?_⟩;have hl:=len _ _ _ _ hsp;have KX:K.In s.heap:=e0.mod.kin.keeps λ b o e=>(e0.bs b o e).1
 have lim:s.heap.NoLimit:=e0.mod.nolimit.keeps λ b o e=>(e0.bs b o e).1
 have hkind:∀ y ∈ ps.zip us,scope.names.lookup y.1=some .local\/(scope.names.lookup y.1=some .cell/\((cellsFrom (s.heap.objs.size+1) scope.names []).lookup y.1).isSome=true):=λ ⟨n,v⟩ hy=>by
  rcases S.par n (List.of_mem_zip hy).1 with q | q
  · exact .inl q
  · exact .inr ⟨q,PySem.W.cellsFrom_some _ _ _ (.inl q)⟩
 refine codeAny_call_function hr.depth (KX _ _ lk) rfl S.co S.gen rfl (PySem.W.codeRec_of KX hcd) (hb _ _ _ _ ?_);refine wpAny_newFunctionEnv_cells S.kind hkind λ env he s1 x=>?_
 subst he;refine ⟨lim.keeps x.toInCall.keep,codeAny_func ?_⟩;obtain ⟨t,ht,hq⟩:=hbody A outer s H vs Q E (hr.deeper _) hsp;have I:Inv (zX CX P w K mg base N qual scope f cdv A outer s H E) [] (start N vs) H s1:=wA S hr.hd e0 hl r x;refine Ym (ht [] s1 (start N vs) H _ I hq) (λ fl s' hs=>?_) λ e s' hs=>hs
 have fin:∀ {σ':St} {H':Hp} {v:V} {u:Value},Inv (zX CX P w K mg base N qual scope f cdv A outer s H E) [] σ' H' s'->RelV v u->Q v H'->CE outer P w H s Q u s' :=
  λ {σ' H' v u} J rv q=>⟨v,H',J.os,J.bare,J.base,J.hok,rv,q⟩
 cases fl with
 | ret u =>
  obtain ⟨v,σ',H',J,rv,q⟩:=hs;exact fin J rv q
 | next =>
  obtain ⟨σ',H',J,q⟩:=hs;exact fin (v:=V.non) (u:=Value.none) J rfl q
 | brk =>
  obtain ⟨_,_,_,q⟩:=hs;exact False.elim q
 | cont =>
  obtain ⟨_,_,_,q⟩:=hs;exact False.elim q
end L2
namespace L2
open PySem PySem.Spec PyProof.Rows
section
variable {X:Cx} {x:Str} {p pos:Pos} {e:Expr} {es:List Expr} {t:TA} {id T:String} {r:List V->Hp->VK->Prop}
def tCB (r:List V->Hp->VK->Prop) (t:TA):TE:=λ σ H Q=>t σ H λ vs H1=>r vs H1 Q
theorem qR (hc:fo X (.builtin id) r) (hg:Gl X x) (hm:X.mg x=none) (hv:bootBuiltins x=some (.builtin id)) (ha:PA X (e::es) t) (hn:x≠"__name__":=by decide) (hdb:(x == ("__debug__":Str))=false:=by decide)
  (he:starEach (e::es) X.env=(false,eval e X.env)::starEach es X.env:=by rfl) (hpl:(backTo pos (starEach es X.env)).any (·.1)=false:=by rfl):PE X (.Call (.Name x p) (e::es) [] pos) (tCB r t):=by
 intro pins s σ H Q I h;refine Yt (ka I hg hm hv ?_ hn hdb);exact PyProof.Rows.callWith_builtin1 (thn (ha pos pins s σ H _ I h) λ us s1 ⟨vs,H1,I1,r1,q1⟩=>hc pins s1 σ H1 vs us Q I1 r1 q1) he hpl
theorem vw (hc:fo X (.type T) r) (hg:Gl X x) (hm:X.mg x=none) (hv:bootBuiltins x=some (.type T)) (ha:PA X (e::es) t) (hn:x≠"__name__":=by decide) (hdb:(x == ("__debug__":Str))=false:=by decide)
  (he:starEach (e::es) X.env=(false,eval e X.env)::starEach es X.env:=by rfl) (hpl:(backTo pos (starEach es X.env)).any (·.1)=false:=by rfl):PE X (.Call (.Name x p) (e::es) [] pos) (tCB r t):=by
 intro pins s σ H Q I h;refine Yt (ka I hg hm hv ?_ hn hdb);exact Yy (thn (ha pos pins s σ H _ I h) λ us s1 ⟨vs,H1,I1,r1,q1⟩=>hc pins s1 σ H1 vs us Q I1 r1 q1) he hpl
end
end L2
namespace HT
open PySem PyProof.Rows
theorem zO (A:Around) (s:Shared) (a:Int) (t:Tok) (c:Int) (u:Tok):∃ e,SeqAt.EqAt A s (.int a t) (.int c u) e/\(e=true↔a=c) :=
 ⟨(a == c),SeqAt.EqAt.int_int a t c u,by simp⟩
end HT
namespace L2
open PySem PySem.Spec PyProof.Rows
abbrev TO:=St->Hp->(Option Int->Hp->Prop)->Prop
def PO (X:Cx) (e:Option Expr) (t:TO):Prop :=
  ∀ (pins:List (Addr×Obj)) (s:Shared) (σ:St) (H:Hp) (Q:Option Int->Hp->Prop),Inv X pins σ H s->t σ H Q ->
    wpAny (model X.prog X.w) X.A (evalPart e X.env) (λ u s'=>∃ o H',Inv X pins σ H' s'/\IsPart u o/\Q o H') X.xe s
def Bh:TO:=λ _ H Q=>Q none H
def IQ (t:TE):TO:=λ σ H Q=>t σ H λ x H1=>∃ i,x=.int i/\Q (some i) H1
section
variable {X:Cx} {e:Expr} {te:TE} {lo hi:Option Expr} {tl th:TO} {pos p2:Pos}
theorem B0:PO X none Bh:=by
 intro pins s σ H Q I h;rw [evalPart_none];exact Z1 ⟨none,H,I,.none,h⟩
theorem BZ (h:PE X e te):PO X (some e) (IQ te):=by
 intro pins s σ H Q I hw;rw [evalPart_some];refine thn (h pins s σ H _ I hw) λ u s1 ⟨x,H1,I1,r1,q1⟩=>?_
 obtain ⟨i,rfl,q⟩:=q1;obtain ⟨t,rfl⟩:=r1;exact ⟨some i,H1,I1,.int i t,q⟩
def SlR (X:Cx) (r:V->Option Int->Option Int->Hp->VK->Prop):Prop :=
  ∀ (pins:List (Addr×Obj)) (s:Shared) (σ:St) (H:Hp) (x:V) (v vl vu:Value) (lo hi:Option Int) (sl:Addr) (Q:VK),Inv X pins σ H s->RelV x v->s.heap.IsSliceOf sl vl vu .none->IsPart vl lo->IsPart vu hi->r x lo hi H Q ->
    ∃ T id,typeLookup (.type T) "__getitem__"=pure (some (.builtin id))/\s.TypeIs v T/\wpAny (model X.prog X.w) X.A (getItem v (.ref sl)) (EP X pins σ Q) X.xe s
def tSl (r:V->Option Int->Option Int->Hp->VK->Prop) (te:TE) (tl th:TO):TE:=λ σ H Q=>te σ H λ x H1=>tl σ H1 λ l H2=>th σ H2 λ u H3=>r x l u H3 Q
theorem yG (hr:SlR X r) (he:PE X e te) (hl:PO X lo tl) (hu:PO X hi th):PE X (.Subscript e (.Slice lo hi none p2) pos) (tSl r te tl th):=by
 intro pins s σ H Q I h;refine Subscript_ (thn (he pins s σ H _ I h) λ v s1 ⟨x,H1,I1,r1,q1⟩=>?_);refine wpAny_Slice (thn (hl pins s1 σ H1 _ I1 q1) λ vl s2 ⟨l,H2,I2,pl,q2⟩=>thn (hu pins s2 σ H2 _ I2 q2) λ vu s3 ⟨u,H3,I3,pu,q3⟩=>?_);rw [evalPart_none];refine Z1 ?_
 have I4:Inv X pins σ H3 { s3 with heap:=s3.heap.push { cls:=.type "slice",data:=.fields #[vl,vu,.none] } }:=I3.kept (t':=s3.toks) λ b ob q=>Heap.get?_push_of_some _ q
 obtain ⟨T,id,hT,ht,hg⟩:=hr pins { s3 with heap:=s3.heap.push { cls:=.type "slice",data:=.fields #[vl,vu,.none] } } σ H3 x v vl vu l u s3.heap.objs.size Q I4 r1 (Heap.IsSliceOf.new ..) pl pu q3;show wpAny (model X.prog X.w) X.A (subscriptTail e (.Slice lo hi none p2) v (.ref s3.heap.objs.size)) (EP X pins σ Q) X.xe { s3 with heap:=s3.heap.push { cls:=.type "slice",data:=.fields #[vl,vu,.none] } };exact tail_any (ops:=[.ref s3.heap.objs.size,v]) ht hT hg (by with_unfolding_all rfl)
end
end L2
namespace L2
open PySem PySem.Spec PyProof.Rows
def ixN (n:Nat) (i:Int):Option Nat:=if 0<=i then (if i < n then some i.toNat else none) else if -(n:Int)<=i then some (i+n).toNat else none
def atI {α:Type} (xs:List α) (i:Int):Option α:=(ixN xs.length i).bind λ j=>xs[j]?
theorem Dr (h:ixN n i=some j):seqIndex? i n=some j/\j < n/\-(n:Int)<=i/\i < n:=by
 unfold ixN at h
 by_cases h0:0<=i
 ·rw [if_pos h0] at h
  by_cases h1:i < n
  ·rw [if_pos h1] at h
   have e:i.toNat=j:=Zj h;exact ⟨by rw [seqIndex_of h0 h1,e],by omega,by omega,h1⟩
  · rw [if_neg h1] at h; cases h
 ·rw [if_neg h0] at h
  by_cases h1:-(n:Int)<=i
  ·rw [if_pos h1] at h
   have e:(i+n).toNat=j:=Zj h;exact ⟨by rw [seqIndex_neg (by omega) h1,e],by omega,h1,by omega⟩
  · rw [if_neg h1] at h; cases h
theorem qq {α:Type} {xs:List α} {v:α} (h:atI xs i=some v):∃ j,seqIndex? i xs.length=some j/\xs[j]?=some v/\j < xs.length/\-(xs.length:Int)<=i/\i < xs.length:=by
 unfold atI at h
 cases e:ixN xs.length i with
 | none=>rw [e] at h; cases h
 | some j =>
  rw [e] at h;obtain ⟨h1,h2,h3,h4⟩:=Dr e;exact ⟨j,h1,h,h2,h3,h4⟩
theorem xI {α:Type} {xs:List α} {j:Nat} {v:α} (h:xs[j]?=some v):atI xs (j:Int)=some v:=by
 have hj:j < xs.length:=(List.getElem?_eq_some_iff.mp h).1
 have e:ixN xs.length (j:Int)=some j:=by
  unfold ixN;rw [if_pos (by omega),if_pos (by omega)]; simp
 unfold atI; rw [e]; exact h
def kW (b:Expr):Prop:=∀ o i,subscripted b false o i=operate [o,i] (getItem o i)
def IxR (X:Cx) (r:R2):Prop :=
  ∀ (value slice:Expr) (pins:List (Addr×Obj)) (s:Shared) (σ:St) (H:Hp) (x y:V) (v u:Value) (Q:VK),Inv X pins σ H s->RelV x v->RelV y u->r x y H Q ->
    subscripted slice false v u=operate [v,u] (getItem v u)->wpAny (model X.prog X.w) X.A (subscriptTail value slice v u) (EP X pins σ Q) X.xe s
def MtR (X:Cx) (id:String) (r:V->List V->Hp->VK->Prop):Prop :=
  ∀ (pins:List (Addr×Obj)) (s:Shared) (σ:St) (H:Hp) (x:V) (xs:List V) (v:Value) (us:List Value) (Q:VK),Inv X pins σ H s->RelV x v->bN xs us->r x xs H Q ->
    wpAny (model X.prog X.w) X.A (call (.builtin id) (v::us)) (EP X pins σ Q) X.xe s
section
variable {X:Cx} {a b:Expr} {ta tb:TE} {pos:Pos}
theorem IxR.or (h:IxR X r) (h':IxR X r'):IxR X (λ x y H Q=>r x y H Q\/r' x y H Q):=by
 intro value slice pins s σ H x y v u Q I rx ry q hs;rcases q with q | q
 · exact h value slice pins s σ H x y v u Q I rx ry q hs
 · exact h' value slice pins s σ H x y v u Q I rx ry q hs
theorem Fd (hr:IxR X r) (ha:PE X a ta) (hb:PE X b tb) (hs:kW b):PE X (.Subscript a b pos) (tOp r ta tb):=by
 intro pins s σ H Q I h;exact Subscript_ (LI ha hb I h λ v u s2 x y H2 I2 rx ry q=>hr a b pins s2 σ H2 x y v u Q I2 rx ry q (hs _ _))
def Nl (K:W.Frag):R2:=λ x y H Q=>∃ p xs i v,x=.ref p/\y=.int i/\SqL K H p xs/\atI xs i=some v/\Q v H
def Nj (K:W.Frag):R2:=λ x y H Q=>∃ p xs i v,x=.ref p/\y=.int i/\SqT K H p xs/\atI xs i=some v/\Q v H
def Nk:R2:=λ x y H Q=>∃ z i c,x=.str z/\y=.int i/\z.length<=sizeLine/\atI z.cps.toList i=some c/\Q (.str ⟨#[c]⟩) H
theorem wt:IxR X (Nl X.K):=by
 intro value slice pins s σ H x y v u Q I rx ry h hs;obtain ⟨p,xs,i,z,rfl,rfl,hq,he,q⟩:=h;cases rx;obtain ⟨t,rfl⟩:=ry;obtain ⟨its,r,pl,hz⟩:=I.list hq;obtain ⟨j,h1,h2,h3,h4,h5⟩:=qq he;obtain ⟨w,ew,rw'⟩:=r.get h2;have hl:=r.length;have hn:=og;have fin:EP X pins σ Q w s:=⟨z,H,I,rw',q⟩
 by_cases h0:0<=i
 ·have hj:i.toNat=j:=by
   rw [seqIndex_of h0 h5] at h1;exact Zj h1
  exact item_listR pl.isList h0 (by omega) (by rw [hj]; simpa using ew) fin hs
 ·have hj:(i+(its.toArray.size:Int)).toNat=j:=by
   rw [seqIndex_neg (by omega) h4] at h1;rw [Zr,<- hl];exact Zj h1
  exact subscriptTail_builtinR (x:=w) pl.isList.typeIs slot_list_getitem.lookup
   (wpAny_getItem_list_neg (Q:=λ r s'=>r=w/\EP X pins σ Q r s') pl.isList (by omega) (by rw [Zr] <;> omega) (by omega) (by rw [hj]; simpa using ew) ⟨rfl,fin⟩) hs
theorem Gi:IxR X (Nj X.K):=by
 intro value slice pins s σ H x y v u Q I rx ry h hs;obtain ⟨p,xs,i,z,rfl,rfl,hq,he,q⟩:=h;cases rx;obtain ⟨t,rfl⟩:=ry;obtain ⟨its,r,pl,hz⟩:=I.tuple hq;obtain ⟨j,h1,h2,h3,h4,h5⟩:=qq he;obtain ⟨w,ew,rw'⟩:=r.get h2;have hl:=r.length;have hn:=og;have fin:EP X pins σ Q w s:=⟨z,H,I,rw',q⟩
 exact subscriptTail_builtinR (x:=w) pl.typeIs slot_tuple_getitem.lookup
  (getItem_tuple (j:=j) (Q:=λ r s'=>r=w/\EP X pins σ Q r s') pl (by omega) (by omega) (by rw [Zr,<- hl]; exact h1) (by simpa using ew) ⟨rfl,fin⟩) hs
theorem Gj:IxR X Nk:=by
 intro value slice pins s σ H x y v u Q I rx ry h hs;obtain ⟨z,i,c,rfl,rfl,hz,he,q⟩:=h;obtain ⟨t,rfl⟩:=rx;obtain ⟨t',rfl⟩:=ry;obtain ⟨j,h1,h2,h3,h4,h5⟩:=qq he;have hl:z.cps.toList.length=z.length:=by simp [Str.length]
 rw [hl] at h1 h4 h5;have hn:=og
 exact tail_any (typeIs_str s z t) slot_str_getitem.lookup (getItem_str (c:=c) (by
  have e1:decide (i < -(2 ^ 63:Int))=false:=Zk (by omega);have e2:decide (i ≥ 2 ^ 63)=false:=Zk (by omega)
  rw [e1,e2,Bool.or_false]) (by rw [h1]; simpa using h2) ⟨.str ⟨#[c]⟩,H,I.tok _,⟨_,rfl⟩,q⟩) hs
def lJ:V->Bool
 | .non=>true
 | .bl _=>true
 | .int _=>true
 | .str _=>true
 | _=>false
def eqV:V->V->Bool
 | .non,.non=>true
 | .bl a,.bl b=>a == b
 | .bl a,.int b=>(if a then 1 else 0) == b
 | .int a,.bl b=>a == (if b then 1 else 0)
 | .int a,.int b=>a == b
 | .str a,.str b=>a == b
 | _,_=>false
theorem GH (ry:RelV y u) (rx:RelV x v) (fy:lJ y=true) (fx:lJ x=true):SeqAt.EqAt A s u v (eqV y x):=by
 cases y with
 | non =>
  cases ry
  cases x with
  | non=>cases rx; exact SeqAt.EqAt.same _
  | bl b=>cases rx; exact SeqAt.EqAt.none_bool b
  | int b=>obtain ⟨t,rfl⟩:=rx; exact SeqAt.EqAt.none_int b t
  | str b=>obtain ⟨t,rfl⟩:=rx; exact SeqAt.EqAt.none_str b t
  | _=>exact absurd (show false=true from fx) Zf
 | bl a =>
  cases ry
  cases x with
  | non=>cases rx; exact SeqAt.EqAt.bool_none a
  | bl b=>cases rx; exact SeqAt.EqAt.bool_bool a b
  | int b=>obtain ⟨t,rfl⟩:=rx; exact SeqAt.EqAt.bool_int a b t
  | str b=>obtain ⟨t,rfl⟩:=rx; exact SeqAt.EqAt.bool_str a b t
  | _=>exact absurd (show false=true from fx) Zf
 | int a =>
  obtain ⟨t',rfl⟩:=ry
  cases x with
  | non=>cases rx; exact SeqAt.EqAt.int_none a t'
  | bl b=>cases rx; exact SeqAt.EqAt.int_bool a t' b
  | int b=>obtain ⟨t,rfl⟩:=rx; exact SeqAt.EqAt.int_int a t' b t
  | str b=>obtain ⟨t,rfl⟩:=rx; exact SeqAt.EqAt.int_str a t' b t
  | _=>exact absurd (show false=true from fx) Zf
 | str a =>
  obtain ⟨t',rfl⟩:=ry
  cases x with
  | non=>cases rx; exact SeqAt.EqAt.str_none a t'
  | bl b=>cases rx; exact SeqAt.EqAt.str_bool a t' b
  | int b=>obtain ⟨t,rfl⟩:=rx; exact SeqAt.EqAt.str_int a t' b t
  | str b=>obtain ⟨t,rfl⟩:=rx; exact SeqAt.EqAt.str_str a t' b t
  | _=>exact absurd (show false=true from fx) Zf
 | _=>exact absurd (show false=true from fy) Zf
def eqU (x:V) (u:Value):Bool:=match u with
 | .none=>eqV .non x
 | .bool b=>eqV (.bl b) x
 | .int i _=>eqV (.int i) x
 | .str z _=>eqV (.str z) x
 | _=>false
theorem AX (r:RelV y u) (f:lJ y=true):eqU x u=eqV y x:=by
 cases y with
 | non=>cases r; rfl
 | bl b=>cases r; rfl
 | int i=>obtain ⟨t,rfl⟩:=r; rfl
 | str z=>obtain ⟨t,rfl⟩:=r; rfl
 | _=>exact absurd (show false=true from f) Zf
theorem kU:∀ {xs:List V} {us:List Value},bN xs us->xs.all lJ=true->us.any (eqU x)=xs.any λ y=>eqV y x
 | _,_,.nil,_=>rfl
 | y::xs,u::us,.cons r t,f=>by
  rw [Xw,Yp] at f;rw [Yz,Yz,AX r f.1,kU t f.2]
theorem ib (rx:RelV x v) (fx:lJ x=true):∀ {xs:List V} {us:List Value},bN xs us->xs.all lJ=true->∀ u ∈ us,SeqAt.EqAt A s u v (eqU x u)
 | _,_,.nil,_=>λ u hu=>by cases hu
 | y::xs,u::us,.cons r t,f=>λ u' hu=>by
  rw [Xw,Yp] at f;rcases Zl.mp hu with rfl | hu
  · rw [AX r f.1]; exact GH r rx f.1 fx
  · exact ib rx fx t f.2 u' hu
def inV (x:V) (xs:List V):Bool:=xs.any λ y=>eqV y x
def rIn (K:W.Frag) (neg:Bool):R2:=λ x y H Q=>∃ p xs,y=.ref p/\(SqL K H p xs\/SqT K H p xs)/\lJ x=true/\xs.all lJ=true/\Q (.bl (if neg then !inV x xs else inV x xs)) H
theorem vB:OpR X (compareOp .In) (rIn X.K false):=by
 intro pins s σ H x y v u Q I rx ry h;obtain ⟨p,xs,rfl,hq,fx,fs,q⟩:=h;cases ry;rcases hq with hq | hq
 ·obtain ⟨its,r,pl,hz⟩:=I.list hq
  refine SeqAt.in_listAt (eqU x) pl.isList (λ w hw=>ib rx fx r fs w (by simpa using hw)) ⟨.bl _,H,I,rfl,?_⟩;rw [show its.toArray.any (eqU x)=its.any (eqU x) by simp,kU r fs];exact q
 ·obtain ⟨its,r,pl,hz⟩:=I.tuple hq
  refine SeqAt.in_tupleAt (eqU x) pl (λ w hw=>ib rx fx r fs w (by simpa using hw)) ⟨.bl _,H,I,rfl,?_⟩;rw [show its.toArray.any (eqU x)=its.any (eqU x) by simp,kU r fs];exact q
theorem nQ:OpR X (compareOp .NotIn) (rIn X.K true):=by
 intro pins s σ H x y v u Q I rx ry h;obtain ⟨p,xs,rfl,hq,fx,fs,q⟩:=h;cases ry;rcases hq with hq | hq
 ·obtain ⟨its,r,pl,hz⟩:=I.list hq
  refine SeqAt.notIn_listAt (eqU x) pl.isList (λ w hw=>ib rx fx r fs w (by simpa using hw)) ⟨.bl _,H,I,rfl,?_⟩;rw [show its.toArray.any (eqU x)=its.any (eqU x) by simp,kU r fs];exact q
 ·obtain ⟨its,r,pl,hz⟩:=I.tuple hq
  refine SeqAt.notIn_tupleAt (eqU x) pl (λ w hw=>ib rx fx r fs w (by simpa using hw)) ⟨.bl _,H,I,rfl,?_⟩;rw [show its.toArray.any (eqU x)=its.any (eqU x) by simp,kU r fs];exact q
theorem oX:fo X (.type "list") (λ xs H Q=>∃ p ys,xs=[.ref p]/\(SqL X.K H p ys\/SqT X.K H p ys)/\∀ l,H l=none->Q (.ref l) (upd H l (.lst ys))):=by
 intro pins s σ H xs us Q I r h;obtain ⟨p,ys,rfl,hq,q⟩:=h;obtain ⟨u,rfl,rx⟩:=vals1 r;cases rx
 have fin:∀ (its:List Value),bN ys its->ys.length<=sizeLine->∀ (h':Heap) (c':Nat),(∀ b o',s.heap.get? b=some o'->h'.get? b=some o') ->
   h'.get? s.heap.objs.size=some { cls:=.type "list",dict:=none,data:=.seq its.toArray c',slots:=#[] }->EP X pins σ Q (.ref s.heap.objs.size) { s with heap:=h' }:=λ its r' hz h' c' kp e =>
  ⟨.ref s.heap.objs.size,_,I.laid (t':=s.toks) kp (Zn _) (show cR X.prog X.w _ h' _ (.lst ys) from ⟨hz,its,c',r',e⟩),rfl,q _ (I.hok.fresh (Zn _))⟩
 rcases hq with hq | hq
 ·obtain ⟨its,r',pl,hz⟩:=I.list hq
  have hlen:=r'.length;obtain ⟨o,ho,hc,n,hd⟩:=pl.isList;exact call_list_seq p (.inl rfl) ho hc hd (λ h' c' kp e=>fin its r' hz h' c' kp e) (by simp only [Zr] <;> omega)
 ·obtain ⟨its,r',pl,hz⟩:=I.tuple hq
  have hlen:=r'.length;obtain ⟨o,ho,hc,n,hd⟩:=pl;exact call_list_seq p (.inr rfl) ho hc hd (λ h' c' kp e=>fin its r' hz h' c' kp e) (by simp only [Zr] <;> omega)
def tyV (K:W.Frag) (T:String) (x:V) (H:Hp):Prop:=match x with
 | .str _=>T="str"
 | .int _=>T="int"
 | .ref p=>(T="list"/\∃ xs,SqL K H p xs)\/(T="tuple"/\∃ o,K.lookup p=some o/\o.cls=.type "tuple"/\o.dict=none) \/
  (T="dict"/\((∃ kvs,H p=some (.dK kvs))\/∃ kvs,H p=some (.dT kvs)))\/(T="set"/\∃ S n,H p=some (.set S n))
 | _=>False
theorem Ad (I:Inv X pins σ H s) (r:RelV x v) (ty:tyV X.K T x H) :
  s.TypeIs v T/\∀ a,v=.ref a->∃ ob,s.heap.get? a=some ob/\ob.dict=none:=by
 cases x with
 | str z =>
  obtain ⟨t,rfl⟩:=r;cases (show T="str" from ty);exact ⟨typeIs_str s z t,λ _ e=>nomatch e⟩
 | int i =>
  obtain ⟨t,rfl⟩:=r;cases (show T="int" from ty);exact ⟨typeIs_int s i t,λ _ e=>nomatch e⟩
 | ref p =>
  cases r;rcases ty with ⟨rfl,xs,hq⟩ | ⟨rfl,o,hk,hc,hd⟩ | ⟨rfl,hk⟩ | ⟨rfl,S,n,hk⟩
  ·obtain ⟨its,_,pl,_⟩:=I.list hq
   refine ⟨pl.isList.typeIs,λ a e=>?_⟩;cases e;obtain ⟨o,n,e,c,hd,_⟩:=pl;exact ⟨o,e,hd⟩
  ·refine ⟨⟨o,I.kIn p o hk,hc⟩,λ a e=>?_⟩
   cases e;exact ⟨o,I.kIn _ o hk,hd⟩
  ·have z:∃ o,s.heap.get? p=some o/\o.ExactDict:=by
    rcases hk with ⟨kvs,hk⟩ | ⟨kvs,hk⟩
    ·obtain ⟨_,_,_,_,o,_,_,e,ex,_⟩:=I.hok p _ hk
     exact ⟨o,e,ex⟩
    ·obtain ⟨_,_,_,_,o,_,_,e,ex,_⟩:=I.hok p _ hk
     exact ⟨o,e,ex⟩
   obtain ⟨o,e,ex⟩:=z;refine ⟨⟨o,e,ex.1⟩,λ a e2=>?_⟩;cases e2;exact ⟨o,e,ex.2.1⟩
  ·obtain ⟨o,_,_,_,e,ex,_⟩:=I.hok p _ hk
   refine ⟨⟨o,e,ex.1⟩,λ a e2=>?_⟩;cases e2;exact ⟨o,e,ex.2.1⟩
 | _=>exact False.elim ty
def MW (K:W.Frag) (T:String) (r:V->List V->Hp->VK->Prop) (to:TE):TE:=λ σ H Q=>to σ H λ x H1=>tyV K T x H1/\r x [] H1 Q
def tBM (K:W.Frag) (T:String) (r:V->List V->Hp->VK->Prop) (to:TE) (t:TA):TE:=λ σ H Q=>to σ H λ x H1=>tyV K T x H1/\t σ H1 λ xs H2=>r x xs H2 Q
variable {o e:Expr} {es:List Expr} {to:TE} {t:TA} {name:Str} {apos cpos:Pos} {T id:String} {r:V->List V->Hp->VK->Prop}
theorem Aw (pa:PlainAttrs T) (slot:Slot T name id) (hty:typeOf (.builtin id)=pure (.type "method_descriptor")) (hm:MtR X id r) (ho:PE X o to)
  (hbase:attributeBase o name X.env (eval o X.env)=eval o X.env:=by rfl) (hline:(apos.endLine == cpos.line)=true:=by rfl):PE X (.Call (.Attribute o name apos) [] [] cpos) (MW X.K T r to):=by
 intro pins s σ H Q I h;refine wpAny_Call_method0_late hbase hline (thn (ho pins s σ H _ I h) λ v s1 ⟨x,H1,I1,r1,ty,q1⟩=>?_);obtain ⟨h1,h2⟩:=Ad I1 r1 ty;exact ⟨T,id,pa,slot,hty,h1,h2,Xj rfl (PySem.evalArgs_none (hm pins s1 σ H1 x [] v [] Q I1 r1 .nil q1))⟩
theorem mG (pa:PlainAttrs T) (slot:Slot T name id) (hty:typeOf (.builtin id)=pure (.type "method_descriptor")) (hm:MtR X id r) (ho:PE X o to) (ha:PA X (e::es) t)
  (hbase:attributeBase o name X.env (eval o X.env)=eval o X.env:=by rfl)
  (hfew:((backTo cpos (starEach (e::es) X.env)).all (λ x=>!x.1)&&(backToKw cpos (keywordEach [] X.env)).all (λ x=>x.1.isSome)
    && decide ((e::es).length+([]:List Keyword).length+(if ([]:List Keyword).isEmpty then 0 else 1) < 30))=true:=by rfl)
  (hline:(apos.endLine == cpos.line)=true:=by rfl) (hs:starEach (e::es) X.env=(false,eval e X.env)::starEach es X.env:=by rfl) (hplain:(backTo cpos (starEach es X.env)).any (·.1)=false:=by rfl) :
  PE X (.Call (.Attribute o name apos) (e::es) [] cpos) (tBM X.K T r to t):=by
 intro pins s σ H Q I h;refine wpAny_Call_method_late hbase hfew hline rfl (thn (ho pins s σ H _ I h) λ v s1 ⟨x,H1,I1,r1,ty,q1⟩=>?_);obtain ⟨h1,h2⟩:=Ad I1 r1 ty;refine ⟨T,id,pa,slot,hty,h1,h2,?_⟩;have hA:=ha cpos pins s1 σ H1 _ I1 q1;rw [hs] at hA ⊢;refine Xj (by show (false||(backTo cpos (starEach es X.env)).any (·.1))=false; rw [hplain] <;> rfl) (Calls.evalArgs_plain ?_);exact thn hA λ us s2 ⟨vs,H2,I2,r2,q2⟩=>hm pins s2 σ H2 x vs v us Q I2 r1 r2 q2
/- xs.append(e),list.index on a module's tuple .. are MtR facts of 06m -/
end
end L2
namespace L2
open PySem PySem.Spec PyProof.Rows
def MtM (X:Cx) (id:String) (r:V->List V->Hp->VK->Prop):Prop :=
  ∀ (pins:List (Addr×Obj)) (s:Shared) (σ:St) (H:Hp) (x:V) (xs:List V) (v:Value) (us:List Value) (Q:VK),Inv X pins σ H s->RelV x v->bN xs us->r x xs H Q ->
    wpAny (model X.prog X.w) X.A (call (.builtin id) (v::us)) (EP X pins σ Q) X.xe s
theorem bN.one:∀ {x:V} {us:List Value},bN [x] us->∃ u,us=[u]/\RelV x u
 | _,_,.cons r .nil=>⟨_,rfl,r⟩
theorem bN.zero:∀ {us:List Value},bN [] us->us=[]
 | _,.nil=>rfl
theorem bN.dropLast (h:bN xs us):bN xs.dropLast us.dropLast:=by
 induction h with
 | nil=>exact .nil
 | cons r t ih =>
  cases t with
  | nil=>exact .nil
  | cons q t'=>exact .cons r ih
theorem bN.reverse (h:bN xs us):bN xs.reverse us.reverse:=by
 induction h with
 | nil=>exact .nil
 | cons r t ih=>rw [Y6,Y6]; exact bN.append ih (.cons r .nil)
theorem tD {α:Type} (l:List α):l.eraseIdx (l.length - 1)=l.dropLast:=by
 induction l with
 | nil=>rfl
 | cons a r ih =>
  cases r with
  | nil=>rfl
  | cons b r =>
   have e:(a::b::r).length - 1=((b::r).length - 1)+1:=by
    have h1:(a::b::r).length=r.length+2:=rfl;have h2:(b::r).length=r.length+1:=rfl;omega
   rw [e,List.eraseIdx_cons_succ,ih]
   all_goals rfl
section
variable {X:Cx} {pins:List (Addr×Obj)} {σ:St} {H:Hp} {s:Shared} {l b:Addr} {xs ys zs:List V}
theorem Inv.F8 {its its':List Value} {n:Nat} {f:Array Value->Array Value} {t':Nat} (I:Inv X pins σ H s) (hH:H l=some (.lst xs))
  (e:s.heap.get? l=some { cls:=.type "list",data:=.seq its.toArray n }) (hf:f its.toArray=its'.toArray) (hv:bN ys its') (hz:ys.length<=sizeLine) :
  Inv X pins σ (upd H l (.lst ys)) { s with heap:=s.heap.update l (Obj.mapSeq f),toks:=t' }:=by
 have q:=PySem.IsL.update e f;rw [hf] at q;refine I.write (x:=l) (e:=l) (by rw [hH]; exact trivial) (.inl rfl) (λ b' u hb hu=>(Heap.get?_update_other s.heap (Obj.mapSeq f) (Ne.symm hb)).trans hu) ⟨_,q⟩ ?_
 exact ⟨hz,its',_,hv,q⟩
theorem Inv.N4 (I:Inv X pins σ H s) (hv:bN ys its) (hz:ys.length<=sizeLine) :
  Inv X pins σ (upd H s.heap.objs.size (.lst ys)) { s with heap:=s.heap.push { cls:=.type "list",data:=.seq its.toArray },toks:=t' } :=
 I.laid (λ _ _ q=>Heap.get?_push_of_some _ q) (Zn _) ⟨hz,its,0,hv,Heap.get?_push_size _ rfl⟩
theorem Inv.fresh (I:Inv X pins σ H s):H s.heap.objs.size=none:=I.hok.fresh (Zn _)
theorem Inv.AM (I:Inv X pins σ H s) (hH:H l=some (.lst xs)):xs.length<=sizeLine/\∃ (its:List Value) (n:Nat),bN xs its/\xs.length=its.length/\s.heap.get? l=some { cls:=.type "list",data:=.seq its.toArray n }:=by
 obtain ⟨z,its,n,r,e⟩:=I.hok l _ hH;exact ⟨z,its,n,r,r.length,e⟩
theorem yZ (h:n<=sizeLine):Builtin.List.listTooLong n=false:=by
 unfold Builtin.List.listTooLong;exact Zk (by omega)
end
section
variable {X:Cx}
def Bu:V->List V->Hp->VK->Prop:=λ x vs H Q=>∃ l xs y,x=.ref l/\vs=[y]/\H l=some (.lst xs)/\xs.length < sizeLine/\Q .non (upd H l (.lst (xs++[y])))
theorem j0:MtM X "list.append" Bu:=by
 intro pins s σ H x vs v us Q I rx rv h;obtain ⟨l,xs,y,rfl,rfl,hH,hz,q⟩:=h;cases rx;obtain ⟨u,rfl,ru⟩:=rv.one;obtain ⟨z,its,n,r,hl,e⟩:=I.AM hH;refine Xy F.slot_list_append ⟨_,e,rfl⟩ F.entry_list_append (F.args_list_append_2 _ _) (PySem.list_append l its.toArray n u (by rw [Zr]; omega)) ⟨e,?_⟩;refine ⟨.non,_,I.F8 (its':=its++[u]) hH e (by simp) (r.append (.cons ru .nil)) ?_,rfl,q⟩;rw [Zz,Xn];omega
def Bt:V->List V->Hp->VK->Prop:=λ x vs H Q=>∃ l b xs zs,x=.ref l/\vs=[.ref b]/\H l=some (.lst xs)/\H b=some (.lst zs)/\xs.length+zs.length<=sizeLine/\Q .non (upd H l (.lst (xs++zs)))
theorem nZ:MtM X "list.extend" Bt:=by
 intro pins s σ H x vs v us Q I rx rv h;obtain ⟨l,b,xs,zs,rfl,rfl,hH,hB,hz,q⟩:=h;cases rx;obtain ⟨u,rfl,ru⟩:=rv.one;cases ru;obtain ⟨z,its,n,r,hl,e⟩:=I.AM hH;obtain ⟨z2,its2,n2,r2,hl2,e2⟩:=I.AM hB;have hsz:its.toArray.size+its2.toArray.size<=sizeLine:=by rw [Zr,Zr]; omega
 have hlong:¬ (!its.toArray.isEmpty&&Builtin.List.listTooLong (its.toArray.size+its2.toArray.size))=true:=by
  rw [yZ hsz,Bool.and_false];exact Zf
 refine Xy F.slot_list_extend ⟨_,e,rfl⟩ F.entry_list_extend (F.args_list_extend_2 _ _)
  (AutoSeq1.list_extend_list_list_0 l its.toArray n b its2.toArray n2 hlong (by rw [Zr]; omega) (by omega)) ⟨e,e2,?_⟩
 refine ⟨.non,_,I.F8 (its':=its++its2) hH e (by simp) (r.append r2) ?_,rfl,q⟩;rw [Zz];omega
def Nh:V->List V->Hp->VK->Prop:=λ x vs H Q=>∃ l xs y,x=.ref l/\vs=[]/\H l=some (.lst xs)/\xs[xs.length - 1]?=some y/\Q y (upd H l (.lst xs.dropLast))
theorem AD:MtM X "list.pop" Nh:=by
 intro pins s σ H x vs v us Q I rx rv h;obtain ⟨l,xs,y,rfl,rfl,hH,hy,q⟩:=h;cases rx;have hus:=rv.zero;subst hus;obtain ⟨z,its,n,r,hl,e⟩:=I.AM hH;obtain ⟨u,hu,ru⟩:=r.get hy
 have hy':its.toArray[its.toArray.size - 1]?=some u:=by
  show its.toArray[its.length - 1]?=some u;rw [<- Array.getElem?_toList,<- hl];exact hu
 refine Xy F.slot_list_pop ⟨_,e,rfl⟩ F.entry_list_pop (F.args_list_pop_1 _) (MeetsSeq.list_pop_last l its.toArray n u hy' (by rw [Zr]; omega)) ⟨e,?_⟩;refine ⟨y,_,I.F8 (its':=its.dropLast) hH e ?_ r.dropLast ?_,ru,q⟩
 ·show its.toArray.eraseIdxIfInBounds (its.toArray.size - 1)=its.dropLast.toArray
  rw [Zr,List.eraseIdxIfInBounds_toArray,tD]
 ·rw [List.length_dropLast]
  omega
def Nn:R2:=λ x y H Q=>∃ l b xs zs,x=.ref l/\y=.ref b/\H l=some (.lst xs)/\H b=some (.lst zs)/\xs.length+zs.length<=sizeLine/\∀ p,H p=none->Q (.ref p) (upd H p (.lst (xs++zs)))
theorem FF:OpR X (binaryOp .Add) Nn:=by
 intro pins s σ H x y v u Q I rx ry h;obtain ⟨l,b,xs,zs,rfl,rfl,hH,hB,hz,q⟩:=h;cases rx;cases ry;obtain ⟨z,its,n,r,hl,e⟩:=I.AM hH;obtain ⟨z2,its2,n2,r2,hl2,e2⟩:=I.AM hB;refine PySem.P.add_list e e2 ?_ (by rw [Zr,Zr]; omega)
 have ea:its.toArray++its2.toArray=(its++its2).toArray:=by simp
 rw [ea];exact ⟨.ref _,_,I.N4 (t':=s.toks) (r.append r2) (by rw [Zz]; omega),rfl,q _ I.fresh⟩
end
end L2
namespace Att
open PySem PySem.W PySem.Calls PyProof.Rows
theorem kh:∀ (ns:List Int) (vs:List Value),WellAll P h vs (ns.map WData.int)->IntsAre vs ns:=by
 intro ns
 induction ns with
 | nil =>
  intro vs w;rw [Xk] at w;cases w;exact .nil
 | cons n ns ih =>
  intro vs w;rw [Zg] at w
  cases w with
  | cons a b =>
   cases a;exact .cons _ _ (ih _ b)
theorem uy {l:OpenLaw} {n:Nat} (hn:l.most=some n) {P:Params} {h:Heap} {args:List WData} {vals:List Value}
  (hpre:l.row.toRowW.claim.pre args=true) (hwl:WellAll P h vals args) :
  ∃ a vs ns,vals=[Value.ref a]/\args=[WData.list (ns.map WData.int)]/\h.get? a=some { cls:=.type "list",data:=.seq vs.toArray }/\IntsAre vs ns/\ns.length<=n:=by
 have hsh:WShape.hasAll [] args [.list .int]=true:=(pre_splitW hpre).1;have hc:l.pre.holds [] { args:=args }=true:=(pre_splitW hpre).2;obtain ⟨d,r,rfl,h1,h2⟩:=hasAllW_cons hsh;obtain rfl:=hasAllW_nil h2;obtain ⟨xs,rfl,h3⟩:=hasW_list h1;obtain ⟨ns,rfl⟩:=items_int h3
 have hlen:ns.length<=n:=by
  unfold OpenLaw.pre at hc
  have h4:(WTm.not (.lt (.lit (.int (n:Int))) (.len (.arg 0)))).holds [] { args:=[.list (ns.map .int)] }=true:=by
   have h4:=(holds_andW hc).1;rw [hn] at h4;exact h4
  have h5:=condW_of h4 (w_not (w_lt w_lit (w_len_list (w_arg rfl))));rw [Za] at h5;refine Nat.le_of_not_lt λ q=>?_
  have q':(n:Int) < ((ns.length:Nat):Int):=by omega
  first
   | (rw [Zq q'] at h5; exact absurd h5 (by decide))
   | (simp at h5; omega)
 cases hwl with
 | cons w1 w2 =>
  cases w2
  cases w1 with
  | list ho hall=>exact ⟨_,_,ns,rfl,rfl,ho,kh ns _ hall,hlen⟩
theorem vk (l:OpenLaw) (args:List WData):l.row.toRowW.claim.post args (.bool true) args=true :=
 postW_of (r:=l.row.toRowW) (X:=(true == true))
  (show WShape.has [] (.bool true) .bool=true by first | rfl | decide | simp [WShape.has,WShape.arms,WShape.armsAll])
  (show (WTm.eq .res (.lit (.bool true))).value [] { args:=args,res:=some (.bool true),after:=args }=some (.bool (true == true)) from w_eq_bool (w_res rfl) w_lit) rfl
theorem qo {l:OpenLaw} {n:Nat} {q:Program} {loose:List Str} {XP:(Str->Option Value)->Heap->Prop} {YP:World->Heap->Prop} {d:DefRec}
  (hn:l.most=some n) (hdf:d.params.defaults=[])
  (call:∀ (w:World) (s₀ s₁:Shared) (mg mb:Str->Option Value) (fa:Addr) (o:Obj) (pm cd doc:Value) (a:Addr) (vs:List Value) (ns:List Int),
    Ground q loose [] XP w s₀ mg mb s₁.heap->YP w s₁.heap ->
    s₁.heap.get? fa=some o->o.data=.func (docDef d.name d.params d.body d.scope pm cd doc)->s₁.heap.CodeRec cd d.name->mg d.name=some (.ref fa) ->
    s₁.heap.get? a=some { cls:=.type "list",data:=.seq vs.toArray }->IntsAre vs ns->ns.length<=n->s₁.gens=#[] ->
    codeAny (model l.prog w) callerA (.call (.ref fa) ⟨[.ref a],[]⟩) (λ r s'=>r=.ok (.ret (.bool true))/\OldK s₁.heap s'.heap/\s'.os=s₁.os/\AllBare s'.gens) s₁) :
  WalkO q loose XP YP l.row.toRowW d [] (λ f vs=>PySem.call f vs):=by
 intro w s₀ s₁ mg mb G Y fa o pm cd doc dV kV ho hd hcd hD hmg hg args vals as hpre hlay hrd hwl hlo;obtain rfl:dV=.none:=Dflts.none hD hdf;obtain rfl:kV=.none:=Dflts.noKw hD;obtain ⟨a,vs,ns,rfl,rfl,hobj,hints,hlen⟩:=uy hn hpre hwl;refine enter_call (codeAny_mono (call w s₀ s₁ mg mb fa o pm cd doc a vs ns G Y ho (fd_plain hd) hcd hmg hobj hints hlen hg) λ r s' hq=>?_);obtain ⟨rfl,h2,h3,h4⟩:=hq;exact ⟨.inl ⟨.bool true,.bool true,[],rfl,λ _=>rfl,.bool true,vk l _,λ _=>⟨List.Pairwise.nil,λ _ hm=>(nomatch hm)⟩⟩,h2,h3,h4⟩
end Att
namespace L2
open PySem PySem.Spec PyProof.Rows
theorem nC:∀ {vs:List Value} {ns:List Int},IntsAre vs ns->bN (ns.map V.int) vs
 | _,_,.nil=>.nil
 | _,_,.cons n t h=>.cons ⟨t,rfl⟩ (nC h)
def IC (H:Hp):Prop:=∀ b,H b=none\/∃ o xs,H b=some (.frz o (.lst xs))
theorem zv {P:Program} {w:World} {K:W.Frag} {mg mb:Str->Option Value} {CX:CXT} {k:Nat} {fa a:Addr} {fd:FuncData} {x:Str} {sp:Sp} {s₁:Shared} {vs:List Value} {ns:List Int}
  (KX:K.In s₁.heap) (hns:s₁.heap.Ns mainGlobals mg) (hb:s₁.heap.Ns builtinsNs mb) (hbb:∀ x:Str,x≠"__name__"->mb x=bootBuiltins x) (hlim:s₁.heap.NoLimit) (hg:s₁.gens=#[])
  (ha:s₁.heap.get? a=some { cls:=.type "list",data:=.seq vs.toArray }) (hi:IntsAre vs ns) (hl:ns.length<=sizeLine) (hr:dm k callerA)
  (F:∀ base:Heap,K.In base->base.Ns mainGlobals mg->gY P w K mg base CX k fa fd [x] sp) (hbind:∀ (s:Shared) (u:Value),BindsTo s fd ⟨[u],[]⟩ [(x,u)])
  (hsp:∀ H:Hp,IC H->SqL K H a (ns.map V.int)->sp [.ref a] H (λ v _=>v=.bl true) λ _ _ _=>False)
  (hCX:∀ H e s',CX [] H s₁ (λ _ _ _=>False) e s'->False) :
  codeAny (model P w) callerA (.call (.ref fa) ⟨[.ref a],[]⟩) (λ r s'=>r=.ok (.ret (.bool true))/\OldK s₁.heap s'.heap/\s'.os=s₁.os/\AllBare s'.gens) s₁:=by
 have rv:=nC hi;have lenV:=hi.length
 have core:∀ H:Hp,IC H->SqL K H a (ns.map V.int)->HOk P w H s₁.heap->(∀ b,H b≠none->b=a)->(H a≠none->K.lookup a=none) ->
   codeAny (model P w) callerA (.call (.ref fa) ⟨[.ref a],[]⟩) (λ r s'=>r=.ok (.ret (.bool true))/\OldK s₁.heap s'.heap/\s'.os=s₁.os/\AllBare s'.gens) s₁:=by
  intro H hO hS hok hA hK;have base_of:∀ {b:Addr} {o:Obj},s₁.heap.get? b=some o->H b=none->(zy s₁.heap H).get? b=some o:=λ e n=>zx e n
  have noA:∀ {b:Addr} {o:Obj} {es:Array DictEntry} {ep:Nat},s₁.heap.get? b=some o->o.data=.dict es ep->H b=none:=λ {b o es ep} e d=>by
   cases q:H b with
   | none=>rfl
   | some u =>
    have e':b=a:=hA b (by rw [q]; simp);subst e';rw [ha] at e; cases e
    have d':Data.seq vs.toArray _=Data.dict es ep:=d;cases d'
  have nsK:∀ {b:Addr} {m:Str->Option Value},s₁.heap.Ns b m->(zy s₁.heap H).Ns b m:=λ {b m} ⟨o,es,ep,e,d,r⟩=>⟨o,es,ep,base_of e (noA e d),d,r⟩
  have hKb:K.In (zy s₁.heap H):=λ b o e=>base_of (KX b o e) (by
   cases q:H b with
   | none=>rfl
   | some u =>
    have e':b=a:=hA b (by rw [q]; simp);subst e'
    rw [hK (by rw [q]; simp)] at e; cases e)
  have hM:Mod K mg (zy s₁.heap H):=⟨hKb,nsK hns,⟨mb,nsK hb,hbb⟩,let ⟨mc,h1,h2⟩:=hlim; ⟨mc,nsK h1,h2⟩⟩
  have e0:D5 P w K mg (zy s₁.heap H) callerA [] s₁ H:=⟨rfl,hM,λ b o e=>CD e,Nat.le_of_eq (wF _ _),trivial,λ b hb=>absurd (show b ∈ ([]:List Addr) from hb) (by simp),hok,.of_eq hg⟩
  refine codeAny_mono ((F _ hKb (nsK hns)).run callerA [] s₁ H ⟨[.ref a],[]⟩ [.ref a] [.ref a] _ _ hr e0 (hbind s₁ (.ref a)) (.cons rfl .nil) (hsp H hO hS)) λ r s' h=>?_
  cases r with
  | error e=>exact (hCX H e s' h).elim
  | ok fl =>
   cases fl with
   | next=>exact False.elim h
   | brk=>exact False.elim h
   | cont=>exact False.elim h
   | ret u =>
    obtain ⟨v,H',os,bare,un,hok',r',q⟩:=h;have q':v=.bl true:=q;subst q';obtain rfl:u=Value.bool true:=r';refine ⟨rfl,OldK.of_keep λ b o e=>?_,os,bare⟩
    cases q:H b with
    | none=>exact un.keep b o e q (by intro z; exact absurd (show b ∈ ([]:List Addr) from z) (by simp)) (by simp)
    | some u =>
     rcases hO b with z | ⟨ob,xs,z⟩
     · rw [q] at z; cases z
     ·have z2:=un.tY b ob _ z
      obtain ⟨e1,_⟩:=hok b _ z;obtain ⟨e2,_⟩:=hok' b _ z2;rw [e] at e1; cases e1
      exact e2
 cases hk:K.lookup a with
 | some o =>
  have e:=KX a o hk;rw [ha] at e;cases e;refine core (λ _=>none) (λ _=>.inl rfl) (.inr ⟨_,vs.toArray,_,hk,rfl,rfl,rfl,by rw [Zr,lenV]; exact hl,by simpa using rv⟩) (λ b u z=>by have z':(none:Option HO)=some u:=z; cases z') (λ b z=>absurd rfl z) λ z=>absurd rfl z
 | none =>
  refine core (λ b=>if b=a then some (.frz { cls:=.type "list",data:=.seq vs.toArray } (.lst (ns.map V.int))) else none) (λ b=>?_) (.inl (.inr ⟨{ cls:=.type "list",data:=.seq vs.toArray },if_pos rfl⟩)) (λ b u z=>?_) (λ b z=>?_) λ _=>hk
  ·by_cases hb:b=a
   · exact .inr ⟨_,_,if_pos hb⟩
   · exact .inl (if_neg hb)
  ·by_cases hb:b=a
   ·have z':=(if_pos hb).symm.trans z
    cases z';subst hb;exact ⟨ha,by rw [Za]; exact hl,vs,_,rv,ha⟩
   ·have z':=(if_neg hb).symm.trans z
    cases z'
  ·by_cases hb:b=a
   · exact hb
   · exact absurd (if_neg hb) z
end L2
namespace L2
open PySem PySem.Spec PyProof.Rows
abbrev KOf {K:W.Frag} {h:Heap} (_:K.In h):W.Frag:=K
theorem Bc {l:PySem.W.OpenLaw} {n k:Nat} {q:Program} {loose:List Str} {XP:(Str->Option Value)->Heap->Prop} {YP:World->Heap->Prop} {d:DefRec} {K:Params->W.Frag} {CX:World->CXT} {sp:World->Sp} {x:Str}
    (hn:l.most=some n) (hn2:n<=sizeLine) (hdf:d.params.defaults=[]) (hr:dm k callerA)
    (hY:∀ (w:World) (h:Heap),YP w h->(K w.params).In h)
    (F : ∀ (w:World) (mg:Str->Option Value) (fa:Addr) (h:Heap),(K w.params).In h->h.Ns mainGlobals mg->mg d.name=some (.ref fa) ->
      ∃ fd:FuncData,(∀ (s:Shared) (u:Value),BindsTo s fd ⟨[u],[]⟩ [(x,u)]) /\
        ∀ base:Heap,(K w.params).In base->base.Ns mainGlobals mg->gY l.prog w (K w.params) mg base (CX w) k fa fd [x] (sp w))
    (hsp:∀ (w:World) (H:Hp) (a:Addr) (ns:List Int),ns.length<=n->IC H->SqL (K w.params) H a (ns.map V.int)->sp w [.ref a] H (λ v _=>v=.bl true) λ _ _ _=>False)
    (hCX:∀ (w:World) (H:Hp) (s:Shared) (e:Value) (s':Shared),CX w [] H s (λ _ _ _=>False) e s'->False) :
    PySem.W.WalkO q loose XP YP l.row.toRowW d [] (λ f vs=>PySem.call f vs):=by
  refine Att.qo hn hdf λ w s₀ s₁ mg mb fa o pm cd doc a vs ns G Y ho hd hcd hmg hobj hints hlen hg=>?_
  have KX:=hY w _ Y;obtain ⟨fd,hb,hF⟩:=F w mg fa _ KX G.T.g hmg;exact zv KX G.T.g G.T.b G.T.builtins G.T.nolimit hg hobj hints (Z6 hlen hn2) hr hF hb (λ H hO hS=>hsp w H a ns hlen hO hS) λ H e s'=>hCX w H s₁ e s'
theorem xQ {l:PySem.W.OpenLaw} {n k:Nat} {q:Program} {loose:List Str} {XP:(Str->Option Value)->Heap->Prop} {YP:World->Heap->Prop} {d:DefRec} {K:Params->W.Frag} {CX:CXT} {sp:W.Frag->Sp} {x:Str}
    (hn:l.most=some n) (hn2:n<=sizeLine) (hdf:d.params.defaults=[]) (hr:dm k callerA)
    (hY:∀ (w:World) (h:Heap),YP w h->(K w.params).In h)
    (F : ∀ (w:World) (mg:Str->Option Value) (fa:Addr) (h:Heap),(K w.params).In h->h.Ns mainGlobals mg->mg d.name=some (.ref fa) ->
      ∃ fd:FuncData,(∀ (s:Shared) (u:Value),BindsTo s fd ⟨[u],[]⟩ [(x,u)]) /\
        ∀ base:Heap,(K w.params).In base->base.Ns mainGlobals mg->gY l.prog w (K w.params) mg base CX k fa fd [x] (sp (K w.params)))
    (hsp:∀ (K:W.Frag) (H:Hp) (a:Addr) (ns:List Int),ns.length<=n->IC H->SqL K H a (ns.map V.int)->sp K [.ref a] H (λ v _=>v=.bl true) λ _ _ _=>False)
    (hCX:∀ (H:Hp) (s:Shared) (e:Value) (s':Shared),CX [] H s (λ _ _ _=>False) e s'->False) :
    PySem.W.WalkO q loose XP YP l.row.toRowW d [] (λ f vs=>PySem.call f vs) :=
  Bc (K:=K) (CX:=λ _=>CX) (sp:=λ w=>sp (K w.params)) hn hn2 hdf hr hY F (λ w H a ns h1 h2 h3=>hsp (K w.params) H a ns h1 h2 h3) λ _ H s e s'=>hCX H s e s'
end L2
/- THE LAST THEOREM (shape; LID,My.* are yours):
   My.Adr: a structure of the addresses that your layer names (classes,functions); My.Txt K t: a structure (Prop) of the equations over K;
   My.txt_mk:{K} {implicit addresses ..} (e1:nsIn K mainGlobals "law"=some (some (.ref f))) (e2:K.lookup f=some ⟨oc,od,.func (fnOf "law" "law" params body scope dV kV doc pm an cdv ct),sl⟩) (e3:codeIn K cdv "law"=true) ..:∃ t,My.Txt K t
(the tactic k_is has no namespace: write k_is) -/
namespace L2
open PySem PySem.Spec PyProof.Rows
def inClass (s:Stmt) (j:Nat):Stmt:=match s with
 | .ClassDef _ _ _ body _ _ _ _ _ _ _=>body.getD j (.Pass ⟨0,0,0,0⟩)
 | _=>.Pass ⟨0,0,0,0⟩
def cI (s:Stmt):Arguments:=match s with
 | .FunctionDef _ a _ _ _ _ _ _ _ _=>a
 | _=>{ posonlyargs:=[],args:=[],vararg:=none,kwonlyargs:=[],kw_defaults:=[],kwarg:=none,defaults:=[] }
def bY (s:Stmt):List Stmt:=match s with
 | .FunctionDef _ _ b _ _ _ _ _ _ _=>b
 | _=>[]
def aK (s:Stmt):Scope:=match s with
 | .FunctionDef _ _ _ _ _ _ sc _ _ _=>sc
 | _=>{ kind:=.function,names:=[],isGenerator:=false,isCoroutine:=false }
abbrev CX0:CXT:=λ _ _ _ _ _ _=>False
abbrev E0:XK:=λ _ _ _=>False
theorem nP:kX CX0 X E0:=λ _ _ _ _ _ _ _ h=>h.elim
structure Fun (K:W.Frag) (x qual:Str) (st:Stmt) (f:Addr) (fd:FuncData):Prop where
 ex:∃ (oc:Value) (od:Option Addr) (kV doc pm:Value) (an:Option Addr) (cdv ct:Value) (osl:Array (Option Value)),
  fd=PySem.W.fnOf x qual (cI st) (bY st) (aK st) .none kV doc pm an cdv ct/\K.lookup f=some ⟨oc,od,.func fd,osl⟩/\PySem.W.codeIn K cdv qual=true
 kp:W.keepIn K (.ref f)=true
section
variable {P:Program} {w:World} {K:W.Frag} {mg:Str->Option Value} {base:Heap}
theorem Fun.ok {x qual:Str} {st:Stmt} {f:Addr} {fd:FuncData} {N ps:List Str} {k:Nat} {sp:Sp} (F:Fun K x qual st f fd) (S:dJ N ps (aK st)) (len:∀ vs H Q E,sp vs H Q E->vs.length=ps.length)
  (hbody:∀ (cdv:Value) (A:Around) (outer:List Env) (s:Shared) (H:Hp) (vs:List V) (Q:VK) (E:XK),dm k (A.deeper (envOfC qual (aK st) s.heap.objs.size f cdv))->sp vs H Q E ->
    ∃ t,PSs (zX CX0 P w K mg base N qual (aK st) f cdv A outer s H E).nox (bY st) t/\t { nx:=λ _ H'=>Q .non H',rt:=Q } (start N vs) H):gY P w K mg base CX0 (k+1) f fd ps sp:=by
 obtain ⟨oc,od,kV,doc,pm,an,cdv,ct,osl,rfl,lk,hcd⟩:=F.ex;refine Lr lk hcd S len λ A outer s H vs Q E hr hsp=>?_
 obtain ⟨t,h,q⟩:=hbody cdv A outer s H vs Q E hr hsp;exact ⟨t,h.nox,q⟩
theorem Fun.binds {x qual:Str} {st:Stmt} {f:Addr} {fd:FuncData} {ps:List Str} (F:Fun K x qual st f fd)
  (h:∀ (kV doc pm:Value) (an:Option Addr) (cdv ct:Value) (us:List Value),us.length=ps.length->bindArgs (PySem.W.fnOf x qual (cI st) (bY st) (aK st) .none kV doc pm an cdv ct) ⟨us,[]⟩=pure (ps.zip us)):Binds K fd ps []:=by
 obtain ⟨oc,od,kV,doc,pm,an,cdv,ct,osl,rfl,lk,hcd⟩:=F.ex;exact .all (h kV doc pm an cdv ct)
theorem kn {x qual:Str} {st:Stmt} {f:Addr} {oc:Value} {od an:Option Addr} {osl:Array (Option Value)} {kV doc pm cdv ct:Value} (l:K.lookup f=some ⟨oc,od,.func (PySem.W.fnOf x qual (cI st) (bY st) (aK st) .none kV doc pm an cdv ct),osl⟩)
 (c:PySem.W.codeIn K cdv qual=true) (k:W.keepIn K (.ref f)=true):Fun K x qual st f (PySem.W.fnOf x qual (cI st) (bY st) (aK st) .none kV doc pm an cdv ct):=⟨⟨oc,od,kV,doc,pm,an,cdv,ct,osl,rfl,l,c⟩,k⟩
end
theorem dz (hr:dm k A):A.units+1 < cLine:=Nat.lt_of_le_of_lt (Nat.add_le_add_left (by decide:1<=64) _) hr.units
section
variable {X:Cx}
theorem pv (i:Nat) (hN:X.N[i]?=some x:=by rfl) (hv:Vis X.env.scope x:=by first | exact Or.inl rfl | exact Or.inr (Or.inl rfl) | exact Or.inr (Or.inr rfl)) (hd:(x == ("__debug__":Str))=false:=by decide)
 (hcd:(x == ("__classdict__":Str))=false:=by decide):PE X (.Name x pos) (LO i):=gu hN hv hd hcd
end
theorem Gn {A B:Prop} (h:B):if false=true then A else B:=by
 rw [if_neg Zf];exact h
theorem Iw {A B:Prop} (h:A):if true=true then A else B:=by
 rw [if_pos rfl];exact h
def b6 (H H':Hp):Prop:=∀ b o,H b=some o->H' b=some o
theorem b6.refl (H:Hp):b6 H H:=λ _ _ h=>h
theorem b6.trans (a:b6 H H1) (b:b6 H1 H2):b6 H H2:=λ c o h=>b c o (a c o h)
theorem b6.free (e:b6 H H') (h:H' l=Option.none):H l=Option.none:=by
 cases q:H l with
 | none=>rfl
 | some o =>
  rw [e l o q] at h;cases h
theorem b6.seq {K:W.Frag} {H H':Hp} {a:Addr} {xs:List V} (e:b6 H H') (h:SqL K H a xs):SqL K H' a xs:=by
 rcases h with (h | ⟨o,h⟩) | h
 · exact .inl (.inl (e _ _ h))
 · exact .inl (.inr ⟨o,e _ _ h⟩)
 · exact .inr h
end L2
end
section
namespace HD14
open PySem PySem.W PySem.W.X PyProof.Rows L2
abbrev hp:Program:=PySem.Challenge.pw_stylehouse_k14_plain_traits
abbrev hl:OpenLaw:=PySem.Challenge.rw_stylehouse_k14_plain_traits
def top (i:Nat):Stmt:=PySem.Challenge.pw_stylehouse_k14_plain_traits.main.body.getD i (.Pass ⟨0,0,0,0⟩)
noncomputable abbrev tL (o:Params->Obj) (P:Params):BT:=.node (o P) .nil .nil
noncomputable abbrev tN (o:Params->Obj) (l r:Params->BT) (P:Params):BT:=.node (o P) (l P) (r P)
noncomputable abbrev tZ (_:Params):BT:=.nil
noncomputable abbrev dE (P:Params) (n:Str) (t:Nat) (v:Value):DictEntry:=⟨PyData.keyHash P n,.str n t,v⟩
noncomputable abbrev oF (y:String) (l:List Value) (_:Params):Obj:=⟨.type y,none,.fields ⟨l⟩,⟨[]⟩⟩
noncomputable abbrev oQ (y:String) (l:List Value) (n:Nat) (_:Params):Obj:=⟨.type y,none,.seq ⟨l⟩ n,⟨[]⟩⟩
noncomputable abbrev oD (y:String) (l:List DictEntry) (n:Nat):Obj:=⟨.type y,none,.dict ⟨l⟩ n,⟨[]⟩⟩
noncomputable abbrev oM (y:String) (n q:Str) (s:Stmt) (g:Nat) (c:List (Str×Addr)) (d k dc pm:Value) (an:Option Addr) (cd ct:Value) (b:Nat):Obj:=⟨.type y,none,.func ⟨n,q,cI s,.stmts (bY s),aK s,g,c,d,k,dc,pm,an,cd,ct,b⟩,⟨[]⟩⟩
noncomputable abbrev oC (y:String) (n:Str) (a:Nat) (q:Str) (b:Nat) (f:Str) (c i1 i2 i3 i4 i5 r1:Nat) (o:Bool) (i6 r2:Nat) (v1 v2 v3 v4:Value) (i7 i8:Nat) (g:Str) (d:Nat):Obj:=⟨.type y,none,.fields ⟨[.str n a,.str q b,.str f c,.int (.ofNat i1) 0,.int (.ofNat i2) 0,.int (.ofNat i3) 0,.int (.ofNat i4) 0,.int (.ofNat i5) 0,.ref r1,.bool o,.int (.ofNat i6) 0,.ref r2,v1,v2,v3,v4,.int (.ofNat i7) 0,.int (.ofNat i8) 0,.str g d]⟩,⟨[]⟩⟩
noncomputable abbrev vI (i t:Nat):Value:=.int (.ofNat i) t
noncomputable abbrev vS (s:Str) (t:Nat):Value:=.str s t
noncomputable abbrev vR (a:Nat):Value:=.ref a
noncomputable abbrev y0:String:=PySem.W.SL.s2766695959194262286x5
noncomputable abbrev y1:String:=PySem.W.SL.s5856160107412720595x4
noncomputable abbrev y2:String:=PySem.W.SL.s658472552662922059x5
noncomputable abbrev y3:String:=PySem.W.SL.s14018661285674007319x4
noncomputable abbrev y4:String:=PySem.W.SL.s7097527257260152453x26
noncomputable abbrev y5:String:=PySem.W.SL.s7174869446012820540x8
noncomputable abbrev y6:String:=PySem.W.SL.s11030030927630378310x26
noncomputable abbrev y7:String:=PySem.W.SL.s10062305145149207511x16
noncomputable abbrev y8:String:=PySem.W.SL.s17162191345867700912x4
noncomputable abbrev y9:String:=PySem.W.SL.s2742458400755230247x6
noncomputable abbrev y10:String:=PySem.W.SL.s11443829558043349243x14
noncomputable abbrev y11:String:=PySem.W.SL.s14755015743595814543x17
noncomputable abbrev y12:String:=PySem.W.SL.s6511155373996960695x17
noncomputable abbrev y13:String:=PySem.W.SL.s12411053484034534018x21
noncomputable abbrev y14:String:=PySem.W.SL.s10220274742760427390x26
noncomputable abbrev y15:String:=PySem.W.SL.s4290257624100764138x5
noncomputable abbrev y16:String:=PySem.W.SL.s4860613602091757760x24
noncomputable abbrev y17:String:=PySem.W.SL.s6070975301684473832x10
noncomputable abbrev y18:String:=PySem.W.SL.s5946037652744460706x9
noncomputable abbrev y19:String:=PySem.W.SL.s4278001404047624695x13
noncomputable abbrev y20:String:=PySem.W.SL.s4209523147560561109x18
noncomputable def n0:Str:="<module>"
noncomputable def n1:Str:="/claim/cut.py"
noncomputable def n2:Str:="__main__"
noncomputable def n3:Str:="__name__"
noncomputable def n4:Str:="stylehouse.errors"
noncomputable def n5:Str:="__doc__"
noncomputable def n6:Str:="__package__"
noncomputable def n7:Str:="__loader__"
noncomputable def n8:Str:="__spec__"
noncomputable def n9:Str:="__annotations__"
noncomputable def n10:Str:="__builtins__"
noncomputable def n11:Str:="__file__"
noncomputable def n12:Str:="__cached__"
noncomputable def n13:Str:="_wall"
noncomputable def n14:Str:="beneath"
noncomputable def n15:Str:="row_of"
noncomputable def n16:Str:="holders_of"
noncomputable def n17:Str:="depth_of"
noncomputable def n18:Str:="spot_of"
noncomputable def n19:Str:="Trait"
noncomputable def n20:Str:="trait_of"
noncomputable def n21:Str:="has_trait"
noncomputable def n22:Str:="is_counted"
noncomputable def n23:Str:="trait_weight"
noncomputable def n24:Str:="HouseError"
noncomputable def n25:Str:="k"
noncomputable def n26:Str:="tree"
noncomputable def n27:Str:="box"
noncomputable def n28:Str:="found"
noncomputable def n29:Str:="left"
noncomputable def n30:Str:="one"
noncomputable def n31:Str:="stylehouse.walks"
noncomputable def n32:Str:="holder"
noncomputable def n33:Str:="row"
noncomputable def n34:Str:="__module__"
noncomputable def n35:Str:="stylehouse.traits"
noncomputable def n36:Str:="__qualname__"
noncomputable def n37:Str:="__firstlineno__"
noncomputable def n38:Str:="__init__"
noncomputable def n39:Str:="fits"
noncomputable def n40:Str:="weight"
noncomputable def n41:Str:="__static_attributes__"
noncomputable def n42:Str:="self"
noncomputable def n43:Str:="told"
noncomputable def n44:Str:="Trait.__init__"
noncomputable def n45:Str:="Trait.fits"
noncomputable def n46:Str:="Trait.weight"
noncomputable def n47:Str:="__dict__"
noncomputable def n48:Str:="__weakref__"
noncomputable def n49:Str:="place"
noncomputable def n50:Str:="first"
noncomputable def n51:Str:="step"
noncomputable def n52:Str:="NoBox"
noncomputable def n53:Str:="Rooted"
noncomputable def n54:Str:="NoPlace"
noncomputable def n55:Str:="stylehouse.tree"
noncomputable def n56:Str:="NoName"
noncomputable def n57:Str:="TooMuch"
noncomputable def n58:Str:="LONGEST_NAME"
noncomputable def n59:Str:="is_name"
noncomputable def n60:Str:="MOST_BOXES"
noncomputable def n61:Str:="MOST_DEEP"
noncomputable def n62:Str:="ROOT"
noncomputable def n63:Str:="stylehouse.names"
noncomputable def n64:Str:="Tree"
noncomputable def n65:Str:="check_name"
noncomputable def n66:Str:="enter"
noncomputable def n67:Str:="check"
noncomputable def n68:Str:="put"
noncomputable def n69:Str:="cut"
noncomputable def n70:Str:="move"
noncomputable def n71:Str:="mark"
noncomputable def n72:Str:="bare"
noncomputable def n73:Str:="write"
noncomputable def n74:Str:="dress"
noncomputable def n75:Str:="stands"
noncomputable def n76:Str:="name_of"
noncomputable def n77:Str:="marks_of"
noncomputable def n78:Str:="words_of"
noncomputable def n79:Str:="rows_of"
noncomputable def n80:Str:="holder_of"
noncomputable def n81:Str:="boxes_of"
noncomputable def n82:Str:="name"
noncomputable def n83:Str:="Tree.__init__"
noncomputable def n84:Str:="Tree.enter"
noncomputable def n85:Str:="Tree.check"
noncomputable def n86:Str:="Tree.put"
noncomputable def n87:Str:="Tree.cut"
noncomputable def n88:Str:="Tree.move"
noncomputable def n89:Str:="word"
noncomputable def n90:Str:="Tree.mark"
noncomputable def n91:Str:="Tree.bare"
noncomputable def n92:Str:="words"
noncomputable def n93:Str:="Tree.write"
noncomputable def n94:Str:="rows"
noncomputable def n95:Str:="Tree.dress"
noncomputable def n96:Str:="Tree.stands"
noncomputable def n97:Str:="Tree.name_of"
noncomputable def n98:Str:="Tree.marks_of"
noncomputable def n99:Str:="Tree.words_of"
noncomputable def K9:Str:="Tree.rows_of"
noncomputable def K8:Str:="Tree.holder_of"
noncomputable def K7:Str:="Tree.boxes_of"
noncomputable def N2:Str:="boxes"
noncomputable def N1:Str:="given"
noncomputable def NZ:Str:="holders"
noncomputable def NY:Str:="marks"
noncomputable def NX:Str:="names"
noncomputable def q8:Str:="law_stylehouse_k14_plain_traits"
noncomputable def CZ:Str:="check_place"
noncomputable def CY:Str:="_law_cell"
noncomputable def CW:Str:="_law_mix"
noncomputable def CV:Str:="_law_name"
noncomputable def CU:Str:="_law_pool"
noncomputable def CT:Str:="_law_whole"
noncomputable def CS:Str:="_law_many"
noncomputable def CQ:Str:="_law_grow"
noncomputable def CP:Str:="_law_has"
noncomputable def CO:Str:="_law_plain"
noncomputable def CN:Str:="_law_true_of"
noncomputable def CM:Str:="_law_moved"
noncomputable def CL:Str:="_law_other"
noncomputable def CK:Str:="law"
noncomputable def K6:Str:="_law_script"
noncomputable def K5:Str:="_law_k"
noncomputable def FZ:Str:="_law_cell_here"
noncomputable def Iv:Str:="_law_way"
noncomputable def MF:Str:="_law_first"
noncomputable def NW:Str:="_law_at"
noncomputable def NV:Str:="_law_letters"
noncomputable def ME:Str:="_law_one"
noncomputable def Iu:Str:="_law_draw"
noncomputable def K4:Str:="_law_place"
noncomputable def NU:Str:="_law_sign"
noncomputable def NT:Str:="_law_two"
noncomputable def NS:Str:="_law_three"
noncomputable def K3:Str:="_law_found"
noncomputable def NR:Str:="_law_most"
noncomputable def MD:Str:="_law_tree"
noncomputable def Ir:Str:="_law_rows"
noncomputable def Iq:Str:="_law_facts"
noncomputable def Ip:Str:="_law_marks"
noncomputable def K2:Str:="_law_pool_here"
noncomputable def NQ:Str:="_law_number"
noncomputable def NP:Str:="_law_holder"
noncomputable def MC:Str:="_law_name_here"
noncomputable def K1:Str:="_law_trait"
noncomputable def MB:Str:="_law_box"
noncomputable def MA:Str:="_law_kind"
noncomputable def NO:Str:="_law_row"
noncomputable def NN:Str:="_law_every"
noncomputable def Mz:Str:="_law_told"
noncomputable def NM:Str:="_law_grove"
noncomputable def NL:Str:="_law_side"
noncomputable def NK:Str:="_law_due"
noncomputable abbrev oN (n q:Str) (s:Stmt) (_:Params):Obj:=⟨.none,none,.func ⟨n,q,cI s,.stmts (bY s),aK s,0,[],.none,.none,.none,.none,none,.none,.none,0⟩,⟨[]⟩⟩
def tri:List Nat->List Value
 | a::b::r=>.int (.ofNat a) 0::.int (.ofNat 0) 0::.ref b::tri r
 | _=>[]
noncomputable abbrev oR (l:List Nat) (_:Params):Obj:=⟨.none,none,.fields ⟨tri l⟩,⟨[]⟩⟩
noncomputable abbrev oE (n q:Str) (t l a r s:Nat) (_:Params):Obj:=oC y1 n t q (t+1) n1 (t+2) l a 0 0 3 r true 181 (r+1) .none (.ref (r+2)) (.ref (r+3)) (.ref (r+4)) s l n1 (s+1)
noncomputable abbrev oG (n q:Str) (s:Stmt) (m:Str) (t r:Nat) (_:Params):Obj:=oM y5 n q s 3 [] .none .none .none (.str m t) none (.ref r) .none 0
noncomputable def o0:=oQ y0 [] 0
noncomputable def o1 (P:Params):Obj:=⟨.none,none,(.fields ⟨[]⟩),⟨[]⟩⟩
noncomputable def o2 (P:Params):Obj:=oC y1 n0 182 n0 183 n1 184 1 0 0 0 0 11 false 181 12 .none .none .none .none 185 1 n1 186
noncomputable def o3 (P:Params):Obj:=⟨(.type y2),none,.plain,⟨[(some (vR 13)),(some (vR 3)),(some (vR 3)),none,(some (vS n2 164)),none,(some (vR 0))]⟩⟩
noncomputable def o4 (P:Params):Obj:=oD y3 [dE P n3 165 (vS n4 318),dE P n5 166 .none,dE P n6 167 .none,dE P n7 168 (.builtin y4),dE P n8 169 .none,dE P n9 170 (vR 6),dE P n10 171 (vR 4),dE P n11 173 (vS n1 172),dE P n12 174 .none,dE P n13 193 (vR 21),dE P n14 206 (vR 28),dE P n15 215 (vR 35),dE P n16 225 (vR 42),dE P n17 233 (vR 49),dE P n18 242 (vR 56),dE P n19 289 (vR 87),dE P n20 296 (vR 98),dE P n21 302 (vR 103),dE P n22 311 (vR 110),dE P n23 317 (vR 115),dE P n24 337 (vR 125)] 21
noncomputable def o5:=oR [1,20,5,27,13,34,16,41,23,48,25,55,29,62,39,97,41,102,56,109,60,114,72,121]
noncomputable def o6:=oQ y0 [vS n25 190] 0
noncomputable def o7:=oN n13 n13 (top 0)
noncomputable def o8:=oE n13 n13 187 1 1 15 191
noncomputable def o9:=oG n13 n13 (top 0) n2 164 20
noncomputable def o10:=oQ y0 [vS n26 199,vS n27 200,vS n28 201,vS n29 202,vS n30 203] 0
noncomputable def o11:=oN n14 n14 (top 2)
noncomputable def o12:=oE n14 n14 196 5 2 22 204
noncomputable def o13:=oG n14 n14 (top 2) n31 194 27
noncomputable def o14:=oQ y0 [vS n26 210,vS n27 211,vS n32 212] 0
noncomputable def o15:=oN n15 n15 (top 3)
noncomputable def o16:=oE n15 n15 207 13 2 29 213
noncomputable def o17:=oG n15 n15 (top 3) n31 194 34
noncomputable def o18:=oQ y0 [vS n26 219,vS n27 220,vS n28 221,vS n32 222] 0
noncomputable def o19:=oN n16 n16 (top 4)
noncomputable def o20:=oE n16 n16 216 16 2 36 223
noncomputable def o21:=oG n16 n16 (top 4) n31 194 41
noncomputable def o22:=oQ y0 [vS n26 229,vS n27 230] 0
noncomputable def o23:=oN n17 n17 (top 5)
noncomputable def o24:=oE n17 n17 226 23 2 43 231
noncomputable def o25:=oG n17 n17 (top 5) n31 194 48
noncomputable def o26:=oQ y0 [vS n26 237,vS n27 238,vS n33 239] 0
noncomputable def o27:=oN n18 n18 (top 6)
noncomputable def o28:=oE n18 n18 234 25 2 50 240
noncomputable def o29:=oG n18 n18 (top 6) n31 194 55
noncomputable def o30:=oF y6 [(.builtin y7),(.type y8)]
noncomputable def o31 (P:Params):Obj:=oD y3 [dE P n34 252 (vS n35 243),dE P n36 254 (vS n19 253),dE P n37 256 (vI 29 255),dE P n38 264 (vR 70),dE P n39 273 (vR 77),dE P n40 280 (vR 84),dE P n41 282 (vR 85)] 7
noncomputable def o32 (P:Params):Obj:=⟨.none,none,(.fields ⟨[vI 31 0,vI 4 0,vR 69,vI 34 0,vI 4 0,vR 76,vI 37 0,vI 4 0,vR 83]⟩),⟨[]⟩⟩
noncomputable def o33 (P:Params):Obj:=oC y1 n19 247 n19 248 n1 249 29 0 0 0 0 60 false 181 61 .none .none .none .none 250 29 n1 251
noncomputable def o34 (P:Params):Obj:=⟨(.type y2),none,.plain,⟨[(some (vR 62)),(some (vR 3)),(some (vR 59)),none,(some (vS n35 243)),none,(some (vR 0))]⟩⟩
noncomputable def o35:=oQ y0 [vS n42 260,vS n43 261] 0
noncomputable def o36:=oN n38 n44 (inClass (top 8) 0)
noncomputable def o37:=oE n38 n44 257 31 2 64 262
noncomputable def o38:=oG n38 n44 (inClass (top 8) 0) n35 243 69
noncomputable def o39:=oQ y0 [vS n42 268,vS n26 269,vS n27 270] 0
noncomputable def o40:=oN n39 n45 (inClass (top 8) 1)
noncomputable def o41:=oE n39 n45 265 34 3 71 271
noncomputable def o42:=oG n39 n45 (inClass (top 8) 1) n35 243 76
noncomputable def o43:=oQ y0 [vS n42 277] 0
noncomputable def o44:=oN n40 n46 (inClass (top 8) 2)
noncomputable def o45:=oE n40 n46 274 37 1 78 278
noncomputable def o46:=oG n40 n46 (inClass (top 8) 2) n35 243 83
noncomputable def o47:=oQ y0 [vS n43 281] 0
noncomputable def o48 (P:Params):Obj:=oD y3 [dE P n34 252 (vS n35 243),dE P n37 256 (vI 29 255),dE P n38 264 (vR 70),dE P n39 273 (vR 77),dE P n40 280 (vR 84),dE P n41 282 (vR 85),dE P n47 284 (vR 88),dE P n48 286 (vR 89),dE P n5 287 .none] 4
noncomputable def o49 (P:Params):Obj:=⟨(.type y8),none,(.cls ⟨n19,[(.type y9)],[vR 87,(.type y9)],86,n19,true,[],[],false,none,false⟩),⟨[none,none,(some (vS n19 245)),(some (vS n19 253)),(some (.builtin y10)),(some (.bool true))]⟩⟩
noncomputable def o50:=oF y11 [vS n47 283,vR 87,(.builtin y12),(.builtin y13)]
noncomputable def o51:=oF y11 [vS n48 285,vR 87,(.builtin y14),.none]
noncomputable def o52:=oF y15 [vR 87,vR 87,vR 87]
noncomputable def o53:=oF y6 [(.builtin y16),vR 87]
noncomputable def o54:=oQ y0 [vS n43 293] 0
noncomputable def o55:=oN n20 n20 (top 9)
noncomputable def o56:=oE n20 n20 290 39 1 92 294
noncomputable def o57:=oG n20 n20 (top 9) n35 243 97
noncomputable def o58:=oN n21 n21 (top 10)
noncomputable def o59 (P:Params):Obj:=oC y1 n21 297 n21 298 n1 299 41 3 0 0 3 99 true 181 100 .none .none .none (vR 101) 300 41 n1 301
noncomputable def o60:=oG n21 n21 (top 10) n35 243 102
noncomputable def o61:=oQ y0 [vS n49 306,vS n50 307,vS n51 308] 0
noncomputable def o62:=oN n22 n22 (top 11)
noncomputable def o63:=oE n22 n22 303 56 3 104 309
noncomputable def o64:=oG n22 n22 (top 11) n35 243 109
noncomputable def o65:=oN n23 n23 (top 12)
noncomputable def o66 (P:Params):Obj:=oC y1 n23 312 n23 313 n1 314 60 1 0 0 3 111 true 181 112 .none .none .none (vR 113) 315 60 n1 316
noncomputable def o67:=oG n23 n23 (top 12) n35 243 114
noncomputable def o68:=oQ y0 [(.type y17)] 0
noncomputable def o69 (P:Params):Obj:=oD y3 [dE P n34 327 (vS n4 318),dE P n36 329 (vS n24 328),dE P n37 331 (vI 72 330),dE P n41 332 (vR 123)] 4
noncomputable def o70 (P:Params):Obj:=oC y1 n24 322 n24 323 n1 324 72 0 0 0 0 119 false 181 120 .none .none .none .none 325 72 n1 326
noncomputable def o71 (P:Params):Obj:=⟨(.type y2),none,.plain,⟨[(some (vR 121)),(some (vR 3)),(some (vR 118)),none,(some (vS n4 318)),none,(some (vR 0))]⟩⟩
noncomputable def o72 (P:Params):Obj:=oD y3 [dE P n34 327 (vS n4 318),dE P n37 331 (vI 72 330),dE P n41 332 (vR 123),dE P n48 334 (vR 126),dE P n5 335 .none] 3
noncomputable def o73 (P:Params):Obj:=⟨(.type y8),none,(.cls ⟨n24,[(.type y17)],[vR 125,(.type y17),(.type y18),(.type y19),(.type y9)],124,n24,true,[],[],false,none,false⟩),⟨[(some (vR 116)),none,(some (vS n24 320)),(some (vS n24 328)),(some (.builtin y20)),(some (.bool true))]⟩⟩
noncomputable def o74:=oF y11 [vS n48 333,vR 125,(.builtin y14),.none]
noncomputable def o75:=oF y15 [vR 125,vR 125,vR 125]
noncomputable def o76:=oF y6 [(.builtin y16),vR 125]
noncomputable def o77 (P:Params):Obj:=oD y3 [dE P n3 165 (vS n4 318),dE P n5 166 .none,dE P n6 167 .none,dE P n7 168 (.builtin y4),dE P n8 169 .none,dE P n9 170 (vR 6),dE P n10 171 (vR 4),dE P n11 173 (vS n1 172),dE P n12 174 .none,dE P n13 193 (vR 21),dE P n14 206 (vR 28),dE P n15 215 (vR 35),dE P n16 225 (vR 42),dE P n17 233 (vR 49),dE P n18 242 (vR 56),dE P n19 289 (vR 87),dE P n20 296 (vR 98),dE P n21 302 (vR 103),dE P n22 311 (vR 110),dE P n23 317 (vR 115),dE P n24 337 (vR 125),dE P n52 353 (vR 138),dE P n53 369 (vR 150),dE P n54 385 (vR 162)] 24
noncomputable def o78:=oR [1,20,5,27,13,34,16,41,23,48,25,55,29,62,39,97,41,102,56,109,60,114,72,121,74,134,76,146,78,158]
noncomputable def o79 (P:Params):Obj:=⟨(.type y8),none,(.cls ⟨n24,[(.type y17)],[vR 125,(.type y17),(.type y18),(.type y19),(.type y9)],124,n24,true,[],[vR 138,vR 150,vR 162],false,none,false⟩),⟨[(some (vR 116)),none,(some (vS n24 320)),(some (vS n24 328)),(some (.builtin y20)),(some (.bool true))]⟩⟩
noncomputable def o80:=oQ y0 [vR 125] 0
noncomputable def o81 (P:Params):Obj:=oD y3 [dE P n34 345 (vS n4 318),dE P n36 347 (vS n52 346),dE P n37 349 (vI 74 348),dE P n41 350 (vR 136)] 4
noncomputable def o82 (P:Params):Obj:=oC y1 n52 340 n52 341 n1 342 74 0 0 0 0 132 false 181 133 .none .none .none .none 343 74 n1 344
noncomputable def o83 (P:Params):Obj:=⟨(.type y2),none,.plain,⟨[(some (vR 134)),(some (vR 3)),(some (vR 131)),none,(some (vS n4 318)),none,(some (vR 0))]⟩⟩
noncomputable def o84 (P:Params):Obj:=oD y3 [dE P n34 345 (vS n4 318),dE P n37 349 (vI 74 348),dE P n41 350 (vR 136),dE P n5 351 .none] 2
noncomputable def o85 (P:Params):Obj:=⟨(.type y8),none,(.cls ⟨n52,[vR 125],[vR 138,vR 125,(.type y17),(.type y18),(.type y19),(.type y9)],137,n52,true,[],[],false,none,false⟩),⟨[(some (vR 129)),none,(some (vS n52 338)),(some (vS n52 346)),(some (.builtin y20)),(some (.bool true))]⟩⟩
noncomputable def o86:=oF y15 [vR 138,vR 138,vR 138]
noncomputable def o87:=oF y6 [(.builtin y16),vR 138]
noncomputable def o88 (P:Params):Obj:=oD y3 [dE P n34 361 (vS n4 318),dE P n36 363 (vS n53 362),dE P n37 365 (vI 76 364),dE P n41 366 (vR 148)] 4
noncomputable def o89 (P:Params):Obj:=oC y1 n53 356 n53 357 n1 358 76 0 0 0 0 144 false 181 145 .none .none .none .none 359 76 n1 360
noncomputable def o90 (P:Params):Obj:=⟨(.type y2),none,.plain,⟨[(some (vR 146)),(some (vR 3)),(some (vR 143)),none,(some (vS n4 318)),none,(some (vR 0))]⟩⟩
noncomputable def o91 (P:Params):Obj:=oD y3 [dE P n34 361 (vS n4 318),dE P n37 365 (vI 76 364),dE P n41 366 (vR 148),dE P n5 367 .none] 2
noncomputable def o92 (P:Params):Obj:=⟨(.type y8),none,(.cls ⟨n53,[vR 125],[vR 150,vR 125,(.type y17),(.type y18),(.type y19),(.type y9)],149,n53,true,[],[],false,none,false⟩),⟨[(some (vR 141)),none,(some (vS n53 354)),(some (vS n53 362)),(some (.builtin y20)),(some (.bool true))]⟩⟩
noncomputable def o93:=oF y15 [vR 150,vR 150,vR 150]
noncomputable def o94:=oF y6 [(.builtin y16),vR 150]
noncomputable def o95 (P:Params):Obj:=oD y3 [dE P n34 377 (vS n4 318),dE P n36 379 (vS n54 378),dE P n37 381 (vI 78 380),dE P n41 382 (vR 160)] 4
noncomputable def o96 (P:Params):Obj:=oC y1 n54 372 n54 373 n1 374 78 0 0 0 0 156 false 181 157 .none .none .none .none 375 78 n1 376
noncomputable def o97 (P:Params):Obj:=⟨(.type y2),none,.plain,⟨[(some (vR 158)),(some (vR 3)),(some (vR 155)),none,(some (vS n4 318)),none,(some (vR 0))]⟩⟩
noncomputable def o98 (P:Params):Obj:=oD y3 [dE P n34 377 (vS n4 318),dE P n37 381 (vI 78 380),dE P n41 382 (vR 160),dE P n5 383 .none] 2
noncomputable def o99 (P:Params):Obj:=⟨(.type y8),none,(.cls ⟨n54,[vR 125],[vR 162,vR 125,(.type y17),(.type y18),(.type y19),(.type y9)],161,n54,true,[],[],false,none,false⟩),⟨[(some (vR 153)),none,(some (vS n54 370)),(some (vS n54 378)),(some (.builtin y20)),(some (.bool true))]⟩⟩
noncomputable def FW:=oF y15 [vR 162,vR 162,vR 162]
noncomputable def FV:=oF y6 [(.builtin y16),vR 162]
noncomputable def NH (P:Params):Obj:=oD y3 [dE P n3 165 (vS n55 428),dE P n5 166 .none,dE P n6 167 .none,dE P n7 168 (.builtin y4),dE P n8 169 .none,dE P n9 170 (vR 6),dE P n10 171 (vR 4),dE P n11 173 (vS n1 172),dE P n12 174 .none,dE P n13 193 (vR 21),dE P n14 206 (vR 28),dE P n15 215 (vR 35),dE P n16 225 (vR 42),dE P n17 233 (vR 49),dE P n18 242 (vR 56),dE P n19 289 (vR 87),dE P n20 296 (vR 98),dE P n21 302 (vR 103),dE P n22 311 (vR 110),dE P n23 317 (vR 115),dE P n24 337 (vR 125),dE P n52 353 (vR 138),dE P n53 369 (vR 150),dE P n54 385 (vR 162),dE P n56 401 (vR 174),dE P n57 417 (vR 186),dE P n58 421 (vI 8 420),dE P n59 427 (vR 193),dE P n60 431 (vI 90 430),dE P n61 433 (vI 12 432),dE P n62 435 (vI 0 434)] 31
noncomputable def NG:=oR [1,20,5,27,13,34,16,41,23,48,25,55,29,62,39,97,41,102,56,109,60,114,72,121,74,134,76,146,78,158,80,170,82,182,86,192]
noncomputable def FU (P:Params):Obj:=⟨(.type y8),none,(.cls ⟨n24,[(.type y17)],[vR 125,(.type y17),(.type y18),(.type y19),(.type y9)],124,n24,true,[],[vR 138,vR 150,vR 162,vR 174,vR 186],false,none,false⟩),⟨[(some (vR 116)),none,(some (vS n24 320)),(some (vS n24 328)),(some (.builtin y20)),(some (.bool true))]⟩⟩
noncomputable def Io (P:Params):Obj:=oD y3 [dE P n34 393 (vS n4 318),dE P n36 395 (vS n56 394),dE P n37 397 (vI 80 396),dE P n41 398 (vR 172)] 4
noncomputable def Im (P:Params):Obj:=oC y1 n56 388 n56 389 n1 390 80 0 0 0 0 168 false 181 169 .none .none .none .none 391 80 n1 392
noncomputable def Il (P:Params):Obj:=⟨(.type y2),none,.plain,⟨[(some (vR 170)),(some (vR 3)),(some (vR 167)),none,(some (vS n4 318)),none,(some (vR 0))]⟩⟩
noncomputable def FT (P:Params):Obj:=oD y3 [dE P n34 393 (vS n4 318),dE P n37 397 (vI 80 396),dE P n41 398 (vR 172),dE P n5 399 .none] 2
noncomputable def FR (P:Params):Obj:=⟨(.type y8),none,(.cls ⟨n56,[vR 125],[vR 174,vR 125,(.type y17),(.type y18),(.type y19),(.type y9)],173,n56,true,[],[],false,none,false⟩),⟨[(some (vR 165)),none,(some (vS n56 386)),(some (vS n56 394)),(some (.builtin y20)),(some (.bool true))]⟩⟩
noncomputable def Ik:=oF y15 [vR 174,vR 174,vR 174]
noncomputable def Ij:=oF y6 [(.builtin y16),vR 174]
noncomputable def Ii (P:Params):Obj:=oD y3 [dE P n34 409 (vS n4 318),dE P n36 411 (vS n57 410),dE P n37 413 (vI 82 412),dE P n41 414 (vR 184)] 4
noncomputable def Ih (P:Params):Obj:=oC y1 n57 404 n57 405 n1 406 82 0 0 0 0 180 false 181 181 .none .none .none .none 407 82 n1 408
noncomputable def Ig (P:Params):Obj:=⟨(.type y2),none,.plain,⟨[(some (vR 182)),(some (vR 3)),(some (vR 179)),none,(some (vS n4 318)),none,(some (vR 0))]⟩⟩
noncomputable def FQ (P:Params):Obj:=oD y3 [dE P n34 409 (vS n4 318),dE P n37 413 (vI 82 412),dE P n41 414 (vR 184),dE P n5 415 .none] 2
noncomputable def FP (P:Params):Obj:=⟨(.type y8),none,(.cls ⟨n57,[vR 125],[vR 186,vR 125,(.type y17),(.type y18),(.type y19),(.type y9)],185,n57,true,[],[],false,none,false⟩),⟨[(some (vR 177)),none,(some (vS n57 402)),(some (vS n57 410)),(some (.builtin y20)),(some (.bool true))]⟩⟩
noncomputable def Ie:=oF y15 [vR 186,vR 186,vR 186]
noncomputable def Ib:=oF y6 [(.builtin y16),vR 186]
noncomputable def Ia:=oN n59 n59 (top 22)
noncomputable def FO (P:Params):Obj:=oC y1 n59 422 n59 423 n1 424 86 1 0 0 3 189 true 181 190 .none .none .none (vR 191) 425 86 n1 426
noncomputable def FN:=oG n59 n59 (top 22) n63 418 192
noncomputable def NF (P:Params):Obj:=oD y3 [dE P n3 165 (vS n55 428),dE P n5 166 .none,dE P n6 167 .none,dE P n7 168 (.builtin y4),dE P n8 169 .none,dE P n9 170 (vR 6),dE P n10 171 (vR 4),dE P n11 173 (vS n1 172),dE P n12 174 .none,dE P n13 193 (vR 21),dE P n14 206 (vR 28),dE P n15 215 (vR 35),dE P n16 225 (vR 42),dE P n17 233 (vR 49),dE P n18 242 (vR 56),dE P n19 289 (vR 87),dE P n20 296 (vR 98),dE P n21 302 (vR 103),dE P n22 311 (vR 110),dE P n23 317 (vR 115),dE P n24 337 (vR 125),dE P n52 353 (vR 138),dE P n53 369 (vR 150),dE P n54 385 (vR 162),dE P n56 401 (vR 174),dE P n57 417 (vR 186),dE P n58 421 (vI 8 420),dE P n59 427 (vR 193),dE P n60 431 (vI 90 430),dE P n61 433 (vI 12 432),dE P n62 435 (vI 0 434),dE P n64 605 (vR 320),dE P n65 612 (vR 331)] 33
noncomputable def ND:=oR [1,20,5,27,13,34,16,41,23,48,25,55,29,62,39,97,41,102,56,109,60,114,72,121,74,134,76,146,78,158,80,170,82,182,86,192,96,199,208,330]
noncomputable def KY (P:Params):Obj:=oD y3 [dE P n34 443 (vS n55 428),dE P n36 445 (vS n64 444),dE P n37 447 (vI 96 446),dE P n38 455 (vR 207),dE P n66 465 (vR 214),dE P n67 473 (vR 221),dE P n68 484 (vR 228),dE P n69 492 (vR 235),dE P n70 498 (vR 240),dE P n71 507 (vR 247),dE P n72 516 (vR 254),dE P n73 525 (vR 261),dE P n74 534 (vR 268),dE P n75 542 (vR 275),dE P n76 550 (vR 282),dE P n77 558 (vR 289),dE P n78 566 (vR 296),dE P n79 574 (vR 303),dE P n80 582 (vR 310),dE P n81 590 (vR 317),dE P n41 598 (vR 318)] 21
noncomputable def KW (P:Params):Obj:=⟨.none,none,(.fields ⟨[vI 98 0,vI 4 0,vR 206,vI 109 0,vI 4 0,vR 213,vI 120 0,vI 4 0,vR 220,vI 124 0,vI 4 0,vR 227,vI 136 0,vI 4 0,vR 234,vI 139 0,vI 4 0,vR 239,vI 158 0,vI 4 0,vR 246,vI 166 0,vI 4 0,vR 253,vI 174 0,vI 4 0,vR 260,vI 181 0,vI 4 0,vR 267,vI 184 0,vI 4 0,vR 274,vI 187 0,vI 4 0,vR 281,vI 191 0,vI 4 0,vR 288,vI 195 0,vI 4 0,vR 295,vI 198 0,vI 4 0,vR 302,vI 201 0,vI 4 0,vR 309,vI 205 0,vI 4 0,vR 316]⟩),⟨[]⟩⟩
noncomputable def KS (P:Params):Obj:=oC y1 n64 438 n64 439 n1 440 96 0 0 0 0 197 false 181 198 .none .none .none .none 441 96 n1 442
noncomputable def KR (P:Params):Obj:=⟨(.type y2),none,.plain,⟨[(some (vR 199)),(some (vR 3)),(some (vR 196)),none,(some (vS n55 428)),none,(some (vR 0))]⟩⟩
noncomputable def KQ:=oQ y0 [vS n42 451,vS n82 452] 0
noncomputable def KP:=oN n38 n83 (inClass (top 27) 0)
noncomputable def H9:=oE n38 n83 448 98 2 201 453
noncomputable def HZ:=oG n38 n83 (inClass (top 27) 0) n55 428 206
noncomputable def KO:=oQ y0 [vS n42 459,vS n32 460,vS n82 461,vS n27 462] 0
noncomputable def KN:=oN n66 n84 (inClass (top 27) 1)
noncomputable def HY:=oE n66 n84 456 109 3 208 463
noncomputable def HX:=oG n66 n84 (inClass (top 27) 1) n55 428 213
noncomputable def KL:=oQ y0 [vS n42 469,vS n27 470] 0
noncomputable def KJ:=oN n67 n85 (inClass (top 27) 2)
noncomputable def HW:=oE n67 n85 466 120 2 215 471
noncomputable def HV:=oG n67 n85 (inClass (top 27) 2) n55 428 220
noncomputable def KI:=oQ y0 [vS n42 477,vS n32 478,vS n49 479,vS n82 480,vS n27 481] 0
noncomputable def KH:=oN n68 n86 (inClass (top 27) 3)
noncomputable def HU:=oE n68 n86 474 124 4 222 482
noncomputable def HS:=oG n68 n86 (inClass (top 27) 3) n55 428 227
noncomputable def KG:=oQ y0 [vS n42 488,vS n27 489] 0
noncomputable def KD:=oN n69 n87 (inClass (top 27) 4)
noncomputable def HR:=oE n69 n87 485 136 2 229 490
noncomputable def HQ:=oG n69 n87 (inClass (top 27) 4) n55 428 234
noncomputable def KC:=oN n70 n88 (inClass (top 27) 5)
noncomputable def HP (P:Params):Obj:=oC y1 n70 493 n88 494 n1 495 139 4 0 0 3 236 true 181 237 .none .none .none (vR 238) 496 139 n1 497
noncomputable def HN:=oG n70 n88 (inClass (top 27) 5) n55 428 239
noncomputable def KA:=oQ y0 [vS n42 502,vS n27 503,vS n89 504] 0
noncomputable def Kz:=oN n71 n90 (inClass (top 27) 6)
noncomputable def HM:=oE n71 n90 499 158 3 241 505
noncomputable def HL:=oG n71 n90 (inClass (top 27) 6) n55 428 246
noncomputable def Ky:=oQ y0 [vS n42 511,vS n27 512,vS n89 513] 0
noncomputable def Kx:=oN n72 n91 (inClass (top 27) 7)
noncomputable def HK:=oE n72 n91 508 166 3 248 514
noncomputable def HJ:=oG n72 n91 (inClass (top 27) 7) n55 428 253
noncomputable def Kw:=oQ y0 [vS n42 520,vS n27 521,vS n92 522] 0
noncomputable def Kv:=oN n73 n93 (inClass (top 27) 8)
noncomputable def HI:=oE n73 n93 517 174 3 255 523
noncomputable def HH:=oG n73 n93 (inClass (top 27) 8) n55 428 260
noncomputable def Ku:=oQ y0 [vS n42 529,vS n27 530,vS n94 531] 0
noncomputable def Kt:=oN n74 n95 (inClass (top 27) 9)
noncomputable def HG:=oE n74 n95 526 181 3 262 532
noncomputable def HF:=oG n74 n95 (inClass (top 27) 9) n55 428 267
noncomputable def Ks:=oQ y0 [vS n42 538,vS n27 539] 0
noncomputable def Kr:=oN n75 n96 (inClass (top 27) 10)
noncomputable def HE:=oE n75 n96 535 184 2 269 540
noncomputable def HD:=oG n75 n96 (inClass (top 27) 10) n55 428 274
noncomputable def Kq:=oQ y0 [vS n42 546,vS n27 547] 0
noncomputable def Kp:=oN n76 n97 (inClass (top 27) 11)
noncomputable def HC:=oE n76 n97 543 187 2 276 548
noncomputable def HB:=oG n76 n97 (inClass (top 27) 11) n55 428 281
noncomputable def Ko:=oQ y0 [vS n42 554,vS n27 555] 0
noncomputable def Kn:=oN n77 n98 (inClass (top 27) 12)
noncomputable def HA:=oE n77 n98 551 191 2 283 556
noncomputable def Hz:=oG n77 n98 (inClass (top 27) 12) n55 428 288
noncomputable def Km:=oQ y0 [vS n42 562,vS n27 563] 0
noncomputable def Kl:=oN n78 n99 (inClass (top 27) 13)
noncomputable def Hy:=oE n78 n99 559 195 2 290 564
noncomputable def Hx:=oG n78 n99 (inClass (top 27) 13) n55 428 295
noncomputable def Kk:=oQ y0 [vS n42 570,vS n27 571] 0
noncomputable def Kj:=oN n79 K9 (inClass (top 27) 14)
noncomputable def Hw:=oE n79 K9 567 198 2 297 572
noncomputable def Hv:=oG n79 K9 (inClass (top 27) 14) n55 428 302
noncomputable def Ki:=oQ y0 [vS n42 578,vS n27 579] 0
noncomputable def Kh:=oN n80 K8 (inClass (top 27) 15)
noncomputable def Hu:=oE n80 K8 575 201 2 304 580
noncomputable def Ht:=oG n80 K8 (inClass (top 27) 15) n55 428 309
noncomputable def Kg:=oQ y0 [vS n42 586,vS n27 587] 0
noncomputable def Kf:=oN n81 K7 (inClass (top 27) 16)
noncomputable def Hr:=oE n81 K7 583 205 2 311 588
noncomputable def Hq:=oG n81 K7 (inClass (top 27) 16) n55 428 316
noncomputable def Ho:=oQ y0 [vS N2 591,vS N1 592,vS NZ 593,vS NY 594,vS NX 595,vS n94 596,vS n92 597] 0
noncomputable def Hn (P:Params):Obj:=oD y3 [dE P n34 443 (vS n55 428),dE P n37 447 (vI 96 446),dE P n38 455 (vR 207),dE P n66 465 (vR 214),dE P n67 473 (vR 221),dE P n68 484 (vR 228),dE P n69 492 (vR 235),dE P n70 498 (vR 240),dE P n71 507 (vR 247),dE P n72 516 (vR 254),dE P n73 525 (vR 261),dE P n74 534 (vR 268),dE P n75 542 (vR 275),dE P n76 550 (vR 282),dE P n77 558 (vR 289),dE P n78 566 (vR 296),dE P n79 574 (vR 303),dE P n80 582 (vR 310),dE P n81 590 (vR 317),dE P n41 598 (vR 318),dE P n47 600 (vR 321),dE P n48 602 (vR 322),dE P n5 603 .none] 4
noncomputable def Hm (P:Params):Obj:=⟨(.type y8),none,(.cls ⟨n64,[(.type y9)],[vR 320,(.type y9)],319,n64,true,[],[],false,none,false⟩),⟨[none,none,(some (vS n64 436)),(some (vS n64 444)),(some (.builtin y10)),(some (.bool true))]⟩⟩
noncomputable def Hk:=oF y11 [vS n47 599,vR 320,(.builtin y12),(.builtin y13)]
noncomputable def Hj:=oF y11 [vS n48 601,vR 320,(.builtin y14),.none]
noncomputable def Ke:=oF y15 [vR 320,vR 320,vR 320]
noncomputable def Kc:=oF y6 [(.builtin y16),vR 320]
noncomputable def Kb:=oQ y0 [vS n82 609] 0
noncomputable def Ka:=oN n65 n65 (top 28)
noncomputable def Hi:=oE n65 n65 606 208 1 325 610
noncomputable def Hh:=oG n65 n65 (top 28) n55 428 330
noncomputable def J9 (P:Params):Obj:=oD y3 [dE P n3 165 (vS q8 621),dE P n5 166 .none,dE P n6 167 .none,dE P n7 168 (.builtin y4),dE P n8 169 .none,dE P n9 170 (vR 6),dE P n10 171 (vR 4),dE P n11 173 (vS n1 172),dE P n12 174 .none,dE P n13 193 (vR 21),dE P n14 206 (vR 28),dE P n15 215 (vR 35),dE P n16 225 (vR 42),dE P n17 233 (vR 49),dE P n18 242 (vR 56),dE P n19 289 (vR 87),dE P n20 296 (vR 98),dE P n21 302 (vR 103),dE P n22 311 (vR 110),dE P n23 317 (vR 115),dE P n24 337 (vR 125),dE P n52 353 (vR 138),dE P n53 369 (vR 150),dE P n54 385 (vR 162),dE P n56 401 (vR 174),dE P n57 417 (vR 186),dE P n58 421 (vI 8 420),dE P n59 427 (vR 193),dE P n60 431 (vI 90 430),dE P n61 433 (vI 12 432),dE P n62 435 (vI 0 434),dE P n64 605 (vR 320),dE P n65 612 (vR 331),dE P CZ 620 (vR 338),dE P CY 630 (vR 345),dE P CW 639 (vR 352),dE P CV 645 (vR 357),dE P CU 660 (vR 364),dE P CT 667 (vR 371),dE P CS 677 (vR 378),dE P CQ 696 (vR 385),dE P CP 711 (vR 392),dE P CO 724 (vR 399),dE P CN 738 (vR 406),dE P CM 744 (vR 411),dE P CL 750 (vR 416),dE P CK 770 (vR 423)] 47
noncomputable def Mv:=oR [1,20,5,27,13,34,16,41,23,48,25,55,29,62,39,97,41,102,56,109,60,114,72,121,74,134,76,146,78,158,80,170,82,182,86,192,96,199,208,330,211,337,215,344,219,351,222,356,226,363,235,370,237,377,242,384,261,391,285,398,302,405,305,410,319,415,333,422]
noncomputable def Mu:=oQ y0 [vS n49 616,vS n33 617] 0
noncomputable def Ms:=oN CZ CZ (top 29)
noncomputable def J8:=oE CZ CZ 613 211 2 332 618
noncomputable def J7:=oG CZ CZ (top 29) n55 428 337
noncomputable def Mr:=oQ y0 [vS K6 626,vS K5 627] 0
noncomputable def Mq:=oN CY CY (top 31)
noncomputable def J6:=oE CY CY 623 215 2 339 628
noncomputable def J5:=oG CY CY (top 31) q8 621 344
noncomputable def Mp:=oQ y0 [vS FZ 634,vS Iv 635,vS MF 636] 0
noncomputable def Mo:=oN CW CW (top 32)
noncomputable def J4:=oE CW CW 631 219 2 346 637
noncomputable def J3:=oG CW CW (top 32) q8 621 351
noncomputable def Mn:=oN CV CV (top 33)
noncomputable def J2 (P:Params):Obj:=oC y1 CV 640 CV 641 n1 642 222 2 0 0 3 353 true 181 354 .none .none .none (vR 355) 643 222 n1 644
noncomputable def J1:=oG CV CV (top 33) q8 621 356
noncomputable def Mm:=oQ y0 [vS K6 649,vS NW 650,vS NV 651,vS ME 652,vS Iu 653,vS K4 654,vS NU 655,vS NT 656,vS NS 657] 0
noncomputable def Ml:=oN CU CU (top 34)
noncomputable def J0:=oE CU CU 646 226 2 358 658
noncomputable def JZ:=oG CU CU (top 34) q8 621 363
noncomputable def Mj:=oQ y0 [vS K3 664] 0
noncomputable def Mi:=oN CT CT (top 35)
noncomputable def JY:=oE CT CT 661 235 1 365 665
noncomputable def JX:=oG CT CT (top 35) q8 621 370
noncomputable def Mh:=oQ y0 [vS FZ 671,vS Iv 672,vS NR 673,vS Iu 674] 0
noncomputable def Mg:=oN CS CS (top 36)
noncomputable def JW:=oE CS CS 668 237 3 372 675
noncomputable def JV:=oG CS CS (top 36) q8 621 377
noncomputable def Me:=oQ y0 [vS MD 681,vS Ir 682,vS Iq 683,vS Ip 684,vS K2 685,vS FZ 686,vS Iv 687,vS Iu 688,vS NQ 689,vS NP 690,vS K4 691,vS MC 692,vS K5 693] 0
noncomputable def Md:=oN CQ CQ (top 37)
noncomputable def JU:=oE CQ CQ 678 242 7 379 694
noncomputable def JT:=oG CQ CQ (top 37) q8 621 384
noncomputable def Mc:=oQ y0 [vS Ir 700,vS Iq 701,vS Ip 702,vS K1 703,vS MB 704,vS MA 705,vS ME 706,vS NO 707,vS K4 708] 0
noncomputable def Mb:=oN CP CP (top 38)
noncomputable def JS:=oE CP CP 697 261 5 386 709
noncomputable def JR:=oG CP CP (top 38) q8 621 391
noncomputable def Ma:=oQ y0 [vS FZ 715,vS Iv 716,vS K2 717,vS Iu 718,vS MA 719,vS MF 720,vS NN 721] 0
noncomputable def L9:=oN CO CO (top 39)
noncomputable def JQ:=oE CO CO 712 285 3 393 722
noncomputable def JP:=oG CO CO (top 39) q8 621 398
noncomputable def L8:=oQ y0 [vS K1 728,vS MD 729,vS Ir 730,vS Iq 731,vS Ip 732,vS Mz 733,vS MB 734,vS K3 735] 0
noncomputable def L7:=oN CN CN (top 40)
noncomputable def JO:=oE CN CN 725 302 7 400 736
noncomputable def JN:=oG CN CN (top 40) q8 621 405
noncomputable def L6:=oN CM CM (top 41)
noncomputable def JM (P:Params):Obj:=oC y1 CM 739 CM 740 n1 741 305 4 0 0 3 407 true 181 408 .none .none .none (vR 409) 742 305 n1 743
noncomputable def JL:=oG CM CM (top 41) q8 621 410
noncomputable def L5:=oN CL CL (top 42)
noncomputable def JK (P:Params):Obj:=oC y1 CL 745 CL 746 n1 747 319 6 0 0 3 412 true 181 413 .none .none .none (vR 414) 748 319 n1 749
noncomputable def JJ:=oG CL CL (top 42) q8 621 415
noncomputable def L4:=oQ y0 [vS K6 754,vS K2 755,vS NM 756,vS Ir 757,vS Iq 758,vS Ip 759,vS NL 760,vS MC 761,vS K5 762,vS FZ 763,vS Mz 764,vS K1 765,vS NK 766,vS K3 767] 0
noncomputable def L3:=oN CK CK (top 43)
noncomputable def JI:=oE CK CK 751 333 1 417 768
noncomputable def JH:=oG CK CK (top 43) q8 621 422
noncomputable def lf0:Life:=⟨[],[],[],0,[],[],false,⟨[]⟩,[],0,false,false,false,(.ofNat 0),[(.ofNat 2000),(.ofNat 10),(.ofNat 10)],false,0,true,[],[],0,false⟩
noncomputable def hcd:Value:=(vR 13)
noncomputable def hq:Pos:=⟨0,0,0,0⟩
noncomputable def hE:Env:={ scope:=hp.main.scope,locals:=mainNs,globals:=mainNs,cells:=[],code:=hcd,frame:=some 14 }
noncomputable def hC:Code:=.body (behindTheImports hp) hE
noncomputable def hB:List Frame:=[topFrame hq]
noncomputable def hAn:Option Value:=(some (vR 6))
noncomputable def hA (P:Params):Heap:=⟨⟨(boot_o_0 P::boot_o_1 P::boot_o_2 P::boot_o_3 P::boot_o_4 P::boot_o_5 P::boot_o_6 P::boot_o_7 P::boot_o_8 P::boot_o_9 P::boot_o_10 P::o0 P::o1 P::o2 P::o3 P::[])⟩,lf0⟩
noncomputable def tr1:=(tN boot_o_0 (tN boot_o_1 (tN boot_o_3 (tL boot_o_7) (tL o0)) (tN boot_o_5 (tL boot_o_9) (tL o2))) (tN boot_o_2 (tN boot_o_4 (tL boot_o_8) (tL o1)) (tN boot_o_6 (tL boot_o_10) (tL o3))))
noncomputable def S1 (w:World) (os:OsState):SharedT:=⟨tr1 w.params,15,lf0,⟨[]⟩,⟨0,0,0,0⟩,187,os⟩
noncomputable def tr2:=(tN boot_o_0 (tN boot_o_1 (tN o4 (tN boot_o_7 (tN o0 (tN o14 (tN o34 (tL o75) tZ) (tL o0)) (tN o23 (tL o1) (tL o0))) (tN o1 (tN o0 (tL o0) (tL o60)) (tN o28 (tL o49) (tL o0)))) (tN o0 (tN o7 (tN o17 (tL o0) (tL o0)) (tN o1 (tL o45) (tL o67))) (tN o12 (tN o0 (tL o40) (tL o0)) (tN o31 (tL o53) (tL o0))))) (tN boot_o_5 (tN boot_o_9 (tN o6 (tN o15 (tL o1) (tL o56)) (tN o25 (tL o0) (tL o65))) (tN o0 (tN o20 (tL o39) (tL o1)) (tN o0 (tL o51) (tL o70)))) (tN o2 (tN o9 (tN o1 (tL o37) (tL o58)) (tN o0 (tL o47) (tL o30))) (tN o0 (tN o22 (tL o42) (tL o63)) (tN o32 (tL o1) (tL o73)))))) (tN boot_o_2 (tN boot_o_4 (tN boot_o_8 (tN o1 (tN o0 (tN o0 (tL o76) tZ) (tL o55)) (tN o24 (tL o43) (tL o1))) (tN o10 (tN o19 (tL o1) (tL o0)) (tN o29 (tL o50) (tL o1)))) (tN o5 (tN o8 (tN o0 (tL o36) (tL o1)) (tN o26 (tL o46) (tL o68))) (tN o13 (tN o1 (tL o41) (tL o62)) (tN o0 (tL o0) (tL o72))))) (tN boot_o_6 (tN boot_o_10 (tN o0 (tN o16 (tL o35) (tL o57)) (tN o0 (tL o44) (tL o66))) (tN o11 (tN o21 (tL o0) (tL o61)) (tN o30 (tL o52) (tL o71)))) (tN o3 (tN o0 (tN o18 (tL o38) (tL o59)) (tN o27 (tL o48) (tL o69))) (tN o1 (tN o0 (tL o0) (tL o64)) (tN o33 (tL o54) (tL o74)))))))
noncomputable def S2 (w:World) (os:OsState):SharedT:=⟨tr2 w.params,129,lf0,⟨[]⟩,⟨0,0,0,0⟩,338,os⟩
noncomputable def tr3:=(tN boot_o_0 (tN boot_o_1 (tN o77 (tN boot_o_7 (tN o0 (tN o14 (tN o34 (tL o75) tZ) (tN o0 (tL o97) tZ)) (tN o23 (tN o1 (tL o88) tZ) (tL o0))) (tN o1 (tN o0 (tN o0 (tL o83) tZ) (tL o60)) (tN o28 (tN o49 (tL o93) tZ) (tL o0)))) (tN o0 (tN o7 (tN o17 (tN o0 (tL o81) tZ) (tN o0 (tL FW) tZ)) (tN o1 (tN o45 (tL o90) tZ) (tL o67))) (tN o12 (tN o0 (tN o40 (tL o86) tZ) (tL o0)) (tN o31 (tN o53 (tL o95) tZ) (tL o0))))) (tN boot_o_5 (tN boot_o_9 (tN o6 (tN o15 (tN o1 (tL o80) tZ) (tN o56 (tL o98) tZ)) (tN o25 (tN o0 (tL o1) tZ) (tL o65))) (tN o0 (tN o20 (tN o39 (tL o84) tZ) (tL o1)) (tN o0 (tN o51 (tL o80) tZ) (tL o70)))) (tN o2 (tN o9 (tN o1 (tN o37 (tL o1) tZ) (tL o58)) (tN o0 (tN o47 (tL o91) tZ) (tL o30))) (tN o0 (tN o22 (tN o42 (tL o80) tZ) (tL o63)) (tN o32 (tN o1 (tL o1) tZ) (tL o79)))))) (tN boot_o_2 (tN boot_o_4 (tN boot_o_8 (tN o1 (tN o0 (tN o0 (tL o76) tZ) (tN o55 (tL o0) tZ)) (tN o24 (tN o43 (tL o0) tZ) (tL o1))) (tN o10 (tN o19 (tN o1 (tL o0) tZ) (tL o0)) (tN o29 (tN o50 (tL o94) tZ) (tL o1)))) (tN o78 (tN o8 (tN o0 (tN o36 (tL o0) tZ) (tN o1 (tL FV) tZ)) (tN o26 (tN o46 (tL o0) tZ) (tL o68))) (tN o13 (tN o1 (tN o41 (tL o87) tZ) (tL o62)) (tN o0 (tN o0 (tL o0) tZ) (tL o72))))) (tN boot_o_6 (tN boot_o_10 (tN o0 (tN o16 (tN o35 (tL o30) tZ) (tN o57 (tL o99) tZ)) (tN o0 (tN o44 (tL o89) tZ) (tL o66))) (tN o11 (tN o21 (tN o0 (tL o85) tZ) (tL o61)) (tN o30 (tN o52 (tL o30) tZ) (tL o71)))) (tN o3 (tN o0 (tN o18 (tN o38 (tL o82) tZ) (tL o59)) (tN o27 (tN o48 (tL o92) tZ) (tL o69))) (tN o1 (tN o0 (tN o0 (tL o30) tZ) (tL o64)) (tN o33 (tN o54 (tL o96) tZ) (tL o74)))))))
noncomputable def S3 (w:World) (os:OsState):SharedT:=⟨tr3 w.params,165,lf0,⟨[]⟩,⟨0,0,0,0⟩,386,os⟩
noncomputable def tr4:=(tN boot_o_0 (tN boot_o_1 (tN NH (tN boot_o_7 (tN o0 (tN o14 (tN o34 (tL o75) (tL Ia)) (tN o0 (tL o97) tZ)) (tN o23 (tN o1 (tL o88) tZ) (tN o0 (tL Ik) tZ))) (tN o1 (tN o0 (tN o0 (tL o83) tZ) (tN o60 (tL Io) tZ)) (tN o28 (tN o49 (tL o93) tZ) (tN o0 (tL Ig) tZ)))) (tN o0 (tN o7 (tN o17 (tN o0 (tL o81) tZ) (tN o0 (tL FW) tZ)) (tN o1 (tN o45 (tL o90) tZ) (tN o67 (tL Ii) tZ))) (tN o12 (tN o0 (tN o40 (tL o86) tZ) (tN o0 (tL Il) tZ)) (tN o31 (tN o53 (tL o95) tZ) (tN o0 (tL Ie) tZ))))) (tN boot_o_5 (tN boot_o_9 (tN o6 (tN o15 (tN o1 (tL o80) (tL FN)) (tN o56 (tL o98) tZ)) (tN o25 (tN o0 (tL o1) tZ) (tN o65 (tL o80) tZ))) (tN o0 (tN o20 (tN o39 (tL o84) tZ) (tN o1 (tL o1) tZ)) (tN o0 (tN o51 (tL o80) tZ) (tN o70 (tL FQ) tZ)))) (tN o2 (tN o9 (tN o1 (tN o37 (tL o1) tZ) (tN o58 (tL o80) tZ)) (tN o0 (tN o47 (tL o91) tZ) (tN o30 (tL o1) tZ))) (tN o0 (tN o22 (tN o42 (tL o80) tZ) (tN o63 (tL FT) tZ)) (tN o32 (tN o1 (tL o1) tZ) (tN FU (tL o0) tZ)))))) (tN boot_o_2 (tN boot_o_4 (tN boot_o_8 (tN o1 (tN o0 (tN o0 (tL o76) (tL FO)) (tN o55 (tL o0) tZ)) (tN o24 (tN o43 (tL o0) tZ) (tN o1 (tL Ij) tZ))) (tN o10 (tN o19 (tN o1 (tL o0) tZ) (tN o0 (tL o0) tZ)) (tN o29 (tN o50 (tL o94) tZ) (tN o1 (tL o0) tZ)))) (tN NG (tN o8 (tN o0 (tN o36 (tL o0) tZ) (tN o1 (tL FV) tZ)) (tN o26 (tN o46 (tL o0) tZ) (tN o68 (tL o0) tZ))) (tN o13 (tN o1 (tN o41 (tL o87) tZ) (tN o62 (tL o0) tZ)) (tN o0 (tN o0 (tL o0) tZ) (tN o72 (tL Ib) tZ))))) (tN boot_o_6 (tN boot_o_10 (tN o0 (tN o16 (tN o35 (tL o30) tZ) (tN o57 (tL o99) tZ)) (tN o0 (tN o44 (tL o89) tZ) (tN o66 (tL o30) tZ))) (tN o11 (tN o21 (tN o0 (tL o85) tZ) (tN o61 (tL Im) tZ)) (tN o30 (tN o52 (tL o30) tZ) (tN o71 (tL FP) tZ)))) (tN o3 (tN o0 (tN o18 (tN o38 (tL o82) tZ) (tN o59 (tL o30) tZ)) (tN o27 (tN o48 (tL o92) tZ) (tN o69 (tL Ih) tZ))) (tN o1 (tN o0 (tN o0 (tL o30) tZ) (tN o64 (tL FR) tZ)) (tN o33 (tN o54 (tL o96) tZ) (tN o74 (tL o1) tZ)))))))
noncomputable def S4 (w:World) (os:OsState):SharedT:=⟨tr4 w.params,194,lf0,⟨[]⟩,⟨0,0,0,0⟩,436,os⟩
noncomputable def tr5:=(tN boot_o_0 (tN boot_o_1 (tN NF (tN boot_o_7 (tN o0 (tN o14 (tN o34 (tN o75 (tL o0) tZ) (tN Ia (tL Hn) tZ)) (tN o0 (tN o97 (tL Kn) tZ) (tL o1))) (tN o23 (tN o1 (tN o88 (tL Ks) tZ) (tL HZ)) (tN o0 (tN Ik (tL Hv) tZ) (tL HP)))) (tN o1 (tN o0 (tN o0 (tN o83 (tL o1) tZ) (tN KS (tL Kb) tZ)) (tN o60 (tN Io (tL Hy) tZ) (tL KG))) (tN o28 (tN o49 (tN o93 (tL o0) tZ) (tL o0)) (tN o0 (tN Ig (tL o0) tZ) (tL HL))))) (tN o0 (tN o7 (tN o17 (tN o0 (tN o81 (tL Kv) tZ) (tN o30 (tL Ke) tZ)) (tN o0 (tN FW (tL o1) tZ) (tL HU))) (tN o1 (tN o45 (tN o90 (tL HD) tZ) (tL o0)) (tN o67 (tN Ii (tL o0) tZ) (tL KA)))) (tN o12 (tN o0 (tN o40 (tN o86 (tL HG) tZ) (tN KQ (tL Hh) tZ)) (tN o0 (tN Il (tL Kk) tZ) (tL HQ))) (tN o31 (tN o53 (tN o95 (tL o0) tZ) (tL KJ)) (tN o0 (tN Ie (tL Kf) tZ) (tL o0)))))) (tN boot_o_5 (tN boot_o_9 (tN o6 (tN o15 (tN o1 (tN o80 (tL Kw) tZ) (tN FN (tL Hk) tZ)) (tN o56 (tN o98 (tL Hz) tZ) (tL o0))) (tN o25 (tN o0 (tN o1 (tL Kr) tZ) (tL o1)) (tN o65 (tN o80 (tL o1) tZ) (tL o0)))) (tN o0 (tN o20 (tN o39 (tN o84 (tL o0) tZ) (tN o0 (tL Ka) tZ)) (tN o1 (tN o1 (tL o0) tZ) (tL KD))) (tN o0 (tN o51 (tN o80 (tL HC) tZ) (tL KL)) (tN o70 (tN FQ (tL Kg) tZ) (tL o1))))) (tN o2 (tN o9 (tN o1 (tN o37 (tN o1 (tL HH) tZ) (tN o0 (tL o0) tZ)) (tN o58 (tN o80 (tL o0) tZ) (tL o0))) (tN o0 (tN o47 (tN o91 (tL o1) tZ) (tL HY)) (tN o30 (tN o1 (tL Hu) tZ) (tL Kz)))) (tN o0 (tN o22 (tN o42 (tN o80 (tL o0) tZ) (tL KP)) (tN o63 (tN FT (tL Kj) tZ) (tL o1))) (tN o32 (tN o1 (tN o1 (tL Ko) tZ) (tL HV)) (tN FU (tN o0 (tL Hq) tZ) (tL HK))))))) (tN boot_o_2 (tN boot_o_4 (tN boot_o_8 (tN o1 (tN o0 (tN o0 (tN o76 (tL o1) tZ) (tN FO (tL Hm) tZ)) (tN o55 (tN o0 (tL HA) tZ) (tL KI))) (tN o24 (tN o43 (tN o0 (tL o0) tZ) (tL o0)) (tN o1 (tN Ij (tL o0) tZ) (tL HN)))) (tN o10 (tN o19 (tN o1 (tN o0 (tL Ku) tZ) (tN KR (tL o0) tZ)) (tN o0 (tN o0 (tL Hx) tZ) (tL o0))) (tN o29 (tN o50 (tN o94 (tL Kp) tZ) (tL o1)) (tN o1 (tN o0 (tL o1) tZ) (tL o0))))) (tN ND (tN o8 (tN o0 (tN o36 (tN o0 (tL HI) tZ) (tN KY (tL Kc) tZ)) (tN o1 (tN FV (tL Km) tZ) (tL HS))) (tN o26 (tN o46 (tN o0 (tL o0) tZ) (tL KN)) (tN o68 (tN o0 (tL Kh) tZ) (tL o0)))) (tN o13 (tN o1 (tN o41 (tN o87 (tL HF) tZ) (tL o0)) (tN o62 (tN o0 (tL o0) tZ) (tL o0))) (tN o0 (tN o0 (tN o0 (tL o1) tZ) (tL HW)) (tN o72 (tN Ib (tL Hr) tZ) (tL Kx)))))) (tN boot_o_6 (tN boot_o_10 (tN o0 (tN o16 (tN o35 (tN o30 (tL o0) tZ) (tN o0 (tL Hj) tZ)) (tN o57 (tN o99 (tL o0) tZ) (tL KH))) (tN o0 (tN o44 (tN o89 (tL HE) tZ) (tL KO)) (tN o66 (tN o30 (tL Ki) tZ) (tL o1)))) (tN o11 (tN o21 (tN o0 (tN o85 (tL Kt) tZ) (tN o1 (tL Hi) tZ)) (tN o61 (tN Im (tL o1) tZ) (tL HR))) (tN o30 (tN o52 (tN o30 (tL HB) tZ) (tL o0)) (tN o71 (tN FP (tL o0) tZ) (tL Ky))))) (tN o3 (tN o0 (tN o18 (tN o38 (tN o82 (tL o0) tZ) (tN KW (tL o1) tZ)) (tN o59 (tN o30 (tL Kl) tZ) (tL o1))) (tN o27 (tN o48 (tN o92 (tL Kq) tZ) (tL HX)) (tN o69 (tN Ih (tL Ht) tZ) (tL HM)))) (tN o1 (tN o0 (tN o0 (tN o30 (tL o1) tZ) (tL H9)) (tN o64 (tN FR (tL Hw) tZ) (tL KC))) (tN o33 (tN o54 (tN o96 (tL o0) tZ) (tL o0)) (tN o74 (tN o1 (tL Ho) tZ) (tL HJ))))))))
noncomputable def S5 (w:World) (os:OsState):SharedT:=⟨tr5 w.params,332,lf0,⟨[]⟩,⟨0,0,0,0⟩,613,os⟩
noncomputable def tr6:=(tN boot_o_0 (tN boot_o_1 (tN J9 (tN boot_o_7 (tN o0 (tN o14 (tN o34 (tN o75 (tL o0) (tL Md)) (tN Ia (tL Hn) tZ)) (tN o0 (tN o97 (tL Kn) (tL JK)) (tN o1 (tL J4) tZ))) (tN o23 (tN o1 (tN o88 (tL Ks) (tL JP)) (tN HZ (tL o0) tZ)) (tN o0 (tN Ik (tL Hv) tZ) (tN HP (tL Mj) tZ)))) (tN o1 (tN o0 (tN o0 (tN o83 (tL o1) (tL JS)) (tN KS (tL Kb) tZ)) (tN o60 (tN Io (tL Hy) (tL JH)) (tN KG (tL o1) tZ))) (tN o28 (tN o49 (tN o93 (tL o0) (tL o0)) (tN o0 (tL Mq) tZ)) (tN o0 (tN Ig (tL o0) tZ) (tN HL (tL o0) tZ))))) (tN o0 (tN o7 (tN o17 (tN o0 (tN o81 (tL Kv) (tL o1)) (tN o30 (tL Ke) tZ)) (tN o0 (tN FW (tL o1) (tL L4)) (tN HU (tL Mn) tZ))) (tN o1 (tN o45 (tN o90 (tL HD) (tL o0)) (tN o0 (tL o0) tZ)) (tN o67 (tN Ii (tL o0) tZ) (tN KA (tL JX) tZ)))) (tN o12 (tN o0 (tN o40 (tN o86 (tL HG) (tL Ma)) (tN KQ (tL Hh) tZ)) (tN o0 (tN Il (tL Kk) tZ) (tN HQ (tL J0) tZ))) (tN o31 (tN o53 (tN o95 (tL o0) (tL JL)) (tN KJ (tL o1) tZ)) (tN o0 (tN Ie (tL Kf) tZ) (tN o0 (tL o0) tZ)))))) (tN boot_o_5 (tN boot_o_9 (tN o6 (tN o15 (tN o1 (tN o80 (tL Kw) (tL JT)) (tN FN (tL Hk) tZ)) (tN o56 (tN o98 (tL Hz) (tL o0)) (tN o0 (tL o0) tZ))) (tN o25 (tN o0 (tN o1 (tL Kr) (tL o1)) (tN o1 (tL J8) tZ)) (tN o65 (tN o80 (tL o1) tZ) (tN o0 (tL Mi) tZ)))) (tN o0 (tN o20 (tN o39 (tN o84 (tL o0) (tL o0)) (tN o0 (tL Ka) tZ)) (tN o1 (tN o1 (tL o0) tZ) (tN KD (tL o0) tZ))) (tN o0 (tN o51 (tN o80 (tL HC) (tL L6)) (tN KL (tL J5) tZ)) (tN o70 (tN FQ (tL Kg) tZ) (tN o1 (tL JW) tZ))))) (tN o2 (tN o9 (tN o1 (tN o37 (tN o1 (tL HH) (tL o0)) (tN o0 (tL o0) tZ)) (tN o58 (tN o80 (tL o0) (tL L3)) (tN o0 (tL J1) tZ))) (tN o0 (tN o47 (tN o91 (tL o1) (tL JO)) (tN HY (tL Mr) tZ)) (tN o30 (tN o1 (tL Hu) tZ) (tN Kz (tL o1) tZ)))) (tN o0 (tN o22 (tN o42 (tN o80 (tL o0) (tL L9)) (tN KP (tL o1) tZ)) (tN o63 (tN FT (tL Kj) tZ) (tN o1 (tL o0) tZ))) (tN o32 (tN o1 (tN o1 (tL Ko) (tL o1)) (tN HV (tL o0) tZ)) (tN FU (tN o0 (tL Hq) tZ) (tN HK (tL Me) tZ))))))) (tN boot_o_2 (tN boot_o_4 (tN boot_o_8 (tN o1 (tN o0 (tN o0 (tN o76 (tL o1) (tL JU)) (tN FO (tL Hm) tZ)) (tN o55 (tN o0 (tL HA) (tL JJ)) (tN KI (tL J3) tZ))) (tN o24 (tN o43 (tN o0 (tL o0) (tL o0)) (tN o0 (tL Ms) tZ)) (tN o1 (tN Ij (tL o0) tZ) (tN HN (tL o0) tZ)))) (tN o10 (tN o19 (tN o1 (tN o0 (tL Ku) (tL JR)) (tN KR (tL o0) tZ)) (tN o0 (tN o0 (tL Hx) tZ) (tN o0 (tL Mm) tZ))) (tN o29 (tN o50 (tN o94 (tL Kp) (tL o1)) (tN o1 (tL J6) tZ)) (tN o1 (tN o0 (tL o1) tZ) (tN o0 (tL Mg) tZ))))) (tN Mv (tN o8 (tN o0 (tN o36 (tN o0 (tL HI) (tL Mc)) (tN KY (tL Kc) tZ)) (tN o1 (tN FV (tL Km) (tL o0)) (tN HS (tL J2) tZ))) (tN o26 (tN o46 (tN o0 (tL o0) (tL L7)) (tN KN (tL o1) tZ)) (tN o68 (tN o0 (tL Kh) tZ) (tN o0 (tL o0) tZ)))) (tN o13 (tN o1 (tN o41 (tN o87 (tL HF) (tL o0)) (tN o0 (tL o0) tZ)) (tN o62 (tN o0 (tL o0) tZ) (tN o0 (tL JZ) tZ))) (tN o0 (tN o0 (tN o0 (tL o1) (tL o0)) (tN HW (tL Mp) tZ)) (tN o72 (tN Ib (tL Hr) tZ) (tN Kx (tL o1) tZ)))))) (tN boot_o_6 (tN boot_o_10 (tN o0 (tN o16 (tN o35 (tN o30 (tL o0) (tL o0)) (tN o0 (tL Hj) tZ)) (tN o57 (tN o99 (tL o0) (tL o1)) (tN KH (tL o1) tZ))) (tN o0 (tN o44 (tN o89 (tL HE) (tL L8)) (tN KO (tL J7) tZ)) (tN o66 (tN o30 (tL Ki) tZ) (tN o1 (tL JY) tZ)))) (tN o11 (tN o21 (tN o0 (tN o85 (tL Kt) (tL o1)) (tN o1 (tL Hi) tZ)) (tN o61 (tN Im (tL o1) tZ) (tN HR (tL Ml) tZ))) (tN o30 (tN o52 (tN o30 (tL HB) (tL JM)) (tN o0 (tL o0) tZ)) (tN o71 (tN FP (tL o0) tZ) (tN Ky (tL JV) tZ))))) (tN o3 (tN o0 (tN o18 (tN o38 (tN o82 (tL o0) (tL Mb)) (tN KW (tL o1) tZ)) (tN o59 (tN o30 (tL Kl) (tL JI)) (tN o1 (tL o0) tZ))) (tN o27 (tN o48 (tN o92 (tL Kq) (tL JN)) (tN HX (tL o0) tZ)) (tN o69 (tN Ih (tL Ht) tZ) (tN HM (tL Mh) tZ)))) (tN o1 (tN o0 (tN o0 (tN o30 (tL o1) (tL JQ)) (tN H9 (tL Mu) tZ)) (tN o64 (tN FR (tL Hw) tZ) (tN KC (tL o1) tZ))) (tN o33 (tN o54 (tN o96 (tL o0) (tL L5)) (tN o0 (tL Mo) tZ)) (tN o74 (tN o1 (tL Ho) tZ) (tN HJ (tL o0) tZ))))))))
noncomputable def S6 (w:World) (os:OsState):SharedT:=⟨tr6 w.params,424,lf0,⟨[]⟩,⟨0,0,0,0⟩,771,os⟩
noncomputable def hF (P:Params):Heap:=⟨⟨(boot_o_0 P::boot_o_1 P::boot_o_2 P::J9 P::boot_o_4 P::boot_o_5 P::boot_o_6 P::boot_o_7 P::boot_o_8 P::boot_o_9 P::boot_o_10 P::o0 P::Mv P::o2 P::o3 P::o0 P::o1 P::o6 P::o0 P::o7 P::o8 P::o9 P::o0 P::o1 P::o10 P::o0 P::o11 P::o12 P::o13 P::o0 P::o1 P::o14 P::o0 P::o15 P::o16 P::o17 P::o0 P::o1 P::o18 P::o0 P::o19 P::o20 P::o21 P::o0 P::o1 P::o22 P::o0 P::o23 P::o24 P::o25 P::o0 P::o1 P::o26 P::o0 P::o27 P::o28 P::o29 P::o0 P::o30 P::o31 P::o0 P::o32 P::o33 P::o34 P::o0 P::o1 P::o35 P::o0 P::o36 P::o37 P::o38 P::o0 P::o1 P::o39 P::o0 P::o40 P::o41 P::o42 P::o0 P::o1 P::o43 P::o0 P::o44 P::o45 P::o46 P::o47 P::o48 P::o49 P::o50 P::o51 P::o52 P::o53 P::o0 P::o1 P::o54 P::o0 P::o55 P::o56 P::o57 P::o0 P::o1 P::o58 P::o59 P::o60 P::o0 P::o1 P::o61 P::o0 P::o62 P::o63 P::o64 P::o0 P::o1 P::o65 P::o66 P::o67 P::o68 P::o30 P::o69 P::o0 P::o1 P::o70 P::o71 P::o0 P::o72 P::FU P::o74 P::o75 P::o76 P::o80 P::o30 P::o81 P::o0 P::o1 P::o82 P::o83 P::o0 P::o84 P::o85 P::o86 P::o87 P::o80 P::o30 P::o88 P::o0 P::o1 P::o89 P::o90 P::o0 P::o91 P::o92 P::o93 P::o94 P::o80 P::o30 P::o95 P::o0 P::o1 P::o96 P::o97 P::o0 P::o98 P::o99 P::FW P::FV P::o80 P::o30 P::Io P::o0 P::o1 P::Im P::Il P::o0 P::FT P::FR P::Ik P::Ij P::o80 P::o30 P::Ii P::o0 P::o1 P::Ih P::Ig P::o0 P::FQ P::FP P::Ie P::Ib P::o0 P::o1 P::Ia P::FO P::FN P::o0 P::o30 P::KY P::o0 P::KW P::KS P::KR P::o0 P::o1 P::KQ P::o0 P::KP P::H9 P::HZ P::o0 P::o1 P::KO P::o0 P::KN P::HY P::HX P::o0 P::o1 P::KL P::o0 P::KJ P::HW P::HV P::o0 P::o1 P::KI P::o0 P::KH P::HU P::HS P::o0 P::o1 P::KG P::o0 P::KD P::HR P::HQ P::o0 P::o1 P::KC P::HP P::HN P::o0 P::o1 P::KA P::o0 P::Kz P::HM P::HL P::o0 P::o1 P::Ky P::o0 P::Kx P::HK P::HJ P::o0 P::o1 P::Kw P::o0 P::Kv P::HI P::HH P::o0 P::o1 P::Ku P::o0 P::Kt P::HG P::HF P::o0 P::o1 P::Ks P::o0 P::Kr P::HE P::HD P::o0 P::o1 P::Kq P::o0 P::Kp P::HC P::HB P::o0 P::o1 P::Ko P::o0 P::Kn P::HA P::Hz P::o0 P::o1 P::Km P::o0 P::Kl P::Hy P::Hx P::o0 P::o1 P::Kk P::o0 P::Kj P::Hw P::Hv P::o0 P::o1 P::Ki P::o0 P::Kh P::Hu P::Ht P::o0 P::o1 P::Kg P::o0 P::Kf P::Hr P::Hq P::Ho P::Hn P::Hm P::Hk P::Hj P::Ke P::Kc P::o0 P::o1 P::Kb P::o0 P::Ka P::Hi P::Hh P::o0 P::o1 P::Mu P::o0 P::Ms P::J8 P::J7 P::o0 P::o1 P::Mr P::o0 P::Mq P::J6 P::J5 P::o0 P::o1 P::Mp P::o0 P::Mo P::J4 P::J3 P::o0 P::o1 P::Mn P::J2 P::J1 P::o0 P::o1 P::Mm P::o0 P::Ml P::J0 P::JZ P::o0 P::o1 P::Mj P::o0 P::Mi P::JY P::JX P::o0 P::o1 P::Mh P::o0 P::Mg P::JW P::JV P::o0 P::o1 P::Me P::o0 P::Md P::JU P::JT P::o0 P::o1 P::Mc P::o0 P::Mb P::JS P::JR P::o0 P::o1 P::Ma P::o0 P::L9 P::JQ P::JP P::o0 P::o1 P::L8 P::o0 P::L7 P::JO P::JN P::o0 P::o1 P::L6 P::JM P::JL P::o0 P::o1 P::L5 P::JK P::JJ P::o0 P::o1 P::L4 P::o0 P::L3 P::JI P::JH P::[])⟩,lf0⟩
noncomputable def SA (w:World) (os:OsState):Shared:=⟨hA w.params,⟨[]⟩,⟨0,0,0,0⟩,187,os⟩
noncomputable def SF (w:World) (os:OsState):Shared:=⟨hF w.params,⟨[]⟩,⟨0,0,0,0⟩,771,os⟩
noncomputable def S0 (w:World) (os:OsState):Shared:=⟨boot_heap w.params,⟨[]⟩,boot_drawn,boot_toks,os⟩
noncomputable def M4:List Stmt:=[top 0,top 1,top 2,top 3,top 4,top 5,top 6,top 7,top 8,top 9,top 10,top 11,top 12,top 13,top 14]
noncomputable def M3:List Stmt:=[top 15,top 16,top 17]
noncomputable def M0:List Stmt:=[top 18,top 19,top 20,top 21,top 22,top 23,top 24,top 25,top 26]
noncomputable def MZ:List Stmt:=[top 27,top 28]
noncomputable def MY:List Stmt:=[top 29,top 30,top 31,top 32,top 33,top 34,top 35,top 36,top 37,top 38,top 39,top 40,top 41,top 42,top 43]
noncomputable def hV:Program:={ hp with main:={ hp.main with body:=[top 0,top 2,top 3,top 4,top 5,top 6,top 8,top 9,top 10,top 11,top 12,top 14,top 15,top 16,top 17,top 18,top 19,top 21,top 22,top 24,top 25,top 26,top 27,top 28,top 29,top 31,top 32,top 33,top 34,top 35,top 36,top 37,top 38,top 39,top 40,top 41,top 42,top 43] } }
noncomputable def hAs:List Addr:=0::1::2::3::4::5::6::7::8::9::10::13::14::20::21::27::28::34::35::41::42::48::49::55::56::69::70::76::77::83::84::85::86::87::88::89::97::98::102::103::109::110::114::115::123::124::125::126::136::137::138::148::149::150::160::161::162::172::173::174::184::185::186::192::193::206::207::213::214::220::221::227::228::234::235::239::240::246::247::253::254::260::261::267::268::274::275::281::282::288::289::295::296::302::303::309::310::316::317::318::319::320::321::322::330::331::337::338::344::345::351::352::356::357::363::364::370::371::377::378::384::385::391::392::398::399::405::406::410::411::415::416::422::423::[]
noncomputable def hK:Params->W.Frag:=λ P=>((nat_lit 0,boot_o_0 P)::(nat_lit 1,boot_o_1 P)::(nat_lit 2,boot_o_2 P)::(nat_lit 3,J9 P)::(nat_lit 4,boot_o_4 P)::(nat_lit 5,boot_o_5 P)::(nat_lit 6,boot_o_6 P)::(nat_lit 7,boot_o_7 P)::(nat_lit 8,boot_o_8 P)::(nat_lit 9,boot_o_9 P)::(nat_lit 10,boot_o_10 P)::(nat_lit 13,o2 P)::(nat_lit 14,o3 P)::(nat_lit 20,o8 P)::(nat_lit 21,o9 P)::(nat_lit 27,o12 P)::(nat_lit 28,o13 P)::(nat_lit 34,o16 P)::(nat_lit 35,o17 P)::(nat_lit 41,o20 P)::(nat_lit 42,o21 P)::(nat_lit 48,o24 P)::(nat_lit 49,o25 P)::(nat_lit 55,o28 P)::(nat_lit 56,o29 P)::(nat_lit 69,o37 P)::(nat_lit 70,o38 P)::(nat_lit 76,o41 P)::(nat_lit 77,o42 P)::(nat_lit 83,o45 P)::(nat_lit 84,o46 P)::(nat_lit 85,o47 P)::(nat_lit 86,o48 P)::(nat_lit 87,o49 P)::(nat_lit 88,o50 P)::(nat_lit 89,o51 P)::(nat_lit 97,o56 P)::(nat_lit 98,o57 P)::(nat_lit 102,o59 P)::(nat_lit 103,o60 P)::(nat_lit 109,o63 P)::(nat_lit 110,o64 P)::(nat_lit 114,o66 P)::(nat_lit 115,o67 P)::(nat_lit 123,o0 P)::(nat_lit 124,o72 P)::(nat_lit 125,FU P)::(nat_lit 126,o74 P)::(nat_lit 136,o0 P)::(nat_lit 137,o84 P)::(nat_lit 138,o85 P)::(nat_lit 148,o0 P)::(nat_lit 149,o91 P)::(nat_lit 150,o92 P)::(nat_lit 160,o0 P)::(nat_lit 161,o98 P)::(nat_lit 162,o99 P)::(nat_lit 172,o0 P)::(nat_lit 173,FT P)::(nat_lit 174,FR P)::(nat_lit 184,o0 P)::(nat_lit 185,FQ P)::(nat_lit 186,FP P)::(nat_lit 192,FO P)::(nat_lit 193,FN P)::(nat_lit 206,H9 P)::(nat_lit 207,HZ P)::(nat_lit 213,HY P)::(nat_lit 214,HX P)::(nat_lit 220,HW P)::(nat_lit 221,HV P)::(nat_lit 227,HU P)::(nat_lit 228,HS P)::(nat_lit 234,HR P)::(nat_lit 235,HQ P)::(nat_lit 239,HP P)::(nat_lit 240,HN P)::(nat_lit 246,HM P)::(nat_lit 247,HL P)::(nat_lit 253,HK P)::(nat_lit 254,HJ P)::(nat_lit 260,HI P)::(nat_lit 261,HH P)::(nat_lit 267,HG P)::(nat_lit 268,HF P)::(nat_lit 274,HE P)::(nat_lit 275,HD P)::(nat_lit 281,HC P)::(nat_lit 282,HB P)::(nat_lit 288,HA P)::(nat_lit 289,Hz P)::(nat_lit 295,Hy P)::(nat_lit 296,Hx P)::(nat_lit 302,Hw P)::(nat_lit 303,Hv P)::(nat_lit 309,Hu P)::(nat_lit 310,Ht P)::(nat_lit 316,Hr P)::(nat_lit 317,Hq P)::(nat_lit 318,Ho P)::(nat_lit 319,Hn P)::(nat_lit 320,Hm P)::(nat_lit 321,Hk P)::(nat_lit 322,Hj P)::(nat_lit 330,Hi P)::(nat_lit 331,Hh P)::(nat_lit 337,J8 P)::(nat_lit 338,J7 P)::(nat_lit 344,J6 P)::(nat_lit 345,J5 P)::(nat_lit 351,J4 P)::(nat_lit 352,J3 P)::(nat_lit 356,J2 P)::(nat_lit 357,J1 P)::(nat_lit 363,J0 P)::(nat_lit 364,JZ P)::(nat_lit 370,JY P)::(nat_lit 371,JX P)::(nat_lit 377,JW P)::(nat_lit 378,JV P)::(nat_lit 384,JU P)::(nat_lit 385,JT P)::(nat_lit 391,JS P)::(nat_lit 392,JR P)::(nat_lit 398,JQ P)::(nat_lit 399,JP P)::(nat_lit 405,JO P)::(nat_lit 406,JN P)::(nat_lit 410,JM P)::(nat_lit 411,JL P)::(nat_lit 415,JK P)::(nat_lit 416,JJ P)::(nat_lit 422,JI P)::(nat_lit 423,JH P)::[])
noncomputable abbrev hX:Shared->Bool:=λ s=>xlAt hV [] s&&recOk (RowW.records (OpenRow.toRowW (OpenLaw.row hl))) s
end HD14
end
section
namespace HD14
open PySem PySem.W PySem.W.X PyProof.Rows L2
set_option maxHeartbeats 0
theorem Lo:∀ w,(λ os=>topGo treeTable hp w 11 hAn 12 (S0 w os) (topStub hp))=λ os=>some (SA w os,⟨denote treeTable hC,hC,⟨0,0,0,0⟩,hB⟩):=by
 rewrite [PySem.W.Fast.te15667345088766844465,Z4,PySem.W.Fast.te11892475500146522536]
 intro w; kernel_rfl
theorem Lq:∀ w,(λ os=>segRun treeTable hp w 11 hAn 1 1 (SA w os) (blockOf (behindTheImports hp) hE hC ⟨0,0,0,0⟩ hB))=λ os=>some (Flow.next,(S1 w os).abs,hC,⟨0,0,0,0⟩):=by
 rewrite [PySem.W.Fast.te14374325043358763698,Z4]
 intro w; kernel_rfl
theorem Oe:∀ w,(λ os=>segRunT treeTable hp w 11 hAn 1 798 (S1 w os) (piecesOf M4 hE hC ⟨0,0,0,0⟩ hB))=λ os=>some (Flow.next,S2 w os,hC,⟨72,0,73,8⟩):=by
 rewrite [Yh,Z4]
 intro w; kernel_rfl
theorem Oc:∀ w,(λ os=>segRunT treeTable hp w 11 hAn 1 640 (S2 w os) (piecesOf M3 hE hC ⟨72,0,73,8⟩ hB))=λ os=>some (Flow.next,S3 w os,hC,⟨78,0,79,8⟩):=by
 rewrite [Yh,Z4]
 intro w; kernel_rfl
theorem Ob:∀ w,(λ os=>segRunT treeTable hp w 11 hAn 1 507 (S3 w os) (piecesOf M0 hE hC ⟨78,0,79,8⟩ hB))=λ os=>some (Flow.next,S4 w os,hC,⟨95,0,95,4⟩):=by
 rewrite [Yh,Z4]
 intro w; kernel_rfl
theorem Oa:∀ w,(λ os=>segRunT treeTable hp w 11 hAn 1 775 (S4 w os) (piecesOf MZ hE hC ⟨95,0,95,4⟩ hB))=λ os=>some (Flow.next,S5 w os,hC,⟨208,0,210,67⟩):=by
 rewrite [Yh,Z4]
 intro w; kernel_rfl
theorem N9:∀ w,(λ os=>segRunT treeTable hp w 11 hAn 1 468 (S5 w os) (piecesOf MY hE hC ⟨208,0,210,67⟩ hB))=λ os=>some (Flow.next,S6 w os,hC,⟨333,0,363,95⟩):=by
 rewrite [Yh,Z4]
 intro w; kernel_rfl
theorem Lp:∀ w,(λ os=>topRun treeTable hp w 11 hAn 2 (S6 w os).abs ⟨doneF .next,hC,⟨333,0,363,95⟩,hB⟩)=λ os=>some (SF w os):=by
 rewrite [PySem.W.Fast.te14082659384304107361,Z4]
 intro w; kernel_rfl
theorem Ln (w:World) (os:OsState):topRun treeTable hp w 11 hAn (12+(1+(798+(640+(507+(775+(468+(2)))))))) (S0 w os) (topStub hp)=some (SF w os):=go_top (congrFun (Lo w) os) (piece_block (congrFun (Lq w) os) (piece_app (segRun_of (congrFun (Oe w) os)) (piece_app (segRun_of (congrFun (Oc w) os)) (piece_app (segRun_of (congrFun (Ob w) os)) (piece_app (segRun_of (congrFun (Oa w) os)) (piece_app (segRun_of (congrFun (N9 w) os)) (congrFun (Lp w) os)))))))
theorem Gs:∀ w:World,((boot_heap w.params).isNs mainGlobals&&(⟨[]⟩:Array GenState).size == 0,(boot_heap w.params).objs.size,(boot_heap w.params).nsMap mainGlobals "__annotations__")=(true,11,hAn):=by
 rewrite [PySem.W.Fast.te8920871248978507458]
 intro w; kernel_rfl
theorem Gv:∀ w:World,(λ os=>((staticsOk (importedModules hp.main.body) (boot_heap w.params) (hF w.params)&&namesBound hp (hF w.params)&&gensDone (SF w os)&&laidKept (boot_heap w.params) (hF w.params)),openSeen hV [] (importedModules hp.main.body) hX true (SF w os),obsZ hAs (SF w os)))=λ _=>(true,openGood hV [],valZ hK 424 771 w):=by
 rewrite [PySem.W.Fast.te5923862056798008813,PySem.W.Fast.te4187177175401517315]
 intro w; kernel_rfl
theorem Gw:LeftO hp hV [] hX (obsZ hAs) (valZ hK 424 771) 6492:=LeftO.of_pieces (boot_open (p:=hp) (N:=6492) (by kernel_rfl) (by decide) (λ _=>by kernel_rfl)) Gs Ln (by decide) Gv
theorem Gu:PySem.Challenge.rw_stylehouse_k14_plain_traits.wellSaid=true:=by kernel_rfl
theorem Gx (said:(OpenLaw.row PySem.Challenge.rw_stylehouse_k14_plain_traits).wellSaid=true) (hw:(OpenRow.toRowW (OpenLaw.row PySem.Challenge.rw_stylehouse_k14_plain_traits)).promised) {d:DefRec} {kwd:List (Str×Expr)} (hdef:defOf hV (OpenLaw.row PySem.Challenge.rw_stylehouse_k14_plain_traits).name=some (d,kwd)) (hp':(OpenLaw.row PySem.Challenge.rw_stylehouse_k14_plain_traits).prog.theDef (OpenLaw.row PySem.Challenge.rw_stylehouse_k14_plain_traits).name=some (d.params,d.body,d.scope)) (hk:kwWritten? d.params.kwonlyargs d.params.kw_defaults=some kwd) (call:WalkX hV [] (XL hV []) (obsZ hAs) (valZ hK 424 771) (OpenRow.toRowW (OpenLaw.row PySem.Challenge.rw_stylehouse_k14_plain_traits)) d kwd λ f vs=>PySem.call f vs):(OpenLaw.row PySem.Challenge.rw_stylehouse_k14_plain_traits).Holds :=
 holds_openX (q:=hV) (loose:=[]) (Xt:=hX) (XP:=XL hV []) (Yf:=obsZ hAs) (Ya:=valZ hK 424 771) (N:=6492) Gw (λ s e=>xl_of s (Bool.and_eq_true_iff.mp e).1) XL.keeps hdef hp' hk (λ s e=>recFacts_of (Bool.and_eq_true_iff.mp e).2) rfl said (by decide +kernel) ⟨rfl,rfl,rfl,rfl,rfl,by decide +kernel⟩ hw call
end HD14
end
section
namespace L2
open PySem PySem.Spec PyProof.Rows
section
variable {X:Cx}
def Sz (i:Int):Prop:=i.natAbs < 2 ^ 4000
theorem Sz.bits (h:Sz i):Builtin.Int.intBits i<=2 ^ 20:=Z6 (PySem.intBits_le_iff.mpr h) (by decide)
theorem Sz.log (h:Sz i):i.natAbs.log2 < 9000:=by
 by_cases z:i.natAbs=0
 · rw [z]; decide
 · exact (Nat.log2_lt z).mpr (Nat.lt_trans h (Nat.pow_lt_pow_right (by decide) (by decide)))
theorem CA:OpR X (binaryOp .FloorDiv) (rI (λ _ j=>j≠0/\Sz j) λ i j=>.int (i.fdiv j)):=opI λ _ _ _ _ _ _ _ hc q=>floordiv_int hc.1 q (.inl (PyProof.noPylong_of_log2 hc.2.log))
end
open PySem.W in
mutual
inductive RdD (K:W.Frag) (H:Hp):V->Dat->Prop where
 | non:RdD K H .non .none
 | int (i:Int):RdD K H (.int i) (.int i)
 | str (x:Str):RdD K H (.str x) (.str x)
 | tup {a:Addr} {xs:List V} {ds:List Dat} (h:SqT K H a xs) (r:xK K H xs ds):RdD K H (.ref a) (.tuple ds)
 | lst {a:Addr} {xs:List V} {ds:List Dat} (h:SqL K H a xs) (r:xK K H xs ds):RdD K H (.ref a) (.list ds)
inductive xK (K:W.Frag) (H:Hp):List V->List Dat->Prop where
 | nil:xK K H [] []
 | cons {x:V} {d:Dat} {xs:List V} {ds:List Dat} (h:RdD K H x d) (r:xK K H xs ds):xK K H (x::xs) (d::ds)
end
section
open PySem.W
variable {X:Cx} {pins:List (Addr×Obj)} {σ:St} {H:Hp} {s:Shared}
mutual
theorem RdD.reads (I:Inv X pins σ H s):∀ {v:V} {d:Dat} {u:Value},RdD X.K H v d->RelV v u->∃ as,Reads s.heap u (kqdP d) as
 | _,_,u,.non,rv=>by cases (show u=Value.none from rv); exact ⟨_,Reads.none⟩
 | _,_,u,.int i,rv=>by obtain ⟨t,rfl⟩:=(show ∃ t,u=Value.int i t from rv); exact ⟨_,Reads.int i t⟩
 | _,_,u,.str x,rv=>by obtain ⟨t,rfl⟩:=(show ∃ t,u=Value.str x t from rv); exact ⟨_,Reads.str x t⟩
 | _,_,u,@RdD.tup _ _ a xs ds h r,rv=>by
  cases (show u=Value.ref a from rv);obtain ⟨its,vs,p,_⟩:=I.tuple h;obtain ⟨as,q⟩:=xK.reads I r vs;obtain ⟨o,h1,h2,n,h3⟩:=p;rw [kqdP];exact ⟨as,reads_tuple_at h1 h2 h3 (by simpa using q)⟩
 | _,_,u,@RdD.lst _ _ a xs ds h r,rv=>by
  cases (show u=Value.ref a from rv);obtain ⟨its,vs,p,_⟩:=I.list h;obtain ⟨as,q⟩:=xK.reads I r vs;obtain ⟨o,h1,h2,n,h3⟩:=p.isList;rw [kqdP];exact ⟨a::as,reads_list_at h1 h2 h3 (by simpa using q)⟩
theorem xK.reads (I:Inv X pins σ H s):∀ {vs:List V} {ds:List Dat} {us:List Value},xK X.K H vs ds->bN vs us->∃ as,ReadsAll s.heap us (kqdPs ds) as
 | _,_,_,.nil,.nil=>by rw [kqdPs]; exact ⟨_,ReadsAll.nil⟩
 | _,_,_,.cons h r,.cons rv rs=>by
  obtain ⟨as,q⟩:=RdD.reads I h rv;obtain ⟨bs,p⟩:=xK.reads I r rs;rw [kqdPs];exact ⟨_,ReadsAll.cons q p⟩
end
theorem f9 (h:kqdOk 9 d=true):SeqAt.shaped (kqdP d)=true:=by
 have la:=kqd_lay 9 d h;unfold SeqAt.shaped;rw [la.1,Bool.true_and];exact Zq (Z6 la.2 (by decide))
open Classical in
theorem wV (h:kqdOk 9 d=true) (h':kqdOk 9 e=true):PyData.eqv (kqdP d) (kqdP e)=decide (d=e):=by
 have q:=kqd_eqv 9 d e 9 h h'
 by_cases hq:d=e
 · rw [Zq hq]; exact q.mpr hq
 · rw [Zk hq]; exact Bool.eq_false_iff.mpr λ x=>hq (q.mp x)
open Classical in
noncomputable def eqD (d e:Dat):Bool:=decide (d=e)
open Classical in
theorem zN (h:d=e):eqD d e=true:=Zq h
open Classical in
theorem wW (h:d≠e):eqD d e=false:=Zk h
def Nm (K:W.Frag):R2:=λ x y H Q=>∃ d e,RdD K H x d/\RdD K H y e/\kqdOk 9 d=true/\kqdOk 9 e=true/\Q (.bl (eqD d e)) H
def Ni (K:W.Frag):R2:=λ x y H Q=>∃ d e,RdD K H x d/\RdD K H y e/\kqdOk 9 d=true/\kqdOk 9 e=true/\Q (.bl (!eqD d e)) H
theorem FE (hu:X.A.units+64 < cLine):OpR X (compareOp .Eq) (Nm X.K):=by
 intro pins s σ H x y v u Q I rx ry h;obtain ⟨d,e,hd,he,kd,ke,q⟩:=h;obtain ⟨as,ra⟩:=hd.reads I rx;obtain ⟨bs,rb⟩:=he.reads I ry;refine eq_dataH ra rb (f9 kd) (f9 ke) hu ⟨.bl _,H,I,rfl,?_⟩;rw [wV kd ke];exact q
theorem Fz (hu:X.A.units+64 < cLine):OpR X (compareOp .NotEq) (Ni X.K):=by
 intro pins s σ H x y v u Q I rx ry h;obtain ⟨d,e,hd,he,kd,ke,q⟩:=h;obtain ⟨as,ra⟩:=hd.reads I rx;obtain ⟨bs,rb⟩:=he.reads I ry;refine ne_dataH ra rb (f9 kd) (f9 ke) hu ⟨.bl _,H,I,rfl,?_⟩;rw [wV kd ke];exact q
end
theorem b6.tup {K:W.Frag} {H H':Hp} {a:Addr} {xs:List V} (e:b6 H H') (h:SqT K H a xs):SqT K H' a xs:=by
 rcases h with (h | ⟨o,h⟩) | h
 · exact .inl (.inl (e _ _ h))
 · exact .inl (.inr ⟨o,e _ _ h⟩)
 · exact .inr h
theorem aJ (h:H p=none) (o:HO):b6 H (upd H p o):=λ b u q=>by rw [ak (de q h)]; exact q
end L2
end
section
namespace L2
open PySem PySem.Spec PyProof.Rows
section
variable {prog:Program} {w:World} {A:Around} {R:Result->Shared->Prop} {s:Shared}
theorem oV (I:Nat->Shared->Prop)
  (turn:∀ n s,I n s->wpAny (model prog w) A (pyNext it) (λ r s₁=>match r with
    | none=>R (.ok .next) s₁
    | some v=>wpAny (model prog w) A (letOwnedTupleGo target it v) (λ _ s₁'=>wpAny (model prog w) A (assign target env v) (λ _ s₂=>wpAny (model prog w) A (eval elt env) (λ x s₃ =>
     wpAny (model prog w) A (call (.builtin "list.append") [acc,x]) (λ _ s₄=>∃ m,m < n/\I m s₄) (λ _ _=>False) s₃) (λ _ _=>False) s₂) (λ _ _=>False) s₁') (λ _ _=>False) s₁) (λ _ _=>False) s)
  (n:Nat) (h:I n s) :
  codeAny (model prog w) A (.compLoop (.ListComp elt [⟨target,iter,[],0⟩] scope pos) 0 it acc env) R s:=by
 refine codeAny_loop rfl I (λ n s hI=>?_) n h;refine wpAny_noted ?_
 rw [compTurn_list1];refine Zo (wpAny_standAt (Zo (Ym (turn n s hI) (λ r s₁ h₁=>?_) λ _ _ h'=>h'.elim)))
 cases r with
 | none=>exact Z1 h₁
 | some v =>
  refine Zo (Ym h₁ (λ _ s₁' h₁'=>?_) λ _ _ h'=>h'.elim)
  exact Zo (Ym h₁' (λ _ s₂ h₂=>Zo (Zo (Ym h₂ (λ x s₃ h₃=>Zo (Ym h₃
    (λ _ s₄ h₄=>Z1 (Z1 ⟨rfl,h₄⟩)) λ _ _ h'=>h'.elim)) λ _ _ h'=>h'.elim))) λ _ _ h'=>h'.elim)
end
def bJ (X:Cx) (scope:Scope) (cl:List (Str×Addr)) (N:List Str) (s:Shared) (H:Hp) (fp:List Addr) (C:Addr):Cx where
 prog:=X.prog
 w:=X.w
 K:=X.K
 mg:=X.mg
 base:=X.base
 A:=X.A
 N:=N
 s₀:=s
 H₀:=H
 env:=compEnvC scope cl C X.env
 outer:=X.stack
 stack:=X.stack
 ex:=fp
 calm:=X.calm
 fn:=λ _=>false
 pn:=[]
 xe:=λ _ _=>False
structure cM (X:Cx) (scope:Scope) (cl:List (Str×Addr)) (x:Str) (cs:List (Str×Nat)):Prop where
 GS:closureFor scope X.env=pure cl
 kind:scope.kind=.function
 qY:∀ y ∈ scope.names,y.2≠.cell
 names:∀ y ∈ scope.names,y.2=.local->scope.names.lookup y.1=some .local
 own:scope.names.lookup x=some .local
 sub:∀ y c,cl.lookup y=some c->X.env.cells.lookup y=some c
 has:∀ y,((relabel scope X.env).names.lookup y=some .cell\/(relabel scope X.env).names.lookup y=some .free)->∃ c,cl.lookup y=some c
 LG:∀ p ∈ cs,X.N[p.2]?=some p.1/\(X.env.kindOf p.1=some .cell\/X.env.kindOf p.1=some .free)/\((relabel scope X.env).names.lookup p.1=some .cell\/(relabel scope X.env).names.lookup p.1=some .free)
 nd:(x::cs.map (·.1)).Nodup
def aL (σ:St) (cs:List (Str×Nat)):St:=cs.map λ p=>(σ[p.2]?).join
section
variable {X:Cx} {pins:List (Addr×Obj)} {σ:St} {H:Hp} {s:Shared} {scope:Scope} {cl:List (Str×Addr)} {x:Str} {cs:List (Str×Nat)} {fp:List Addr} {C:Addr} {h':Heap} {t':Nat}
theorem ma (O:cM X scope cl x cs) (I:Inv X pins σ H s) (f2:∀ b ∈ fp,tU X pins H b) (there:∀ b ∈ fp,b < s.heap.objs.size) (hC:s.heap.objs.size<=C)
  (old:∀ b o,s.heap.get? b=some o->h'.get? b=some o) (hn:h'.Ns C λ _=>none) :
  Inv (bJ X scope cl (x::cs.map (·.1)) s H fp C) [] (none::aL σ cs) H { s with heap:=h',toks:=t' }:=by
 refine ⟨⟨I.ok.mod,O.kind,I.ok.glob,I.ok.blt,hC,λ y z c h1 h2=>I.ok.inj y z c (O.sub y c h1) (O.sub z c h2),λ y hy=>O.has y hy,λ _ _ h=>absurd (h) Zf,I.ok.hd,I.ok.frames,.inl rfl,
   λ b hb=>⟨Zy (Z3 (there b hb) hC),λ y c e=>(f2 b hb).2.2.2.2.1 y c (O.sub y c e)⟩,I.bs,Z6 I.ok.bsz I.sz,λ b o e hb=>?_,λ b hb z=>?_,I.stack,I.uq⟩,
  rfl,I.bare,Un.kept old,⟨_,hn,λ i y v e1 e2 e3=>?_⟩,λ y c e=>?_,I.hok.fresh hC,λ y c e=>I.kq y c (O.sub y c e),λ p hp=>absurd (show p ∈ ([]:List (Addr×Obj)) from hp) (by simp),I.hok.kept old,?_⟩
 ·rcases (f2 b hb).2.2.2.1 with z | z
  · exact I.ok.FY b o e z
  · exact absurd (Z3 (Zs e) (Z6 I.ok.bsz z)) (Yq _)
 · exact (Zl.mp (I.nF b z)).elim (f2 b hb).2.1 (f2 b hb).2.2.1
 ·cases i with
  | zero=>simp at e2
  | succ j =>
   have e1':(cs.map (·.1))[j]?=some y:=by simpa [bJ] using e1
   have e2':(aL σ cs)[j]?=some (some v):=by simpa using e2
   unfold aL at e2';rw [List.getElem?_map] at e1' e2'
   cases q:cs[j]? with
   | none=>rw [q] at e1'; cases e1'
   | some p =>
    rw [q] at e1' e2';have ey:p.1=y:=by simpa using e1'
    have ev:(σ[p.2]?).join=some v:=by simpa using e2'
    have ev':σ[p.2]?=some (some v):=by
     cases z:σ[p.2]? with
     | none=>rw [z] at ev; cases ev
     | some o=>rw [z] at ev; exact Yn some ev
    obtain ⟨c1,c2,c3⟩:=O.LG p (List.mem_of_getElem? q);subst ey;obtain ⟨m,hm,hl⟩:=I.loc
    obtain ⟨u,ru,lk⟩:=hl p.2 p.1 v c1 ev' (by
     rcases c2 with c2 | c2
     · exact .inr (.inl c2)
     · exact .inr (.inr c2))
    obtain ⟨c',ec'⟩:=O.has p.1 c3;refine ⟨u,ru,.inr ⟨c3,c',ec',?_⟩⟩;rcases lk with ⟨k,_⟩ | ⟨_,c,ec,o,ho,hd⟩
    ·rcases c2 with c2 | c2
     · rw [c2] at k; cases k
     · rw [c2] at k; cases k
    ·have:=O.sub p.1 c' ec'
     rw [ec] at this;cases this;exact ⟨o,old _ o ho,hd⟩
 ·obtain ⟨v,o,ho,hd⟩:=I.cell y c (O.sub y c e)
  exact ⟨v,o,old c o ho,hd⟩
 · simp [bJ,aL]
end
def Ex (J:It) (te:TE) (cs:List (Str×Nat)) (σ:St) (Q:VK) (H1:Hp):Prop:=∃ W:Nat->Nat->List V->Hp->Prop,(∃ m,W 0 m [] H1)/\∀ i m ys H',W i m ys H' ->
 (J.stop i H'/\ys.length<=sizeLine/\∀ p,H' p=none->Q (.ref p) (upd H' p (.lst ys))) \/
 (J.go i H'/\ys.length < sizeLine/\∀ v H2,J.yld i H' v H2->te (some v::aL σ cs) H2 λ y H3=>∃ m',m' < m/\W (i+1) m' (ys++[y]) H3)
def Ey (wi:TI) (te:TE) (cs:List (Str×Nat)):TE:=λ σ H Q=>wi σ H λ J H1=>Ex J te cs σ Q H1
section
variable {X:Cx}
theorem xj {elt iter:Expr} {x:Str} {px pos:Pos} {scope:Scope} {cs:List (Str×Nat)} {te:TE} {pins:List (Addr×Obj)} {σ:St} {H:Hp} {s s1:Shared} {Q:VK} {it:Addr} {fp:List Addr} {tn:Nat->Heap->Prop} {J:It}
  {RR:Value->Addr->Result->Shared->Prop} {Y:Cx} {ev:Env} {C D:Addr} {W:Nat->Nat->List V->Hp->Prop} {m0:Nat} (hc:X.calm=true)
  (I:Inv X pins σ H s) (T:Turn X.prog X.w X.K (.Name x px) J fp it tn) (f2:∀ b ∈ fp,tU X pins H b) (there:∀ b ∈ fp,b < s.heap.objs.size) (w0:W 0 m0 [] H)
  (turn:∀ i m ys H',W i m ys H' ->
    (J.stop i H'/\ys.length<=sizeLine/\∀ p,H' p=none->Q (.ref p) (upd H' p (.lst ys))) \/
    (J.go i H'/\ys.length < sizeLine/\∀ v H2,J.yld i H' v H2->te (some v::aL σ cs) H2 λ y H3=>∃ m',m' < m/\W (i+1) m' (ys++[y]) H3))
  (hRR:∀ D C s' H' ys,s.heap.objs.size<=D->s.heap.objs.size<=C->D≠C->(∃ m,s'.heap.Ns C m)->Inv X pins σ (upd H' D (.lst ys)) s'->H' C=none->Q (.ref D) (upd H' D (.lst ys))->RR (.ref D) C (.ok .next) s')
  (hD:s.heap.objs.size=D) (hDC:D≠C) (hCle:D<=C) (st1:tn 0 s1.heap) (hacc:s1.heap.get? D=some { cls:=.type "list",data:=.seq ([]:List Value).toArray 0 }) (I1:Inv Y [] (none::aL σ cs) H s1) (pgx:PG Y (.Name x px) (ox 0)) (peY:PE Y elt te)
  (Yx:Y.prog=X.prog/\Y.w=X.w/\Y.K=X.K/\Y.A=X.A/\Y.env=ev/\Y.calm=X.calm/\Y.xe=(λ _ _=>False)/\Y.pn=[]/\Y.ex=fp/\Y.fs=frs X.stack/\Y.s₀=s/\Y.H₀=H) (yl0:ev.locals=C) (yc:∀ z c,Y.env.cells.lookup z=some c->D < c\/X.env.cells.lookup z=some c) :
  codeAny (model X.prog X.w) X.A (.compStart (.ListComp elt [⟨.Name x px,iter,[],0⟩] scope pos) 0 (.ref it) (.ref D) ev) (RR (.ref D) C) s1:=by
 have FD:=I.xN (b:=D) (by rw [<- hD]; exact Zn _) (I.hok.fresh (by rw [<- hD]; exact Zn _));have nfpD:∀ b ∈ fp,b≠D:=λ b hb=>by rw [<- hD]; exact Zy (there b hb)
 have nfpC:∀ b ∈ fp,b≠C:=λ b hb=>Zy (Z3 (there b hb) (by rw [hD]; exact hCle))
 obtain ⟨y1,y2,y3,y4,y5,y6,y7,y8,y9,y10,y11,y12⟩:=Yx;have nstk:∀ b,b≠X.env.locals->b ∉ X.fs->b ∉ Y.fs:=λ b h1 h2 z=>by rw [y10] at z; exact (Zl.mp (I.nF b z)).elim h1 h2
 have yl:Y.env.locals=C:=by rw [y5]; exact yl0
 have stat:∀ {ps:List (Addr×Obj)} {H':Hp},(∀ b ∈ fp,H' b=none)->(∀ p ∈ ps,p.1=D)->∀ b ∈ fp,tU Y ps H' b:=λ {ps H'} hn hp b hb =>
  ⟨hn b hb,by rw [yl]; exact nfpC b hb,nstk b (f2 b hb).2.1 (f2 b hb).2.2.1,.inl (by rw [y9]; exact hb),λ z c e=>(yc z c e).elim (λ e=>Nat.ne_of_gt (Nat.lt_trans (hD ▸ there b hb) e)) ((f2 b hb).2.2.2.2.1 z c),λ p hq=>by
    rw [y8,List.nil_append] at hq;rw [hp p hq]
    exact Ne.symm (nfpD b hb)⟩
 have pinD:∀ {σ':St} {H':Hp} {s':Shared} {ob:Obj},Inv Y [] σ' H' s'->H' D=none->s'.heap.get? D=some ob->(∀ v,ob.data≠.cell v)->Inv Y [(D,ob)] σ' H' s':=λ {σ' H' s' ob} I' hn e hd =>
  I'.gG λ p hp=>by
    have e1:p=(D,ob):=by simpa using hp
    subst e1;exact ⟨e,hn,by rw [yl]; exact hDC,nstk D FD.2.1 FD.2.2.1,hd⟩
 have loop:∀ s₃:Shared,s₃=s1 ->
    codeAny (model X.prog X.w) X.A (.compLoop (.ListComp elt [⟨.Name x px,iter,[],0⟩] scope pos) 0 (.ref it) (.ref D) ev) (RR (.ref D) C) s₃:=by
  rintro s₃ rfl
  refine oV (λ n s'=>∃ i o H' ys its k,Inv Y [] (o::aL σ cs) H' s'/\tn i s'.heap/\(∀ b ∈ fp,H' b=none)/\H' D=none/\s'.heap.get? D=some { cls:=.type "list",data:=.seq (its:List Value).toArray k }/\bN ys its/\W i n ys H') ?_ m0
    ⟨0,none,H,[],[],0,I1,st1,λ b hb=>(f2 b hb).1,FD.1,hacc,.nil,w0⟩
  rintro n s3 ⟨i,o,H3,ys,its,k,I3,st3,fr3,frD,e3,vs3,w3⟩
  have I3p:=pinD I3 frD e3 (by intro v z; cases z)
  have onlyD:∀ p ∈ [(D,({ cls:=.type "list",data:=.seq its.toArray k }:Obj))],p.1=D:=λ p hp=>by
    have e1:=Zt.mp hp;rw [e1]
  rcases turn i n ys H3 w3 with ⟨stop,hz,q⟩ | ⟨go,hz,step⟩
  · have dn:=T.done Y y1 y2 y3 (by rw [y6]; exact hc) i _ s3 (o::aL σ cs) H3 (λ _ _=>False) I3p (stat fr3 onlyD) st3 stop
    rw [y4] at dn;refine thn dn λ r s4 ⟨hr,I4⟩=>?_
    subst hr;obtain ⟨e4,_⟩:=I4.pin (D,_) (Zc _ (Zt.mpr rfl));have b4:=I4.base;rw [y9,y10,y11,y12] at b4;have hk4:=I4.hok;rw [y1,y2] at hk4;have hCn:H3 C=none:=by have:=I4.free; rw [yl] at this; exact this
    refine hRR D C s4 H3 ys (by rw [<- hD]; exact Zn _) (by rw [hD]; exact hCle) hDC (by obtain ⟨m,hm,_⟩:=I4.loc; rw [yl] at hm; exact ⟨m,hm⟩) ?_ hCn (q D frD);have neD:∀ b o,s.heap.get? b=some o->b≠D:=λ b o e=>by rw [<- hD]; exact Zy (Zs e)
    have neDH:∀ b u,H b=some u->b≠D:=λ b u e=>by rw [<- hD]; exact Zy (I.hok.lt e)
    refine I.GV (by have:=I4.os; rw [y11] at this; exact this) ⟨b4.keep,b4.slot,λ b o e n hx=>?_,b4.there,λ b xs e=>?_,λ b o u e=>?_,λ b ps e=>?_⟩ (λ b u e=>?_) I4.bare λ b hb=>?_
    · rw [ak (neD b o e)]; exact b4.free b o e n hx
    · rw [ak (neDH b _ e)]; exact b4.ud b xs e
    · rw [ak (neDH b _ e)]; exact b4.tY b o u e
    · rw [ak (neDH b _ e)]; exact b4.uj b ps e
    ·have t1:∀ c u,H3 c=some u->upd H3 D (.lst ys) c=some u:=λ c u z=>by
      rw [ak (λ zz=>by rw [zz,frD] at z; cases z)];exact z
     by_cases hb:b=D
     ·subst hb
      rw [aw] at e;cases e;exact ⟨hz,its,k,vs3,e4⟩
     ·rw [ak hb] at e
      exact (hk4 b u e).qA (λ _ _ _ z=>z) (λ c z=>t1 c _ z) λ c xs z=>t1 c _ z
    · exact ⟨(f2 b hb).2.2.2.1,(f2 b hb).2.1,(f2 b hb).2.2.2.2.1,(f2 b hb).2.2.2.2.2⟩
  · have im:=T.item Y y1 y2 y3 (by rw [y6]; exact hc) i _ s3 (o::aL σ cs) H3 (λ _ _=>False) I3p (stat fr3 onlyD) st3 go
    rw [y4] at im;refine thn im λ r s4 ⟨u,hr,h4⟩=>?_
    subst hr;refine thn h4 λ _ s5 ⟨v,H5,I5,r5,y5',st5,fr5⟩=>?_
    have I5':=I5.pinned (stat fr5 onlyD) (T.obj _ _ st5);have as:=pgx _ s5 (o::aL σ cs) H5 v u _ I5' r5 (show ox 0 v (o::aL σ cs) H5 (λ σ' H'=>σ'=some v::aL σ cs/\H'=H5) from ⟨rfl,rfl⟩);rw [y1,y2,y4,y5,y7] at as;refine thn as λ _ s6 ⟨σ6,H6,I6,e6,e6'⟩=>?_
    subst e6 e6';have el:=peY _ s6 _ H6 _ I6 (step v H6 y5');rw [y1,y2,y4,y5,y7] at el;refine thn el λ u7 s7 ⟨y7',H7,I7,r7,m',hm',w7⟩=>?_
    obtain ⟨e7,n7,_⟩:=I7.pin (D,_) (Zc _ (Zp _ (Zt.mpr rfl)));have hl3:=vs3.length;refine Xy F.slot_list_append ⟨_,e7,rfl⟩ F.entry_list_append (F.args_list_append_2 _ _) (PySem.list_append D its.toArray k u7 (by rw [Zr]; omega)) ⟨e7,?_⟩;obtain ⟨k',up⟩:∃ k',(s7.heap.update D (Obj.mapSeq (·.push u7))).get? D=some { cls:=.type "list",data:=.seq (its.toArray.push u7) k' }:=⟨_,PySem.IsL.update e7 (·.push u7)⟩
    have fpk:∀ b ∈ fp,∀ o,s5.heap.get? b=some o->s7.heap.get? b=some o/\H7 b=none:=λ b hb o e=>by
     obtain ⟨z1,z2,_⟩:=I7.pin (b,o) (Zc _ (Zc _ (eG hb e)));exact ⟨z1,z2⟩
    have I7n:Inv Y [] (some v::aL σ cs) H7 s7:=I7.gG λ p hp=>absurd hp (by simp)
    refine ⟨m',hm',i+1,some v,H7,ys++[y7'],its++[u7],k',?_,?_,?_,n7,?_,vs3.append (.cons r7 .nil),w7⟩
    ·refine I7n.turned (λ b o hb e=>(Heap.get?_update_other s7.heap (Obj.mapSeq (·.push u7)) (Ne.symm hb)).trans e) n7 (by rw [yl]; exact hDC) (.inr (by rw [y11,<- hD]; exact Zn _)) (λ z c e=>(yc z c e).elim Nat.ne_of_gt (FD.2.2.2.2.1 z c)) λ p hp=>?_
     rw [y8] at hp;exact absurd hp (by simp)
    ·refine T.keep _ _ _ st5 λ b hb o e=>?_
     exact (Heap.get?_update_other s7.heap (Obj.mapSeq (·.push u7)) (Ne.symm (nfpD b hb))).trans (fpk b hb o e).1
    ·intro b hb
     obtain ⟨o',e',_⟩:=T.obj _ _ st5 b hb;exact (fpk b hb o' e').2
    ·rw [List.push_toArray] at up
     exact up
 exact codeAny_compStart_list (loop _ rfl) (T.self _ 0 _ _ _ st1 (loop _ rfl))
theorem tG {elt iter:Expr} {x:Str} {px pos:Pos} {scope:Scope} {cl:List (Str×Addr)} {cs:List (Str×Nat)} {te:TE} {pins:List (Addr×Obj)} {σ:St} {H:Hp} {s:Shared} {Q:VK} {it:Addr} {fp:List Addr} {tn:Nat->Heap->Prop} {J:It}
  {RR:Value->Addr->Result->Shared->Prop} {E:Value->Shared->Prop} (hc:X.calm=true) (O:cM X scope cl x cs) (he:∀ s H fp C,PE (bJ X scope cl (x::cs.map (·.1)) s H fp C) elt te)
  (I:Inv X pins σ H s) (T:Turn X.prog X.w X.K (.Name x px) J fp it tn) (st:tn 0 s.heap) (f2:∀ b ∈ fp,tU X pins H b)
  (h : ∃ W:Nat->Nat->List V->Hp->Prop,(∃ m,W 0 m [] H)/\∀ i m ys H',W i m ys H' ->
    (J.stop i H'/\ys.length<=sizeLine/\∀ p,H' p=none->Q (.ref p) (upd H' p (.lst ys))) \/
    (J.go i H'/\ys.length < sizeLine/\∀ v H2,J.yld i H' v H2->te (some v::aL σ cs) H2 λ y H3=>∃ m',m' < m/\W (i+1) m' (ys++[y]) H3))
  (hRR:∀ D C s' H' ys,s.heap.objs.size<=D->s.heap.objs.size<=C->D≠C->(∃ m,s'.heap.Ns C m)->Inv X pins σ (upd H' D (.lst ys)) s'->H' C=none->Q (.ref D) (upd H' D (.lst ys))->RR (.ref D) C (.ok .next) s') :
  wpAny (model X.prog X.w) X.A (newList []) (λ acc s₃=>wpAny (model X.prog X.w) X.A (newFunctionEnv scope X.env.globals cl [] X.env.qual none .none (some X.env)) (λ cenv s₄ =>
    codeAny (model X.prog X.w) X.A (.compStart (.ListComp elt [⟨.Name x px,iter,[],0⟩] scope pos) 0 (.ref it) acc { cenv with scope:=relabel scope X.env }) (RR acc cenv.locals) s₄) E s₃) E s:=by
 obtain ⟨W,⟨m0,w0⟩,turn⟩:=h;refine wpAny_newObj_type (wpAny_newFunctionEnv O.qY (by intro y hy; simp at hy) (λ h₁ hns₁ hsb₁=>?_) O.kind);generalize hH2:s.heap.push { cls:=.type "list",dict:=none,data:=.seq ([]:List Value).toArray }=H2 at hns₁ hsb₁ ⊢
 have hC:H2.objs.size=s.heap.objs.size+1:=by rw [<- hH2,Xe]
 have hDC:s.heap.objs.size≠H2.objs.size:=by rw [hC]; exact Zy (Xf _)
 have hCle:s.heap.objs.size<=H2.objs.size:=by rw [hC]; exact Nat.le_succ _
 have neC:∀ b,b < s.heap.objs.size->b≠H2.objs.size:=λ b hb=>by rw [hC]; exact Zy (Yv hb)
 have old:∀ b o,s.heap.get? b=some o->h₁.get? b=some o:=λ b o e=>hsb₁.extBut b o (neC b (Zs e)) (Heap.get?_push_of_some _ (hH2 ▸ Heap.get?_push_of_some _ e))
 have hacc:=hsb₁.extBut _ _ hDC (Heap.get?_push_of_some _ (hH2 ▸ Heap.get?_push_size _ rfl))
 have there:∀ b ∈ fp,b < s.heap.objs.size:=λ b hb=>by
  obtain ⟨o,e,_⟩:=T.obj _ _ st b hb;exact Zs e
 have hns:h₁.Ns H2.objs.size λ _=>none:=by
  have e:(λ x=>List.lookup x ([]:List (Str×Value)).reverse)=λ _=>none:=by funext y; rfl
  rw [e] at hns₁
  exact hns₁
 generalize hD:s.heap.objs.size=D at hDC hCle hacc;generalize hCC:H2.objs.size=C at hDC hCle hns ⊢;have st1:=T.keep _ _ _ st λ b _ o e=>old b o e
 have I1:Inv (bJ X scope cl (x::cs.map (·.1)) s H fp C) [] (none::aL σ cs) H { s with heap:=h₁,toks:=s.toks+([]:List (Str×Value)).length } :=
  ma O I f2 there (by rw [hD]; exact hCle) old hns
 exact xj hc I T f2 there w0 turn hRR hD hDC hCle st1 hacc I1 (jN O.nd rfl (.inl (Xq O.own)) (.inr (Xq O.own))) (he _ _ _ _) ⟨rfl,rfl,rfl,rfl,rfl,rfl,rfl,rfl,rfl,rfl,rfl,rfl⟩ rfl λ z c e=>.inr (O.sub z c e)
theorem Ci {elt iter:Expr} {x:Str} {px pos:Pos} {scope:Scope} {cl:List (Str×Addr)} {cs:List (Str×Nat)} {wi:TI} {te:TE} (hc:X.calm=true) (O:cM X scope cl x cs) (hi:PI X (.Name x px) iter wi)
  (he:∀ s H fp C,PE (bJ X scope cl (x::cs.map (·.1)) s H fp C) elt te) (hs:∀ x,foldedSetIterable iter X.env x=pure x:=by intro _; rfl) :
  PE X (.ListComp elt [⟨.Name x px,iter,[],0⟩] scope pos) (Ey wi te cs):=by
 intro pins s σ H Q I h;rw [eval_ListComp];refine wpAny_comprehension_free rfl hs O.GS O.kind O.names (thn (hi pins s σ H _ I h) λ v s1 h1=>thn h1 λ itv s2 h2=>?_);obtain ⟨it,fp,tn,J,H2,rfl,I2,T,st2,f2,hw⟩:=h2;refine tG hc O he I2 T st2 f2 hw λ D C s' H' ys hD hC hDC ⟨m,hm⟩ I' hn q=>?_
 refine ⟨m,hm,λ h' hs'=>?_⟩;have hn':upd H' D (.lst ys) C=none:=by rw [ak (Ne.symm hDC)]; exact hn
 have FC:=I2.xN hC hn';exact ⟨.ref D,upd H' D (.lst ys),I'.turned (λ b o hb e=>(hs'.2 b hb).trans e) hn' FC.2.1 FC.2.2.2.1 FC.2.2.2.2.1 FC.2.2.2.2.2,rfl,q⟩
end
theorem DW (h1:scope.kind=.function) (h2:∀ y ∈ scope.names,y.2≠.cell) (h3:∀ y ∈ scope.names,y.2≠.free) (h4:∀ y ∈ scope.names,y.2=.local->scope.names.lookup y.1=some .local) (h5:scope.names.lookup x=some .local) :
  cM X scope [] x [] where
 GS:=closureFor_none h3
 kind:=h1
 qY:=h2
 names:=h4
 own:=h5
 sub:=λ _ _ e=>by cases e
 has := λ y hy=>by
  have rel:(relabel scope X.env).names=scope.names:=by
   exact map_eq_self λ z hz=>by
    obtain ⟨n,k⟩:=z;have:(k == NameKind.free)=false:=by simpa using h3 _ hz
    simp [this]
  rw [rel] at hy;rcases hy with hy | hy
  · exact absurd rfl (h2 _ (Yj hy))
  · exact absurd rfl (h3 _ (Yj hy))
 LG:=λ _ h=>by cases h
 nd:=by simp
section
variable {κ:Type} [DecidableEq κ]
def dN (kvs:List (κ×V)) (k:κ):Option V:=(kvs.find? λ kv=>decide (kv.1=k)).map (·.2)
def putK (kvs:List (κ×V)) (k:κ) (v:V):List (κ×V) :=
 if (kvs.any λ kv=>decide (kv.1=k))=true then kvs.map (λ kv=>if kv.1=k then (kv.1,v) else kv) else kvs++[(k,v)]
def qe (kvs:List (κ×V)) (k:κ):List (κ×V):=kvs.filter λ kv=>decide (kv.1≠k)
theorem g9 {p:κ×V} {r:List (κ×V)} {k:κ} (e:p.1=k):dN (p::r) k=some p.2:=by simp [dN,List.find?_cons,e]
theorem hG {p:κ×V} {r:List (κ×V)} {k:κ} (e:¬ p.1=k):dN (p::r) k=dN r k:=by simp [dN,List.find?_cons,e]
theorem jy (k:κ):∀ kvs:List (κ×V),(kvs.any λ kv=>decide (kv.1=k))=(dN kvs k).isSome
 | []=>rfl
 | p::r=>by
  rw [Yz]
  by_cases e:p.1=k
  · simp only [g9 e,Zq e,Bool.true_or,Option.isSome_some]
  · rw [hG e,Zk e,Bool.false_or]; exact jy k r
theorem gI (kvs:List (κ×V)) (k:κ) (v:V):(putK kvs k v).length<=kvs.length+1:=by
 unfold putK;split
 · rw [Za]; omega
 · rw [Zz,Z0,Xx]; omega
theorem nr.fD {o:Option V} {u:Option Value} (r:nr o u):o.isSome=u.isSome:=by
 cases o with
 | none=>cases u with
  | none=>rfl
  | some _=>exact (show False from r).elim
 | some _=>cases u with
  | none=>exact (show False from r).elim
  | some _=>rfl
theorem nr.getD {o:Option V} {u:Option Value} {d:V} {d':Value} (r:nr o u) (rd:RelV d d'):RelV (o.getD d) (u.getD d'):=by
 cases o with
 | none=>cases u with
  | none=>exact rd
  | some _=>exact (show False from r).elim
 | some _=>cases u with
  | none=>exact (show False from r).elim
  | some _=>exact r
theorem KV.val {kvs:List (κ×V)} {vs:List (κ×Value)} (r:KV kvs vs) (k:κ):nr (dN kvs k) (valueAt vs k):=by
 unfold KV at r
 induction r with
 | nil=>exact True.intro
 | @cons p q ps qs h t ih =>
  obtain ⟨h1,h2⟩:=h
  by_cases e:p.1=k
  ·have e':q.1=k:=h1.symm.trans e
   have b:valueAt (q::qs) k=some q.2:=by simp [valueAt,List.find?_cons,e']
   rw [g9 e,b]; exact h2
  ·have e':¬ q.1=k:=λ z=>e (h1.trans z)
   have b:valueAt (q::qs) k=valueAt qs k:=by simp [valueAt,List.find?_cons,e']
   rw [hG e,b]; exact ih
theorem KV.any {kvs:List (κ×V)} {vs:List (κ×Value)} (r:KV kvs vs) (k:κ):(kvs.any λ kv=>decide (kv.1=k))=vs.any λ kv=>decide (kv.1=k):=by
 unfold KV at r
 induction r with
 | nil=>rfl
 | cons h t ih=>rw [Yz,Yz,ih,h.1]
theorem KV.Br {kvs:List (κ×V)} {vs:List (κ×Value)} (r:KV kvs vs) (k:κ) {y:V} {u:Value} (ry:RelV y u) :
  KV (kvs.map λ kv=>if kv.1=k then (kv.1,y) else kv) (vs.map λ kv=>if kv.1=k then (kv.1,u) else kv):=by
 unfold KV at r ⊢
 induction r with
 | nil=>exact .nil
 | @cons p q ps qs h t ih =>
  rw [Zg,Zg];refine .cons ?_ ih;obtain ⟨h1,h2⟩:=h
  by_cases e:p.1=k
  · rw [if_pos e,if_pos (h1.symm.trans e)]; exact ⟨h1,ry⟩
  · rw [if_neg e,if_neg (λ z=>e (h1.trans z))]; exact ⟨h1,h2⟩
theorem KV.put {kvs:List (κ×V)} {vs:List (κ×Value)} (r:KV kvs vs) (k:κ) {y:V} {u:Value} (ry:RelV y u):KV (putK kvs k y) (stored vs k u):=by
 unfold putK stored;rw [r.any k]
 by_cases e:(vs.any λ kv=>decide (kv.1=k))=true
 · rw [if_pos e,if_pos e]; exact r.Br k ry
 · rw [if_neg e,if_neg e]; exact Paired.snoc r ⟨rfl,ry⟩
theorem KV.drop {kvs:List (κ×V)} {vs:List (κ×Value)} (r:KV kvs vs) (k:κ):KV (qe kvs k) (without vs k):=by
 unfold KV at r ⊢;unfold qe without
 induction r with
 | nil=>exact .nil
 | @cons p q ps qs h t ih =>
  obtain ⟨h1,h2⟩:=h;rw [List.filter_cons,List.filter_cons]
  by_cases e:p.1=k
  ·have a:¬ decide (p.1≠k)=true:=by simp [e]
   have b:¬ decide (q.1≠k)=true:=by simp [h1.symm.trans e]
   rw [if_neg a,if_neg b]; exact ih
  ·have e':¬ q.1=k:=λ z=>e (h1.trans z)
   have a:decide (p.1≠k)=true:=by simp [e]
   have b:decide (q.1≠k)=true:=by simp [e']
   rw [if_pos a,if_pos b]; exact .cons ⟨h1,h2⟩ ih
theorem KV.length {kvs:List (κ×V)} {vs:List (κ×Value)} (r:KV kvs vs):kvs.length=vs.length:=Paired.length r
theorem zP (kvs:List (κ×V)) (k:κ):(qe kvs k).length<=kvs.length:=Y2 _ _
end
theorem oq {P:Program} {w:World} {k:Key} {u:Value} (r:RelV (kV k) u):(bB P w).is k u=true:=by
 cases k with
 | inl i=>obtain ⟨t,e⟩:=(show ∃ t,u=Value.int i t from r); subst e; exact pS P w i t
 | inr x=>obtain ⟨t,e⟩:=(show ∃ t,u=Value.str x t from r); subst e; exact pR P w x t
theorem ot {P:Program} {w:World}:∀ {ks:List Key} {us:List Value},bN (ks.map kV) us->ItemsAre (bB P w) ks us
 | [],_,r=>by rw [Xk] at r; cases r; exact .nil
 | k::ks,_,r=>by
  rw [Zg] at r
  cases r with
  | cons h t=>exact .cons (oq h) (ot t)
abbrev KT (H:Hp):List (List Key×V)->List (List Key×Addr×Value)->Prop:=Paired λ p q=>p.1=q.1/\H q.2.1=some (.tup (p.1.map kV))/\RelV p.2 q.2.2
theorem KT.val {H:Hp} {kvs:List (List Key×V)} {xs:List (List Key×Addr×Value)} (r:KT H kvs xs) (k:List Key):nr (dN kvs k) ((atKey xs k).map (·.2)):=by
 induction r with
 | nil=>exact True.intro
 | @cons p q ps qs h t ih =>
  obtain ⟨h1,_,h2⟩:=h
  by_cases e:p.1=k
  ·have e':q.1=k:=h1.symm.trans e
   have b:atKey (q::qs) k=some q.2:=by simp [atKey,List.find?_cons,e']
   rw [g9 e,b]; exact h2
  ·have e':¬ q.1=k:=λ z=>e (h1.trans z)
   have b:atKey (q::qs) k=atKey qs k:=by simp [atKey,List.find?_cons,e']
   rw [hG e,b]; exact ih
theorem KT.Br {H:Hp} {kvs:List (List Key×V)} {xs:List (List Key×Addr×Value)} (r:KT H kvs xs) (k:List Key) {y:V} {u:Value} (ry:RelV y u) :
  KT H (kvs.map λ kv=>if kv.1=k then (kv.1,y) else kv) (xs.map (putAt k u)):=by
 induction r with
 | nil=>exact .nil
 | @cons p q ps qs h t ih =>
  rw [Zg,Zg];refine .cons ?_ ih;obtain ⟨h1,h2,h3⟩:=h;unfold putAt
  by_cases e:p.1=k
  · rw [if_pos e,if_pos (h1.symm.trans e)]; exact ⟨h1,h2,ry⟩
  · rw [if_neg e,if_neg (λ z=>e (h1.trans z))]; exact ⟨h1,h2,h3⟩
theorem KT.put {H:Hp} {kvs:List (List Key×V)} {xs:List (List Key×Addr×Value)} (r:KT H kvs xs) (k:List Key) {b:Addr} {y:V} {u:Value} (hb:H b=some (.tup (k.map kV))) (ry:RelV y u) :
  KT H (putK kvs k y) (storedH xs k b u):=by
 have e:(kvs.any λ kv=>decide (kv.1=k))=(atKey xs k).isSome:=by
  rw [jy,(r.val k).fD,Option.isSome_map]
 unfold putK storedH;rw [e]
 by_cases q:(atKey xs k).isSome=true
 · rw [if_pos q,if_pos q]; exact r.Br k ry
 · rw [if_neg q,if_neg q]; exact Paired.snoc r ⟨rfl,hb,ry⟩
theorem KT.keeps {H H':Hp} {kvs:List (List Key×V)} {xs:List (List Key×Addr×Value)} (r:KT H kvs xs) (ht:∀ b ys,H b=some (.tup ys)->H' b=some (.tup ys)):KT H' kvs xs :=
 Paired.Lb r λ _ _ z=>⟨z.1,ht _ _ z.2.1,z.2.2⟩
section
variable {P:Program} {w:World} {H:Hp} {h:Heap} {a:Addr}
theorem EJ {u:HO} (ok:HOk P w H h) (e:Rd H a u):cR P w H h a u:=e.ok ok
theorem oU {kvs:List (Key×V)} (ok:HOk P w H h) (e:Rd H a (.dK kvs)):kvs.length<=sizeLine/\(a == sysModules)=false/\∃ vs,KV kvs vs/\h.DictOf (bB P w) a vs :=
 show cR P w H h a (.dK kvs) from EJ ok e
theorem wY {kvs:List (Key×V)} (ok:HOk P w H h) (e:H a=some (.dK kvs)):kvs.length<=sizeLine/\(a == sysModules)=false/\∃ vs,KV kvs vs/\h.DictOf (bB P w) a vs:=oU ok (.inl e)
theorem l0 {ks:List Key} (ok:HOk P w H h) (e:H a=some (.tup (ks.map kV))):(tupleKind (bB P w)).is h ks a:=by
 obtain ⟨_,its,r,o,h1,h2,n,h3⟩:=(show cR P w H h a (.tup (ks.map kV)) from ok a _ e)
 exact ⟨o,its.toArray,n,h1,h2,h3,by simpa using ot r⟩
theorem qd {kvs:List (List Key×V)} (ok:HOk P w H h) (e:Rd H a (.dT kvs)):kvs.length<=sizeLine/\(a == sysModules)=false /\
  ∃ xs,KT H kvs xs/\h.DictOfH (tupleKind (bB P w)) a xs:=by
 obtain ⟨z,y,xs,r,o,es,ep,h1,h2,h3,h4,h5⟩:=(show cR P w H h a (.dT kvs) from EJ ok e)
 refine ⟨z,y,xs,r,o,es,ep,h1,h2,h3,h4,λ x hx=>?_,h5⟩
 have all:∀ {l:List (List Key×V)} {m:List (List Key×Addr×Value)},KT H l m->∀ x ∈ m,(tupleKind (bB P w)).is h x.1 x.2.1:=by
  intro l m q
  induction q with
  | nil=>intro x hx; exact nomatch hx
  | @cons p q ps qs hq t ih =>
   intro x hx;rcases Zl.mp hx with e | hx
   ·subst e
    exact l0 ok (by rw [<- hq.1]; exact hq.2.1)
   · exact ih x hx
 exact all r x hx
theorem Lx {kvs:List (List Key×V)} (ok:HOk P w H h) (e:H a=some (.dT kvs)):kvs.length<=sizeLine/\(a == sysModules)=false /\
 ∃ xs,KT H kvs xs/\h.DictOfH (tupleKind (bB P w)) a xs:=qd ok (.inl e)
end
def qu (H:Hp) (a:Addr) (y:V) (r:Option V):Prop :=
 (∃ kvs k,Rd H a (.dK kvs)/\y=kV k/\r=dN kvs k)\/∃ kvs k b,Rd H a (.dT kvs)/\y=.ref b/\H b=some (.tup (k.map kV))/\r=dN kvs k
def G9 (H:Hp) (a:Addr) (y v:V) (H':Hp):Prop :=
 (∃ kvs k,H a=some (.dK kvs)/\y=kV k/\kvs.length < sizeLine/\H'=upd H a (.dK (putK kvs k v))) \/
 ∃ kvs k b,H a=some (.dT kvs)/\y=.ref b/\H b=some (.tup (k.map kV))/\kvs.length < sizeLine/\H'=upd H a (.dT (putK kvs k v))
theorem qu.k {H:Hp} {a:Addr} {kvs:List (Key×V)} {k:Key} (e:H a=some (.dK kvs)):qu H a (kV k) (dN kvs k):=.inl ⟨kvs,k,.inl e,rfl,rfl⟩
theorem G9.k {H:Hp} {a:Addr} {kvs:List (Key×V)} {k:Key} {v:V} (e:H a=some (.dK kvs)) (hl:kvs.length < sizeLine):G9 H a (kV k) v (upd H a (.dK (putK kvs k v))):=.inl ⟨kvs,k,e,rfl,hl,rfl⟩
section
variable {X:Cx} {pins:List (Addr×Obj)} {σ:St} {H:Hp} {s:Shared} {a:Addr} {y v:V} {u r:Value} {o:Option V} {A:Around} {E:Value->Shared->Prop}
theorem Inv.big (I:Inv X pins σ H s):sysModules < s.heap.objs.size:=by
 have h:mainGlobals < s.heap.objs.size:=(I.mod.glob.keeps I.bk).lt;exact Nat.lt_trans (by decide) h
theorem xf {Q:Value->Shared->Prop} (hu:A.units+1 < cLine) (I:Inv X pins σ H s) (g:qu H a y (some v)) (ry:RelV y u) (h:∀ w' s',Inv X pins σ H s'->RelV v w'->Q w' s') :
  wpAny (model X.prog X.w) A (getItem (.ref a) u) Q E s:=by
 rcases g with ⟨kvs,k,e,ey,l⟩ | ⟨kvs,k,b,e,ey,eb,l⟩
 ·subst ey
  obtain ⟨z,hd,vs,rel,dd⟩:=oU I.hok e;obtain ⟨w',hw,rw'⟩:=nr.some_of (v:=v) (o:=valueAt vs k) (by rw [l]; exact rel.val k);exact wpAny_getItem_of (oq ry) dd.mapOf hw (h w' _ (I.tok _) rw')
 ·subst ey
  cases (show u=Value.ref b from ry);obtain ⟨z,hd,xs,rel,dd⟩:=qd I.hok e;obtain ⟨w',hw,rw'⟩:=nr.some_of (v:=v) (o:=(atKey xs k).map (·.2)) (by rw [l]; exact rel.val k);obtain ⟨p,hp,hp2⟩:=Zm hw;refine wpAny_getItem_heap (Xm hu) (l0 I.hok eb) dd hp ?_
  rw [hp2];exact h w' _ (I.tok _) rw'
theorem Oi {Q:Value->Shared->Prop} (hu:A.units+1 < cLine) (I:Inv X pins σ H s) (g:qu H a y o) (ry:RelV y u) (h:∀ s',Inv X pins σ H s'->Q (.bool o.isSome) s') :
  wpAny (model X.prog X.w) A (compareOp .In u (.ref a)) Q E s:=by
 rcases g with ⟨kvs,k,e,ey,l⟩ | ⟨kvs,k,b,e,ey,eb,l⟩
 ·subst ey
  obtain ⟨z,hd,vs,rel,dd⟩:=oU I.hok e;refine wpAny_in_of (oq ry) hd dd.mapOf ?_
  rw [<- (rel.val k).fD,<- l];exact h _ (I.tok _)
 ·subst ey
  cases (show u=Value.ref b from ry);obtain ⟨z,hd,xs,rel,dd⟩:=qd I.hok e;refine wpAny_in_heap (Xm hu) (l0 I.hok eb) hd dd ?_
  have q:=(rel.val k).fD;rw [Option.isSome_map] at q;rw [<- q,<- l];exact h _ (I.tok _)
theorem DP {Q:Value->Shared->Prop} (hu:A.units+1 < cLine) (I:Inv X pins σ H s) (g:qu H a y o) (ry:RelV y u) (h:∀ s',Inv X pins σ H s'->Q (.bool (!o.isSome)) s') :
  wpAny (model X.prog X.w) A (compareOp .NotIn u (.ref a)) Q E s:=by
 rcases g with ⟨kvs,k,e,ey,l⟩ | ⟨kvs,k,b,e,ey,eb,l⟩
 ·subst ey
  obtain ⟨z,hd,vs,rel,dd⟩:=oU I.hok e;refine wpAny_notIn_of (oq ry) hd dd.mapOf ?_
  rw [<- (rel.val k).fD,<- l];exact h _ (I.tok _)
 ·subst ey
  cases (show u=Value.ref b from ry);obtain ⟨z,hd,xs,rel,dd⟩:=qd I.hok e;refine wpAny_notIn_heap (Xm hu) (l0 I.hok eb) hd dd ?_
  have q:=(rel.val k).fD;rw [Option.isSome_map] at q;rw [<- q,<- l];exact h _ (I.tok _)
theorem mZ {h':Heap} {t':Nat} {ob:HO} (I:Inv X pins σ H s) (mu:Mut (H a)) (hs:Heap.SameBut a s.heap h') (he:∃ q,h'.get? a=some q) (new:cR X.prog X.w (upd H a ob) h' a ob) :
  Inv X pins σ (upd H a ob) { s with heap:=h',toks:=t' } :=
 I.write (x:=a) (e:=a) mu (.inl rfl) (λ b q hb z=>(hs.2 b hb).trans z) he new
theorem wZ {P:Program} {w:World} {H':Hp} {h':Heap} {kvs:List (Key×V)} {vs:List (Key×Value)} (z:kvs.length<=sizeLine) (hd:(a == sysModules)=false) (rel:KV kvs vs) (dd:h'.DictOf (bB P w) a vs) :
 cR P w H' h' a (.dK kvs):=⟨z,hd,vs,rel,dd⟩
theorem xc {H':Hp} {Q:Unit->Shared->Prop} (hu:A.units+1 < cLine) (I:Inv X pins σ H s) (g:G9 H a y v H') (ry:RelV y u) (rv:RelV v r) (h:∀ s',Inv X pins σ H' s'->Q () s') :
  wpAny (model X.prog X.w) A (setItem (.ref a) u r) Q E s:=by
 rcases g with ⟨kvs,k,e,ey,l,eH⟩ | ⟨kvs,k,b,e,ey,eb,l,eH⟩
 ·subst ey eH
  obtain ⟨z,hd,vs,rel,dd⟩:=wY I.hok e;have hz:vs.length<=sizeLine:=by rw [<- rel.length]; exact z
  have hl:(putK kvs k v).length<=sizeLine:=by have:=gI kvs k v; omega
  refine wpAny_setItem_pairs (hsz:=hz) (oq ry) dd λ h' dd' hs=>h _ ?_
  have he:∃ q,h'.get? a=some q:=let ⟨q,_,_,hq,_⟩:=dd'; ⟨q,hq⟩
  exact mZ I (by rw [e]; exact True.intro) hs he (wZ hl hd (rel.put k rv) dd')
 ·subst ey eH
  cases (show u=Value.ref b from ry);obtain ⟨z,hd,xs,rel,dd⟩:=Lx I.hok e;have hz:xs.length<=sizeLine:=by rw [<- Paired.length rel]; exact z
  have hl:(putK kvs k v).length<=sizeLine:=by have:=gI kvs k v; omega
  refine wpAny_setItem_heap (hsz:=hz) (Xm hu) (l0 I.hok eb) dd λ h' dd' hs=>h _ ?_
  obtain ⟨q,es,ep,hq,h2,h3,h4,_,h5⟩:=dd';refine mZ I (by rw [e]; exact True.intro) hs ⟨q,hq⟩ ⟨hl,hd,_,(rel.put k eb rv).keeps λ c ys ec=>?_,q,es,ep,hq,h2,h3,h4,h5⟩;rw [ak (KZ ec e (λ z=>nomatch z))];exact ec
end
section
variable {X:Cx} {pins:List (Addr×Obj)} {σ:St} {H:Hp} {s:Shared} {a:Addr} {kvs:List (Key×V)} {k:Key} {u:Value} {A:Around} {E:Value->Shared->Prop}
theorem Ly {v:V} {more:List Value} {Q:Value->Shared->Prop} (I:Inv X pins σ H s) (e:H a=some (.dK kvs)) (ry:RelV (kV k) u) (l:dN kvs k=some v) (hm:more=[]\/∃ x,more=[x])
  (h:∀ w' s',Inv X pins σ (upd H a (.dK (qe kvs k))) s'->RelV v w'->Q w' s'):wpAny (model X.prog X.w) A (call (.builtin "dict.pop") (.ref a::u::more)) Q E s:=by
 obtain ⟨z,hd,vs,rel,dd⟩:=wY I.hok e;obtain ⟨w',hw,rw'⟩:=nr.some_of (v:=v) (o:=valueAt vs k) (by rw [<- l]; exact rel.val k)
 have hp:(keyPart u).isSome=true:=by
  cases k with
  | inl i=>obtain ⟨t,q⟩:=(show ∃ t,u=Value.int i t from ry); subst q; rfl
  | inr x=>obtain ⟨t,q⟩:=(show ∃ t,u=Value.str x t from ry); subst q; rfl
 have ha:argsOk "dict.pop" ⟨.ref a::u::more,[]⟩:=by
  rcases hm with q | ⟨x,q⟩
  · subst q; exact PySem.F.args_dict_pop_2 _ _
  · subst q; exact PySem.F.args_dict_pop_3 _ _ _
 refine call_meetsIn PySem.F.slot_dict_pop dd.typeIs PySem.F.entry_dict_pop ha (meets_dict_pop_there (bB X.prog X.w) a (oq ry) more hm hp)
  ⟨vs,w',dd,by rw [<- rel.length]; exact z,hw,λ h' dd' hs=>h w' _ ?_ rw'⟩
 have he:∃ q,h'.get? a=some q:=let ⟨q,_,_,hq,_⟩:=dd'; ⟨q,hq⟩
 exact mZ I (by rw [e]; exact True.intro) hs he (wZ (Z6 (zP kvs k) z) hd (rel.drop k) dd')
theorem Lz {Q:Value->Shared->Prop} (I:Inv X pins σ H s) (e:Rd H a (.dK kvs)) (h:∀ t s',Inv X pins σ H s'->Q (.int kvs.length t) s'):wpAny (model X.prog X.w) A (call (.builtin "len") [.ref a]) Q E s:=by
 obtain ⟨z,hd,vs,rel,dd⟩:=oU I.hok e;refine call_len_dict hd dd (by rw [<- rel.length]; rw [Xp] at z; omega) ?_
 rw [<- rel.length];exact h _ _ (I.tok _)
end
def Ec (i:Expr):Prop:=∀ ov iv,subscripted i false ov iv=operate [ov,iv] (getItem ov iv)
theorem Bm {prog:Program} {w:World} {A:Around} {E:Value->Shared->Prop} {s:Shared} {env:Env} {value slice:Expr} {pos:Pos} {T id:String} {Q:Value->Shared->Prop}
  (hl:typeLookup (.type T) "__getitem__"=pure (some (.builtin id))) (hs:Ec slice)
  (h:wpAny (model prog w) A (eval value env) (λ o s₁=>wpAny (model prog w) A (eval slice env) (λ i s₂=>s₂.TypeIs o T/\wpAny (model prog w) A (getItem o i) Q E s₂) E s₁) E s) :
  wpAny (model prog w) A (eval (.Subscript value slice pos) env) Q E s:=by
 refine Subscript_ (Ym h (λ o s₁ h₁=>Ym h₁ (λ i s₂ h₂=>?_) λ _ _ x=>x) λ _ _ x=>x);obtain ⟨hT,h₂⟩:=h₂;unfold subscriptTail;refine Zo ?_
 rw [getitemInPython_of_ne hT.not_modules];refine Zo (wpAny_specialOf hT hl ?_)
 have fin:wpAny (model prog w) A (subscripted slice false o i) (λ r s₃=>wpAny (model prog w) A (letTemporaryGo value o r >>= λ _=>pure r) Q E s₃) E s₂:=by
  rw [hs o i];exact wpAny_operating (Ym h₂ (λ r s₃ h₃=>Zo (wpAny_letTemporaryGo (Z1 h₃))) λ _ _ x=>x)
 first
  | exact Z1 (Zo fin)
  | exact Zo (Z1 (Zo fin))
  | exact Zo fin
theorem qf {X:Cx} {pins:List (Addr×Obj)} {σ:St} {H:Hp} {s:Shared} {a:Addr} {y:V} {o:Option V} (I:Inv X pins σ H s) (g:qu H a y o):s.TypeIs (.ref a) "dict":=by
 rcases g with ⟨kvs,k,e,_,_⟩ | ⟨kvs,k,b,e,_,_,_⟩
 ·obtain ⟨_,_,vs,_,dd⟩:=oU I.hok e
  exact dd.typeIs
 ·obtain ⟨_,_,xs,_,dd⟩:=qd I.hok e
  exact dd.typeIs
def IX (td ty:TE):TE:=λ σ H Q=>td σ H λ x H1=>ty σ H1 λ y H2=>∃ a v,x=.ref a/\qu H2 a y (some v)/\Q v H2
def MV (ty td:TE):TE:=λ σ H Q=>ty σ H λ y H1=>td σ H1 λ x H2=>∃ a o,x=.ref a/\qu H2 a y o/\Q (.bl o.isSome) H2
def Bj (ty td:TE):TE:=λ σ H Q=>ty σ H λ y H1=>td σ H1 λ x H2=>∃ a o,x=.ref a/\qu H2 a y o/\Q (.bl (!o.isSome)) H2
def Ja (td ty tv:TE):TS:=λ D σ H=>tv σ H λ v H1=>td σ H1 λ x H2=>ty σ H2 λ y H3=>∃ a H4,x=.ref a/\G9 H3 a y v H4/\D.nx σ H4
section
variable {X:Cx} {o i e value:Expr} {pos pos' tpos:Pos} {td ty tv:TE}
theorem vv (hu:X.A.units+1 < cLine) (ho:PE X o td) (hi:PE X i ty) (hs:Ec i):PE X (.Subscript o i pos) (IX td ty):=by
 intro pins s σ H Q I h;refine Bm PySem.F.slot_dict_getitem.lookup hs (thn (ho pins s σ H _ I h) λ u s1 ⟨x,H1,I1,rx,q1⟩=>thn (hi pins s1 σ H1 _ I1 q1) λ iv s2 ⟨y,H2,I2,ry,a,v,ex,g,q2⟩=>?_);subst ex;obtain rfl:u=Value.ref a:=rx;exact ⟨qf I2 g,xf hu I2 g ry λ w' s3 I3 rw'=>⟨v,H2,I3,rw',q2⟩⟩
theorem Fw (hu:X.A.units+1 < cLine) (hi:PE X i ty) (ho:PE X o td):PC X .In i o (MV ty td):=by
 intro pins s σ H Q I h;refine thn (hi pins s σ H _ I h) λ iv s1 ⟨y,H1,I1,ry,q1⟩=>thn (ho pins s1 σ H1 _ I1 q1) λ u s2 ⟨x,H2,I2,rx,a,ov,ex,g,q2⟩=>?_
 subst ex;obtain rfl:u=Value.ref a:=rx;exact Oi hu I2 g ry λ s3 I3=>⟨.bl ov.isSome,H2,I3,rfl,q2⟩
theorem vx (hu:X.A.units+1 < cLine) (hi:PE X i ty) (ho:PE X o td):PC X .NotIn i o (Bj ty td):=by
 intro pins s σ H Q I h;refine thn (hi pins s σ H _ I h) λ iv s1 ⟨y,H1,I1,ry,q1⟩=>thn (ho pins s1 σ H1 _ I1 q1) λ u s2 ⟨x,H2,I2,rx,a,ov,ex,g,q2⟩=>?_
 subst ex;obtain rfl:u=Value.ref a:=rx;exact DP hu I2 g ry λ s3 I3=>⟨.bl (!ov.isSome),H2,I3,rfl,q2⟩
theorem BX (hu:X.A.units+1 < cLine) (ho:PE X o td) (hi:PE X i ty) (hv:PE X value tv) (hs:swapsWith value (some (.Subscript o i pos')) pos.line X.env=pure false) :
  PS X (.Assign [.Subscript o i pos'] value pos) (Ja td ty tv):=by
 intro pins s σ H D I h;refine wpAny_Assign_Subscript (thn (hv pins s σ H _ I h) λ r s1 ⟨v,H1,I1,rv,q1⟩=>thn (ho pins s1 σ H1 _ I1 q1) λ u s2 ⟨x,H2,I2,rx,q2⟩=>thn (hi pins s2 σ H2 _ I2 q2) λ iv s3 ⟨y,H3,I3,ry,a,H4,ex,g,q3⟩=>?_) hs;subst ex;obtain rfl:u=Value.ref a:=rx;exact xc hu I3 g ry rv λ s4 I4=>⟨σ,H4,I4,q3⟩
end
theorem rM {P:Program} {w:World} {H:Hp} (h:Heap) (hb:sysModules < h.objs.size):cR P w H (h.push { cls:=.type "dict",data:=.dict #[] }) h.objs.size (.dK []) :=
 ⟨Z7 _,Xa.mpr (Ne.symm (Zy hb)),[],.nil,Heap.DictOf.new h⟩
def Eu:TE:=λ _ H Q=>∀ p,H p=none->Q (.ref p) (upd H p (.dK []))
section
variable {X:Cx} {pos:Pos}
theorem yK:PE X (.Dict [] [] pos) Eu:=λ pins s σ H Q I h =>
 wpAny_Dict_empty ⟨.ref s.heap.objs.size,_,I.laid (a:=s.heap.objs.size) (o:=.dK []) (t':=s.toks) (λ _ _ q=>Heap.get?_push_of_some _ q) (Zn _) (rM s.heap I.big),rfl,h _ (I.hok.fresh (Zn _))⟩
end
def qx:List (TE×TE)->St->Hp->(List (V×V)->Hp->Prop)->Prop
 | [],_,H,Q=>Q [] H
 | (tk,tv)::r,σ,H,Q=>tk σ H λ x H1=>tv σ H1 λ y H2=>qx r σ H2 λ ps H3=>Q ((x,y)::ps) H3
abbrev VV:List (V×V)->List (Value×Value)->Prop:=Paired λ p q=>RelV p.1 q.1/\RelV p.2 q.2
def PPs (X:Cx) (pos:Pos) (keys:List (Option Expr)) (values:List Expr) (trs:List (TE×TE)):Prop :=
  ∀ (pins:List (Addr×Obj)) (s:Shared) (σ:St) (H:Hp) (Q:List (V×V)->Hp->Prop),Inv X pins σ H s->qx trs σ H Q ->
    wpAny (model X.prog X.w) X.A (evalPairs (pairTrees keys values X.env pos)) (λ vs s'=>∃ ps H',Inv X pins σ H' s'/\VV ps vs/\Q ps H') X.xe s
theorem vh {X:Cx} {pos:Pos}:PPs X pos [] [] []:=λ pins s σ H Q I h=>pairTrees_nil_walk ⟨[],H,I,.nil,h⟩
theorem qP {X:Cx} {pos:Pos} {k v:Expr} {ks:List (Option Expr)} {vs:List Expr} {tk tv:TE} {trs:List (TE×TE)} (hk:PE X k tk) (hv:PE X v tv) (hr:PPs X pos ks vs trs) :
  PPs X pos (some k::ks) (v::vs) ((tk,tv)::trs):=λ pins s σ H Q I h =>
 pairTrees_cons_walk (thn (hk pins s σ H _ I h) λ u s1 ⟨x,H1,I1,rx,q1⟩=>thn (hv pins s1 σ H1 _ I1 q1) λ w2 s2 ⟨y,H2,I2,ry,q2⟩ =>
  thn (hr pins s2 σ H2 _ I2 q2) λ ws s3 ⟨ps,H3,I3,rel,q3⟩=>⟨(x,y)::ps,H3,I3,.cons ⟨rx,ry⟩ rel,q3⟩)
def j3 (kvs more:List (Key×V)):List (Key×V):=more.foldl (λ acc kv=>putK acc kv.1 kv.2) kvs
theorem KV.merge:∀ {more:List (Key×V)} {rs:List (Key×Value)} {kvs:List (Key×V)} {vs:List (Key×Value)},KV more rs->KV kvs vs->KV (j3 kvs more) (merged vs rs):=by
 intro more rs kvs vs r;unfold KV at r
 induction r generalizing kvs vs with
 | nil=>intro q; exact q
 | @cons p q ps qs h t ih =>
  intro r0
  have e:KV (putK kvs p.1 p.2) (stored vs q.1 q.2):=by
   have:=r0.put p.1 h.2;rw [<- h.1]; exact this
  exact ih e
theorem ic:∀ (more kvs:List (Key×V)),(j3 kvs more).length<=kvs.length+more.length
 | [],kvs=>by show kvs.length<=kvs.length+0; omega
 | p::r,kvs=>by
  have h1:=ic r (putK kvs p.1 p.2);have h2:=gI kvs p.1 p.2;show (j3 (putK kvs p.1 p.2) r).length<=_;rw [Z0]; omega
theorem me {P:Program} {w:World}:∀ {kvs:List (Key×V)} {ws:List (Value×Value)},VV (kvs.map λ kv=>(kV kv.1,kv.2)) ws->∃ rs,Carries (bB P w) ws rs/\KV kvs rs
 | [],_,r=>by rw [Xk] at r; cases r; exact ⟨[],True.intro,.nil⟩
 | p::kvs,_,r=>by
  rw [Zg] at r
  cases r with
  | @cons a b as bs h t =>
   obtain ⟨rs,c,q⟩:=me (P:=P) (w:=w) t;obtain ⟨b1,b2⟩:=b;exact ⟨(p.1,b2)::rs,⟨oq h.1,rfl,c⟩,.cons ⟨rfl,h.2⟩ q⟩
def IW (trs:List (TE×TE)):TE:=λ σ H Q=>∀ p,H p=none->qx trs σ (upd H p (.dK [])) λ ps H2=>H2 p=some (.dK [])/\∃ kvs:List (Key×V),ps=kvs.map (λ kv=>(kV kv.1,kv.2))/\kvs.length<=15/\Q (.ref p) (upd H2 p (.dK (j3 [] kvs)))
theorem vt {X:Cx} {pos:Pos} {keys:List (Option Expr)} {values:List Expr} {trs:List (TE×TE)} (h:PPs X pos keys values trs) (hall:keys.all (·.isSome)=true) (hl:keys.length=values.length) (h0:keys≠[])
  (h15:keys.length<=15):PE X (.Dict keys values pos) (IW trs):=by
 intro pins s σ H Q I q;have hn:=I.hok.fresh (Zn s.heap.objs.size);have I1:=I.laid (a:=s.heap.objs.size) (o:=.dK []) (h':=s.heap.push { cls:=.type "dict",data:=.dict #[] }) (t':=s.toks) (λ _ _ q=>Heap.get?_push_of_some _ q) (Zn _) (rM s.heap I.big);refine wpAny_Dict_walk (knd:=bB X.prog X.w) hall hl h0 h15 (thn (h pins _ σ _ _ I1 (q _ hn)) λ ws s2 ⟨ps,H2,I2,rel,e,kvs,ep,lk,q2⟩=>?_);subst ep;obtain ⟨rs,c,rk⟩:=me (P:=X.prog) (w:=X.w) rel;obtain ⟨z,hd,vs0,r0,dd⟩:=wY I2.hok e;cases r0;refine ⟨rs,c,dd,λ h' dd' hs=>⟨.ref s.heap.objs.size,_,?_,rfl,q2⟩⟩
 have hz:(j3 [] kvs).length<=sizeLine:=by
  have h1:=ic kvs [];rw [Xx] at h1;rw [Xp]; omega
 have he:∃ q,h'.get? s.heap.objs.size=some q:=let ⟨q,_,_,hq,_⟩:=dd'; ⟨q,hq⟩
 exact mZ I2 (by rw [e]; exact True.intro) hs he (wZ hz hd (rk.merge .nil) dd')
structure M1 (X:Cx) (o:Expr) (m:Str) (apos:Pos) (e:Expr) (cpos:Pos):Prop where
 base:attributeBase o m X.env (eval o X.env)=eval o X.env
 few:((backTo cpos (starEach [e] X.env)).all (λ x=>!x.1)&&(backToKw cpos (keywordEach [] X.env)).all (λ x=>x.1.isSome)
  && decide (([e]:List Expr).length+([]:List Keyword).length+(if ([]:List Keyword).isEmpty then 0 else 1) < 30))=true
 line:(apos.endLine == cpos.line)=true
 trees:backTo cpos (starEach [e] X.env)=[(false,eval e X.env)]
structure M2 (X:Cx) (o:Expr) (m:Str) (apos:Pos) (e f:Expr) (cpos:Pos):Prop where
 base:attributeBase o m X.env (eval o X.env)=eval o X.env
 few:((backTo cpos (starEach [e,f] X.env)).all (λ x=>!x.1)&&(backToKw cpos (keywordEach [] X.env)).all (λ x=>x.1.isSome)
  && decide (([e,f]:List Expr).length+([]:List Keyword).length+(if ([]:List Keyword).isEmpty then 0 else 1) < 30))=true
 line:(apos.endLine == cpos.line)=true
 trees:backTo cpos (starEach [e,f] X.env)=[(false,eval e X.env),(false,eval f X.env)]
def IsD (H:Hp) (a:Addr):Prop:=(∃ kvs,Rd H a (.dK kvs))\/∃ kvs,Rd H a (.dT kvs)
theorem AR {X:Cx} {pins:List (Addr×Obj)} {σ:St} {H:Hp} {s:Shared} {a:Addr} (I:Inv X pins σ H s) (d:IsD H a) :
  s.TypeIs (.ref a) "dict"/\(∀ b,Value.ref a=.ref b->∃ ob,s.heap.get? b=some ob/\ob.dict=none)/\(a == sysModules)=false:=by
 rcases d with ⟨kvs,e⟩ | ⟨kvs,e⟩
 ·obtain ⟨_,hd,vs,_,dd⟩:=oU I.hok e
  refine ⟨dd.typeIs,λ b q=>?_,hd⟩;cases q;obtain ⟨ob,_,_,h1,h2,_⟩:=dd;exact ⟨ob,h1,h2.2.1⟩
 ·obtain ⟨_,hd,xs,_,dd⟩:=qd I.hok e
  refine ⟨dd.typeIs,λ b q=>?_,hd⟩;cases q;obtain ⟨ob,_,_,h1,h2,_⟩:=dd;exact ⟨ob,h1,h2.2.1⟩
section
variable {X:Cx} {pins:List (Addr×Obj)} {σ:St} {H:Hp} {s:Shared} {a:Addr} {y d:V} {u r:Value} {o:Option V} {A:Around} {E:Value->Shared->Prop}
theorem GO {Q:Value->Shared->Prop} (hu:A.units+1 < cLine) (I:Inv X pins σ H s) (g:qu H a y o) (ry:RelV y u) (rd:RelV d r) (h:∀ w' s',Inv X pins σ H s'->RelV (o.getD d) w'->Q w' s') :
  wpAny (model X.prog X.w) A (call (.builtin "dict.get") [.ref a,u,r]) Q E s:=by
 rcases g with ⟨kvs,k,e,ey,l⟩ | ⟨kvs,k,b,e,ey,eb,l⟩
 ·subst ey
  obtain ⟨z,hd,vs,rel,dd⟩:=oU I.hok e;refine call_meetsIn PySem.F.slot_dict_get dd.typeIs PySem.F.entry_dict_get (PySem.F.args_dict_get_3 _ _ _) (meets_dict_get_default (bB X.prog X.w) a (oq ry) hd r) ⟨_,dd.mapOf,h _ _ (I.tok _) ?_⟩;rw [l];exact (rel.val k).getD rd
 ·subst ey
  cases (show u=Value.ref b from ry);obtain ⟨z,hd,xs,rel,dd⟩:=qd I.hok e;refine call_meetsIn PySem.F.slot_dict_get dd.typeIs PySem.F.entry_dict_get (PySem.F.args_dict_get_3 _ _ _) (meetsH_dict_get_default (tupleKind (bB X.prog X.w)) a b hd r) ⟨Xm hu,k,xs,l0 I.hok eb,dd,h _ _ (I.tok _) ?_⟩;rw [l];exact (rel.val k).getD rd
end
def Ew (td ty tx:TE):TE:=λ σ H Q=>td σ H λ x H1=>∃ a,x=.ref a/\IsD H1 a/\ty σ H1 λ y H2=>tx σ H2 λ z H3=>∃ o,qu H3 a y o/\Q (o.getD z) H3
def Et (td ty:TE):TE:=λ σ H Q=>td σ H λ x H1=>∃ a,x=.ref a/\IsD H1 a/\ty σ H1 λ y H2=>∃ kvs k v,H2 a=some (.dK kvs)/\y=kV k/\dN kvs k=some v/\Q v (upd H2 a (.dK (qe kvs k)))
section
variable {X:Cx} {o e f:Expr} {apos cpos:Pos} {td ty tx:TE}
theorem yL (hu:X.A.units+1 < cLine) (ho:PE X o td) (he:PE X e ty) (hf:PE X f tx) (m:M2 X o "get" apos e f cpos):PE X (.Call (.Attribute o "get" apos) [e,f] [] cpos) (Ew td ty tx):=by
 intro pins s σ H Q I h;refine wpAny_Call_method m.base m.few m.line PySem.F.plainAttrs_dict PySem.F.slot_dict_get PySem.F.type_dict_get (thn (ho pins s σ H _ I h) λ u s1 ⟨x,H1,I1,rx,a,ex,d,q1⟩=>?_);subst ex;obtain rfl:u=Value.ref a:=rx;obtain ⟨t1,t2,_⟩:=AR I1 d;refine ⟨t1,t2,?_⟩;rw [m.trees]
 refine Xj rfl (Calls.evalArgs_plain (Xi (thn (he pins s1 σ H1 _ I1 q1) λ iv s2 ⟨y,H2,I2,ry,q2⟩ =>
  Xi (thn (hf pins s2 σ H2 _ I2 q2) λ fv s3 ⟨z,H3,I3,rz,ov,g,q3⟩=>Calls.spliced_nil ?_))))
 exact GO hu I3 g ry rz λ w' s4 I4 rw'=>⟨_,H3,I4,rw',q3⟩
theorem yJ (ho:PE X o td) (he:PE X e ty) (m:M1 X o "pop" apos e cpos):PE X (.Call (.Attribute o "pop" apos) [e] [] cpos) (Et td ty):=by
 intro pins s σ H Q I h;refine wpAny_Call_method m.base m.few m.line PySem.F.plainAttrs_dict PySem.F.slot_dict_pop PySem.F.type_dict_pop (thn (ho pins s σ H _ I h) λ u s1 ⟨x,H1,I1,rx,a,ex,d,q1⟩=>?_);subst ex;obtain rfl:u=Value.ref a:=rx;obtain ⟨t1,t2,_⟩:=AR I1 d;refine ⟨t1,t2,?_⟩;rw [m.trees];refine Xj rfl (Calls.evalArgs_plain (Xi (thn (he pins s1 σ H1 _ I1 q1) λ iv s2 ⟨y,H2,I2,ry,kvs,k,v,ea,ey,l,q2⟩=>Calls.spliced_nil ?_)));subst ey;exact Ly I2 ea ry l (.inl rfl) λ w' s3 I3 rw'=>⟨v,_,I3,rw',q2⟩
end
def Its (z:Str):It:=⟨λ i _=>i < z.cps.size,λ i H x H'=>H'=H/\∃ c,z.cps[i]?=some c/\x=.str ⟨#[c]⟩,λ i _=>z.cps.size<=i⟩
theorem se {P:Program} {w:World} {K:W.Frag} {tg:Expr} (it:Addr) (z:Str) (t:Tok):Turn P w K tg (Its z) [it] it (λ i h=>h.IsStrIter it "str_ascii_iterator" z t i) where
 mem:=by simp
 obj:=λ i h st b hb=>by
  have e:b=it:=by simpa using hb
  subst e;obtain ⟨o,e,c,d⟩:=st;exact ⟨o,e,λ v z=>by rw [d] at z; cases z⟩
 keep:=λ i h h' st k=>let ⟨o,ho,r⟩:=st; ⟨o,k it (by simp) o ho,r⟩
 item:=by
  intro X hP hw hK hc i pins s σ H E I hf st hg;subst hP hw hK;obtain ⟨f0,f1,f2,f3,f4,f5⟩:=hf it (by simp);have hg':i < z.cps.size:=hg;have hx:z.cps[i]?=some z.cps[i]:=by simp [hg']
  refine wpAny_pyNext_ascii_item st hx λ h' st' sb=>?_
  have I1:Inv X pins σ H { s with heap:=h',toks:=s.toks+1 }:=I.turned (λ b o hb e=>(sb.2 b hb).trans e) f0 f1 f3 f4 f5;obtain ⟨o,e,c,d⟩:=id st';exact ⟨_,rfl,tf e c d (by decide) ⟨.str ⟨#[z.cps[i]]⟩,H,I1,⟨_,rfl⟩,⟨rfl,_,hx,rfl⟩,st',λ b hb=>(hf b hb).1⟩⟩
 done:=by
  intro X hP hw hK hc i pins s σ H E I hf st hg;subst hP hw hK;obtain ⟨f0,f1,f2,f3,f4,f5⟩:=hf it (by simp);have hg':z.cps.size<=i:=hg;exact wpAny_pyNext_ascii_end (I.ok.hd hc) st (by simp [hg']) λ h' eb=>⟨rfl,I.turned (λ b o hb e=>eb b o hb e) f0 f1 f3 f4 f5⟩
 self:=λ _ _ _ _ _ st h=>wpAny_pyIter_striter_ascii st h
theorem t9 {P:Program} {w:World} {K:W.Frag} {tg:Expr} (it:Addr) (z:Str) (t:Tok):Turn P w K tg (Its z) [it] it (λ i h=>h.IsStrIter it "str_iterator" z t i) where
 mem:=by simp
 obj:=λ i h st b hb=>by
  have e:b=it:=by simpa using hb
  subst e;obtain ⟨o,e,c,d⟩:=st;exact ⟨o,e,λ v z=>by rw [d] at z; cases z⟩
 keep:=λ i h h' st k=>let ⟨o,ho,r⟩:=st; ⟨o,k it (by simp) o ho,r⟩
 item:=by
  intro X hP hw hK hc i pins s σ H E I hf st hg;subst hP hw hK;obtain ⟨f0,f1,f2,f3,f4,f5⟩:=hf it (by simp);have hg':i < z.cps.size:=hg;have hx:z.cps[i]?=some z.cps[i]:=by simp [hg']
  refine wpAny_pyNext_wide_item st hx λ h' st' sb=>?_
  have I1:Inv X pins σ H { s with heap:=h',toks:=s.toks+1 }:=I.turned (λ b o hb e=>(sb.2 b hb).trans e) f0 f1 f3 f4 f5;obtain ⟨o,e,c,d⟩:=id st';exact ⟨_,rfl,tf e c d (by decide) ⟨.str ⟨#[z.cps[i]]⟩,H,I1,⟨_,rfl⟩,⟨rfl,_,hx,rfl⟩,st',λ b hb=>(hf b hb).1⟩⟩
 done:=by
  intro X hP hw hK hc i pins s σ H E I hf st hg;subst hP hw hK;obtain ⟨f0,f1,f2,f3,f4,f5⟩:=hf it (by simp);have hg':z.cps.size<=i:=hg;exact wpAny_pyNext_wide_end (I.ok.hd hc) st (by simp [hg']) λ h' eb=>⟨rfl,I.turned (λ b o hb e=>eb b o hb e) f0 f1 f3 f4 f5⟩
 self:=λ _ _ _ _ _ st h=>wpAny_pyIter_striter_wide st h
section
variable {X:Cx} {tg:Expr}
def N8 (tl:TE):TI:=λ σ H R=>tl σ H λ x H1=>∃ z,x=.str z/\R (Its z) H1
theorem E6 {l:Expr} {tl:TE} (hl:PE X l tl):PI X tg l (N8 tl):=by
 intro pins s σ H R I h;refine thn (hl pins s σ H _ I h) λ v s1 ⟨x,H1,I1,r1,q1⟩=>?_
 obtain ⟨z,e,q⟩:=q1;subst e;obtain ⟨t,rfl⟩:=r1
 have fp:∀ b ∈ [s1.heap.objs.size],tU X pins H1 b:=λ b hb=>by
  have e:b=s1.heap.objs.size:=by simpa using hb
  subst e;exact I1.xN (Zn _) (I1.hok.fresh (Zn _))
 cases ha:z.cps.all (· < 128)
 ·refine wpAny_pyIter_wide ha ?_
  exact ⟨s1.heap.objs.size,[s1.heap.objs.size],_,_,H1,rfl,I1.kept λ b o e=>Heap.get?_push_of_some _ e,t9 _ z t,⟨_,Heap.get?_push_size _ rfl,rfl,rfl⟩,fp,q⟩
 ·refine wpAny_pyIter_ascii ha ?_
  exact ⟨s1.heap.objs.size,[s1.heap.objs.size],_,_,H1,rfl,I1.kept (t':=s1.toks) λ b o e=>Heap.get?_push_of_some _ e,se _ z t,⟨_,Heap.get?_push_size _ rfl,rfl,rfl⟩,fp,q⟩
theorem vA:OpR X (compareOp .LtE) (λ x y H Q=>∃ i j,x=.str i/\y=.str j/\Q (.bl (!decide (j.cps.toList < i.cps.toList))) H):=by
 intro pins s σ H x y v u Q I rx ry h;obtain ⟨i,j,rfl,rfl,q⟩:=h;obtain ⟨t,rfl⟩:=rx;obtain ⟨t',rfl⟩:=ry;exact PySem.P.le_str (ba I q (by simp))
theorem nj:∀ {bs:List Bool} {us:List Value},bN (bs.map V.bl) us->∀ (i:Nat) (v:Value),us[i]?=some v->∃ b,bs[i]?=some b/\v=Value.bool b
 | [],_,.nil,i,v,e=>by simp at e
 | b::bs,_,.cons r t,0,v,e=>by
  simp at e;subst e;exact ⟨b,by simp,r⟩
 | b::bs,_,.cons r t,i+1,v,e=>by
  obtain ⟨c,h1,h2⟩:=nj t i v (by simpa using e);exact ⟨c,by simpa using h1,h2⟩
theorem z4 (hc:X.calm=true):fo X (.builtin "all") (λ xs H Q=>∃ (p:Addr) (bs:List Bool),xs=[.ref p]/\SqL X.K H p (bs.map V.bl)/\Q (.bl (bs.all id)) H):=by
 intro pins s σ H xs us Q I r h;obtain ⟨p,bs,rfl,hL,q⟩:=h;obtain ⟨u,rfl,ru⟩:=vals1 r;cases (ru);obtain ⟨its,rv,pl,hz⟩:=I.list hL;have hl:=pl.isList;have hlen:=rv.length;rw [Za] at hlen;have hlt:p < s.heap.objs.size:=by obtain ⟨_,e,_⟩:=hl; exact Zs e
 refine call_all_walk (Xo hl ?_)
 refine ⟨s.heap.objs.size,[s.heap.objs.size,p],[s.heap.objs.size],its.toArray.size,_,_,λ i=>(bs[i]?).getD true,rfl,Walks.list (A:=X.A.in1) (I.ok.hd hc) _ p (Zy hlt) its.toArray,
  ⟨⟨_,Heap.get?_push_size _ rfl,rfl,rfl⟩,hl.push _⟩,λ i v s' Q' E' hP hQ=>?_,λ h' tk hk=>?_⟩
 ·obtain ⟨b,e,rfl⟩:=nj rv i v (by simpa using hP)
  simp only [e,Option.getD_some] at hQ;exact Yg hQ
 ·have e:((List.range its.toArray.size).all λ i=>(bs[i]?).getD true)=bs.all id:=by
   rw [Zr,<- hlen,Y5,Yu,Yu];constructor
   ·intro hh b hb
    obtain ⟨i,hi,rfl⟩:=List.getElem_of_mem hb;have:=hh i (Xd.mpr hi)
    simpa [List.getElem?_eq_getElem hi] using this
   ·intro hh i hi
    have hi':=Xd.mp hi;simp only [List.getElem?_eq_getElem hi',Option.getD_some];exact hh _ (Xr hi')
  rw [e];refine ⟨.bl _,H,I.kept λ b x ex=>hk b x (λ hm=>?_) (Heap.get?_push_of_some _ ex),rfl,q⟩;rw [Zt.mp hm] at ex;exact Yq _ (Zs ex)
theorem jH:∀ {ts:List Str} {us:List Value},bN (ts.map V.str) us->StrsAre us ts
 | [],_,.nil=>.nil
 | x::ts,_,.cons r t=>by
  obtain ⟨tk,rfl⟩:=r;exact .cons x tk (jH t)
theorem C3:MtR X "str.join" (λ x xs H Q=>∃ (z:Str) (p:Addr) (ts:List Str),x=.str z/\xs=[.ref p]/\SqL X.K H p (ts.map V.str)/\(ts.map (·.length)).sum+ts.length * z.length<=16777216/\Q (.str (Txt.join z ts)) H):=by
 intro pins s σ H x xs v us Q I rx rv h;obtain ⟨z,p,ts,rfl,rfl,hL,hz,q⟩:=h;obtain ⟨t,rfl⟩:=rx;obtain ⟨u,rfl,ru⟩:=vals1 rv;cases (ru);obtain ⟨its,rv',pl,_⟩:=I.list hL;exact join_list pl.isList (by simpa using jH rv') hz λ t' k=>⟨.str _,H,I.tok k,⟨_,rfl⟩,q⟩
end
theorem DV (h0:closureFor scope X.env=pure cl) (h1:scope.kind=.function) (h2:(scope.names.all λ y=>!(y.2 == .cell))=true)
  (h3:(scope.names.all λ y=>!(y.2 == .local)||(scope.names.lookup y.1 == some .local))=true) (h4:scope.names.lookup x=some .local) (h5:∀ p ∈ cl,X.env.cells.lookup p.1=some p.2)
  (h6:((relabel scope X.env).names.all λ p=>!(p.2 == .cell||p.2 == .free)||(cl.lookup p.1).isSome)=true)
  (h7:∀ p ∈ cs,X.N[p.2]?=some p.1/\X.env.kindOf p.1=some .cell/\(relabel scope X.env).names.lookup p.1=some .cell) (h8:(x::cs.map (·.1)).Nodup):cM X scope cl x cs where
 GS:=h0
 kind:=h1
 qY:=λ y hy z=>by
  have:=Yu.mp h2 y hy;rw [z] at this;exact absurd this (by decide)
 names:=λ y hy z=>by
  have:=Yu.mp h3 y hy;rw [z] at this
  simpa using this
 own:=h4
 sub:=λ y c e=>h5 (y,c) (Yj e)
 has:=λ y hy=>by
  have key:∀ k,(relabel scope X.env).names.lookup y=some k->(k=.cell\/k=.free)->∃ c,cl.lookup y=some c:=λ k e hk=>by
   have:=Yu.mp h6 (y,k) (Yj e);rcases hk with rfl | rfl
   · exact Y8.mp (by simpa using this)
   · exact Y8.mp (by simpa using this)
  rcases hy with hy | hy
  · exact key _ hy (.inl rfl)
  · exact key _ hy (.inr rfl)
 LG:=λ p hp=>⟨(h7 p hp).1,.inl (h7 p hp).2.1,.inl (h7 p hp).2.2⟩
 nd:=h8
def Ee (X:Cx):List (Str×Addr)->Prop
 | []=>True
 | p::r=>X.env.cells.lookup p.1=some p.2/\Ee X r
def AllP (X:Cx) (scope:Scope):List (Str×Nat)->Prop
 | []=>True
 | p::r=>(X.N[p.2]?=some p.1/\X.env.kindOf p.1=some .cell/\(relabel scope X.env).names.lookup p.1=some .cell)/\AllP X scope r
theorem Ee.all:∀ {cl:List (Str×Addr)},Ee X cl->∀ p ∈ cl,X.env.cells.lookup p.1=some p.2
 | [],_,p,h=>by cases h
 | q::r,a,p,h=>by
  rcases Zl.mp h with rfl | h
  · exact a.1
  · exact Ee.all a.2 p h
theorem AllP.all:∀ {cs:List (Str×Nat)},AllP X scope cs->∀ p ∈ cs,X.N[p.2]?=some p.1/\X.env.kindOf p.1=some .cell/\(relabel scope X.env).names.lookup p.1=some .cell
 | [],_,p,h=>by cases h
 | q::r,a,p,h=>by
  rcases Zl.mp h with rfl | h
  · exact a.1
  · exact AllP.all a.2 p h
theorem DU (cs:List (Str×Nat)) (h0:closureFor scope X.env=pure cl) (h1:scope.kind=.function) (h2:(scope.names.all λ y=>!(y.2 == .cell))=true)
 (h3:(scope.names.all λ y=>!(y.2 == .local)||(scope.names.lookup y.1 == some .local))=true) (h4:scope.names.lookup x=some .local) (h5:Ee X cl)
 (h6:((relabel scope X.env).names.all λ p=>!(p.2 == .cell||p.2 == .free)||(cl.lookup p.1).isSome)=true)
 (h7:AllP X scope cs) (h8:(x::cs.map (·.1)).Nodup):cM X scope cl x cs:=DV h0 h1 h2 h3 h4 h5.all h6 h7.all h8
inductive D where
 | non | bl (b:Bool) | int (i:Int) | str (x:Str) | ty (n:String)
 | tup (ds:List D) | lst (ds:List D) | fz (ds:List D) | dct (kvs:List (Key×D)) | obj (C:Addr) (fs:List (Str×D)) | cls (C:Addr) | dfz (kvs:List (Key×D))
mutual
inductive Rp (K:W.Frag) (H:Hp):V->D->Prop where
 | non:Rp K H .non .non
 | bl (b:Bool):Rp K H (.bl b) (.bl b)
 | int (i:Int):Rp K H (.int i) (.int i)
 | str (x:Str):Rp K H (.str x) (.str x)
 | ty (n:String):Rp K H (.ty n) (.ty n)
 | cls (C:Addr):Rp K H (.ref C) (.cls C)
 | tup {a:Addr} {xs:List V} {ds:List D} (h:SqT K H a xs) (r:Rps K H xs ds):Rp K H (.ref a) (.tup ds)
 | lst {a:Addr} {xs:List V} {ds:List D} (h:H a=some (.lst xs)) (r:Rps K H xs ds):Rp K H (.ref a) (.lst ds)
 | fz {a:Addr} {xs:List V} {ds:List D} (h:SqL K H a xs) (r:Rps K H xs ds):Rp K H (.ref a) (.fz ds)
 | dct {a:Addr} {kvs:List (Key×V)} {ds:List (Key×D)} (h:H a=some (.dK kvs)) (r:RpK K H kvs ds):Rp K H (.ref a) (.dct ds)
 | obj {a C dx:Addr} {fs:List (Str×V)} {ds:List (Str×D)} (h:H a=some (.ins C dx fs)) (r:RpF K H fs ds):Rp K H (.ref a) (.obj C ds)
 | dfz {a:Addr} {kvs:List (Key×V)} {ds:List (Key×D)} (h:Rd H a (.dK kvs)) (r:RpK K H kvs ds):Rp K H (.ref a) (.dfz ds)
inductive Rps (K:W.Frag) (H:Hp):List V->List D->Prop where
 | nil:Rps K H [] []
 | cons {x:V} {d:D} {xs:List V} {ds:List D} (h:Rp K H x d) (r:Rps K H xs ds):Rps K H (x::xs) (d::ds)
inductive RpK (K:W.Frag) (H:Hp):List (Key×V)->List (Key×D)->Prop where
 | nil:RpK K H [] []
 | cons {k:Key} {x:V} {d:D} {xs:List (Key×V)} {ds:List (Key×D)} (h:Rp K H x d) (r:RpK K H xs ds):RpK K H ((k,x)::xs) ((k,d)::ds)
inductive RpF (K:W.Frag) (H:Hp):List (Str×V)->List (Str×D)->Prop where
 | nil:RpF K H [] []
 | cons {k:Str} {x:V} {d:D} {xs:List (Str×V)} {ds:List (Str×D)} (h:Rp K H x d) (r:RpF K H xs ds):RpF K H ((k,x)::xs) ((k,d)::ds)
end
section
variable {K:W.Frag} {H H':Hp}
mutual
theorem Rp.same (g:b6 H H'):∀ {v:V} {d:D},Rp K H v d->Rp K H' v d
 | _,_,.non=>.non
 | _,_,.bl b=>.bl b
 | _,_,.int i=>.int i
 | _,_,.str x=>.str x
 | _,_,.ty n=>.ty n
 | _,_,.cls n=>.cls n
 | _,_,.tup h r=>.tup (g.tup h) (Rps.same g r)
 | _,_,.lst h r=>.lst (g _ _ h) (Rps.same g r)
 | _,_,.fz h r=>.fz (g.seq h) (Rps.same g r)
 | _,_,.dct h r=>.dct (g _ _ h) (RpK.same g r)
 | _,_,.obj h r=>.obj (g _ _ h) (RpF.same g r)
 | _,_,.dfz h r=>.dfz (h.elim (λ z=>.inl (g _ _ z)) λ ⟨o,z⟩=>.inr ⟨o,g _ _ z⟩) (RpK.same g r)
theorem Rps.same (g:b6 H H'):∀ {v:List V} {d:List D},Rps K H v d->Rps K H' v d
 | _,_,.nil=>.nil
 | _,_,.cons h r=>.cons (Rp.same g h) (Rps.same g r)
theorem RpK.same (g:b6 H H'):∀ {v:List (Key×V)} {d:List (Key×D)},RpK K H v d->RpK K H' v d
 | _,_,.nil=>.nil
 | _,_,.cons h r=>.cons (Rp.same g h) (RpK.same g r)
theorem RpF.same (g:b6 H H'):∀ {v:List (Str×V)} {d:List (Str×D)},RpF K H v d->RpF K H' v d
 | _,_,.nil=>.nil
 | _,_,.cons h r=>.cons (Rp.same g h) (RpF.same g r)
end
theorem Rps.length:∀ {xs:List V} {ds:List D},Rps K H xs ds->xs.length=ds.length
 | _,_,.nil=>rfl
 | _,_,.cons _ r=>Yn (·+1) r.length
theorem Rps.get:∀ {xs:List V} {ds:List D} {i:Nat} {d:D},Rps K H xs ds->ds[i]?=some d->∃ x,xs[i]?=some x/\Rp K H x d
 | _,_,_,_,.nil,e=>by simp at e
 | _,_,0,_,.cons h _,e=>by simp at e; subst e; exact ⟨_,by simp,h⟩
 | _,_,i+1,d,.cons _ r,e=>by
  obtain ⟨x,h1,h2⟩:=Rps.get (i:=i) (d:=d) r (by simpa using e);exact ⟨x,by simpa using h1,h2⟩
theorem Rps.get':∀ {xs:List V} {ds:List D} {i:Nat} {x:V},Rps K H xs ds->xs[i]?=some x->∃ d,ds[i]?=some d/\Rp K H x d
 | _,_,_,_,.nil,e=>by simp at e
 | _,_,0,_,.cons h _,e=>by simp at e; subst e; exact ⟨_,by simp,h⟩
 | _,_,i+1,x,.cons _ r,e=>by
  obtain ⟨d,h1,h2⟩:=Rps.get' (i:=i) (x:=x) r (by simpa using e);exact ⟨d,by simpa using h1,h2⟩
theorem Rps.append:∀ {xs ys:List V} {ds es:List D},Rps K H xs ds->Rps K H ys es->Rps K H (xs++ys) (ds++es)
 | _,_,_,_,.nil,h=>h
 | _,_,_,_,.cons h r,h'=>.cons h (Rps.append r h')
theorem Rps.take:∀ {xs:List V} {ds:List D} (n:Nat),Rps K H xs ds->Rps K H (xs.take n) (ds.take n)
 | _,_,0,_=>.nil
 | _,_,_+1,.nil=>.nil
 | _,_,n+1,.cons h r=>.cons h (Rps.take n r)
theorem Rps.ints:∀ (ns:List Int),Rps K H (ns.map V.int) (ns.map D.int)
 | []=>.nil
 | n::ns=>.cons (.int n) (Rps.ints ns)
theorem Rps.strs:∀ (ns:List Str),Rps K H (ns.map V.str) (ns.map D.str)
 | []=>.nil
 | n::ns=>.cons (.str n) (Rps.strs ns)
end
structure Ext (Hs H Hs' H':Hp):Prop where
 ss:b6 Hs Hs'
 sh:b6 Hs' H'
 hh:b6 H H'
 fr:∀ b,Hs b=none->H b≠none->Hs' b=none
theorem Ext.refl (h:b6 Hs H):Ext Hs H Hs H:=⟨.refl _,h,.refl _,λ _ h _=>h⟩
theorem gD {α:Type} {o:Option α} {x:α} (h:o=some x):o≠none:=by rw [h]; simp
theorem b6.live (g:b6 H H') (h:H b≠none):H' b≠none:=by
 cases q:H b with
 | none=>exact absurd q h
 | some o=>rw [g _ _ q]; simp
theorem Ext.trans (a:Ext Hs H Hs1 H1) (b:Ext Hs1 H1 Hs2 H2):Ext Hs H Hs2 H2 :=
 ⟨a.ss.trans b.ss,b.sh,a.hh.trans b.hh,λ c h1 h2=>b.fr c (a.fr c h1 h2) (a.hh.live h2)⟩
theorem Ext.new (h:b6 Hs H) (hp:H p=none) (o:HO):Ext Hs H (upd Hs p o) (upd H p o):=by
 refine ⟨aJ (h.free hp) o,λ b u q=>?_,aJ hp o,λ b h1 h2=>?_⟩
 ·by_cases e:b=p
  · subst e; rw [aw] at q ⊢; exact q
  · rw [ak e] at q ⊢; exact h _ _ q
 ·by_cases e:b=p
  · subst e; exact absurd hp h2
  · rw [ak e]; exact h1
inductive Sl where
 | no | shr (d:D) | own (d:D)
inductive Ow (K:W.Frag) (Hs H:Hp) (a:Addr):D->Prop where
 | lst {xs:List V} {ds:List D} (h:H a=some (.lst xs)) (n:Hs a=none) (r:Rps K Hs xs ds):Ow K Hs H a (.lst ds)
 | dct {kvs:List (Key×V)} {ds:List (Key×D)} (h:H a=some (.dK kvs)) (n:Hs a=none) (r:RpK K Hs kvs ds):Ow K Hs H a (.dct ds)
theorem Ow.hid {K:W.Frag} {Hs H:Hp} {a:Addr} {d:D} (h:Ow K Hs H a d):Hs a=none:=by cases h <;> assumption
theorem Ow.live {K:W.Frag} {Hs H:Hp} {a:Addr} {d:D} (h:Ow K Hs H a d):H a≠none:=by
 cases h with
 | lst h _ _=>exact gD h
 | dct h _ _=>exact gD h
theorem Ow.ext {K:W.Frag} {Hs H Hs' H':Hp} {a:Addr} {d:D} (g:Ext Hs H Hs' H') (h:Ow K Hs H a d):Ow K Hs' H' a d:=by
 have n':=g.fr a h.hid h.live
 cases h with
 | lst h n r=>exact .lst (g.hh _ _ h) n' (r.same g.ss)
 | dct h n r=>exact .dct (g.hh _ _ h) n' (r.same g.ss)
theorem Ow.off {K:W.Frag} {Hs H H':Hp} {a:Addr} {d:D} (h:Ow K Hs H a d) (e:H' a=H a):Ow K Hs H' a d:=by
 cases h with
 | lst h n r=>exact .lst (e.trans h) n r
 | dct h n r=>exact .dct (e.trans h) n r
inductive StR (K:W.Frag) (H0 Hs H:Hp):List (Option V)->List Sl->List Addr->Prop where
 | nil:StR K H0 Hs H [] [] []
 | no {o:Option V} {σ:List (Option V)} {τ:List Sl} {fp:List Addr} (r:StR K H0 Hs H σ τ fp):StR K H0 Hs H (o::σ) (.no::τ) fp
 | shr {v:V} {d:D} {σ:List (Option V)} {τ:List Sl} {fp:List Addr} (h:Rp K Hs v d) (r:StR K H0 Hs H σ τ fp):StR K H0 Hs H (some v::σ) (.shr d::τ) fp
 | own {a:Addr} {d:D} {σ:List (Option V)} {τ:List Sl} {fp:List Addr} (h:Ow K Hs H a d) (z:H0 a=none) (m:a ∉ fp) (r:StR K H0 Hs H σ τ fp):StR K H0 Hs H (some (.ref a)::σ) (.own d::τ) (a::fp)
section
variable {K:W.Frag} {H0 Hs H Hs' H':Hp} {σ:List (Option V)} {τ:List Sl} {fp:List Addr}
theorem StR.ext (g:Ext Hs H Hs' H') (h:StR K H0 Hs H σ τ fp):StR K H0 Hs' H' σ τ fp:=by
 induction h with
 | nil=>exact .nil
 | no _ ih=>exact .no ih
 | shr h _ ih=>exact .shr (h.same g.ss) ih
 | own h z m _ ih=>exact .own (h.ext g) z m ih
theorem StR.off (h:StR K H0 Hs H σ τ fp) (m:a ∉ fp):StR K H0 Hs (upd H a o) σ τ fp:=by
 induction h with
 | nil=>exact .nil
 | no _ ih=>exact .no (ih m)
 | shr h _ ih=>exact .shr h (ih m)
 | @own b d σ τ fp h z n _ ih =>
  have ne:b≠a:=λ e=>m (by rw [e]; exact Ze ..)
  exact .own (h.off (ak ne)) z n (ih (λ q=>m (Zd _ q)))
theorem StR.DD (h:StR K H0 Hs H σ τ fp):∀ a ∈ fp,Hs a=none/\H0 a=none/\H a≠none:=by
 induction h with
 | nil=>intro a h; cases h
 | no _ ih=>exact ih
 | shr _ _ ih=>exact ih
 | own h z m _ ih =>
  intro b hb;rcases Zl.mp hb with e | e
  · subst e; exact ⟨h.hid,z,h.live⟩
  · exact ih b e
theorem StR.get {i:Nat} {d:D} (h:StR K H0 Hs H σ τ fp):τ[i]?=some (.shr d)->∃ v,σ[i]?=some (some v)/\Rp K Hs v d:=by
 induction h generalizing i with
 | nil=>intro e; simp at e
 | no _ ih =>
  intro e
  cases i with
  | zero=>simp at e
  | succ i=>exact ih (by simpa using e)
 | shr h _ ih =>
  intro e
  cases i with
  | zero=>simp at e; subst e; exact ⟨_,rfl,h⟩
  | succ i=>exact ih (by simpa using e)
 | own _ _ _ _ ih =>
  intro e
  cases i with
  | zero=>simp at e
  | succ i=>exact ih (by simpa using e)
theorem StR.Ea {i:Nat} {d:D} (h:StR K H0 Hs H σ τ fp):τ[i]?=some (.own d)->∃ a,σ[i]?=some (some (.ref a))/\Ow K Hs H a d/\H0 a=none/\a ∈ fp:=by
 induction h generalizing i with
 | nil=>intro e; simp at e
 | no _ ih =>
  intro e
  cases i with
  | zero=>simp at e
  | succ i=>exact ih (by simpa using e)
 | shr h _ ih =>
  intro e
  cases i with
  | zero=>simp at e
  | succ i=>exact ih (by simpa using e)
 | own h z m _ ih =>
  intro e
  cases i with
  | zero=>simp at e; subst e; exact ⟨_,rfl,h,z,Ze ..⟩
  | succ i =>
   obtain ⟨a,h1,h2,h3,h4⟩:=ih (by simpa using e);exact ⟨a,h1,h2,h3,Zd _ h4⟩
theorem StR.ux (hv:Rp K Hs v d) (h:StR K H0 Hs H σ τ fp):∃ fp',(∀ a ∈ fp',a ∈ fp)/\StR K H0 Hs H (σ.set i (some v)) (τ.set i (.shr d)) fp':=by
 induction h generalizing i with
 | nil=>exact ⟨[],λ _ h=>h,.nil⟩
 | no r ih =>
  cases i with
  | zero=>exact ⟨_,λ _ h=>h,.shr hv r⟩
  | succ i=>obtain ⟨fp',h1,h2⟩:=ih; exact ⟨fp',h1,.no h2⟩
 | shr h r ih =>
  cases i with
  | zero=>exact ⟨_,λ _ h=>h,.shr hv r⟩
  | succ i=>obtain ⟨fp',h1,h2⟩:=ih (i:=i); exact ⟨fp',h1,.shr h h2⟩
 | own h z m r ih =>
  cases i with
  | zero=>exact ⟨_,λ _ h=>Zd _ h,.shr hv r⟩
  | succ i =>
   obtain ⟨fp',h1,h2⟩:=ih (i:=i);exact ⟨_::fp',λ b hb=>(Zl.mp hb).elim (λ e=>by subst e; exact Ze ..) λ e=>Zd _ (h1 b e),.own h z (λ q=>m (h1 _ q)) h2⟩
theorem StR.M5 (hv:Ow K Hs H a d) (z0:H0 a=none) (h:StR K H0 Hs H σ τ fp) (m0:a ∉ fp) (hi:i < τ.length) :
  ∃ fp',(∀ b ∈ fp',b=a\/b ∈ fp)/\StR K H0 Hs H (σ.set i (some (.ref a))) (τ.set i (.own d)) fp':=by
 induction h generalizing i with
 | nil=>exact absurd hi (by simp)
 | @no o σ τ fp r ih =>
  cases i with
  | zero=>exact ⟨a::fp,λ b h=>Zl.mp h,.own hv z0 m0 r⟩
  | succ i=>obtain ⟨fp',h1,h2⟩:=ih m0 (by simpa using hi); exact ⟨fp',h1,.no h2⟩
 | @shr v d σ τ fp h r ih =>
  cases i with
  | zero=>exact ⟨a::fp,λ b h=>Zl.mp h,.own hv z0 m0 r⟩
  | succ i=>obtain ⟨fp',h1,h2⟩:=ih m0 (i:=i) (by simpa using hi); exact ⟨fp',h1,.shr h h2⟩
 | @own b d' σ τ fp h z m r ih =>
  have m1:a ∉ fp:=λ q=>m0 (Zd _ q)
  cases i with
  | zero=>exact ⟨a::fp,λ c hc=>(Zl.mp hc).imp id λ e=>Zd _ e,.own hv z0 m1 r⟩
  | succ i =>
   obtain ⟨fp',h1,h2⟩:=ih m1 (i:=i) (by simpa using hi);refine ⟨b::fp',λ c hc=>?_,.own h z (λ q=>?_) h2⟩
   ·rcases Zl.mp hc with e | e
    · exact .inr (by subst e; exact Ze ..)
    · exact (h1 c e).imp id λ e=>Zd _ e
   ·rcases h1 _ q with e | e
    · exact m0 (by rw [<- e]; exact Ze ..)
    · exact m e
theorem StR.mut {i:Nat} {a:Addr} {d d':D} {o:HO} (h:StR K H0 Hs H σ τ fp):τ[i]?=some (.own d)->σ[i]?=some (some (.ref a))->Ow K Hs (upd H a o) a d'->StR K H0 Hs (upd H a o) σ (τ.set i (.own d')) fp:=by
 induction h generalizing i with
 | nil=>intro e; simp at e
 | no _ ih =>
  intro e e2 hv
  cases i with
  | zero=>simp at e
  | succ i=>exact .no (ih (by simpa using e) (by simpa using e2) hv)
 | shr h _ ih =>
  intro e e2 hv
  cases i with
  | zero=>simp at e
  | succ i=>exact .shr h (ih (by simpa using e) (by simpa using e2) hv)
 | @own b d1 σ τ fp h z m r ih =>
  intro e e2 hv
  cases i with
  | zero =>
   have q:b=a:=by simpa using e2
   subst q;exact .own hv z m (r.off m)
  | succ i =>
   have e':τ[i]?=some (.own d):=by simpa using e
   have e2':σ[i]?=some (some (.ref a)):=by simpa using e2
   obtain ⟨c,h1,h2,h3,h4⟩:=r.Ea e';have q:c=a:=by rw [e2'] at h1; simpa using h1.symm
   subst q;have ne:b≠c:=λ e=>m (by rw [e]; exact h4)
   exact .own (h.off (ak ne)) z m (ih e' e2' hv)
end
theorem Ow.rp {K:W.Frag} {Hs H:Hp} {a:Addr} {d:D} (h:Ow K Hs H a d):∃ o,H a=some o/\Rp K (upd Hs a o) (.ref a) d:=by
 cases h with
 | lst h n r=>exact ⟨_,h,.lst aw (r.same (aJ n _))⟩
 | dct h n r=>exact ⟨_,h,.dct aw (r.same (aJ n _))⟩
abbrev DE:=List Sl->Option D
abbrev DT:=List Sl->Option Bool
abbrev DA:=List Sl->Option (List D)
inductive Out where
 | next (τ:List Sl) | ret (s:Sl) | brk (τ:List Sl) | cnt (τ:List Sl)
abbrev DS:=List Sl->Option Out
def SlV (K:W.Frag) (H0 Hs H:Hp) (v:V):Sl->Prop
 | .no=>False
 | .shr d=>Rp K Hs v d
 | .own d=>∃ a,v=.ref a/\Ow K Hs H a d/\H0 a=none
structure Rep (K:W.Frag) (Hs0 H0 Hs H:Hp) (σ:St) (τ:List Sl):Prop where
 ext:Ext Hs0 H0 Hs H
 st:∃ fp,StR K H0 Hs H σ τ fp
def rdE (K:W.Frag) (f:DE):TE:=λ σ H Q=>∃ H0 Hs τ fp d,StR K H0 Hs H σ τ fp/\b6 Hs H/\f τ=some d/\∀ v Hs' H',Ext Hs H Hs' H'->Rp K Hs' v d->Q v H'
def rdT (K:W.Frag) (f:DT):TT:=λ σ H Q=>∃ H0 Hs τ fp d,StR K H0 Hs H σ τ fp/\b6 Hs H/\f τ=some d/\∀ Hs' H',Ext Hs H Hs' H'->Q d H'
def rdA (K:W.Frag) (f:DA):TA:=λ σ H Q=>∃ H0 Hs τ fp d,StR K H0 Hs H σ τ fp/\b6 Hs H/\f τ=some d/\∀ v Hs' H',Ext Hs H Hs' H'->Rps K Hs' v d->Q v H'
def rdO (K:W.Frag) (f:DE):TE:=λ σ H Q=>∃ H0 Hs τ fp d,StR K H0 Hs H σ τ fp/\b6 Hs H/\f τ=some d/\∀ a Hs' H',Ext Hs H Hs' H'->Ow K Hs' H' a d->H a=none->Q (.ref a) H'
def PEd (X:Cx) (e:Expr) (f:DE):Prop:=PE X e (rdE X.K f)
def PEo (X:Cx) (e:Expr) (f:DE):Prop:=PE X e (rdO X.K f)
def PTd (X:Cx) (e:Expr) (f:DT):Prop:=PT X e (rdT X.K f)
def PAd (X:Cx) (es:List Expr) (f:DA):Prop:=PA X es (rdA X.K f)
def Fin (K:W.Frag) (Hs0 H0:Hp) (E:Ends):Out->Prop
 | .next τ=>∀ σ Hs H,Rep K Hs0 H0 Hs H σ τ->E.nx σ H
 | .brk τ=>∀ σ Hs H,Rep K Hs0 H0 Hs H σ τ->E.bk σ H
 | .cnt τ=>∀ σ Hs H,Rep K Hs0 H0 Hs H σ τ->E.ct σ H
 | .ret s=>∀ v Hs H,Ext Hs0 H0 Hs H->SlV K H0 Hs H v s->E.rt v H
def rdS (K:W.Frag) (f:DS):TS:=λ E σ H=>∃ Hs0 H0 Hs τ o,Rep K Hs0 H0 Hs H σ τ/\f τ=some o/\Fin K Hs0 H0 E o
def PSd (X:Cx) (s:Stmt) (f:DS):Prop:=PS X s (rdS X.K f)
def nt (X:Cx) (s:List Stmt) (f:DS):Prop:=PSs X s (rdS X.K f)
theorem PE.imp (h:PE X e t) (hi:∀ σ H Q,t' σ H Q->t σ H Q):PE X e t':=λ pins s σ H Q I q=>h pins s σ H Q I (hi _ _ _ q)
theorem PT.imp (h:PT X e t) (hi:∀ σ H Q,t' σ H Q->t σ H Q):PT X e t':=λ pins s σ H Q I q=>h pins s σ H Q I (hi _ _ _ q)
theorem PA.imp (h:PA X e t) (hi:∀ σ H Q,t' σ H Q->t σ H Q):PA X e t':=λ pos pins s σ H Q I q=>h pos pins s σ H Q I (hi _ _ _ q)
theorem PS.imp (h:PS X e t) (hi:∀ E σ H,t' E σ H->t E σ H):PS X e t':=λ pins s σ H E I q=>h pins s σ H E I (hi _ _ _ q)
theorem PSs.imp (h:PSs X e t) (hi:∀ E σ H,t' E σ H->t E σ H):PSs X e t':=λ pins s σ H E I q=>h pins s σ H E I (hi _ _ _ q)
def aE (i:Nat):DE:=λ τ=>match τ[i]? with | some (.shr d)=>some d | _=>none
def dC (d:D):DE:=λ _=>some d
def dOp (o:D->D->Option D) (f g:DE):DE:=λ τ=>(f τ).bind λ x=>(g τ).bind λ y=>o x y
def dUn (o:D->Option D) (f:DE):DE:=λ τ=>(f τ).bind o
def cJ:DA:=λ _=>some []
def aD (f:DE) (g:DA):DA:=λ τ=>(f τ).bind λ x=>(g τ).bind λ xs=>some (x::xs)
def fI (o:List D->Option D) (f:DA):DE:=λ τ=>(f τ).bind o
def xO (f:DA):DE:=λ τ=>(f τ).bind λ ds=>if ds.length<=100000 then some (.tup ds) else none
def A1 (f:DA):DE:=λ τ=>(f τ).bind λ ds=>if ds.length<=100000 then some (.lst ds) else none
def dIf (c:DT) (f g:DE):DE:=λ τ=>(c τ).bind λ b=>if b=true then f τ else g τ
def kI (f g:DE):DE:=λ τ=>(f τ).bind λ x=>match x with | .bl true=>g τ | .bl false=>some (.bl false) | _=>none
def zS (f:DE):DE:=λ τ=>(f τ).bind λ x=>match x with | .bl b=>some (.bl (!b)) | _=>none
def dT (f:DE):DT:=λ τ=>(f τ).bind λ x=>match x with | .bl b=>some b | _=>none
def xi (f g:DT):DT:=λ τ=>(f τ).bind λ b=>if b=true then g τ else some false
def dOr (f g:DT):DT:=λ τ=>(f τ).bind λ b=>if b=true then some true else g τ
def Eb (f:DT):DT:=λ τ=>(f τ).map (!·)
theorem le5 (h:n<=100000):n < sizeLine:=Nat.lt_of_le_of_lt h (by rw [Xp]; decide)
theorem sU (h:n<=100000):n<=sizeLine:=Yo (le5 h)
theorem nn {α:Type} {d:α} {p:Prop} (h:(none:Option α)=some d):p:=nomatch h
theorem bind_some {α β:Type} {o:Option α} {f:α->Option β} {b:β} (h:o.bind f=some b):∃ a,o=some a/\f a=some b:=Option.bind_eq_some_iff.mp h
section
variable {X:Cx} {a b c e:Expr} {es:List Expr} {pos:Pos} {f g h:DE}
theorem Fh (i:Nat) (hN:X.N[i]?=some x:=by rfl) (hv:Vis X.env.scope x:=by first | exact Or.inl rfl | exact Or.inr (Or.inl rfl) | exact Or.inr (Or.inr rfl)) (hd:(x == ("__debug__":Str))=false:=by decide)
   (hcd:(x == ("__classdict__":Str))=false:=by decide):PEd X (.Name x pos) (aE i) :=
 (gu hN hv hd hcd).imp λ σ H Q ⟨H0,Hs,τ,fp,d,st,sm,e,k⟩=>by
   have e':τ[i]?=some (.shr d):=by
    unfold aE at e;split at e
    · rename_i d' q; rw [q]; simpa using e
    · cases e
   obtain ⟨v,h1,h2⟩:=st.get e';exact ⟨v,h1,k v Hs H (.refl sm) h2⟩
theorem gc (h:PE X e (tC v)) (r:∀ H,Rp X.K H v d):PEd X e (dC d) :=
 h.imp λ σ H Q ⟨H0,Hs,τ,fp,d',st,sm,e,k⟩=>by
  have e':=Zj e;subst e';exact k v Hs H (.refl sm) (r Hs)
theorem Fp {j}:PEd X (.Constant (.int i) j pos) (dC (.int i)):=gc lV λ _=>.int i
theorem Jq {j}:PEd X (.Constant (.bool i) j pos) (dC (.bl i)):=gc Jk λ _=>.bl i
theorem Fn {j}:PEd X (.Constant .none j pos) (dC .non):=gc Fc λ _=>.non
theorem Fj {j}:PEd X (.Constant (.str x) j pos) (dC (.str x)):=gc E7 λ _=>.str x
theorem Cq (hg:Gl X x) (hm:X.mg x=some u) (r:RelV v u) (rd:∀ H,Rp X.K H v d) (hd:(x == ("__debug__":Str))=false:=by decide):PEd X (.Name x pos) (dC d):=gc (Cg hg hm r hd) rd
theorem Jm (hg:Gl X x) (hm:X.mg x=none) (hv:bootBuiltins x=some (.type n)) (hn:x≠"__name__":=by decide) (hd:(x == ("__debug__":Str))=false:=by decide):PEd X (.Name x pos) (dC (.ty n)) :=
 gc (v:=.ty n) (Ck hg hm hv (rfl) hn hd) λ _=>.ty n
def rdR (K:W.Frag) (o:D->D->Option D):R2:=λ x y H Q=>∃ Hs dx dy d,b6 Hs H/\Rp K Hs x dx/\Rp K Hs y dy/\o dx dy=some d/\∀ v Hs' H',Ext Hs H Hs' H'->Rp K Hs' v d->Q v H'
def rdU (K:W.Frag) (o:D->Option D):V->Hp->VK->Prop:=λ x H Q=>∃ Hs dx d,b6 Hs H/\Rp K Hs x dx/\o dx=some d/\∀ v Hs' H',Ext Hs H Hs' H'->Rp K Hs' v d->Q v H'
def rdL (K:W.Frag) (o:List D->Option D):List V->Hp->VK->Prop:=λ xs H Q=>∃ Hs ds d,b6 Hs H/\Rps K Hs xs ds/\o ds=some d/\∀ v Hs' H',Ext Hs H Hs' H'->Rp K Hs' v d->Q v H'
theorem lS (K:W.Frag) (hh:rdE K (dOp o f g) σ H Q):tOp (rdR K o) (rdE K f) (rdE K g) σ H Q:=by
 obtain ⟨H0,Hs,τ,fp,d,st,sm,e,k⟩:=hh;obtain ⟨x,e1,e⟩:=bind_some e;obtain ⟨y,e2,e⟩:=bind_some e;refine ⟨H0,Hs,τ,fp,x,st,sm,e1,λ v Hs1 H1 g1 r1=>?_⟩;refine ⟨H0,Hs1,τ,fp,y,st.ext g1,g1.sh,e2,λ u Hs2 H2 g2 r2=>?_⟩;exact ⟨Hs2,x,y,d,g2.sh,r1.same g2.ss,r2,e,λ w Hs3 H3 g3 r3=>k w Hs3 H3 ((g1.trans g2).trans g3) r3⟩
theorem Jn (ho:OpR X (binaryOp op) (rdR X.K o)) (ha:PEd X a f) (hb:PEd X b g):PEd X (.BinOp a op b pos) (dOp o f g) :=
 (Jj ho ha hb).imp λ σ H Q h=>lS X.K h
theorem Jl (ho:UnR X (unaryOp op) (rdU X.K o)) (ha:PEd X a f):PEd X (.UnaryOp op a pos) (dUn o f) :=
 (Ji ho ha).imp λ σ H Q ⟨H0,Hs,τ,fp,d,st,sm,e,k⟩=>by
   obtain ⟨x,e1,e⟩:=bind_some e;exact ⟨H0,Hs,τ,fp,x,st,sm,e1,λ v Hs1 H1 g1 r1=>⟨Hs1,x,d,g1.sh,r1,e,λ w Hs3 H3 g3 r3=>k w Hs3 H3 (g1.trans g3) r3⟩⟩
theorem Fu (ho:OpR X (compareOp op) (rdR X.K o)) (ha:PEd X a f) (hb:PEd X b g) (hm:behindInMarks op b=false):PEd X (.Compare a [op] [b] pos) (dOp o f g) :=
 (Cj ho ha hb hm).imp λ σ H Q h=>lS X.K h
theorem BF (ho:OpR X (compareOp op) (rdR X.K o)) (ha:PEd X a f) (hb:PEd X b g) (hm:behindInMarks op b=false):PTd X (.Compare a [op] [b] pos) (dT (dOp o f g)) :=
 (BG ho ha hb hm).imp λ σ H Q ⟨H0,Hs,τ,fp,d,st,sm,e,k⟩=>by
   obtain ⟨x,e1,e⟩:=bind_some e;have hx:x=.bl d:=by cases x <;> simp at e <;> subst e <;> rfl
   subst hx;refine lS X.K ⟨H0,Hs,τ,fp,_,st,sm,e1,λ v Hs' H' g r=>?_⟩;cases r;exact ⟨d,rfl,k Hs' H' g⟩
theorem yP (ho:OpR X (compareOp op) (rdR X.K o)) (ho':OpR X (compareOp op') (rdR X.K o')) (ha:PEd X a f) (hb:PEd X b g) (hc:PEd X c h)
   (hm:lastMarks [op,op'] [b,c]=false:=by with_unfolding_all rfl):PEd X (.Compare a [op,op'] [b,c] pos) (kI (dOp o f g) (dOp o' g h)) :=
 (yN ho ho' ha hb hc hm).imp λ σ H Q ⟨H0,Hs,τ,fp,d,st,sm,e,k⟩=>by
   obtain ⟨r,e0,e⟩:=bind_some e;obtain ⟨x,e1,e0⟩:=bind_some e0;obtain ⟨y,e2,e0⟩:=bind_some e0;refine ⟨H0,Hs,τ,fp,x,st,sm,e1,λ v Hs1 H1 g1 r1=>?_⟩;refine ⟨H0,Hs1,τ,fp,y,st.ext g1,g1.sh,e2,λ u Hs2 H2 g2 r2=>?_⟩;refine ⟨Hs2,x,y,r,g2.sh,r1.same g2.ss,r2,e0,λ w Hs3 H3 g3 r3=>?_⟩
   cases r3 with
   | bl kb =>
    refine ⟨kb,rfl,?_⟩
    cases kb with
    | false =>
     rw [if_neg Zf];have e':D.bl false=d:=by simpa using e
     subst e';exact k _ Hs3 H3 ((g1.trans g2).trans g3) (.bl false)
    | true =>
     rw [if_pos rfl];obtain ⟨y',q1,q2⟩:=bind_some (e);have ey:y'=y:=by rw [e2] at q1; exact (Zj q1).symm
     subst ey;obtain ⟨z,q3,q4⟩:=bind_some q2;refine ⟨H0,Hs3,τ,fp,z,st.ext ((g1.trans g2).trans g3),g3.sh,q3,λ u' Hs4 H4 g4 r4=>?_⟩;exact ⟨Hs4,y',z,d,g4.sh,(r2.same g3.ss).same g4.ss,r4,q4,λ w' Hs5 H5 g5 r5=>k w' Hs5 H5 ((((g1.trans g2).trans g3).trans g4).trans g5) r5⟩
   | _=>exact nn e
theorem Cv:PAd X [] cJ:=dr.imp λ σ H Q ⟨H0,Hs,τ,fp,d,st,sm,e,k⟩=>by
 have e':=Zj e;subst e';exact k [] Hs H (.refl sm) .nil
theorem yS {g:DA} (ha:PEd X e f) (hr:PAd X es g) (hs:starEach (e::es) X.env=(false,eval e X.env)::starEach es X.env:=by rfl):PAd X (e::es) (aD f g) :=
 (b7 ha hr hs).imp λ σ H Q ⟨H0,Hs,τ,fp,d,st,sm,e,k⟩=>by
   obtain ⟨x,e1,e⟩:=bind_some e;obtain ⟨xs,e2,e⟩:=bind_some e;have e':=Zj e;subst e';refine ⟨H0,Hs,τ,fp,x,st,sm,e1,λ v Hs1 H1 g1 r1=>?_⟩;exact ⟨H0,Hs1,τ,fp,xs,st.ext g1,g1.sh,e2,λ u Hs2 H2 g2 r2=>k _ Hs2 H2 (g1.trans g2) (.cons (r1.same g2.ss) r2)⟩
theorem Fi {x1} {g:DA} (h:PAd X es g):PEd X (.Tuple es x1 pos) (xO g) :=
 (As h).imp λ σ H Q ⟨H0,Hs,τ,fp,d,st,sm,e,k⟩=>by
   obtain ⟨xs,e1,e⟩:=bind_some e
   by_cases hl:xs.length<=100000
   ·rw [if_pos hl] at e
    have e':=Zj e;subst e';refine ⟨H0,Hs,τ,fp,xs,st,sm,e1,λ v Hs1 H1 g1 r1=>?_⟩;refine ⟨by rw [r1.length]; exact sU hl,λ p hp=>?_⟩;have g2:=Ext.new g1.sh hp (.tup v);exact k _ _ _ (g1.trans g2) (.tup (SqT.of aw) (r1.same g2.ss))
   · rw [if_neg hl] at e; cases e
theorem E3 {g:DA} (h:PAd X es g):PEo X (.List es pos) (A1 g) :=
 (Au h).imp λ σ H Q ⟨H0,Hs,τ,fp,d,st,sm,e,k⟩=>by
   obtain ⟨xs,e1,e⟩:=bind_some e
   by_cases hl:xs.length<=100000
   ·rw [if_pos hl] at e
    have e':=Zj e;subst e';refine ⟨H0,Hs,τ,fp,xs,st,sm,e1,λ v Hs1 H1 g1 r1=>?_⟩;refine ⟨by rw [r1.length]; exact sU hl,λ p hp=>?_⟩;refine k p Hs1 _ ⟨g1.ss,g1.sh.trans (aJ hp _),g1.hh.trans (aJ hp _),g1.fr⟩ (.lst aw (g1.sh.free hp) r1) (g1.hh.free hp)
   · rw [if_neg hl] at e; cases e
theorem PEo.shr (h:PEo X e f):PEd X e f :=
 PE.imp h λ σ H Q ⟨H0,Hs,τ,fp,d,st,sm,e,k⟩=>⟨H0,Hs,τ,fp,d,st,sm,e,λ a Hs' H' g o z=>by
  obtain ⟨ob,h1,h2⟩:=o.rp;refine k _ (upd Hs' a ob) H' ⟨g.ss.trans (aJ o.hid ob),λ b u q=>?_,g.hh,λ b h3 h4=>?_⟩ h2
  ·by_cases eb:b=a
   · subst eb; rw [aw] at q; rw [h1]; exact q
   · rw [ak eb] at q; exact g.sh _ _ q
  ·by_cases eb:b=a
   · subst eb; exact absurd z h4
   · rw [ak eb]; exact g.fr b h3 h4⟩
theorem BC (h:PEd X e f) (he:∀ whole,isTrue e X.env whole=(do let v <- whole; standAt e.pos; holding [v] (truthy v)):=by intro _; rfl):PTd X e (dT f) :=
 (EV h he).imp λ σ H Q ⟨H0,Hs,τ,fp,d,st,sm,e,k⟩=>by
   obtain ⟨x,e1,e⟩:=bind_some e;have hx:x=.bl d:=by cases x <;> simp at e <;> subst e <;> rfl
   subst hx;refine ⟨H0,Hs,τ,fp,_,st,sm,e1,λ v Hs' H' g r=>?_⟩;cases r;exact ⟨d,rfl,k Hs' H' g⟩
theorem BD {f:DT} (h:PTd X e f):PTd X (.UnaryOp .Not e pos) (Eb f) :=
 (EW h).imp λ σ H Q ⟨H0,Hs,τ,fp,d,st,sm,e,k⟩=>by
   obtain ⟨x,e1,e⟩:=Zm e;subst e;exact ⟨H0,Hs,τ,fp,x,st,sm,e1,λ Hs' H' g=>k Hs' H' g⟩
def PWd (X:Cx) (e:Expr) (f:DT):Prop:=PW X e (rdT X.K f)
theorem PW.imp (h:PW X e t) (hi:∀ σ H Q,t' σ H Q->t σ H Q):PW X e t':=λ wh pins s σ H Q I q=>h wh pins s σ H Q I (hi _ _ _ q)
theorem ye {f:DT} (h:PTd X a f):PWd X (.BoolOp .And [a] pos) f:=pw_and1 h
theorem Bv {f:DT} (h:PTd X a f):PWd X (.BoolOp .Or [a] pos) f:=pw_or1 h
theorem Bw {f g:DT} (ha:PTd X a f) (hb:PWd X (.BoolOp .And (b::es) pos) g):PWd X (.BoolOp .And (a::b::es) pos) (xi f g) :=
 PW.imp (pw_and ha hb) λ σ H Q ⟨H0,Hs,τ,fp,d,st,sm,e,k⟩=>by
  obtain ⟨x,e1,e⟩:=bind_some e;refine ⟨H0,Hs,τ,fp,x,st,sm,e1,λ Hs' H' g1=>?_⟩
  cases x with
  | true=>exact ⟨H0,Hs',τ,fp,d,st.ext g1,g1.sh,e,λ Hs2 H2 g2=>k Hs2 H2 (g1.trans g2)⟩
  | false =>
   have e':false=d:=by simpa using e
   subst e';exact k Hs' H' g1
theorem ET {f g:DT} (ha:PTd X a f) (hb:PWd X (.BoolOp .Or (b::es) pos) g):PWd X (.BoolOp .Or (a::b::es) pos) (dOr f g) :=
 PW.imp (pw_or ha hb) λ σ H Q ⟨H0,Hs,τ,fp,d,st,sm,e,k⟩=>by
  obtain ⟨x,e1,e⟩:=bind_some e;refine ⟨H0,Hs,τ,fp,x,st,sm,e1,λ Hs' H' g1=>?_⟩
  cases x with
  | false=>exact ⟨H0,Hs',τ,fp,d,st.ext g1,g1.sh,e,λ Hs2 H2 g2=>k Hs2 H2 (g1.trans g2)⟩
  | true =>
   have e':true=d:=by simpa using e
   subst e';exact k Hs' H' g1
theorem PWd.ptd {f:DT} (h:PWd X e f):PTd X e f:=PW.pt h
theorem Fk {op} (h:PEd X a f):PEd X (.BoolOp op [a] pos) f:=E9 h
theorem Fv (ha:PEd X a f) (hb:PEd X (.BoolOp .And (b::es) pos) g):PEd X (.BoolOp .And (a::b::es) pos) (kI f g) :=
 (Ff ha hb).imp λ σ H Q ⟨H0,Hs,τ,fp,d,st,sm,e,k⟩=>by
   obtain ⟨x,e1,e⟩:=bind_some e;refine ⟨H0,Hs,τ,fp,x,st,sm,e1,λ v Hs' H' g1 r=>?_⟩
   cases r with
   | bl kb =>
    refine ⟨kb,rfl,?_⟩
    cases kb with
    | true=>exact ⟨H0,Hs',τ,fp,d,st.ext g1,g1.sh,e,λ v Hs2 H2 g2 r=>k v Hs2 H2 (g1.trans g2) r⟩
    | false =>
     have e':D.bl false=d:=by simpa using e
     subst e';exact k _ Hs' H' g1 (.bl false)
   | _=>exact nn e
theorem Fm (ha:PEd X a f):PEd X (.UnaryOp .Not a pos) (zS f) :=
 (Fb ha).imp λ σ H Q ⟨H0,Hs,τ,fp,d,st,sm,e,k⟩=>by
   obtain ⟨x,e1,e⟩:=bind_some e;refine ⟨H0,Hs,τ,fp,x,st,sm,e1,λ v Hs' H' g1 r=>?_⟩
   cases r with
   | bl kb =>
    have e':D.bl (!kb)=d:=by simpa using e
    subst e';exact ⟨kb,rfl,k _ Hs' H' g1 (.bl _)⟩
   | _=>exact nn e
theorem Jp (hc:PTd X c t) (ha:PEd X a f) (hb:PEd X b g):PEd X (.IfExp c a b pos) (dIf t f g) :=
 (yI hc ha hb).imp λ σ H Q ⟨H0,Hs,τ,fp,d,st,sm,e,k⟩=>by
   obtain ⟨x,e1,e⟩:=bind_some e;refine ⟨H0,Hs,τ,fp,x,st,sm,e1,λ Hs' H' g1=>?_⟩
   cases x with
   | true=>exact ⟨H0,Hs',τ,fp,d,st.ext g1,g1.sh,by simpa using e,λ v Hs2 H2 g2 r=>k v Hs2 H2 (g1.trans g2) r⟩
   | false=>exact ⟨H0,Hs',τ,fp,d,st.ext g1,g1.sh,by simpa using e,λ v Hs2 H2 g2 r=>k v Hs2 H2 (g1.trans g2) r⟩
end
instance {i j:Int}:Decidable (A8 i j):=by unfold A8; infer_instance
instance {i:Int}:Decidable (Sz i):=by unfold Sz; infer_instance
instance {i j:Int}:Decidable (Ed i j):=by unfold Ed; infer_instance
def jB:D->D->Option D
 | .int i,.int j=>some (.int (i+j))
 | .str x,.str y=>if x.length+y.length<=100000 then some (.str (x++y)) else none
 | .lst x,.lst y=>if x.length+y.length<=100000 then some (.lst (x++y)) else none
 | _,_=>none
def Hg:D->D->Option D
 | .int i,.int j=>some (.int (i - j))
 | _,_=>none
def vK:D->D->Option D
 | .int i,.int j=>if A8 i j\/(Sz i/\Sz j) then some (.int (i * j)) else none
 | _,_=>none
def oDiv:D->D->Option D
 | .int i,.int j=>if j≠0/\Sz j then some (.int (i.fdiv j)) else none
 | _,_=>none
def oMod:D->D->Option D
 | .int i,.int j=>if j≠0 then some (.int (i.fmod j)) else none
 | _,_=>none
def Ax:D->D->Option D
 | .int i,.int j=>if Ed i j then some (.int (i ^ j.toNat)) else none
 | _,_=>none
def D8:D->Option D
 | .int i=>some (.int (-i))
 | _=>none
def oLt:D->D->Option D
 | .int i,.int j=>some (.bl (decide (i < j)))
 | .str i,.str j=>some (.bl (decide (i.cps.toList < j.cps.toList)))
 | _,_=>none
def oLe:D->D->Option D
 | .int i,.int j=>some (.bl (decide (i<=j)))
 | _,_=>none
def oGt:D->D->Option D
 | .int i,.int j=>some (.bl (decide (j < i)))
 | _,_=>none
def JG:D->D->Option D
 | .non,.non=>some (.bl true)
 | _,.non=>some (.bl false)
 | _,_=>none
def sP:D->D->Option D
 | .non,.non=>some (.bl false)
 | _,.non=>some (.bl true)
 | _,_=>none
def eqS:D->D->Option Bool
 | .non,.non=>some true | .non,.int _=>some false | .int _,.non=>some false | .non,.bl _=>some false | .bl _,.non=>some false | .non,.str _=>some false | .str _,.non=>some false
 | .int i,.int j=>some (decide (i=j)) | .bl i,.bl j=>some (decide (i=j)) | .str i,.str j=>some (decide (i=j))
 | .int _,.str _=>some false | .str _,.int _=>some false | .bl _,.str _=>some false | .str _,.bl _=>some false
 | _,_=>none
mutual
def jf:D->PySem.W.Dat
 | .non=>.none | .bl b=>.bool b | .int i=>.int i | .str x=>.str x | .ty _=>.bytes #[]
 | .tup ds=>.tuple (ip ds) | .lst ds=>.list (ip ds) | .fz _=>.bytes #[] | .dct _=>.bytes #[] | .obj _ _=>.bytes #[] | .cls _=>.bytes #[] | .dfz _=>.bytes #[]
def ip:List D->List PySem.W.Dat
 | []=>[]
 | d::ds=>jf d::ip ds
end
mutual
def okD:Nat->D->Bool
 | _,.non=>true
 | _,.int _=>true
 | _,.str x=>PyData.strOk x
 | n+1,.tup ds=>sF n ds
 | n+1,.lst ds=>sF n ds
 | _,_=>false
def sF:Nat->List D->Bool
 | _,[]=>true
 | n,d::ds=>okD n d&&sF n ds
end
open PySem.W in
mutual
theorem jP:∀ (n:Nat) (d:D),okD n d=true->kqdOk n (jf d)=true
 | _,.non,_=>by simp [jf,kqdOk]
 | _,.int _,_=>by simp [jf,kqdOk]
 | n,.str x,h=>by simp [okD] at h; simp [jf,kqdOk,h]
 | n+1,.tup ds,h=>by
  simp [okD] at h;rw [jf,kqdOk];exact mI n ds h
 | n+1,.lst ds,h=>by
  simp [okD] at h;rw [jf,kqdOk];exact mI n ds h
 | _,.bl _,h=>by simp [okD] at h
 | _,.ty _,h=>by simp [okD] at h
 | _,.cls _,h=>by simp [okD] at h
 | _,.dct _,h=>by simp [okD] at h
 | _,.fz _,h=>by simp [okD] at h
 | _,.obj _ _,h=>by simp [okD] at h
 | _,.dfz _,h=>by simp [okD] at h
 | 0,.tup _,h=>by simp [okD] at h
 | 0,.lst _,h=>by simp [okD] at h
theorem mI:∀ (n:Nat) (ds:List D),sF n ds=true->(ip ds).all (kqdOk n)=true
 | _,[],_=>by simp [ip]
 | n,d::ds,h=>by
  simp [sF] at h;simp only [ip,Xw,Yp];exact ⟨jP n d h.1,mI n ds h.2⟩
end
mutual
theorem rN:∀ (n:Nat) (d e:D),okD n d=true->okD n e=true->jf d=jf e->d=e
 | _,.non,e,_,h,q=>by cases e <;> simp [jf] at q <;> simp [okD] at h <;> rfl
 | _,.int _,e,_,h,q=>by cases e <;> simp [jf] at q <;> simp [okD] at h <;> rw [q]
 | _,.str x,e,_,h,q=>by cases e <;> simp [jf] at q <;> simp [okD] at h <;> rw [q]
 | n+1,.tup ds,e,h1,h,q=>by
  cases e <;> simp [jf] at q <;> simp [okD] at h
  simp [okD] at h1;rw [kG n _ _ h1 h q]
 | n+1,.lst ds,e,h1,h,q=>by
  cases e <;> simp [jf] at q <;> simp [okD] at h
  simp [okD] at h1;rw [kG n _ _ h1 h q]
 | _,.bl _,_,h,_,_=>by simp [okD] at h
 | _,.ty _,_,h,_,_=>by simp [okD] at h
 | _,.cls _,_,h,_,_=>by simp [okD] at h
 | _,.dct _,_,h,_,_=>by simp [okD] at h
 | _,.fz _,_,h,_,_=>by simp [okD] at h
 | _,.obj _ _,_,h,_,_=>by simp [okD] at h
 | _,.dfz _,_,h,_,_=>by simp [okD] at h
 | 0,.tup _,_,h,_,_=>by simp [okD] at h
 | 0,.lst _,_,h,_,_=>by simp [okD] at h
theorem kG:∀ (n:Nat) (d e:List D),sF n d=true->sF n e=true->ip d=ip e->d=e
 | _,[],e,_,h,q=>by cases e <;> simp [ip] at q; rfl
 | n,d::ds,e,h1,h,q=>by
  cases e with
  | nil=>simp [ip] at q
  | cons e es =>
   simp [ip] at q;simp [sF] at h h1;rw [rN n d e h1.1 h.1 q.1,kG n ds es h1.2 h.2 q.2]
end
section
variable {K:W.Frag} {H:Hp}
mutual
theorem Rp.rdD:∀ {v:V} {d:D} (n:Nat),Rp K H v d->okD n d=true->RdD K H v (jf d)
 | _,_,_,.non,_=>by rw [jf]; exact .non
 | _,_,_,.int i,_=>by rw [jf]; exact .int i
 | _,_,_,.str i,_=>by rw [jf]; exact .str i
 | _,_,n,.tup h r,o=>by
  cases n with
  | zero=>simp [okD] at o
  | succ n=>simp [okD] at o; rw [jf]; exact .tup h (Rps.rdD n r o)
 | _,_,n,.lst h r,o=>by
  cases n with
  | zero=>simp [okD] at o
  | succ n=>simp [okD] at o; rw [jf]; exact .lst (SqL.of h) (Rps.rdD n r o)
 | _,_,_,.bl _,o=>by simp [okD] at o
 | _,_,_,.ty _,o=>by simp [okD] at o
 | _,_,_,.cls _,o=>by simp [okD] at o
 | _,_,_,.dct _ _,o=>by simp [okD] at o
 | _,_,_,.fz _ _,o=>by simp [okD] at o
 | _,_,_,.obj _ _,o=>by simp [okD] at o
 | _,_,_,.dfz _ _,o=>by simp [okD] at o
theorem Rps.rdD:∀ {v:List V} {d:List D} (n:Nat),Rps K H v d->sF n d=true->xK K H v (ip d)
 | _,_,_,.nil,_=>by rw [ip]; exact .nil
 | _,_,n,.cons h r,o=>by
  simp [sF] at o;rw [ip];exact .cons (Rp.rdD n h o.1) (Rps.rdD n r o.2)
end
end
open Classical in
noncomputable def eqB (d e:D):Bool:=decide (d=e)
theorem mY (d:D):eqB d d=true:=by unfold eqB; simp
theorem AZ (h:d≠e):eqB d e=false:=by unfold eqB; simp [h]
noncomputable def eqO (d e:D):Option Bool:=match eqS d e with
 | some b=>some b
 | none=>if okD 9 d=true/\okD 9 e=true then some (eqB d e) else none
noncomputable def oEq (d e:D):Option D:=(eqO d e).map D.bl
noncomputable def oNe (d e:D):Option D:=(eqO d e).map λ b=>.bl (!b)
section
variable {X:Cx}
theorem OpR.imp (h:OpR X fn r) (hi:∀ x y H Q,r' x y H Q->r x y H Q):OpR X fn r':=λ pins s σ H x y v u Q I rx ry q=>h pins s σ H x y v u Q I rx ry (hi _ _ _ _ q)
theorem JE : OpR X (binaryOp .Add) (rdR X.K jB) :=
  ((FG.or sE).or FF).imp λ x y H Q ⟨Hs,dx,dy,d,sm,rx,ry,e,k⟩=>by
    cases rx with
    | int i => cases ry with
      | int j => have e':D.int (i+j)=d:=by simpa [jB] using e
                 subst e';exact .inl (.inl ⟨i,j,rfl,rfl,k _ Hs H (.refl sm) (.int _)⟩)
      | _=>exact nn e
    | str x=>cases ry with
      | str y =>
        by_cases hl:x.length+y.length<=100000
        · have e':D.str (x++y)=d:=by simpa [jB,hl] using e
          subst e';exact .inl (.inr ⟨x,y,rfl,rfl,sU hl,k _ Hs H (.refl sm) (.str _)⟩)
        · simp [jB,hl] at e
      | _=>exact nn e
    | @lst a xs ds h r=>cases ry with
      | @lst b ys es h' r' =>
        by_cases hl:ds.length+es.length<=100000
        · have e':D.lst (ds++es)=d:=by simpa [jB,hl] using e
          subst e';refine .inr ⟨a,b,xs,ys,rfl,rfl,sm _ _ h,sm _ _ h',by rw [r.length,r'.length]; exact sU hl,λ p hp=>?_⟩;have g:=Ext.new sm hp (.lst (xs++ys));exact k _ _ _ g (.lst aw ((r.same g.ss).append (r'.same g.ss)))
        · simp [jB,hl] at e
      | _=>exact nn e
    | _=>exact nn e
theorem pK {fn:Value->Value->Sem Value} {C:Int->Int->Prop} [∀ i j,Decidable (C i j)] {gv:Int->Int->V} {gd:Int->Int->D} {o:D->D->Option D} (h:OpR X fn (rI C gv)) (hg:∀ i j H,Rp X.K H (gv i j) (gd i j))
  (ho:∀ x y d,o x y=some d->∃ i j,x=.int i/\y=.int j/\C i j/\d=gd i j):OpR X fn (rdR X.K o) :=
 h.imp λ x y H Q ⟨Hs,dx,dy,d,sm,rx,ry,e,k⟩=>by
  obtain ⟨i,j,rfl,rfl,c,rfl⟩:=ho _ _ _ e;cases rx;cases ry;exact ⟨i,j,rfl,rfl,c,k _ Hs H (.refl sm) (hg i j Hs)⟩
theorem Jc (h:OpR X fn (rI0 g)):OpR X fn (rI (λ _ _=>True) g):=h.imp λ x y H Q ⟨i,j,h1,h2,_,q⟩=>⟨i,j,h1,h2,q⟩
theorem Jx:OpR X (binaryOp .Sub) (rdR X.K Hg):=pK (Jc Fx) (λ _ _ _=>.int _) λ x y d e=>by
 unfold Hg at e;split at e
 · exact ⟨_,_,rfl,rfl,trivial,(Zj e).symm⟩
 · cases e
theorem Cy:OpR X (binaryOp .Mult) (rI (λ i j=>A8 i j\/(Sz i/\Sz j)) λ i j=>.int (i * j)):=opI λ _ _ _ _ _ _ _ hc q=>mul_int q (hc.elim (·.ok) λ h=>PySem.IntMulOk.of_bits h.1.bits h.2.bits)
theorem JA:OpR X (binaryOp .Mult) (rdR X.K vK):=pK Cy (λ _ _ _=>.int _) λ x y d e=>by
 unfold vK at e;split at e
 ·split at e
  ·rename_i c
   exact ⟨_,_,rfl,rfl,c,(Zj e).symm⟩
  · cases e
 · cases e
theorem JD:OpR X (binaryOp .FloorDiv) (rdR X.K oDiv):=pK CA (λ _ _ _=>.int _) λ x y d e=>by
 unfold oDiv at e;split at e
 ·split at e
  ·rename_i c
   exact ⟨_,_,rfl,rfl,c,(Zj e).symm⟩
  · cases e
 · cases e
theorem JB:OpR X (binaryOp .Mod) (rdR X.K oMod):=pK Cz (λ _ _ _=>.int _) λ x y d e=>by
 unfold oMod at e;split at e
 ·split at e
  ·rename_i c
   exact ⟨_,_,rfl,rfl,c,(Zj e).symm⟩
  · cases e
 · cases e
theorem Jy:OpR X (binaryOp .Pow) (rdR X.K Ax):=pK Fy (λ _ _ _=>.int _) λ x y d e=>by
 unfold Ax at e;split at e
 ·split at e
  ·rename_i c
   exact ⟨_,_,rfl,rfl,c,(Zj e).symm⟩
  · cases e
 · cases e
theorem He:OpR X (compareOp .LtE) (rdR X.K oLe):=pK (Jc Jt) (λ _ _ _=>.bl _) λ x y d e=>by
 unfold oLe at e;split at e
 · exact ⟨_,_,rfl,rfl,trivial,(Zj e).symm⟩
 · cases e
theorem NB:OpR X (compareOp .Gt) (rdR X.K oGt):=pK (Jc Ju) (λ _ _ _=>.bl _) λ x y d e=>by
 unfold oGt at e;split at e
 · exact ⟨_,_,rfl,rfl,trivial,(Zj e).symm⟩
 · cases e
theorem NA:OpR X (compareOp .Lt) (rdR X.K oLt):=(Js.or vz).imp λ x y H Q ⟨Hs,dx,dy,d,sm,rx,ry,e,k⟩=>by
 cases rx with
 | int i=>cases ry with
  | int j =>
   have e':D.bl (decide (i < j))=d:=by simpa [oLt] using e
   subst e';exact .inl ⟨i,j,rfl,rfl,k _ Hs H (.refl sm) (.bl _)⟩
  | _=>exact nn e
 | str i=>cases ry with
  | str j =>
   have e':=Zj e;subst e';exact .inr ⟨i,j,rfl,rfl,k _ Hs H (.refl sm) (.bl _)⟩
  | _=>exact nn e
 | _=>exact nn e
theorem Jz:UnR X (unaryOp .USub) (rdU X.K D8):=λ pins s σ H x v Q I rx ⟨Hs,dx,d,sm,r,e,k⟩=>Ek pins s σ H x v Q I rx (by
 cases r with
 | int i =>
  have e':D.int (-i)=d:=by simpa [D8] using e
  subst e';exact ⟨i,rfl,k _ Hs H (.refl sm) (.int _)⟩
 | _=>simp [D8] at e)
theorem JC:OpR X (compareOp .Is) (rdR X.K JG):=FA.imp λ x y H Q ⟨Hs,dx,dy,d,sm,rx,ry,e,k⟩=>by
 have hy:dy=.non:=by
  unfold JG at e;split at e <;> first | rfl | cases e
 subst hy;cases ry;refine ⟨rfl,?_⟩;cases rx <;> (have e':=Zj e; subst e'; exact k _ Hs H (.refl sm) (.bl _))
theorem FH:OpR X (compareOp .IsNot) (rdR X.K sP):=Cw.imp λ x y H Q ⟨Hs,dx,dy,d,sm,rx,ry,e,k⟩=>by
 have hy:dy=.non:=by
  unfold sP at e;split at e <;> first | rfl | cases e
 subst hy;cases ry;refine ⟨rfl,?_⟩;cases rx <;> (have e':=Zj e; subst e'; exact k _ Hs H (.refl sm) (.bl _))
theorem AY {K:W.Frag} {H:Hp} {x y:V} {dx dy:D} {b:Bool} (rx:Rp K H x dx) (ry:Rp K H y dy) (e:eqS dx dy=some b):IZ x y=true/\decide (x=y)=b:=by
  unfold eqS at e
  split at e <;> first
    | (cases e; done)
    | (have e':=Zj e
       subst e';cases rx;cases ry
       first | exact ⟨rfl,rfl⟩ | exact ⟨rfl,by simp⟩)
theorem rG (h:okD n d=true) (h':okD n e=true):eqD (jf d) (jf e)=eqB d e:=by
 by_cases q:d=e
 · subst q; rw [mY,zN rfl]
 · rw [AZ q,wW λ z=>q (rN n _ _ h h' z)]
theorem LX (hu:X.A.units+64 < cLine):OpR X (compareOp .Eq) (rdR X.K oEq):=(Jv.or (FE hu)).imp λ x y H Q ⟨Hs,dx,dy,d,sm,rx,ry,e,k⟩=>by
 obtain ⟨b,e',rfl⟩:=Zm (e);have e:=e';unfold eqO at e;split at e
 ·rename_i b' q
  have e':=Zj e;subst e';obtain ⟨h1,h2⟩:=AY rx ry q;refine .inl ⟨h1,?_⟩;rw [h2];exact k _ Hs H (.refl sm) (.bl _)
 ·split at e
  ·rename_i h
   have e':=Zj e;subst e';refine .inr ⟨jf dx,jf dy,(rx.same sm).rdD 9 h.1,(ry.same sm).rdD 9 h.2,jP 9 _ h.1,jP 9 _ h.2,?_⟩;rw [rG h.1 h.2];exact k _ Hs H (.refl sm) (.bl _)
  · cases e
theorem Nz (hu:X.A.units+64 < cLine):OpR X (compareOp .NotEq) (rdR X.K oNe):=(Jr.or (Fz hu)).imp λ x y H Q ⟨Hs,dx,dy,d,sm,rx,ry,e,k⟩=>by
 obtain ⟨b,e',rfl⟩:=Zm (e);have e:=e';unfold eqO at e;split at e
 ·rename_i b' q
  have e':=Zj e;subst e';obtain ⟨h1,h2⟩:=AY rx ry q;refine .inl ⟨h1,?_⟩;rw [h2];exact k _ Hs H (.refl sm) (.bl _)
 ·split at e
  ·rename_i h
   have e':=Zj e;subst e';refine .inr ⟨jf dx,jf dy,(rx.same sm).rdD 9 h.1,(ry.same sm).rdD 9 h.2,jP 9 _ h.1,jP 9 _ h.2,?_⟩;rw [rG h.1 h.2];exact k _ Hs H (.refl sm) (.bl _)
  · cases e
end
def oIx:D->D->Option D
 | .tup ds,.int i=>atI ds i
 | .lst ds,.int i=>atI ds i
 | .fz ds,.int i=>atI ds i
 | .str z,.int i=>if z.length<=100000 then (atI z.cps.toList i).map λ c=>.str ⟨#[c]⟩ else none
 | _,_=>none
def DO:=List Sl->Option (Option Int)
def LC:DO:=λ _=>some none
def dP (f:DE):DO:=λ τ=>(f τ).bind λ x=>match x with | .int i=>some (some i) | _=>none
def tV:List D->Option D
 | [.str z]=>if z.length<=100000 then some (.int z.length) else none
 | [.tup ds]=>some (.int ds.length)
 | [.lst ds]=>some (.int ds.length)
 | [.fz ds]=>some (.int ds.length)
 | _=>none
def yY:List D->Option D
 | [.tup ds]=>some (.lst ds)
 | [.lst ds]=>some (.lst ds)
 | [.fz ds]=>some (.lst ds)
 | _=>none
def tyN:D->Option String
 | .non=>some "NoneType" | .bl _=>some "bool" | .int _=>some "int" | .str _=>some "str" | .tup _=>some "tuple" | .lst _=>some "list" | .dct _=>some "dict" | _=>none
def Lh (t n:String):Bool:=t == n||(t == "bool"&&n == "int")
def kinds:List String:=["int","bool","str","list","tuple","dict"]
def LZ:List D->Option D
 | [d,.ty n]=>(tyN d).bind λ t=>if n ∈ kinds then some (.bl (Lh t n)) else none
 | _=>none
theorem qp {K:W.Frag} {H:Hp} {xs:List V} {ds:List D} {i:Int} {d:D} (r:Rps K H xs ds) (e:atI ds i=some d):∃ v,atI xs i=some v/\Rp K H v d:=by
 unfold atI at *;obtain ⟨j,e1,e2⟩:=bind_some e;obtain ⟨v,h1,h2⟩:=r.get e2;exact ⟨v,by rw [r.length,e1]; exact h1,h2⟩
theorem wm {K:W.Frag} {t n:String} (ht:t ∈ ["NoneType","bool","int","str","tuple","list","dict"]) (hn:n ∈ kinds):PySem.W.kitOne K (.type t) (.type n)=some (Lh t n):=by
 simp only [kinds,Zl,Xg,or_false] at ht hn;rcases ht with rfl | rfl | rfl | rfl | rfl | rfl | rfl <;> rcases hn with rfl | rfl | rfl | rfl | rfl | rfl <;> kernel_rfl
section
variable {X:Cx} {a b c e:Expr} {es:List Expr} {pos:Pos} {f g h:DE}
theorem IxR.imp {r r':R2} (h:IxR X r) (hi:∀ x y H Q,r' x y H Q->r x y H Q):IxR X r':=λ value slice pins s σ H x y v u Q I rx ry q=>h value slice pins s σ H x y v u Q I rx ry (hi _ _ _ _ q)
theorem ixd:IxR X (rdR X.K oIx):=((wt.or Gi).or Gj).imp λ x y H Q ⟨Hs,dx,dy,d,sm,rx,ry,e,k⟩=>by
 obtain ⟨i,rfl⟩:∃ i,dy=.int i:=by
  unfold oIx at e;split at e <;> first | exact ⟨_,rfl⟩ | cases e
 cases ry
 cases rx with
 | tup h r =>
  obtain ⟨v,h1,h2⟩:=qp r (e);exact .inl (.inr ⟨_,_,i,v,rfl,rfl,sm.tup h,h1,k v Hs H (.refl sm) h2⟩)
 | lst h r =>
  obtain ⟨v,h1,h2⟩:=qp r (show atI _ i=some d from e);exact .inl (.inl ⟨_,_,i,v,rfl,rfl,SqL.of (sm _ _ h),h1,k v Hs H (.refl sm) h2⟩)
 | fz h r =>
  obtain ⟨v,h1,h2⟩:=qp r (show atI _ i=some d from e);exact .inl (.inl ⟨_,_,i,v,rfl,rfl,sm.seq h,h1,k v Hs H (.refl sm) h2⟩)
 | str z =>
  by_cases hl:z.length<=100000
  ·have e0:(atI z.cps.toList i).map (λ c=>D.str ⟨#[c]⟩)=some d:=by simpa only [oIx,hl,if_true] using e
   obtain ⟨c,e1,rfl⟩:=Zm e0;exact .inr ⟨z,i,c,rfl,rfl,sU hl,e1,k _ Hs H (.refl sm) (.str _)⟩
  · simp [oIx,hl] at e
 | _=>exact nn e
theorem Jo (ha:PEd X a f) (hb:PEd X b g) (hs:kW b):PEd X (.Subscript a b pos) (dOp oIx f g):=(Fd ixd ha hb hs).imp λ σ H Q h=>lS X.K h
def rdP (K:W.Frag) (f:DO):TO:=λ σ H Q=>∃ H0 Hs τ fp d,StR K H0 Hs H σ τ fp/\b6 Hs H/\f τ=some d/\∀ Hs' H',Ext Hs H Hs' H'->Q d H'
def POd (X:Cx) (e:Option Expr) (f:DO):Prop:=PO X e (rdP X.K f)
theorem PO.imp {e:Option Expr} {t t':TO} (h:PO X e t) (hi:∀ σ H Q,t' σ H Q->t σ H Q):PO X e t':=λ pins s σ H Q I q=>h pins s σ H Q I (hi _ _ _ q)
theorem yB:POd X none LC:=B0.imp λ σ H Q ⟨H0,Hs,τ,fp,d,st,sm,e,k⟩=>by
 have e':=Zj e;subst e';exact k Hs H (.refl sm)
theorem yA (h:PEd X e f):POd X (some e) (dP f):=(BZ h).imp λ σ H Q ⟨H0,Hs,τ,fp,d,st,sm,e,k⟩=>by
 obtain ⟨x,e1,e⟩:=bind_some e;refine ⟨H0,Hs,τ,fp,x,st,sm,e1,λ v Hs' H' g r=>?_⟩
 cases r with
 | int i =>
  have e':=Zj e;subst e';exact ⟨i,rfl,k Hs' H' g⟩
 | _=>exact nn e
theorem fo.imp {fn:Value} {r r':List V->Hp->VK->Prop} (h:fo X fn r) (hi:∀ x H Q,r' x H Q->r x H Q):fo X fn r':=λ pins s σ H x u Q I rx q=>h pins s σ H x u Q I rx (hi _ _ _ q)
theorem call_of {o:List D->Option D} {g:DA} {σ:St} {H:Hp} {Q:VK} (K:W.Frag) (hh:rdE K (fI o g) σ H Q):tCB (rdL K o) (rdA K g) σ H Q:=by
 obtain ⟨H0,Hs,τ,fp,d,st,sm,e,k⟩:=hh;obtain ⟨xs,e1,e⟩:=bind_some e;exact ⟨H0,Hs,τ,fp,xs,st,sm,e1,λ v Hs1 H1 g1 r1=>⟨Hs1,xs,d,g1.sh,r1,e,λ w Hs2 H2 g2 r2=>k w Hs2 H2 (g1.trans g2) r2⟩⟩
theorem yQ {x:Str} {id:String} {p:Pos} {o:List D->Option D} {g:DA} (hc:fo X (.builtin id) (rdL X.K o)) (hg:Gl X x) (hm:X.mg x=none) (hv:bootBuiltins x=some (.builtin id)) (ha:PAd X (e::es) g) (hn:x≠"__name__":=by decide) (hdb:(x == ("__debug__":Str))=false:=by decide)
  (he:starEach (e::es) X.env=(false,eval e X.env)::starEach es X.env:=by rfl) (hpl:(backTo pos (starEach es X.env)).any (·.1)=false:=by rfl):PEd X (.Call (.Name x p) (e::es) [] pos) (fI o g) :=
 (qR hc hg hm hv ha hn hdb he hpl).imp λ σ H Q h=>call_of X.K h
theorem kK:fo X (.builtin "len") (rdL X.K tV):=zZ.imp λ xs H Q ⟨Hs,ds,d,sm,r,e,k⟩=>by
 match ds,r,e with
 | [x],.cons hx .nil,e =>
  cases hx with
  | str z =>
   by_cases hl:z.length<=100000
   ·have e':D.int z.length=d:=by simpa [tV,hl] using e
    subst e';exact ⟨_,_,rfl,⟨sU hl,rfl⟩,k _ Hs H (.refl sm) (.int _)⟩
   · simp [tV,hl] at e
  | @tup a ys ds h r =>
   have e':=Zj e;subst e';exact ⟨_,_,rfl,.inr ⟨_,sm.tup h,rfl⟩,by rw [r.length]; exact k _ Hs H (.refl sm) (.int _)⟩
  | @lst a ys ds h r =>
   have e':D.int ds.length=d:=Zj e;subst e';exact ⟨_,_,rfl,.inl ⟨_,SqL.of (sm _ _ h),rfl⟩,by rw [r.length]; exact k _ Hs H (.refl sm) (.int _)⟩
  | @fz a ys ds h r =>
   have e':D.int ds.length=d:=Zj e;subst e';exact ⟨_,_,rfl,.inl ⟨_,sm.seq h,rfl⟩,by rw [r.length]; exact k _ Hs H (.refl sm) (.int _)⟩
  | _=>exact nn e
 | [],_,e=>simp [tV] at e
 | _::_::_,_,e=>simp [tV] at e
theorem xk:fo X (.builtin "isinstance") (rdL X.K LZ):=by
 intro pins s σ H xs us Q I rv ⟨Hs,ds,d,sm,r,e,k⟩
 have sh:∃ x n,ds=[x,.ty n]:=by
   unfold LZ at e;split at e
   · exact ⟨_,_,rfl⟩
   · cases e
 obtain ⟨x,n,rfl⟩:=sh
 cases r with
 | cons hx rr=>cases rr with
  | cons hy rr=>cases rr with
   | nil =>
   cases hy;obtain ⟨t,e1,e2⟩:=bind_some (e)
   by_cases hn:n ∈ kinds
   ·rw [if_pos hn] at e2
    have e':=Zj e2;subst e';obtain ⟨u,w',rfl,ru,rw'⟩:=vals2 rv;have e2:=rw';subst e2;have fin:∀ tk,EP X pins σ Q (.bool (Lh t n)) { s with toks:=tk }:=λ tk=>⟨.bl _,H,I.tok tk,rfl,k _ Hs H (.refl sm) (.bl _)⟩
    have low:∀ {v:V} {T:String},tR X.K H v (.type T)->RelV v u->T ∈ ["NoneType","bool","int","str","tuple","list","dict"]->some T=some t->wpAny (model X.prog X.w) X.A (call (.builtin "isinstance") [u,.type n]) (EP X pins σ Q) X.xe s:=λ ty ru hm et=>by
     have et':=Zj et;subst et';exact wy I ru ty (wm hm hn) fin
    cases hx with
    | non=>exact low (.non) ru (by simp) e1
    | bl b=>exact low (.bl b) ru (by simp) e1
    | int i=>exact low (.int i) ru (by simp) e1
    | str z=>exact low (.str z) ru (by simp) e1
    | lst h _=>exact low (.lst (sm _ _ h)) ru (by simp) e1
    | dct h _=>exact low (.dK (sm _ _ h)) ru (by simp) e1
    | @tup p ys ds h _ =>
     have et':=Zj e1;subst et';cases (ru);obtain ⟨its,_,⟨o,h1,h2,_⟩,_⟩:=I.tuple (sm.tup h);exact Yi PySem.W.kitx_tuple I.kIn ⟨o,h1,h2⟩ (wm (by simp) hn) (λ z=>nomatch z) fin
    | ty m=>simp [tyN] at e1
    | cls m=>simp [tyN] at e1
    | dfz _ _=>simp [tyN] at e1
    | fz _ _=>simp [tyN] at e1
    | obj _ _=>simp [tyN] at e1
   · rw [if_neg hn] at e2; cases e2
theorem B1 {x:Str} {p:Pos} {g:DA} (hg:Gl X x) (hm:X.mg x=none) (hv:bootBuiltins x=some (.type "list")) (ha:PAd X (e::es) g) (hn:x≠"__name__":=by decide) (hdb:(x == ("__debug__":Str))=false:=by decide)
   (he:starEach (e::es) X.env=(false,eval e X.env)::starEach es X.env:=by rfl) (hpl:(backTo pos (starEach es X.env)).any (·.1)=false:=by rfl):PEo X (.Call (.Name x p) (e::es) [] pos) (fI yY g) :=
 (vw oX hg hm hv ha hn hdb he hpl).imp λ σ H Q ⟨H0,Hs,τ,fp,d,st,sm,e,k⟩=>by
   obtain ⟨xs,e1,e⟩:=bind_some e;refine ⟨H0,Hs,τ,fp,xs,st,sm,e1,λ v Hs1 H1 g1 r1=>?_⟩
   have fin:∀ (p:Addr) (ys:List V) (ds:List D),H1 p=none->Rps X.K Hs1 ys ds->d=.lst ds->Q (.ref p) (upd H1 p (.lst ys)):=λ p ys ds hp r ed=>by
    subst ed;exact k p Hs1 _ ⟨g1.ss,g1.sh.trans (aJ hp _),g1.hh.trans (aJ hp _),g1.fr⟩ (.lst aw (g1.sh.free hp) r) (g1.hh.free hp)
   match xs,r1,e with
   | [x],.cons hx .nil,e =>
    cases hx with
    | @tup a ys ds h r=>exact ⟨_,_,rfl,.inr (g1.sh.tup h),λ l hl=>fin l ys ds hl r (Zj e).symm⟩
    | @lst a ys ds h r=>exact ⟨_,_,rfl,.inl (SqL.of (g1.sh _ _ h)),λ l hl=>fin l ys ds hl r (Zj e).symm⟩
    | @fz a ys ds h r=>exact ⟨_,_,rfl,.inl (g1.sh.seq h),λ l hl=>fin l ys ds hl r (Zj e).symm⟩
    | _=>exact nn e
   | [],_,e=>simp [yY] at e
   | _::_::_,_,e=>simp [yY] at e
end
theorem b6.frz (sm:b6 Hs H) (ha:H a=some o):b6 (upd Hs a o) H:=λ b u q=>by
 by_cases z:b=a
 · subst z; rw [aw] at q; rw [ha]; exact q
 · rw [ak z] at q; exact sm b u q
def i9 (f g:DS):DS:=λ τ=>match f τ with
 | some (.next τ')=>g τ'
 | r=>r
def lD:DS:=λ τ=>some (.next τ)
def sIf (c:DT) (f g:DS):DS:=λ τ=>(c τ).bind λ b=>if b=true then f τ else g τ
def Bo (i:Nat) (f:DE):DS:=λ τ=>(f τ).map λ d=>.next (τ.set i (.shr d))
def uD (i:Nat) (f:DE):DS:=λ τ=>if i < τ.length then (f τ).map λ d=>.next (τ.set i (.own d)) else none
def Ak (f:DE):DS:=λ τ=>(f τ).map λ d=>.ret (.shr d)
def xX (f:DE):DS:=λ τ=>(f τ).map λ d=>.ret (.own d)
def uE (i:Nat):DS:=λ τ=>match τ[i]? with
 | some (.own d)=>some (.ret (.own d))
 | some (.shr d)=>some (.ret (.shr d))
 | _=>none
def uI (f:DE):DS:=λ τ=>(f τ).map λ _=>.next τ
def Al:DS:=λ _=>none
def An (i:Nat) (f:DE):DS:=λ τ=>(f τ).bind λ d=>match τ[i]? with
 | some (.own (.lst ds))=>if ds.length < 100000 then some (.next (τ.set i (.own (.lst (ds++[d]))))) else none
 | _=>none
section
variable {X:Cx} {a b c e:Expr} {es:List Expr} {pos:Pos} {st:Stmt} {rest:List Stmt} {f g:DS}
theorem Rep.same {K:W.Frag} {Hs0 H0 Hs H:Hp} {σ:St} {τ:List Sl} (r:Rep K Hs0 H0 Hs H σ τ):b6 Hs H:=r.ext.sh
theorem Rep.ext' {K:W.Frag} {Hs0 H0 Hs H Hs' H':Hp} {σ:St} {τ:List Sl} (r:Rep K Hs0 H0 Hs H σ τ) (g:Ext Hs H Hs' H'):Rep K Hs0 H0 Hs' H' σ τ:=⟨r.ext.trans g,let ⟨fp,h⟩:=r.st; ⟨fp,h.ext g⟩⟩
theorem yp:nt X [] lD:=pH.imp λ E σ H ⟨Hs0,H0,Hs,τ,o,r,e,k⟩=>by
 have e':=Zj e;subst e';exact k σ Hs H r
theorem yo (h:PSd X st f):nt X [st] f:=jM h
theorem uX (h1:PSd X st f) (h2:nt X rest g):nt X (st::rest) (i9 f g):=(qJ h1 h2).imp λ E σ H ⟨Hs0,H0,Hs,τ,o,r,e,k⟩=>by
 unfold i9 at e
 cases q:f τ with
 | none=>rw [q] at e; cases e
 | some o1 =>
  rw [q] at e;refine ⟨Hs0,H0,Hs,τ,o1,r,q,?_⟩
  cases o1 with
  | next τ'=>exact λ σ' Hs' H' r'=>⟨Hs0,H0,Hs',τ',o,r',e,k⟩
  | ret s=>cases e; exact k
  | brk τ'=>cases e; exact k
  | cnt τ'=>cases e; exact k
theorem ve:PSd X st Al:=λ _ _ _ _ _ _ ⟨_,_,_,_,_,_,e,_⟩=>by cases e
theorem EY {t:DT} {x y:List Stmt} (hc:PTd X c t) (ha:nt X x f) (hb:nt X y g):PSd X (.If c x y pos) (sIf t f g):=(BW hc ha hb).imp λ E σ H ⟨Hs0,H0,Hs,τ,o,r,e,k⟩=>by
 obtain ⟨bb,e1,e2⟩:=bind_some e;obtain ⟨fp,h⟩:=r.st;refine ⟨H0,Hs,τ,fp,bb,h,r.same,e1,λ Hs' H' g1=>?_⟩
 cases bb with
 | true=>exact ⟨Hs0,H0,Hs',τ,o,r.ext' g1,by simpa using e2,k⟩
 | false=>exact ⟨Hs0,H0,Hs',τ,o,r.ext' g1,by simpa using e2,k⟩
theorem BR {f:DE} (h:PEd X e f):PSd X (.Return (some e) pos) (Ak f):=(nO h).imp λ E σ H ⟨Hs0,H0,Hs,τ,o,r,e,k⟩=>by
 obtain ⟨d,e1,rfl⟩:=Zm e;obtain ⟨fp,h⟩:=r.st;exact ⟨H0,Hs,τ,fp,d,h,r.same,e1,λ v Hs' H' g1 rv=>k v Hs' H' (r.ext.trans g1) rv⟩
theorem Rep.old {K:W.Frag} {Hs0 H0 Hs H:Hp} {σ:St} {τ:List Sl} (r:Rep K Hs0 H0 Hs H σ τ) {p:Addr} (h:H p=none):H0 p=none:=r.ext.hh.free h
theorem yw {f:DE} (h:PEo X e f):PSd X (.Return (some e) pos) (xX f):=(nO h).imp λ E σ H ⟨Hs0,H0,Hs,τ,o,r,e,k⟩=>by
 obtain ⟨d,e1,rfl⟩:=Zm e;obtain ⟨fp,h⟩:=r.st;exact ⟨H0,Hs,τ,fp,d,h,r.same,e1,λ v Hs' H' g1 rv z=>k _ Hs' H' (r.ext.trans g1) ⟨v,rfl,rv,r.old z⟩⟩
theorem yv (i:Nat) (hN:X.N[i]?=some x:=by rfl) (hv:Vis X.env.scope x:=by first | exact Or.inl rfl | exact Or.inr (Or.inl rfl) | exact Or.inr (Or.inr rfl)) (hd:(x == ("__debug__":Str))=false:=by decide)
  (hcd:(x == ("__classdict__":Str))=false:=by decide):PSd X (.Return (some (.Name x p)) pos) (uE i):=(nO (gu hN hv hd hcd)).imp λ E σ H ⟨Hs0,H0,Hs,τ,o,r,e,k⟩=>by
 obtain ⟨fp,h⟩:=r.st;unfold uE at e;split at e
 ·rename_i d q
  cases e;obtain ⟨a,h1,h2,h3,h4⟩:=h.Ea q;exact ⟨_,h1,k _ Hs H r.ext ⟨a,rfl,h2,h3⟩⟩
 ·rename_i d q
  cases e;obtain ⟨v,h1,h2⟩:=h.get q;exact ⟨_,h1,k _ Hs H r.ext h2⟩
 · cases e
theorem BQ {i:Nat} {x:Str} {f:DE} {pos':Pos} (hN:X.N.Nodup) (hi:X.N[i]?=some x) (hx:Loc X.env.scope x) (he:PEd X e f) (hs:swapsWith e (some (.Name x pos')) pos.line X.env=pure false:=by rfl) (hf:X.fn x=true\/X.env.scope.names.lookup x=some .local:=by first | exact .inl rfl | exact .inr rfl | assumption) :
  PSd X (.Assign [.Name x pos'] e pos) (Bo i f):=(qM hN hi hx he hs hf).imp λ E σ H ⟨Hs0,H0,Hs,τ,o,r,e,k⟩=>by
 obtain ⟨d,e1,rfl⟩:=Zm e;obtain ⟨fp,h⟩:=r.st;refine ⟨H0,Hs,τ,fp,d,h,r.same,e1,λ v Hs' H' g1 rv=>?_⟩;obtain ⟨fp',_,h'⟩:=(h.ext g1).ux rv;exact k _ Hs' H' ⟨r.ext.trans g1,fp',h'⟩
theorem vy {K:W.Frag} {H0 Hs H:Hp} {σ:St} {τ:List Sl} {fp:List Addr} (h:StR K H0 Hs H σ τ fp) {p:Addr} (hp:H p=none):p ∉ fp:=λ q=>(h.DD p q).2.2 hp
theorem yu {i:Nat} {x:Str} {f:DE} {pos':Pos} (hN:X.N.Nodup) (hi:X.N[i]?=some x) (hx:Loc X.env.scope x) (he:PEo X e f) (hs:swapsWith e (some (.Name x pos')) pos.line X.env=pure false:=by rfl) (hf:X.fn x=true\/X.env.scope.names.lookup x=some .local:=by first | exact .inl rfl | exact .inr rfl | assumption) :
  PSd X (.Assign [.Name x pos'] e pos) (uD i f):=(qM hN hi hx he hs hf).imp λ E σ H ⟨Hs0,H0,Hs,τ,o,r,e,k⟩=>by
 unfold uD at e;split at e
 ·rename_i hl
  obtain ⟨d,e1,rfl⟩:=Zm e;obtain ⟨fp,h⟩:=r.st;refine ⟨H0,Hs,τ,fp,d,h,r.same,e1,λ v Hs' H' g1 rv z=>?_⟩;obtain ⟨fp',_,h'⟩:=(h.ext g1).M5 rv (r.old z) (vy h z) hl;exact k _ Hs' H' ⟨r.ext.trans g1,fp',h'⟩
 · cases e
theorem yy {f:DE} (he:PEd X e f) (hs:swapsWith e none pos.line X.env=pure false:=by rfl):PSd X (.Expr e pos) (uI f):=(dq he hs).imp λ E σ H ⟨Hs0,H0,Hs,τ,o,r,e,k⟩=>by
 obtain ⟨d,e1,rfl⟩:=Zm e;obtain ⟨fp,h⟩:=r.st;exact ⟨H0,Hs,τ,fp,d,h,r.same,e1,λ v Hs' H' g1 rv=>k _ Hs' H' (r.ext' g1)⟩
theorem BV (i:Nat) {x:Str} {f:DE} {p apos cpos:Pos} (hN:X.N[i]?=some x) (hv:Vis X.env.scope x) (he:PEd X e f) (hd:(x == ("__debug__":Str))=false:=by decide) (hcd:(x == ("__classdict__":Str))=false:=by decide)
   (hbase:attributeBase (.Name x p) "append" X.env (eval (.Name x p) X.env)=eval (.Name x p) X.env:=by rfl)
   (hfew:((backTo cpos (starEach [e] X.env)).all (λ x=>!x.1)&&(backToKw cpos (keywordEach [] X.env)).all (λ x=>x.1.isSome)
     && decide ([e].length+([]:List Keyword).length+(if ([]:List Keyword).isEmpty then 0 else 1) < 30))=true:=by rfl)
   (hline:(apos.endLine == cpos.line)=true:=by rfl) (hst:starEach [e] X.env=(false,eval e X.env)::starEach [] X.env:=by rfl) (hplain:(backTo cpos (starEach [] X.env)).any (·.1)=false:=by rfl)
   (hs:swapsWith (.Call (.Attribute (.Name x p) "append" apos) [e] [] cpos) none pos.line X.env=pure false:=by rfl) :
   PSd X (.Expr (.Call (.Attribute (.Name x p) "append" apos) [e] [] cpos) pos) (An i f) :=
 (dq (mG Z9 PySem.F.slot_list_append PySem.F.type_list_append j0 (gu hN hv hd hcd) (b7 he dr hst) hbase hfew hline hst hplain) hs).imp λ E σ H ⟨Hs0,H0,Hs,τ,o,r,e,k⟩=>by
   obtain ⟨d,e1,e2⟩:=bind_some e;obtain ⟨fp,h⟩:=r.st;split at e2
   · rename_i ds q
     split at e2
     ·rename_i hl
      cases e2;obtain ⟨a,h1,h2,h3,h4⟩:=h.Ea q
      cases h2 with
      | @lst xs _ hH hn hr =>
       refine ⟨_,h1,.inl ⟨rfl,_,SqL.of hH⟩,?_⟩;refine ⟨H0,Hs,τ,fp,d,h,r.same,e1,λ v Hs' H' g1 rv=>?_⟩;have hH':=g1.hh _ _ hH;have h':=h.ext g1;have n':=g1.fr a hn (gD hH);refine ⟨a,xs,v,rfl,rfl,hH',by rw [hr.length]; exact le5 (Yo hl),?_⟩;refine k σ Hs' _ ⟨⟨r.ext.ss.trans g1.ss,λ b u z=>?_,λ b u z=>?_,λ b k1 k2=>?_⟩,fp,h'.mut q h1 (.lst aw n' ((hr.same g1.ss).append (.cons rv .nil)))⟩
       ·have ne:b≠a:=λ y=>by subst y; rw [n'] at z; cases z
        rw [ak ne]; exact g1.sh b u z
       ·have ne:b≠a:=λ y=>by subst y; rw [h3] at z; cases z
        rw [ak ne]; exact g1.hh b u (r.ext.hh b u z)
       · exact g1.fr b (r.ext.fr b k1 k2) (r.ext.hh.live k2)
     · cases e2
   · cases e2
end
abbrev DI:=List Sl->Option (List D)
def ItR (K:W.Frag) (J:It) (Hs:Hp) (ds:List D):Prop:=∀ Hs1 H,b6 Hs Hs1->b6 Hs1 H ->
 (∀ i d,ds[i]?=some d->J.go i H/\∀ x H',J.yld i H x H'->∃ Hs2,Ext Hs1 H Hs2 H'/\Rp K Hs2 x d)/\∀ i,ds.length<=i->J.stop i H
def rdI (K:W.Frag) (f:DI):TI:=λ σ H R=>∃ H0 Hs τ fp ds,StR K H0 Hs H σ τ fp/\b6 Hs H/\f τ=some ds/\∀ J Hs' H',Ext Hs H Hs' H'->ItR K J Hs' ds->R J H'
def PId (X:Cx) (tg iter:Expr) (f:DI):Prop:=PI X tg iter (rdI X.K f)
def D9 (f:DE):DI:=λ τ=>(f τ).bind λ d=>match d with | .lst ds=>some ds | .fz ds=>some ds | _=>none
def wD (f:DE):DI:=λ τ=>(f τ).bind λ d=>match d with | .tup ds=>some ds | _=>none
def nK (lo:Int) (n:Nat):List D:=(List.range n).map λ (i:Nat)=>D.int (lo+(i:Int))
def ig (f:DA):DI:=λ τ=>(f τ).bind λ ds=>match ds with | [.int j]=>if -(2 ^ 62)<=j/\j < 2 ^ 62 then some (nK 0 j.toNat) else none | _=>none
theorem rm {K:W.Frag} {a:Addr} {xs:List V} {Hs:Hp} {ds:List D} (h:SqL K Hs a xs) (r:Rps K Hs xs ds):ItR K (Itl K a) Hs ds:=λ Hs1 H g1 g2=>by
 have hq:=g2.seq (g1.seq h);refine ⟨λ i d e=>?_,λ i hi=>⟨xs,hq,by rw [r.length]; exact hi⟩⟩;obtain ⟨x,h1,h2⟩:=r.get e;refine ⟨⟨xs,x,hq,h1⟩,λ x' H' ⟨e1,e2⟩=>?_⟩;subst e1;have e3:=e2 xs hq;rw [h1] at e3;cases e3;exact ⟨Hs1,.refl g2,h2.same g1⟩
theorem wu {K:W.Frag} {Hs:Hp} (lo:Int) (n:Nat):ItR K (Itr lo n) Hs (nK lo n):=λ Hs1 H g1 g2=>by
 refine ⟨λ i d e=>?_,λ i hi=>show n<=i by simpa [nK] using hi⟩;unfold nK at e;rw [List.getElem?_map] at e
 by_cases hi:i < n
 ·rw [List.getElem?_range hi] at e
  have e':D.int (lo+i)=d:=by simpa using e
  subst e';refine ⟨hi,λ x H' ⟨e1,e2⟩=>?_⟩;subst e1 e2;exact ⟨Hs1,.refl g2,.int _⟩
 ·rw [List.getElem?_eq_none (by simpa using hi)] at e
  cases e
theorem PI.imp (h:PI X tg iter t) (hi:∀ σ H R,t' σ H R->t σ H R):PI X tg iter t':=λ pins s σ H R I q=>h pins s σ H R I (hi _ _ _ q)
theorem Dt {K:W.Frag} {a:Addr} {xs:List V} {Hs:Hp} {ds:List D} (h:SqT K Hs a xs) (r:Rps K Hs xs ds):ItR K (Itt K a) Hs ds:=λ Hs1 H g1 g2=>by
 have hq:=g2.tup (g1.tup h);refine ⟨λ i d e=>?_,λ i hi=>⟨xs,hq,by rw [r.length]; exact hi⟩⟩;obtain ⟨x,h1,h2⟩:=r.get e;refine ⟨⟨xs,x,hq,h1⟩,λ x' H' ⟨e1,e2⟩=>?_⟩;subst e1;have e3:=e2 xs hq;rw [h1] at e3;cases e3;exact ⟨Hs1,.refl g2,h2.same g1⟩
section
variable {X:Cx} {tg l e:Expr} {es:List Expr} {pos:Pos}
theorem Ce (h:PEd X l f):PId X tg l (D9 f):=(Cf h).imp λ σ H R ⟨H0,Hs,τ,fp,ds,st,sm,e,k⟩=>by
 obtain ⟨x,e1,e2⟩:=bind_some e;refine ⟨H0,Hs,τ,fp,x,st,sm,e1,λ v Hs' H' g r=>?_⟩
 cases r with
 | @lst a xs ds' h r =>
  have e':=Zj e2;subst e';exact ⟨a,rfl,⟨xs,SqL.of (g.sh _ _ h)⟩,k _ Hs' H' g (rm (SqL.of h) r)⟩
 | @fz a xs ds' h r =>
  have e':ds'=ds:=Zj e2;subst e';exact ⟨a,rfl,⟨xs,g.sh.seq h⟩,k _ Hs' H' g (rm h r)⟩
 | _=>exact nn e2
theorem Cc (h:PEd X l f):PId X tg l (wD f):=(E5 h).imp λ σ H R ⟨H0,Hs,τ,fp,ds,st,sm,e,k⟩=>by
 obtain ⟨x,e1,e2⟩:=bind_some e;refine ⟨H0,Hs,τ,fp,x,st,sm,e1,λ v Hs' H' g r=>?_⟩
 cases r with
 | @tup a xs ds' h r =>
  have e':=Zj e2;subst e';exact ⟨a,rfl,⟨xs,g.sh.tup h⟩,k _ Hs' H' g (Dt h r)⟩
 | _=>exact nn e2
theorem sD (hg:Gl X "range") (hm:X.mg "range"=none) (ha:PAd X [a] f) (hs:starEach [a] X.env=[(false,eval a X.env)]:=by rfl):PId X tg (.Call (.Name "range" p) [a] [] pos) (ig f) :=
 (vo hg hm ha hs).imp λ σ H R ⟨H0,Hs,τ,fp,ds,st,sm,e,k⟩=>by
   obtain ⟨x,e1,e2⟩:=bind_some e;refine ⟨H0,Hs,τ,fp,x,st,sm,e1,λ v Hs' H' g r=>?_⟩
   match x,r,e2 with
   | [y],.cons hy .nil,e2 =>
    cases hy with
    | int j =>
     simp only at e2;split at e2
     ·rename_i hj
      have e':=Zj e2;subst e';exact ⟨j,rfl,hj.1,hj.2,k _ Hs' H' g (wu _ _)⟩
     · cases e2
    | _=>exact nn e2
   | [],_,e2=>simp at e2
   | _::_::_,_,e2=>simp at e2
end
abbrev DG:=D->List Sl->Option (List Sl)
def rdG (K:W.Frag) (g:DG):TG:=λ v σ H Q=>∃ Hs0 H0 Hs τ τ' d,Rep K Hs0 H0 Hs H σ τ/\Rp K Hs v d/\g d τ=some τ'/\∀ σ',Rep K Hs0 H0 Hs H σ' τ'->Q σ' H
def PGd (X:Cx) (tg:Expr) (g:DG):Prop:=PG X tg (rdG X.K g)
theorem PG.imp (h:PG X tg t) (hi:∀ v σ H Q,t' v σ H Q->t v σ H Q):PG X tg t':=λ pins s σ H v u Q I r q=>h pins s σ H v u Q I r (hi _ _ _ _ q)
def gN (i:Nat):DG:=λ d τ=>some (τ.set i (.shr d))
section
variable {X:Cx} {pos:Pos} {e:Expr} {es:List Expr}
theorem yF (hN:X.N.Nodup) (hi:X.N[i]?=some x) (hx:Loc X.env.scope x) (hf:X.fn x=true\/X.env.scope.names.lookup x=some .local:=by first | exact .inl rfl | exact .inr rfl | assumption):PGd X (.Name x pos) (gN i) :=
 (jN hN hi hx hf).imp λ v σ H Q ⟨Hs0,H0,Hs,τ,τ',d,r,rv,e,k⟩=>by
   have e':=Zj e;subst e';obtain ⟨fp,h⟩:=r.st;obtain ⟨fp',_,h'⟩:=h.ux rv;exact k _ ⟨r.ext,fp',h'⟩
end
def wK (b:D->DS):List D->DS
 | [],τ=>some (.next τ)
 | d::ds,τ=>match b d τ with
  | some (.next τ')=>wK b ds τ'
  | some (.cnt τ')=>wK b ds τ'
  | some (.brk τ')=>some (.next τ')
  | r=>r
def Hb (it:DI) (g:DG) (b:DS):DS:=λ τ=>(it τ).bind λ ds=>wK (λ d τ=>(g d τ).bind b) ds τ
def cv (c:DT) (b:DS):Nat->DS
 | 0,_=>none
 | n+1,τ=>match c τ with
  | none=>none
  | some false=>some (.next τ)
  | some true=>match b τ with
   | some (.next τ')=>cv c b n τ'
   | some (.cnt τ')=>cv c b n τ'
   | some (.brk τ')=>some (.next τ')
   | r=>r
open Classical in
noncomputable def lU (c:DT) (b:DS):DS:=λ τ=>if h:∃ n o,cv c b n τ=some o then some (Classical.choose (Y3 h)) else none
theorem eR:∀ {n m:Nat} {τ:List Sl} {o:Out},cv c b n τ=some o->n<=m->cv c b m τ=some o
 | 0,_,_,_,h,_=>by simp [cv] at h
 | n+1,0,_,_,_,l=>by omega
 | n + 1,m+1,τ,o,h,l=>by
  have l':n<=m:=by omega
  unfold cv at h ⊢
  cases q:c τ with
  | none=>rw [q] at h; cases h
  | some x =>
   rw [q] at h
   cases x with
   | false=>exact h
   | true =>
    simp only at h ⊢
    cases q2:b τ with
    | none=>rw [q2] at h; exact h
    | some o' =>
     rw [q2] at h
     cases o' with
     | next τ'=>exact eR h l'
     | cnt τ'=>exact eR h l'
     | brk τ'=>exact h
     | ret s=>exact h
theorem nH (h:cv c b n τ=some o):lU c b τ=some o:=by
 have hx:∃ n o,cv c b n τ=some o:=⟨n,o,h⟩
 unfold lU;rw [dif_pos hx];have h2:=Y3 (Y3 hx);have h3:=eR h2 (Nat.le_max_left _ n);have h4:=eR h (Nat.le_max_right (Classical.choose hx) n);rw [h3] at h4;exact h4
theorem uB (h:lU c b τ=some o):∃ n,cv c b n τ=some o:=by
 unfold lU at h;split at h
 ·rename_i hx
  have e:=Zj h;subst e;exact ⟨_,Y3 (Y3 hx)⟩
 · cases h
theorem Ext.sub (a:Ext Hs0 H0 Hs1 H1) (b:Ext Hs1 H0 Hs H):Ext Hs0 H0 Hs H:=⟨a.ss.trans b.ss,b.sh,b.hh,λ c h1 h2=>b.fr c (a.fr c h1 h2) h2⟩
theorem Rep.rebase {K:W.Frag} {Hs0 H0 Hs H:Hp} {σ:St} {τ:List Sl} (r:Rep K Hs0 H0 Hs H σ τ):Rep K Hs H0 Hs H σ τ:=⟨⟨.refl _,r.same,r.ext.hh,λ _ h _=>h⟩,r.st⟩
theorem Rep.iZ {K:W.Frag} {Hs0 H0 Hs1 H1 Hs H:Hp} {σ:St} {τ:List Sl} (a:Ext Hs0 H0 Hs1 H1) (r:Rep K Hs1 H0 Hs H σ τ):Rep K Hs0 H0 Hs H σ τ:=⟨a.sub r.ext,r.st⟩
theorem Fin.rebase {K:W.Frag} {Hs0 H0 Hs1 H1:Hp} {E:Ends} {o:Out} (a:Ext Hs0 H0 Hs1 H1) (h:Fin K Hs0 H0 E o):Fin K Hs1 H0 E o:=by
 cases o with
 | next τ=>exact λ σ Hs H r=>h σ Hs H (r.iZ a)
 | brk τ=>exact λ σ Hs H r=>h σ Hs H (r.iZ a)
 | cnt τ=>exact λ σ Hs H r=>h σ Hs H (r.iZ a)
 | ret s=>exact λ v Hs H g r=>h v Hs H (a.sub g) r
section
variable {X:Cx} {tg iter:Expr} {body:List Stmt} {pos:Pos}
theorem BS {it:DI} {g:DG} {b:DS} (hp:PassesOwn (model X.prog X.w) X.A X.env X.xe) (hc:X.calm=true) (hi:PId X tg iter it) (hg:PGd X tg g) (hb:nt X body b) (hs:∀ x,foldedSetIterable iter X.env x=pure x:=by intro _; rfl) :
  PSd X (.For tg iter body [] pos) (Hb it g b):=(vg hp hc hi hg hb hs).imp λ E σ H ⟨Hs0,H0,Hs,τ,o,r,e,k⟩=>by
 obtain ⟨ds,e1,e2⟩:=bind_some e;obtain ⟨fp,hst⟩:=r.st;refine ⟨H0,Hs,τ,fp,ds,hst,r.same,e1,λ J Hs1 H1 g1 hJ=>?_⟩;have r1:=r.ext' g1;have kk:=k.rebase r1.ext;refine ⟨λ i m σ H=>m=ds.length - i/\i<=ds.length/\∃ Hs2 τ2,Rep X.K Hs1 H0 Hs2 H σ τ2/\wK (λ d τ=>(g d τ).bind b) (ds.drop i) τ2=some o,⟨ds.length,by simp,Z7 _,Hs1,τ,r1.rebase,by simpa using e2⟩,?_⟩
 rintro i m σ2 H2 ⟨rfl,hi,Hs2,τ2,r2,e3⟩
 obtain ⟨hgo,hstop⟩:=hJ Hs2 H2 r2.ext.ss r2.same
 by_cases hlt:i < ds.length
 ·have ed:=Ys hlt
  rw [ed] at e3;obtain ⟨go,yl⟩:=hgo i ds[i] (List.getElem?_eq_getElem hlt);refine .inr ⟨go,λ σ' H'=>∃ Hs' τ',Rep X.K Hs1 H0 Hs' H' σ' τ'/\wK (λ d τ=>(g d τ).bind b) (ds.drop (i+1)) τ'=some o,?_,?_⟩
  ·rintro σ' H' ⟨Hs',τ',r',e'⟩
   exact ⟨ds.length - (i+1),by omega,rfl,hlt,Hs',τ',r',e'⟩
  ·intro x H' y
   obtain ⟨Hs3,g3,rx⟩:=yl x H' y;have r3:=r2.ext' g3;unfold wK at e3
   cases q:(g ds[i] τ2).bind b with
   | none=>simp only [q] at e3; cases e3
   | some o1 =>
    simp only [q] at e3;obtain ⟨τ3,q1,q2⟩:=bind_some q;refine ⟨Hs1,H0,Hs3,τ2,τ3,ds[i],r3,rx,q1,λ σ' r'=>?_⟩;refine ⟨Hs1,H0,Hs3,τ3,o1,r',q2,?_⟩
    cases o1 with
    | next τ'=>exact λ σ4 Hs4 H4 r4=>⟨Hs4,τ',r4,e3⟩
    | cnt τ'=>exact λ σ4 Hs4 H4 r4=>⟨Hs4,τ',r4,e3⟩
    | brk τ'=>cases e3; exact kk
    | ret s=>cases e3; exact kk
 ·have e0:i=ds.length:=by omega
  subst e0;rw [Xs] at e3;have e':Out.next τ2=o:=by simpa [wK] using e3
  subst e';exact .inl ⟨hstop _ (Zn _),kk σ2 Hs2 H2 r2⟩
theorem vd (hp:PassesOwn (model X.prog X.w) X.A X.env X.xe) (hc:PTd X c t) (hb:nt X body b):PSd X (.While c body [] pos) (lU t b):=(qK hp hc hb).imp λ E σ H ⟨Hs0,H0,Hs,τ,o,r,e,k⟩=>by
 obtain ⟨n,e⟩:=uB e;refine ⟨λ m σ H=>∃ Hs2 τ2,Rep X.K Hs0 H0 Hs2 H σ τ2/\cv t b m τ2=some o,⟨n,Hs,τ,r,e⟩,?_⟩
 rintro m σ2 H2 ⟨Hs2,τ2,r2,e2⟩
 obtain ⟨fp,hst⟩:=r2.st
 cases m with
 | zero=>simp [cv] at e2
 | succ m =>
  unfold cv at e2
  cases q:t τ2 with
  | none=>rw [q] at e2; cases e2
  | some bb =>
   rw [q] at e2;refine ⟨H0,Hs2,τ2,fp,bb,hst,r2.same,q,λ Hs3 H3 g3=>?_⟩;have r3:=r2.ext' g3
   cases bb with
   | false =>
    have e':Out.next τ2=o:=by simpa using e2
    subst e';exact Gn (k σ2 Hs3 H3 r3)
   | true =>
    refine Iw ?_
    refine ⟨λ σ' H'=>∃ Hs' τ',Rep X.K Hs0 H0 Hs' H' σ' τ'/\cv t b m τ'=some o,?_,?_⟩
    ·rintro σ' H' ⟨Hs',τ',r',e'⟩
     exact ⟨m,by omega,Hs',τ',r',e'⟩
    ·cases q2:b τ2 with
     | none=>rw [q2] at e2; cases e2
     | some o1 =>
      rw [q2] at e2;refine ⟨Hs0,H0,Hs3,τ2,o1,r3,q2,?_⟩
      cases o1 with
      | next τ'=>exact λ σ4 Hs4 H4 r4=>⟨Hs4,τ',r4,e2⟩
      | cnt τ'=>exact λ σ4 Hs4 H4 r4=>⟨Hs4,τ',r4,e2⟩
      | brk τ'=>cases e2; exact k
      | ret s=>cases e2; exact k
end
def hU (n:Nat) (ds:List D):List Sl:=ds.map .shr++List.replicate (n - ds.length) .no
def cN (n m:Nat) (b:DS) (ds:List D):Option Sl:=if ds.length=m then (match b (hU n ds) with | some (.ret s)=>some s | some (.next _)=>some (.shr .non) | _=>none) else none
def spF (F:List D->Option Sl) (K:W.Frag):Sp:=λ vs H Q _=>∃ Hs ds s,b6 Hs H/\Rps K Hs vs ds/\F ds=some s/\∀ v Hs' H',Ext Hs H Hs' H'->SlV K H Hs' H' v s->Q v H'
theorem jI {K:W.Frag} {H0 Hs H:Hp}:∀ {vs:List V} {ds:List D} (k:Nat),Rps K Hs vs ds->StR K H0 Hs H (vs.map some++List.replicate k none) (ds.map .shr++List.replicate k .no) []
 | _,_,0,.nil=>.nil
 | _,_,k+1,.nil=>by
  rw [Xc,Xc];exact .no (jI k .nil)
 | _,_,k,.cons h r=>.shr h (jI k r)
section
variable {P:Program} {w:World} {K:W.Frag} {mg:Str->Option Value} {base:Heap}
theorem Fun.okD {x qual:Str} {st:Stmt} {f:Addr} {fd:FuncData} {N ps:List Str} {k:Nat} {b:DS} (F:Fun K x qual st f fd) (S:dJ N ps (aK st))
  (hbody:∀ (cdv:Value) (A:Around) (outer:List Env) (s:Shared) (H:Hp) (E:XK),dm k (A.deeper (envOfC qual (aK st) s.heap.objs.size f cdv)) ->
    nt (zX CX0 P w K mg base N qual (aK st) f cdv A outer s H E).nox (bY st) b):gY P w K mg base CX0 (k+1) f fd ps (spF (cN N.length ps.length b) K):=by
 refine F.ok S (λ vs H Q E h=>?_) (λ cdv A outer s H vs Q E hr h=>?_)
 ·obtain ⟨Hs,ds,s,sm,r,e,_⟩:=h
  unfold cN at e;split at e
  · rename_i hl
    rw [r.length]; exact hl
  · cases e
 obtain ⟨Hs,ds,sl,sm,r,e,q⟩:=h;refine ⟨_,hbody cdv A outer s H E hr,?_⟩;unfold cN at e;split at e
 ·have h0:Rep K Hs H Hs H (start N vs) (hU N.length ds):=⟨.refl sm,[],by unfold start hU; rw [r.length]; exact jI _ r⟩
  cases q2:b (hU N.length ds) with
  | none=>rw [q2] at e; cases e
  | some o =>
    rw [q2] at e;refine ⟨Hs,H,Hs,_,o,h0,q2,?_⟩
    cases o with
    | next τ =>
     have e':=Zj e;subst e';exact λ σ Hs' H' r'=>q .non Hs' H' r'.ext .non
    | ret s =>
     have e':=Zj e;subst e';exact λ v Hs' H' g rv=>q v Hs' H' g rv
    | brk τ=>cases e
    | cnt τ=>cases e
 · cases e
end
def slD:Sl->Option D
 | .shr d=>some d
 | .own d=>some d
 | .no=>none
def slO:Sl->Option D
 | .own d=>some d
 | _=>none
def dFn (F:List D->Option Sl) (f:DA):DE:=λ τ=>(f τ).bind λ ds=>(F ds).bind slD
def GQ (F:List D->Option Sl) (f:DA):DE:=λ τ=>(f τ).bind λ ds=>(F ds).bind slO
theorem SlV.shr {K:W.Frag} {H0 Hs H Hs0:Hp} {v:V} {s:Sl} {d:D} (g:Ext Hs0 H0 Hs H) (h:SlV K H0 Hs H v s) (e:slD s=some d):∃ Hs',Ext Hs0 H0 Hs' H/\Rp K Hs' v d:=by
 cases s with
 | no=>cases h
 | shr d' =>
  have e':=Zj e;subst e';exact ⟨Hs,g,h⟩
 | own d' =>
  have e':d'=d:=Zj e;subst e';obtain ⟨a,rfl,o,z⟩:=h;obtain ⟨ob,h1,h2⟩:=o.rp;refine ⟨upd Hs a ob,⟨g.ss.trans (aJ o.hid ob),g.sh.frz h1,g.hh,λ b h3 h4=>?_⟩,h2⟩;have ne:b≠a:=λ y=>by subst y; exact h4 z
  rw [ak ne];exact g.fr b h3 h4
section
variable {X:Cx} {e:Expr} {es:List Expr} {x:Str} {p pos:Pos} {k:Nat} {f:Addr} {fd:FuncData} {ps:List Str} {F:List D->Option Sl} {g:DA}
theorem DH {σ:St} {H:Hp} {Q:VK} (K:W.Frag) (h:rdE K (dFn F g) σ H Q):Bl (spF F K) [] E0 (rdA K g) σ H Q:=by
 obtain ⟨H0,Hs,τ,fp,d,st,sm,e,q⟩:=h;obtain ⟨ds,e1,e2⟩:=bind_some e;obtain ⟨s,e2,e3⟩:=bind_some e2;refine ⟨H0,Hs,τ,fp,ds,st,sm,e1,λ vs Hs1 H1 g1 r1=>?_⟩;refine ⟨Hs1,ds,s,g1.sh,by rw [Zx]; exact r1,e2,λ v Hs2 H2 g2 rv=>?_⟩;obtain ⟨Hs3,g3,r3⟩:=rv.shr g2 e3;exact q v Hs3 H2 (g1.trans g3) r3
theorem DF (K:W.Frag) (h:rdO K (GQ F g) σ H Q):Bl (spF F K) [] E0 (rdA K g) σ H Q:=by
 obtain ⟨H0,Hs,τ,fp,d,st,sm,e,q⟩:=h;obtain ⟨ds,e1,e2⟩:=bind_some e;obtain ⟨s,e2,e3⟩:=bind_some e2;refine ⟨H0,Hs,τ,fp,ds,st,sm,e1,λ vs Hs1 H1 g1 r1=>?_⟩;refine ⟨Hs1,ds,s,g1.sh,by rw [Zx]; exact r1,e2,λ v Hs2 H2 g2 rv=>?_⟩
 cases s with
 | own d' =>
  have e':=Zj e3;subst e';obtain ⟨a,rfl,o,z⟩:=rv;exact q a Hs2 H2 (g1.trans g2) o (g1.hh.free z)
 | shr _=>cases e3
 | no=>cases e3
theorem Ct (Fo:gY X.prog X.w X.K X.mg X.base CX0 k f fd ps (spF F X.K)) (hr:dm k X.A) (hg:Gl X x) (hm:X.mg x=some (.ref f)) (hk:W.keepIn X.K (.ref f)=true) (hb:Binds X.K fd ps [])
 (ha:PAd X (e::es) g) (hdb:(x == ("__debug__":Str))=false:=by decide) (he:starEach (e::es) X.env=(false,eval e X.env)::starEach es X.env:=by rfl) (hpl:(backTo pos (starEach es X.env)).any (·.1)=false:=by rfl) :
 PEd X (.Call (.Name x p) (e::es) [] pos) (dFn F g):=(pI Fo hr hg hm hk hb .nil nP ha hdb he hpl).imp λ σ H Q h=>DH X.K h
theorem B4 (Fo:gY X.prog X.w X.K X.mg X.base CX0 k f fd ps (spF F X.K)) (hr:dm k X.A) (hg:Gl X x) (hm:X.mg x=some (.ref f)) (hk:W.keepIn X.K (.ref f)=true) (hb:Binds X.K fd ps [])
 (ha:PAd X (e::es) g) (hdb:(x == ("__debug__":Str))=false:=by decide) (he:starEach (e::es) X.env=(false,eval e X.env)::starEach es X.env:=by rfl) (hpl:(backTo pos (starEach es X.env)).any (·.1)=false:=by rfl) :
 PEo X (.Call (.Name x p) (e::es) [] pos) (GQ F g):=(pI Fo hr hg hm hk hb .nil nP ha hdb he hpl).imp λ σ H Q h=>DF X.K h
end
def tW (g:D->Option D):List D->Option (List D)
 | []=>some []
 | d::ds=>(g d).bind λ x=>(tW g ds).bind λ xs=>some (x::xs)
def ED:Option Sl->Sl
 | some (.shr d)=>.shr d
 | _=>.no
def cV (τ:List Sl) (cs:List (Str×Nat)):List Sl:=cs.map λ p=>ED τ[p.2]?
def xh (it:DI) (g:DE) (cs:List (Str×Nat)):DE:=λ τ=>(it τ).bind λ ds=>if ds.length<=100000 then (tW (λ d=>g (.shr d::cV τ cs)) ds).map .lst else none
theorem iB {K:W.Frag} {H0 Hs H:Hp} {σ:St} {τ:List Sl} {fp:List Addr} (st:StR K H0 Hs H σ τ fp):∀ cs:List (Str×Nat),StR K H0 Hs H (aL σ cs) (cV τ cs) []
 | []=>.nil
 | p :: cs=>by
  have ih:=iB st cs;show StR K H0 Hs H ((σ[p.2]?).join::aL σ cs) (ED τ[p.2]?::cV τ cs) []
  cases q:τ[p.2]? with
  | none=>exact .no ih
  | some sl =>
   cases sl with
   | no=>exact .no ih
   | own d=>exact .no ih
   | shr d =>
    obtain ⟨v,h1,h2⟩:=st.get q;rw [h1];exact .shr h2 ih
section
variable {X:Cx} {e:Expr} {es:List Expr} {pos:Pos}
theorem DR {K:W.Frag} {it:DI} {g:DE} {cs:List (Str×Nat)} {σ:St} {H:Hp} {Q:VK} (h:rdO K (xh it g cs) σ H Q):Ey (rdI K it) (rdE K g) cs σ H Q:=by
 obtain ⟨H0,Hs,τ,fp,d,st,sm,e,k⟩:=h;obtain ⟨ds,e1,e2⟩:=bind_some e;split at e2
 ·rename_i hl
  obtain ⟨full,e3,rfl⟩:=Zm e2;refine ⟨H0,Hs,τ,fp,ds,st,sm,e1,λ J Hs1 H1 g1 hJ=>?_⟩;refine ⟨λ i m ys H'=>m=ds.length - i/\i<=ds.length/\∃ Hs2 es rest,Ext Hs1 H1 Hs2 H'/\Rps K Hs2 ys es/\es.length=i/\tW (λ d=>g (.shr d::cV τ cs)) (ds.drop i)=some rest/\es++rest=full,⟨ds.length,by simp,Z7 _,Hs1,[],full,.refl g1.sh,.nil,rfl,by simpa using e3,rfl⟩,?_⟩
  rintro i m ys H2 ⟨rfl,hi,Hs2,es,rest,g2,ry,ley,e4,e5⟩
  obtain ⟨hgo,hstop⟩:=hJ Hs2 H2 g2.ss g2.sh;have ly:ys.length=i:=by rw [ry.length,ley]
  by_cases hlt:i < ds.length
  ·have ed:=Ys hlt
   rw [ed] at e4;obtain ⟨x,q1,q2⟩:=bind_some e4;obtain ⟨xs,q3,q4⟩:=bind_some q2;have eq:=Zj q4;subst eq;obtain ⟨go,yl⟩:=hgo i ds[i] (List.getElem?_eq_getElem hlt);refine .inr ⟨go,by rw [ly]; exact le5 (by omega),λ v H3 y=>?_⟩;obtain ⟨Hs3,g3,rv⟩:=yl v H3 y;have g13:=(g1.trans g2).trans g3;refine ⟨H0,Hs3,.shr ds[i]::cV τ cs,[],x,.shr rv (iB (st.ext g13) cs),g3.sh,q1,λ v4 Hs4 H4 g4 r4=>?_⟩;exact ⟨ds.length - (i+1),by omega,rfl,hlt,Hs4,es++[x],xs,(g2.trans g3).trans g4,((ry.same g3.ss).same g4.ss).append (.cons r4 .nil),by simp [ley],q3,by rw [<- e5]; simp⟩
  ·have e0:i=ds.length:=by omega
   subst e0;rw [Xs] at e4;have er:=Zj e4;subst er;rw [Zx] at e5;subst e5;refine .inl ⟨hstop _ (Zn _),by rw [ly]; exact sU hl,λ p hp=>?_⟩;have g12:=g1.trans g2;exact k p Hs2 _ ⟨g12.ss,g12.sh.trans (aJ hp _),g12.hh.trans (aJ hp _),g12.fr⟩ (.lst aw (g12.sh.free hp) ry) (g12.hh.free hp)
 · cases e2
theorem B3 (hc:X.calm=true) (O:cM X scope cl x cs) (hi:PId X (.Name x px) iter it)
 (he:∀ s H fp C,PEd (bJ X scope cl (x::cs.map (·.1)) s H fp C) elt g) (hs:∀ x,foldedSetIterable iter X.env x=pure x:=by intro _; rfl) :
 PEo X (.ListComp elt [⟨.Name x px,iter,[],0⟩] scope pos) (xh it g cs):=(Ci (te:=rdE X.K g) hc O hi he hs).imp λ σ H Q h=>DR h
end
def vM (C:Addr) (f:Str):D->Option D
 | .obj C' fs=>if C'=C then fs.lookup f else none
 | _=>none
theorem RpF.look {K:W.Frag} {H:Hp} {f:Str} {d:D}:∀ {fs:List (Str×V)} {ds:List (Str×D)},RpF K H fs ds->ds.lookup f=some d->∃ v,fs.lookup f=some v/\Rp K H v d
 | _,_,.nil,e=>by simp at e
 | _,_,@RpF.cons _ _ k x d' xs ds h r,e=>by
  rw [List.lookup_cons] at e ⊢
  by_cases q:f == k
  ·simp only [q] at e ⊢
   cases e;exact ⟨x,rfl,h⟩
  ·simp only [Bool.not_eq_true] at q
   simp only [q] at e ⊢;exact RpF.look r e
theorem RpF.F9 {K:W.Frag} {H:Hp} {f:Str}:∀ {fs:List (Str×V)} {ds:List (Str×D)},RpF K H fs ds->ds.lookup f=none->fs.lookup f=none
 | _,_,.nil,e=>rfl
 | _,_,@RpF.cons _ _ k x d' xs ds h r,e=>by
  rw [List.lookup_cons] at e ⊢
  by_cases q:f == k
  · simp only [q] at e; cases e
  ·simp only [Bool.not_eq_true] at q
   simp only [q] at e ⊢;exact RpF.F9 r e
theorem RpF.zip {K:W.Frag} {H:Hp}:∀ {ns:List Str} {vs:List V} {ds:List D},Rps K H vs ds->RpF K H (ns.zip vs) (ns.zip ds)
 | [],_,_,_=>by simp; exact .nil
 | _::_,_,_,.nil=>by simp; exact .nil
 | n::ns,_,_,.cons h r=>by
  rw [List.zip_cons_cons,List.zip_cons_cons];exact .cons h (RpF.zip r)
section
variable {X:Cx} {e o:Expr} {es:List Expr} {x m f:Str} {p pos apos:Pos} {k:Nat} {C fa:Addr} {fd:FuncData} {ps:List Str} {F:List D->Option Sl} {g:DE} {ga:DA}
theorem Ft (c:Cls X.K C) (n:cF X.K C f) (he:PEd X e g) (hb:attributeBase e f X.env (eval e X.env)=eval e X.env:=by rfl):PEd X (.Attribute e f pos) (dUn (vM C f) g) :=
 (Av he hb).imp λ σ H Q ⟨H0,Hs,τ,fp,d,st,sm,e,k⟩=>by
   obtain ⟨x,e1,e2⟩:=bind_some e;refine ⟨H0,Hs,τ,fp,x,st,sm,e1,λ v Hs' H' g' r=>?_⟩
   cases r with
   | @obj a C' dx fs ds h r =>
    simp only [vM] at e2;split at e2
    ·rename_i hc
     subst hc;obtain ⟨v,h1,h2⟩:=r.look e2;exact ⟨a,C',dx,fs,v,rfl,g'.sh _ _ h,c,n,h1,k v Hs' H' g' h2⟩
    · cases e2
   | _=>exact nn e2
def kH (C:Addr) (m:Str) (F:List D->Option Sl) (o:DE) (g:DA):DE:=λ τ=>(o τ).bind λ x=>(g τ).bind λ ds=>match x with
 | .obj C' fs=>if C'=C/\fs.lookup m=none then (F (x::ds)).bind slD else none
 | _=>none
theorem vV (K:W.Frag) (h:rdE K (kH C m F g ga) σ H Q):Bi C m (spF F K) [] E0 (rdE K g) (rdA K ga) σ H Q:=by
 obtain ⟨H0,Hs,τ,fp,d,st,sm,e,q⟩:=h;obtain ⟨x,e1,e2⟩:=bind_some e;obtain ⟨ds,e3,e4⟩:=bind_some e2;refine ⟨H0,Hs,τ,fp,x,st,sm,e1,λ v Hs1 H1 g1 r1=>?_⟩
 cases r1 with
 | @obj a C' dx fs dd h r =>
  simp only at e4;split at e4
  ·rename_i hc
   obtain ⟨hc1,hc2⟩:=hc;subst hc1;obtain ⟨s,e5,e6⟩:=bind_some e4;refine ⟨a,dx,fs,rfl,g1.sh _ _ h,r.F9 hc2,?_⟩;refine ⟨H0,Hs1,τ,fp,ds,st.ext g1,g1.sh,e3,λ vs Hs2 H2 g2 r2=>?_⟩;refine ⟨Hs2,_,s,g2.sh,.cons ((Rp.obj h r).same g2.ss) (by rw [Zx]; exact r2),e5,λ v Hs3 H3 g3 rv=>?_⟩;obtain ⟨Hs4,g4,r4⟩:=rv.shr g3 e6;exact q v Hs4 H3 ((g1.trans g2).trans g4) r4
  · cases e4
 | _=>exact nn e4
theorem Cm (he:PEd X o g) (c:Cls X.K C) (hm:A7 X.K C m fa) (Fo:gY X.prog X.w X.K X.mg X.base CX0 k fa fd ps (spF F X.K)) (hr:dm k X.A) (hb:Binds X.K fd ps []) (ha:PAd X (e::es) ga)
 (hst:starEach (e::es) X.env=(false,eval e X.env)::starEach es X.env:=by rfl) (hpl:(backTo pos (starEach es X.env)).any (·.1)=false:=by rfl)
 (ht:eval (.Call (.Attribute o m apos) (e::es) [] pos) X.env=(do
   let ov <- eval o X.env
   standAt apos.atName
   let (f,first) <- holding [ov] (getMethod ov m pl)
   callWith pos f first (backTo pos (starEach (e::es) X.env)) (backToKw pos (keywordEach [] X.env))):=by rfl) :
 PEd X (.Call (.Attribute o m apos) (e::es) [] pos) (kH C m F g ga):=(vq he c hm Fo hr hb .nil nP ha hst hpl ht).imp λ σ H Q h=>vV X.K h
theorem yO (he:PEd X o g) (c:Cls X.K C) (hm:A7 X.K C m fa) (Fo:gY X.prog X.w X.K X.mg X.base CX0 k fa fd ps (spF F X.K)) (hr:dm k X.A) (hb:Binds X.K fd ps [])
  (ht:eval (.Call (.Attribute o m apos) [] [] pos) X.env=(do
    let ov <- eval o X.env
    standAt apos.atName
    let (f,first) <- holding [ov] (getMethod ov m pl)
    callWith pos f first (backTo pos (starEach [] X.env)) (backToKw pos (keywordEach [] X.env))):=by rfl) :
  PEd X (.Call (.Attribute o m apos) [] [] pos) (kH C m F g cJ):=(yH he c hm Fo hr hb .nil nP ht).imp λ σ H Q h=>by
 have h':=vV X.K h;obtain ⟨H0,Hs,τ,fp,x,st,sm,e1,kk⟩:=h';refine ⟨H0,Hs,τ,fp,x,st,sm,e1,λ v Hs1 H1 g1 r1=>?_⟩;obtain ⟨a,dx,fs,h1,h2,h3,H0',Hs',τ',fp',ds,st',sm',e',k'⟩:=kk v Hs1 H1 g1 r1;have ed:=Zj e';subst ed;exact ⟨a,dx,fs,h1,h2,h3,k' [] Hs' H1 (.refl sm') .nil⟩
def uu (C:Addr) (ns:List Str):Sp:=λ vs H Q _=>∃ x ws dx,vs=.ref x::ws/\ws.length=ns.length/\H x=some (.ins C dx [])/\Q .non (upd H x (.ins C dx (ns.zip ws)))
def zT (C:Addr) (ns:List Str) (g:DA):DE:=λ τ=>(g τ).bind λ ds=>if ds.length=ns.length then some (.obj C (ns.zip ds)) else none
theorem xS {H:Hp} {p:Addr} {a b:HO}:upd (upd H p a) p b=upd H p b:=Bd
theorem Co (M:Mk X.K C fa) (Fo:gY X.prog X.w X.K X.mg X.base CX0 k fa fd ps (uu C ns)) (hr:dm (k+1) X.A) (hg:Gl X x) (hm:X.mg x=some (.ref C)) (hb:Binds X.K fd ps [])
  (ha:PAd X (e::es) ga) (hdb:(x == ("__debug__":Str))=false:=by decide) (he:starEach (e::es) X.env=(false,eval e X.env)::starEach es X.env:=by rfl) (hpl:(backTo pos (starEach es X.env)).any (·.1)=false:=by rfl) :
  PEd X (.Call (.Name x p) (e::es) [] pos) (zT C ns ga):=(vr M Fo hr hg hm hb .nil nP ha hdb he hpl).imp λ σ H Q ⟨H0,Hs,τ,fp,d,st,sm,e,q⟩=>by
 obtain ⟨ds,e1,e2⟩:=bind_some e;split at e2
 ·rename_i hl
  have ed:=Zj e2;subst ed;refine ⟨H0,Hs,τ,fp,ds,st,sm,e1,λ vs Hs1 H1 g1 r1 x dx hx hdx ne=>?_⟩;refine ⟨x,vs,dx,by rw [Zx],by rw [r1.length]; exact hl,aw,rfl,?_⟩;rw [xS];have g2:=Ext.new g1.sh hdx (.own x);have hx':upd H1 dx (.own x) x=none:=by rw [ak (Ne.symm ne)]; exact hx
  have g3:=Ext.new g2.sh hx' (.ins C dx (ns.zip vs));exact q _ _ _ ((g1.trans g2).trans g3) (.obj aw (RpF.zip ((r1.same g2.ss).same g3.ss)))
 · cases e2
end
def cO:List D->Option (List Int)
 | []=>some []
 | .int i::ds=>(cO ds).map (i::·)
 | _=>none
theorem ie:∀ {ds:List D} {ns:List Int},cO ds=some ns->ds=ns.map .int
 | [],ns,h=>by simp [cO] at h; subst h; rfl
 | .int i::ds,ns,h=>by
  obtain ⟨m,h1,rfl⟩:=Zm (show Option.map _ (cO ds)=some ns from h);rw [ie h1];rfl
 | .non::_,_,h=>by simp [cO] at h
 | .bl _::_,_,h=>by simp [cO] at h
 | .str _::_,_,h=>by simp [cO] at h
 | .ty _::_,_,h=>by simp [cO] at h
 | .tup _::_,_,h=>by simp [cO] at h
 | .lst _::_,_,h=>by simp [cO] at h
 | .fz _::_,_,h=>by simp [cO] at h
 | .dct _::_,_,h=>by simp [cO] at h
 | .obj _ _::_,_,h=>by simp [cO] at h
 | .cls _::_,_,h=>by simp [cO] at h
 | .dfz _::_,_,h=>by simp [cO] at h
theorem rq (ns:List Int):cO (ns.map .int)=some ns:=by
 induction ns with
 | nil=>rfl
 | cons n ns ih=>rw [Zg]; show Option.map _ (cO (ns.map .int))=_; rw [ih]; rfl
theorem Rps.fE {K:W.Frag} {H:Hp}:∀ {xs:List V} {ns:List Int},Rps K H xs (ns.map .int)->xs=ns.map V.int
 | _,[],.nil=>rfl
 | _,n::ns,.cons h r=>by
  cases h;rw [Rps.fE r];rfl
theorem fE:∀ {ns:List Int} {us:List Value},bN (ns.map V.int) us->∀ (i:Nat) (v:Value),us[i]?=some v->∃ t,v=.int ((ns[i]?).getD 0) t
 | [],_,.nil,i,v,e=>by simp at e
 | b::bs,_,.cons r t,0,v,e=>by
  simp at e;subst e;obtain ⟨tk,rfl⟩:=r;exact ⟨tk,by simp⟩
 | b::bs,_,.cons r t,i+1,v,e=>by
  obtain ⟨c,h1⟩:=fE t i v (by simpa using e);exact ⟨c,by simpa using h1⟩
theorem zJ {P:Program} {w:World} {K:W.Frag} {mg:Str->Option Value} {base:Heap} {f:Addr} {fd:FuncData} {ps:List Str} {k:Nat}:gY P w K mg base CX0 k f fd ps (spF (λ _=>none) K) :=
 ⟨λ _ _ _ _ ⟨_,_,_,_,_,e,_⟩=>(nomatch e),λ _ _ _ _ _ _ _ _ _ _ _ _ _ ⟨_,_,_,_,_,e,_⟩=>(nomatch e)⟩
section
variable {prog:Program} {w:World} {A:Around} {R:Result->Shared->Prop} {s:Shared}
theorem m3 (I:Nat->Shared->Prop)
  (turn:∀ n s,I n s->wpAny (model prog w) A (pyNext it) (λ r s₁=>match r with
    | none=>R (.ok .next) s₁
    | some v=>wpAny (model prog w) A (letOwnedTupleGo target it v) (λ _ s₁'=>wpAny (model prog w) A (assign target env v) (λ _ s₂=>wpAny (model prog w) A (isTrue cnd env (eval cnd env)) (λ ok s₂'=>if ok=true then wpAny (model prog w) A (eval elt env) (λ x s₃ =>
     wpAny (model prog w) A (call (.builtin "list.append") [acc,x]) (λ _ s₄=>∃ m,m < n/\I m s₄) (λ _ _=>False) s₃) (λ _ _=>False) s₂' else ∃ m,m < n/\I m s₂') (λ _ _=>False) s₂) (λ _ _=>False) s₁') (λ _ _=>False) s₁) (λ _ _=>False) s)
  (n:Nat) (h:I n s) :
  codeAny (model prog w) A (.compLoop (.ListComp elt [⟨target,iter,[cnd],0⟩] scope pos) 0 it acc env) R s:=by
 refine codeAny_loop rfl I (λ n s hI=>?_) n h;refine wpAny_noted ?_
 rw [compTurn_list];refine Zo (wpAny_standAt (Zo (Ym (turn n s hI) (λ r s₁ h₁=>?_) λ _ _ h'=>h'.elim)))
 cases r with
 | none=>exact Z1 h₁
 | some v =>
  refine Zo (Ym h₁ (λ _ s₁' h₁'=>?_) λ _ _ h'=>h'.elim);refine Zo (Ym h₁' (λ _ s₂ h₂=>?_) λ _ _ h'=>h'.elim);refine Zo (Ym (wpAny_tests_one h₂) (λ ok s₃ h₃=>?_) λ _ _ h'=>h'.elim)
  cases ok with
  | false =>
    rw [if_neg Zf] at h₃
    rw [if_neg Zf];exact Zo (Z1 (Z1 ⟨rfl,h₃⟩))
  | true =>
    rw [if_pos rfl] at h₃
    rw [if_pos rfl];exact Zo (Zo (Ym h₃ (λ x s₄ h₄=>Zo (Ym h₄ (λ _ s₅ h₅=>Z1 (Z1 ⟨rfl,h₅⟩)) λ _ _ h'=>h'.elim)) λ _ _ h'=>h'.elim))
end
def Bk (J:It) (tt:TT) (te:TE) (cs:List (Str×Nat)) (σ:St) (Q:VK) (H1:Hp):Prop:=∃ W:Nat->Nat->List V->Hp->Prop,(∃ m,W 0 m [] H1)/\∀ i m ys H',W i m ys H' ->
 (J.stop i H'/\ys.length<=sizeLine/\∀ p,H' p=none->Q (.ref p) (upd H' p (.lst ys))) \/
 (J.go i H'/\ys.length < sizeLine/\∀ v H2,J.yld i H' v H2->tt (some v::aL σ cs) H2 λ b H3=>if b=true then te (some v::aL σ cs) H3 λ y H4=>∃ m',m' < m/\W (i+1) m' (ys++[y]) H4 else ∃ m',m' < m/\W (i+1) m' ys H3)
def uk (wi:TI) (tt:TT) (te:TE) (cs:List (Str×Nat)):TE:=λ σ H Q=>wi σ H λ J H1=>Bk J tt te cs σ Q H1
section
variable {X:Cx}
theorem kJ {elt iter:Expr} {x:Str} {px pos:Pos} {scope:Scope} {cl:List (Str×Addr)} {cs:List (Str×Nat)} {te:TE} {tt:TT} {cnd:Expr} {pins:List (Addr×Obj)} {σ:St} {H:Hp} {s:Shared} {Q:VK} {it:Addr} {fp:List Addr} {tn:Nat->Heap->Prop} {J:It}
  {RR:Value->Addr->Result->Shared->Prop} {E:Value->Shared->Prop} (hc:X.calm=true) (O:cM X scope cl x cs) (hcd:∀ s H fp C,PT (bJ X scope cl (x::cs.map (·.1)) s H fp C) cnd tt) (he:∀ s H fp C,PE (bJ X scope cl (x::cs.map (·.1)) s H fp C) elt te)
  (I:Inv X pins σ H s) (T:Turn X.prog X.w X.K (.Name x px) J fp it tn) (st:tn 0 s.heap) (f2:∀ b ∈ fp,tU X pins H b)
  (h : ∃ W:Nat->Nat->List V->Hp->Prop,(∃ m,W 0 m [] H)/\∀ i m ys H',W i m ys H' ->
    (J.stop i H'/\ys.length<=sizeLine/\∀ p,H' p=none->Q (.ref p) (upd H' p (.lst ys))) \/
    (J.go i H'/\ys.length < sizeLine/\∀ v H2,J.yld i H' v H2->tt (some v::aL σ cs) H2 λ b H3=>if b=true then te (some v::aL σ cs) H3 λ y H4=>∃ m',m' < m/\W (i+1) m' (ys++[y]) H4 else ∃ m',m' < m/\W (i+1) m' ys H3))
  (hRR:∀ D C s' H' ys,s.heap.objs.size<=D->s.heap.objs.size<=C->D≠C->(∃ m,s'.heap.Ns C m)->Inv X pins σ (upd H' D (.lst ys)) s'->H' C=none->Q (.ref D) (upd H' D (.lst ys))->RR (.ref D) C (.ok .next) s') :
  wpAny (model X.prog X.w) X.A (newList []) (λ acc s₃=>wpAny (model X.prog X.w) X.A (newFunctionEnv scope X.env.globals cl [] X.env.qual none .none (some X.env)) (λ cenv s₄ =>
    codeAny (model X.prog X.w) X.A (.compStart (.ListComp elt [⟨.Name x px,iter,[cnd],0⟩] scope pos) 0 (.ref it) acc { cenv with scope:=relabel scope X.env }) (RR acc cenv.locals) s₄) E s₃) E s:=by
 obtain ⟨W,⟨m0,w0⟩,turn⟩:=h;refine wpAny_newObj_type (wpAny_newFunctionEnv O.qY (by intro y hy; simp at hy) (λ h₁ hns₁ hsb₁=>?_) O.kind);generalize hH2:s.heap.push { cls:=.type "list",dict:=none,data:=.seq ([]:List Value).toArray }=H2 at hns₁ hsb₁ ⊢
 have hC:H2.objs.size=s.heap.objs.size+1:=by rw [<- hH2,Xe]
 have hDC:s.heap.objs.size≠H2.objs.size:=by rw [hC]; exact Zy (Xf _)
 have hCle:s.heap.objs.size<=H2.objs.size:=by rw [hC]; exact Nat.le_succ _
 have neC:∀ b,b < s.heap.objs.size->b≠H2.objs.size:=λ b hb=>by rw [hC]; exact Zy (Yv hb)
 have old:∀ b o,s.heap.get? b=some o->h₁.get? b=some o:=λ b o e=>hsb₁.extBut b o (neC b (Zs e)) (Heap.get?_push_of_some _ (hH2 ▸ Heap.get?_push_of_some _ e))
 have hacc:=hsb₁.extBut _ _ hDC (Heap.get?_push_of_some _ (hH2 ▸ Heap.get?_push_size _ rfl))
 have there:∀ b ∈ fp,b < s.heap.objs.size:=λ b hb=>by
  obtain ⟨o,e,_⟩:=T.obj _ _ st b hb;exact Zs e
 have hns:h₁.Ns H2.objs.size λ _=>none:=by
  have e:(λ x=>List.lookup x ([]:List (Str×Value)).reverse)=λ _=>none:=by funext y; rfl
  rw [e] at hns₁
  exact hns₁
 generalize hD:s.heap.objs.size=D at hDC hCle hacc;generalize hCC:H2.objs.size=C at hDC hCle hns ⊢;have FD:=I.xN (b:=D) (by rw [<- hD]; exact Zn _) (I.hok.fresh (by rw [<- hD]; exact Zn _));have nfpD:∀ b ∈ fp,b≠D:=λ b hb=>by rw [<- hD]; exact Zy (there b hb)
 have nfpC:∀ b ∈ fp,b≠C:=λ b hb=>Zy (Z3 (there b hb) (by rw [hD]; exact hCle))
 have st1:=T.keep _ _ _ st λ b _ o e=>old b o e
 have I1:Inv (bJ X scope cl (x::cs.map (·.1)) s H fp C) [] (none::aL σ cs) H { s with heap:=h₁,toks:=s.toks+([]:List (Str×Value)).length } :=
  ma O I f2 there (by rw [hD]; exact hCle) old hns
 generalize hY:bJ X scope cl (x::cs.map (·.1)) s H fp C=Y at I1
 have pgx:PG Y (.Name x px) (ox 0):=by
  subst hY;exact jN O.nd rfl (.inl (Xq O.own)) (.inr (Xq O.own))
 have peY:PE Y elt te:=by subst hY; exact he _ _ _ _
 have ptY:PT Y cnd tt:=by subst hY; exact hcd _ _ _ _
 have Yx:Y.prog=X.prog/\Y.w=X.w/\Y.K=X.K/\Y.A=X.A/\Y.env=compEnvC scope cl C X.env/\Y.calm=X.calm/\Y.xe=(λ _ _=>False)/\Y.pn=[]/\Y.ex=fp/\Y.fs=frs X.stack/\Y.s₀=s/\Y.H₀=H:=by subst hY; exact ⟨rfl,rfl,rfl,rfl,rfl,rfl,rfl,rfl,rfl,rfl,rfl,rfl⟩
 obtain ⟨y1,y2,y3,y4,y5,y6,y7,y8,y9,y10,y11,y12⟩:=Yx;have nstk:∀ b,b≠X.env.locals->b ∉ X.fs->b ∉ Y.fs:=λ b h1 h2 z=>by rw [y10] at z; exact (Zl.mp (I.nF b z)).elim h1 h2
 have yl:Y.env.locals=C:=by rw [y5]; rfl
 have yc:∀ z c,Y.env.cells.lookup z=some c->X.env.cells.lookup z=some c:=λ z c e=>by rw [y5] at e; exact O.sub z c e
 have stat:∀ {ps:List (Addr×Obj)} {H':Hp},(∀ b ∈ fp,H' b=none)->(∀ p ∈ ps,p.1=D)->∀ b ∈ fp,tU Y ps H' b:=λ {ps H'} hn hp b hb =>
  ⟨hn b hb,by rw [yl]; exact nfpC b hb,nstk b (f2 b hb).2.1 (f2 b hb).2.2.1,.inl (by rw [y9]; exact hb),λ z c e=>(f2 b hb).2.2.2.2.1 z c (yc z c e),λ p hq=>by
    rw [y8,List.nil_append] at hq;rw [hp p hq]
    exact Ne.symm (nfpD b hb)⟩
 have pinD:∀ {σ':St} {H':Hp} {s':Shared} {ob:Obj},Inv Y [] σ' H' s'->H' D=none->s'.heap.get? D=some ob->(∀ v,ob.data≠.cell v)->Inv Y [(D,ob)] σ' H' s':=λ {σ' H' s' ob} I' hn e hd =>
  I'.gG λ p hp=>by
    have e1:p=(D,ob):=by simpa using hp
    subst e1;exact ⟨e,hn,by rw [yl]; exact hDC,nstk D FD.2.1 FD.2.2.1,hd⟩
 have loop:∀ s₃:Shared,s₃={ s with heap:=h₁,toks:=s.toks+([]:List (Str×Value)).length } ->
    codeAny (model X.prog X.w) X.A (.compLoop (.ListComp elt [⟨.Name x px,iter,[cnd],0⟩] scope pos) 0 (.ref it) (.ref D) (compEnvC scope cl C X.env)) (RR (.ref D) C) s₃:=by
  rintro s₃ rfl
  refine m3 (λ n s'=>∃ i o H' ys its k,Inv Y [] (o::aL σ cs) H' s'/\tn i s'.heap/\(∀ b ∈ fp,H' b=none)/\H' D=none/\s'.heap.get? D=some { cls:=.type "list",data:=.seq (its:List Value).toArray k }/\bN ys its/\W i n ys H') ?_ m0
    ⟨0,none,H,[],[],0,I1,st1,λ b hb=>(f2 b hb).1,FD.1,hacc,.nil,w0⟩
  rintro n s3 ⟨i,o,H3,ys,its,k,I3,st3,fr3,frD,e3,vs3,w3⟩
  have I3p:=pinD I3 frD e3 (by intro v z; cases z)
  have onlyD:∀ p ∈ [(D,({ cls:=.type "list",data:=.seq its.toArray k }:Obj))],p.1=D:=λ p hp=>by
    have e1:=Zt.mp hp;rw [e1]
  rcases turn i n ys H3 w3 with ⟨stop,hz,q⟩ | ⟨go,hz,step⟩
  · have dn:=T.done Y y1 y2 y3 (by rw [y6]; exact hc) i _ s3 (o::aL σ cs) H3 (λ _ _=>False) I3p (stat fr3 onlyD) st3 stop
    rw [y4] at dn;refine thn dn λ r s4 ⟨hr,I4⟩=>?_
    subst hr;obtain ⟨e4,_⟩:=I4.pin (D,_) (Zc _ (Zt.mpr rfl));have b4:=I4.base;rw [y9,y10,y11,y12] at b4;have hk4:=I4.hok;rw [y1,y2] at hk4;have hCn:H3 C=none:=by have:=I4.free; rw [yl] at this; exact this
    refine hRR D C s4 H3 ys (by rw [<- hD]; exact Zn _) (by rw [hD]; exact hCle) hDC (by obtain ⟨m,hm,_⟩:=I4.loc; rw [yl] at hm; exact ⟨m,hm⟩) ?_ hCn (q D frD);have neD:∀ b o,s.heap.get? b=some o->b≠D:=λ b o e=>by rw [<- hD]; exact Zy (Zs e)
    have neDH:∀ b u,H b=some u->b≠D:=λ b u e=>by rw [<- hD]; exact Zy (I.hok.lt e)
    refine I.GV (by have:=I4.os; rw [y11] at this; exact this) ⟨b4.keep,b4.slot,λ b o e n hx=>?_,b4.there,λ b xs e=>?_,λ b o u e=>?_,λ b ps e=>?_⟩ (λ b u e=>?_) I4.bare λ b hb=>?_
    · rw [ak (neD b o e)]; exact b4.free b o e n hx
    · rw [ak (neDH b _ e)]; exact b4.ud b xs e
    · rw [ak (neDH b _ e)]; exact b4.tY b o u e
    · rw [ak (neDH b _ e)]; exact b4.uj b ps e
    ·have t1:∀ c u,H3 c=some u->upd H3 D (.lst ys) c=some u:=λ c u z=>by
      rw [ak (λ zz=>by rw [zz,frD] at z; cases z)];exact z
     by_cases hb:b=D
     ·subst hb
      rw [aw] at e;cases e;exact ⟨hz,its,k,vs3,e4⟩
     ·rw [ak hb] at e
      exact (hk4 b u e).qA (λ _ _ _ z=>z) (λ c z=>t1 c _ z) λ c xs z=>t1 c _ z
    · exact ⟨(f2 b hb).2.2.2.1,(f2 b hb).2.1,(f2 b hb).2.2.2.2.1,(f2 b hb).2.2.2.2.2⟩
  · have im:=T.item Y y1 y2 y3 (by rw [y6]; exact hc) i _ s3 (o::aL σ cs) H3 (λ _ _=>False) I3p (stat fr3 onlyD) st3 go
    rw [y4] at im;refine thn im λ r s4 ⟨u,hr,h4⟩=>?_
    subst hr;refine thn h4 λ _ s5 ⟨v,H5,I5,r5,y5',st5,fr5⟩=>?_
    have I5':=I5.pinned (stat fr5 onlyD) (T.obj _ _ st5);have as:=pgx _ s5 (o::aL σ cs) H5 v u _ I5' r5 (show ox 0 v (o::aL σ cs) H5 (λ σ' H'=>σ'=some v::aL σ cs/\H'=H5) from ⟨rfl,rfl⟩);rw [y1,y2,y4,y5,y7] at as;refine thn as λ _ s6 ⟨σ6,H6,I6,e6,e6'⟩=>?_
    subst e6 e6';have ts:=ptY _ s6 _ H6 _ I6 (step v H6 y5');rw [y1,y2,y4,y5,y7] at ts;refine thn ts λ bb s7 ⟨H7,I7,q7⟩=>?_
    have fpk:∀ b ∈ fp,∀ o,s5.heap.get? b=some o->s7.heap.get? b=some o/\H7 b=none:=λ b hb o e=>by
     obtain ⟨z1,z2,_⟩:=I7.pin (b,o) (Zc _ (Zc _ (eG hb e)));exact ⟨z1,z2⟩
    cases bb with
    | false =>
     obtain ⟨m',hm',w7⟩:=(by rw [if_neg Zf] at q7; exact q7)
     rw [if_neg Zf];obtain ⟨e7,n7,_⟩:=I7.pin (D,_) (Zc _ (Zp _ (Zt.mpr rfl)));have I7n:Inv Y [] (some v::aL σ cs) H7 s7:=I7.gG λ p hp=>absurd hp (by simp)
     refine ⟨m',hm',i+1,some v,H7,ys,its,k,I7n,T.keep _ _ _ st5 λ b hb o e=>(fpk b hb o e).1,λ b hb=>?_,n7,e7,vs3,w7⟩;obtain ⟨o',e',_⟩:=T.obj _ _ st5 b hb;exact (fpk b hb o' e').2
    | true =>
    rw [if_pos rfl];have q7':=q7;rw [if_pos rfl] at q7';have el:=peY _ s7 _ H7 _ I7 q7';rw [y1,y2,y4,y5,y7] at el;refine thn el λ u8 s8 ⟨y8',H8,I8,r8,m',hm',w8⟩=>?_
    obtain ⟨e8,n8,_⟩:=I8.pin (D,_) (Zc _ (Zp _ (Zt.mpr rfl)));have hl3:=vs3.length;refine Xy F.slot_list_append ⟨_,e8,rfl⟩ F.entry_list_append (F.args_list_append_2 _ _) (PySem.list_append D its.toArray k u8 (by rw [Zr]; omega)) ⟨e8,?_⟩;obtain ⟨k',up⟩:∃ k',(s8.heap.update D (Obj.mapSeq (·.push u8))).get? D=some { cls:=.type "list",data:=.seq (its.toArray.push u8) k' }:=⟨_,PySem.IsL.update e8 (·.push u8)⟩
    have fpk8:∀ b ∈ fp,∀ o,s5.heap.get? b=some o->s8.heap.get? b=some o/\H8 b=none:=λ b hb o e=>by
     obtain ⟨z1,z2,_⟩:=I8.pin (b,o) (Zc _ (Zc _ (eG hb e)));exact ⟨z1,z2⟩
    have I8n:Inv Y [] (some v::aL σ cs) H8 s8:=I8.gG λ p hp=>absurd hp (by simp)
    refine ⟨m',hm',i+1,some v,H8,ys++[y8'],its++[u8],k',?_,?_,?_,n8,?_,vs3.append (.cons r8 .nil),w8⟩
    ·refine I8n.turned (λ b o hb e=>(Heap.get?_update_other s8.heap (Obj.mapSeq (·.push u8)) (Ne.symm hb)).trans e) n8 (by rw [yl]; exact hDC) (.inr (by rw [y11,<- hD]; exact Zn _)) (λ z c e=>FD.2.2.2.2.1 z c (yc z c e)) λ p hp=>?_
     rw [y8] at hp;exact absurd hp (by simp)
    ·refine T.keep _ _ _ st5 λ b hb o e=>?_
     exact (Heap.get?_update_other s8.heap (Obj.mapSeq (·.push u8)) (Ne.symm (nfpD b hb))).trans (fpk8 b hb o e).1
    ·intro b hb
     obtain ⟨o',e',_⟩:=T.obj _ _ st5 b hb;exact (fpk8 b hb o' e').2
    ·rw [List.push_toArray] at up
     exact up
 exact codeAny_compStart_list (loop _ rfl) (T.self _ 0 _ _ _ st1 (loop _ rfl))
theorem yM {elt iter:Expr} {x:Str} {px pos:Pos} {scope:Scope} {cl:List (Str×Addr)} {cs:List (Str×Nat)} {wi:TI} {te:TE} {tt:TT} {cnd:Expr} (hc:X.calm=true) (O:cM X scope cl x cs) (hi:PI X (.Name x px) iter wi)
  (hcd:∀ s H fp C,PT (bJ X scope cl (x::cs.map (·.1)) s H fp C) cnd tt) (he:∀ s H fp C,PE (bJ X scope cl (x::cs.map (·.1)) s H fp C) elt te) (hs:∀ x,foldedSetIterable iter X.env x=pure x:=by intro _; rfl) :
  PE X (.ListComp elt [⟨.Name x px,iter,[cnd],0⟩] scope pos) (uk wi tt te cs):=by
 intro pins s σ H Q I h;rw [eval_ListComp];refine wpAny_comprehension_free rfl hs O.GS O.kind O.names (thn (hi pins s σ H _ I h) λ v s1 h1=>thn h1 λ itv s2 h2=>?_);obtain ⟨it,fp,tn,J,H2,rfl,I2,T,st2,f2,hw⟩:=h2;refine kJ hc O hcd he I2 T st2 f2 hw λ D C s' H' ys hD hC hDC ⟨m,hm⟩ I' hn q=>?_
 refine ⟨m,hm,λ h' hs'=>?_⟩;have hn':upd H' D (.lst ys) C=none:=by rw [ak (Ne.symm hDC)]; exact hn
 have FC:=I2.xN hC hn';exact ⟨.ref D,upd H' D (.lst ys),I'.turned (λ b o hb e=>(hs'.2 b hb).trans e) hn' FC.2.1 FC.2.2.2.1 FC.2.2.2.2.1 FC.2.2.2.2.2,rfl,q⟩
theorem qL {elt iter:Expr} {x y:Str} {px py pos spos:Pos} {i:Nat} {scope:Scope} {cl:List (Str×Addr)} {cs:List (Str×Nat)} {wi:TI} {te:TE} {tt:TT} {cnd:Expr} (hN:X.N.Nodup) (hy:X.N[i]?=some y) (hx:Loc X.env.scope y)
  (hc:X.calm=true) (O:cM X scope cl x cs) (hi:PI X (.Name x px) iter wi)
  (hcd:∀ s H fp C,PT (bJ X scope cl (x::cs.map (·.1)) s H fp C) cnd tt) (he:∀ s H fp C,PE (bJ X scope cl (x::cs.map (·.1)) s H fp C) elt te) (hs:∀ x,foldedSetIterable iter X.env x=pure x:=by intro _; rfl)
  (hsw:swapsWith (.ListComp elt [⟨.Name x px,iter,[cnd],0⟩] scope pos) (some (.Name y py)) spos.line X.env=pure true:=by rfl)
  (hf:X.fn y=true\/X.env.scope.names.lookup y=some .local:=by first | exact .inl rfl | exact .inr rfl | assumption) :
  PS X (.Assign [.Name y py] (.ListComp elt [⟨.Name x px,iter,[cnd],0⟩] scope pos) spos) (LP (uk wi tt te cs) (ox i)):=by
 intro pins s σ H Dd I h;rw [exec_Assign_Name_used _ _ _ _ hsw];refine Zo (wpAny_standAt (Zo ?_))
 refine Zo (Ym (wpAny_comprehension_free rfl hs O.GS O.kind O.names (thn (hi pins s σ H _ I h) λ v s1 h1=>thn h1 λ itv s2 h2=>?_))
  (λ _ s' hq=>Z1 (Z1 hq)) λ _ _ e=>e)
 obtain ⟨it,fp,tn,J,H2,rfl,I2,T,st2,f2,hw⟩:=h2;refine kJ (Q:=λ v H1=>ox i v σ H1 Dd.nx) hc O hcd he I2 T st2 f2 hw λ D C s' H' ys hD hC hDC ⟨m,hm⟩ I' hn q=>?_
 have hn':upd H' D (.lst ys) C=none:=by rw [ak (Ne.symm hDC)]; exact hn
 have FC:=I2.xN hC hn';refine wpAny_assign_Name (nE I' hN hy hx (v:=.ref D) rfl (λ s'' I'' ⟨a,hsb,ha⟩=>?_) hf)
 have na:C≠a:=by
  rcases ha with ha | ha
  · rw [ha]; exact FC.2.1
  · exact Ne.symm (FC.2.2.2.2.1 y a ha)
 refine ⟨m,hm.sameBut hsb na,λ h' hs'=>?_⟩;exact ⟨σ.set i (some (.ref D)),upd H' D (.lst ys),I''.turned (λ b o hb e=>(hs'.2 b hb).trans e) hn' FC.2.1 FC.2.2.2.1 FC.2.2.2.2.1 FC.2.2.2.2.2,q⟩
end
def pW (c:D->Option Bool) (g:D->Option D):List D->Option (List D)
 | []=>some []
 | d::ds=>(c d).bind λ b=>if b=true then (g d).bind λ x=>(pW c g ds).bind λ xs=>some (x::xs) else pW c g ds
def iq (it:DI) (c:DT) (g:DE) (cs:List (Str×Nat)):DE:=λ τ=>(it τ).bind λ ds=>if ds.length<=100000 then (pW (λ d=>c (.shr d::cV τ cs)) (λ d=>g (.shr d::cV τ cs)) ds).map .lst else none
section
variable {X:Cx} {e:Expr} {es:List Expr} {pos:Pos}
theorem rQ {K:W.Frag} {it:DI} {c:DT} {g:DE} {cs:List (Str×Nat)} {σ:St} {H:Hp} {Q:VK} (h:rdO K (iq it c g cs) σ H Q):uk (rdI K it) (rdT K c) (rdE K g) cs σ H Q:=by
 obtain ⟨H0,Hs,τ,fp,d,st,sm,e,k⟩:=h;obtain ⟨ds,e1,e2⟩:=bind_some e;split at e2
 ·rename_i hl
  obtain ⟨full,e3,rfl⟩:=Zm e2;refine ⟨H0,Hs,τ,fp,ds,st,sm,e1,λ J Hs1 H1 g1 hJ=>?_⟩;refine ⟨λ i m ys H'=>m=ds.length - i/\i<=ds.length/\∃ Hs2 es rest,Ext Hs1 H1 Hs2 H'/\Rps K Hs2 ys es/\es.length<=i/\pW (λ d=>c (.shr d::cV τ cs)) (λ d=>g (.shr d::cV τ cs)) (ds.drop i)=some rest/\es++rest=full,⟨ds.length,by simp,Z7 _,Hs1,[],full,.refl g1.sh,.nil,Zn _,by simpa using e3,rfl⟩,?_⟩
  rintro i m ys H2 ⟨rfl,hi,Hs2,es,rest,g2,ry,ley,e4,e5⟩
  obtain ⟨hgo,hstop⟩:=hJ Hs2 H2 g2.ss g2.sh;have ly:ys.length<=i:=by rw [ry.length]; exact ley
  by_cases hlt:i < ds.length
  ·have ed:=Ys hlt
   rw [ed] at e4;obtain ⟨b,q0,q0'⟩:=bind_some e4;obtain ⟨go,yl⟩:=hgo i ds[i] (List.getElem?_eq_getElem hlt);refine .inr ⟨go,le5 (by omega),λ v H3 y=>?_⟩;obtain ⟨Hs3,g3,rv⟩:=yl v H3 y;have g13:=(g1.trans g2).trans g3;refine ⟨H0,Hs3,.shr ds[i]::cV τ cs,[],b,.shr rv (iB (st.ext g13) cs),g3.sh,q0,λ Hs4 H4 g4=>?_⟩;have g14:=g13.trans g4
   cases b with
   | true =>
    refine Iw ?_
    obtain ⟨x,q1,q2⟩:=bind_some (q0');obtain ⟨xs,q3,q4⟩:=bind_some q2;have eq:=Zj q4;subst eq;refine ⟨H0,Hs4,.shr ds[i]::cV τ cs,[],x,.shr (rv.same g4.ss) (iB (st.ext g14) cs),g4.sh,q1,λ v5 Hs5 H5 g5 r5=>?_⟩;exact ⟨ds.length - (i+1),by omega,rfl,hlt,Hs5,es++[x],xs,((g2.trans g3).trans g4).trans g5,(((ry.same g3.ss).same g4.ss).same g5.ss).append (.cons r5 .nil),by simp; omega,q3,by rw [<- e5]; simp⟩
   | false =>
    refine Gn ?_
    have q1:=q0';exact ⟨ds.length - (i+1),by omega,rfl,hlt,Hs4,es,rest,(g2.trans g3).trans g4,(ry.same g3.ss).same g4.ss,by omega,q1,e5⟩
  ·have e0:i=ds.length:=by omega
   subst e0;rw [Xs] at e4;have er:=Zj e4;subst er;rw [Zx] at e5;subst e5;refine .inl ⟨hstop _ (Zn _),sU (by omega),λ p hp=>?_⟩;have g12:=g1.trans g2;exact k p Hs2 _ ⟨g12.ss,g12.sh.trans (aJ hp _),g12.hh.trans (aJ hp _),g12.fr⟩ (.lst aw (g12.sh.free hp) ry) (g12.hh.free hp)
 · cases e2
theorem yD (hc:X.calm=true) (O:cM X scope cl x cs) (hi:PId X (.Name x px) iter it)
 (hcd:∀ s H fp C,PTd (bJ X scope cl (x::cs.map (·.1)) s H fp C) cnd c) (he:∀ s H fp C,PEd (bJ X scope cl (x::cs.map (·.1)) s H fp C) elt g) (hs:∀ x,foldedSetIterable iter X.env x=pure x:=by intro _; rfl) :
 PEo X (.ListComp elt [⟨.Name x px,iter,[cnd],0⟩] scope pos) (iq it c g cs):=(yM (te:=rdE X.K g) (tt:=rdT X.K c) hc O hi hcd he hs).imp λ σ H Q h=>rQ h
end
def iK:D->Option Key
 | .int i=>some (.inl i)
 | .str x=>some (.inr x)
 | _=>none
def gr (kvs:List (Key×D)) (k:Key):Option D:=(kvs.find? λ kv=>decide (kv.1=k)).map (·.2)
def putD (kvs:List (Key×D)) (k:Key) (v:D):List (Key×D):=if kvs.any (λ kv=>decide (kv.1=k)) then kvs.map (λ kv=>if kv.1=k then (kv.1,v) else kv) else kvs++[(k,v)]
theorem je {K:W.Frag} {H:Hp} {v:V} {d:D} {k:Key} (r:Rp K H v d) (e:iK d=some k):v=kV k:=by
 cases r <;> simp [iK] at e <;> subst e <;> rfl
theorem RpK.val {K:W.Frag} {H:Hp} {k:Key}:∀ {kvs:List (Key×V)} {ds:List (Key×D)},RpK K H kvs ds->(∀ d,gr ds k=some d->∃ v,dN kvs k=some v/\Rp K H v d)/\(gr ds k=none->dN kvs k=none)
 | _,_,.nil=>⟨λ d e=>by simp [gr] at e,λ _=>rfl⟩
 | _,_,@RpK.cons _ _ j x d xs ds h r=>by
  obtain ⟨i1,i2⟩:=RpK.val (k:=k) r
  by_cases q:j=k
  ·subst q
   refine ⟨λ d' e=>?_,λ e=>?_⟩
   ·have:d=d':=by simpa [gr] using e
    subst this;exact ⟨x,by simp [dN],h⟩
   · simp [gr] at e
  ·have e1:gr ((j,d)::ds) k=gr ds k:=by simp [gr,q]
   have e2:dN ((j,x)::xs) k=dN xs k:=by simp [dN,q]
   rw [e1,e2];exact ⟨i1,i2⟩
theorem RpK.any {K:W.Frag} {H:Hp} {k:Key}:∀ {kvs:List (Key×V)} {ds:List (Key×D)},RpK K H kvs ds->kvs.any (λ kv=>decide (kv.1=k))=ds.any (λ kv=>decide (kv.1=k))
 | _,_,.nil=>rfl
 | _,_,.cons h r=>by simp only [Yz,RpK.any r]
theorem RpK.Br {K:W.Frag} {H:Hp} {k:Key} {v:V} {d:D} (hv:Rp K H v d):∀ {kvs:List (Key×V)} {ds:List (Key×D)},RpK K H kvs ds->RpK K H (kvs.map λ kv=>if kv.1=k then (kv.1,v) else kv) (ds.map λ kv=>if kv.1=k then (kv.1,d) else kv)
 | _,_,.nil=>.nil
 | _,_,@RpK.cons _ _ j x d' xs ds h r=>by
  simp only [Zg]
  by_cases q:j=k
  · rw [if_pos q,if_pos q]; exact .cons hv (RpK.Br hv r)
  · rw [if_neg q,if_neg q]; exact .cons h (RpK.Br hv r)
theorem RpK.snoc {K:W.Frag} {H:Hp} {k:Key} {v:V} {d:D} (hv:Rp K H v d):∀ {kvs:List (Key×V)} {ds:List (Key×D)},RpK K H kvs ds->RpK K H (kvs++[(k,v)]) (ds++[(k,d)])
 | _,_,.nil=>.cons hv .nil
 | _,_,.cons h r=>.cons h (RpK.snoc hv r)
theorem RpK.put {K:W.Frag} {H:Hp} {k:Key} {v:V} {d:D} {kvs:List (Key×V)} {ds:List (Key×D)} (h:RpK K H kvs ds) (hv:Rp K H v d):RpK K H (putK kvs k v) (putD ds k d):=by
 unfold putK putD;rw [h.any];split
 · exact h.Br hv
 · exact h.snoc hv
theorem RpK.length {K:W.Frag} {H:Hp}:∀ {kvs:List (Key×V)} {ds:List (Key×D)},RpK K H kvs ds->kvs.length=ds.length
 | _,_,.nil=>rfl
 | _,_,.cons _ r=>Yn (·+1) r.length
def eE:D->D->Option D
 | .dct kvs,y=>(iK y).bind λ k=>gr kvs k
 | .dfz kvs,y=>(iK y).bind λ k=>gr kvs k
 | _,_=>none
def CF:D->D->Option D
 | y,.dct kvs=>(iK y).map λ k=>.bl (gr kvs k).isSome
 | y,.dfz kvs=>(iK y).map λ k=>.bl (gr kvs k).isSome
 | _,_=>none
def eW:D->D->Option D
 | y,.dct kvs=>(iK y).map λ k=>.bl (!(gr kvs k).isSome)
 | y,.dfz kvs=>(iK y).map λ k=>.bl (!(gr kvs k).isSome)
 | _,_=>none
section
variable {X:Cx} {o i e value:Expr} {pos pos' apos cpos:Pos} {f g h:DE}
theorem Cs (hu:X.A.units+64 < cLine) (ho:PEd X o f) (hi:PEd X i g) (hs:Ec i):PEd X (.Subscript o i pos) (dOp eE f g) :=
 (vv (by omega) ho hi hs).imp λ σ H Q h=>by
   have h':=lS X.K h;obtain ⟨H0,Hs,τ,fp,x,st,sm,e1,kk⟩:=h';refine ⟨H0,Hs,τ,fp,x,st,sm,e1,λ v Hs1 H1 g1 r1=>?_⟩;obtain ⟨H0',Hs',τ',fp',y,st',sm',e2,kk2⟩:=kk v Hs1 H1 g1 r1;refine ⟨H0',Hs',τ',fp',y,st',sm',e2,λ u Hs2 H2 g2 r2=>?_⟩;obtain ⟨Hs3,dx,dy,d,sm3,rx,ry,eo,k⟩:=kk2 u Hs2 H2 g2 r2
   cases rx with
   | @dct a kvs ds hH rk =>
    obtain ⟨key,ek,ev⟩:=bind_some (eo);obtain ⟨w,hw,rw'⟩:=(rk.val).1 d ev;have:=je ry ek;subst this;exact ⟨a,w,rfl,by rw [<- hw]; exact qu.k (sm3 _ _ hH),k w Hs3 H2 (.refl sm3) rw'⟩
   | @dfz a kvs ds hH rk =>
    obtain ⟨key,ek,ev⟩:=bind_some (show (iK dy).bind _=some d from eo);obtain ⟨w,hw,rw'⟩:=(rk.val (k:=key)).1 d ev;have:=je ry ek;subst this;refine ⟨a,w,rfl,.inl ⟨_,key,hH.elim (λ z=>.inl (sm3 _ _ z)) (λ ⟨o,z⟩=>.inr ⟨o,sm3 _ _ z⟩),rfl,hw.symm⟩,k w Hs3 H2 (.refl sm3) rw'⟩
   | _=>simp [eE] at eo
theorem w6 {neg:Bool} {σ:St} {H:Hp} {Q:VK} (K:W.Frag) (h:rdE K (dOp (if neg then eW else CF) f g) σ H Q):rdE K f σ H λ y H1=>rdE K g σ H1 λ x H2=>∃ a o,x=.ref a/\qu H2 a y o/\Q (.bl (if neg then !o.isSome else o.isSome)) H2:=by
 have h':=lS K h;obtain ⟨H0,Hs,τ,fp,x,st,sm,e1,kk⟩:=h';refine ⟨H0,Hs,τ,fp,x,st,sm,e1,λ v Hs1 H1 g1 r1=>?_⟩;obtain ⟨H0',Hs',τ',fp',y,st',sm',e2,kk2⟩:=kk v Hs1 H1 g1 r1;refine ⟨H0',Hs',τ',fp',y,st',sm',e2,λ u Hs2 H2 g2 r2=>?_⟩;obtain ⟨Hs3,dx,dy,d,sm3,rx,ry,eo,k⟩:=kk2 u Hs2 H2 g2 r2
 obtain ⟨ds,key,ey,ek,ev⟩:∃ ds key,(dy=.dct ds\/dy=.dfz ds)/\iK dx=some key/\D.bl (if neg then !(gr ds key).isSome else (gr ds key).isSome)=d:=by
  cases neg with
  | true =>
   have eo:eW dx dy=some d:=eo;unfold eW at eo;split at eo
   ·obtain ⟨key,a1,a2⟩:=Zm eo
    exact ⟨_,key,.inl rfl,a1,a2⟩
   ·obtain ⟨key,a1,a2⟩:=Zm eo
    exact ⟨_,key,.inr rfl,a1,a2⟩
   · cases eo
  | false =>
   have eo:CF dx dy=some d:=eo;unfold CF at eo;split at eo
   ·obtain ⟨key,a1,a2⟩:=Zm eo
    exact ⟨_,key,.inl rfl,a1,a2⟩
   ·obtain ⟨key,a1,a2⟩:=Zm eo
    exact ⟨_,key,.inr rfl,a1,a2⟩
   · cases eo
 obtain ⟨a,kvs,rfl,hH,rk⟩:∃ a kvs,u=.ref a/\Rd H2 a (.dK kvs)/\RpK K Hs3 kvs ds:=by
  rcases ey with rfl | rfl
  ·cases ry with
   | dct hH rk=>exact ⟨_,_,rfl,.inl (sm3 _ _ hH),rk⟩
  ·cases ry with
   | dfz hH rk=>exact ⟨_,_,rfl,hH.elim (λ z=>.inl (sm3 _ _ z)) λ ⟨o,z⟩=>.inr ⟨o,sm3 _ _ z⟩,rk⟩
 have:=je rx ek;subst this;subst ev
 have is:(dN kvs key).isSome=(gr ds key).isSome:=by
  cases q:gr ds key with
  | none=>rw [(rk.val).2 q]; rfl
  | some d'=>obtain ⟨w,hw,_⟩:=(rk.val (k:=key)).1 d' q; rw [hw]; rfl
 refine ⟨a,dN kvs key,rfl,.inl ⟨kvs,key,hH,rfl,rfl⟩,?_⟩;rw [is];exact k _ Hs3 H2 (.refl sm3) (.bl _)
theorem Bf (K:W.Frag) (h:rdT K (dT f) σ H Q):rdE K f σ H λ x H1=>∃ c,x=.bl c/\Q c H1:=by
 obtain ⟨H0,Hs,τ,fp,d,st,sm,e,k⟩:=h;obtain ⟨x,e1,e⟩:=bind_some e;have hx:x=.bl d:=by cases x <;> simp at e <;> subst e <;> rfl
 subst hx;refine ⟨H0,Hs,τ,fp,_,st,sm,e1,λ v Hs' H' g r=>?_⟩;cases r;exact ⟨d,rfl,k Hs' H' g⟩
theorem BE (hu:X.A.units+64 < cLine) (hi:PEd X i f) (ho:PEd X o g) (hm:behindInMarks .In o=false):PTd X (.Compare i [.In] [o] pos) (dT (dOp CF f g)):=(Aq (Fw (by omega) hi ho) hm).imp λ σ H Q h=>w6 (neg:=false) X.K (Bf X.K h)
theorem sC (hu:X.A.units+64 < cLine) (hi:PEd X i f) (ho:PEd X o g) (hm:behindInMarks .NotIn o=false):PTd X (.Compare i [.NotIn] [o] pos) (dT (dOp eW f g)):=(Aq (vx (by omega) hi ho) hm).imp λ σ H Q h=>w6 (neg:=true) X.K (Bf X.K h)
def zV (f g h:DE):DE:=λ τ=>(f τ).bind λ x=>(g τ).bind λ y=>(h τ).bind λ z=>match x with
 | .dct kvs=>(iK y).map λ k=>(gr kvs k).getD z
 | _=>none
theorem Cr (hu:X.A.units+64 < cLine) (ho:PEd X o f) (he:PEd X e g) (hv:PEd X value h) (m:M2 X o "get" apos e value cpos:=by exact ⟨rfl,rfl,rfl,rfl⟩):PEd X (.Call (.Attribute o "get" apos) [e,value] [] cpos) (zV f g h) :=
 (yL (by omega) ho he hv m).imp λ σ H Q ⟨H0,Hs,τ,fp,d,st,sm,e,k⟩=>by
   obtain ⟨x,e1,e⟩:=bind_some e;obtain ⟨y,e2,e⟩:=bind_some e;obtain ⟨z,e3,e⟩:=bind_some e;refine ⟨H0,Hs,τ,fp,x,st,sm,e1,λ v Hs1 H1 g1 r1=>?_⟩
   cases r1 with
   | @dct a kvs ds hH rk =>
    obtain ⟨key,ek,ev⟩:=Zm (e);refine ⟨a,rfl,.inl ⟨kvs,.inl (g1.sh _ _ hH)⟩,?_⟩;refine ⟨H0,Hs1,τ,fp,y,st.ext g1,g1.sh,e2,λ u Hs2 H2 g2 r2=>?_⟩;refine ⟨H0,Hs2,τ,fp,z,(st.ext g1).ext g2,g2.sh,e3,λ w Hs3 H3 g3 r3=>?_⟩;have:=je r2 ek;subst this;have hH3:=g3.sh _ _ (g3.ss _ _ (g2.ss _ _ hH));refine ⟨dN kvs key,qu.k hH3,?_⟩;have g13:=(g1.trans g2).trans g3;subst ev;have rk3:=(rk.same g2.ss).same g3.ss
    cases q:gr ds key with
    | none =>
     rw [q] at k;rw [(rk3.val).2 q];exact k w Hs3 H3 g13 r3
    | some d' =>
     obtain ⟨w',hw,rw'⟩:=(rk3.val (k:=key)).1 d' q;rw [q] at k;rw [hw];exact k w' Hs3 H3 g13 rw'
   | _=>exact nn e
end
def scD:D->Option V
 | .int i=>some (.int i)
 | .str x=>some (.str x)
 | .non=>some .non
 | _=>none
def Ah:List D->Option (List V)
 | []=>some []
 | d::ds=>(scD d).bind λ v=>(Ah ds).map (v::·)
def inS (x:D) (ys:List D):Option Bool:=(scD x).bind λ v=>(Ah ys).map λ vs=>inV v vs
def Ds:D->Option (List D)
 | .lst ys=>some ys
 | .tup ys=>some ys
 | _=>none
def vL (x y:D):Option D:=(Ds y).bind λ ys=>(inS x ys).map .bl
def iH (x y:D):Option D:=(Ds y).bind λ ys=>(inS x ys).map λ b=>.bl !b
theorem EE {K:W.Frag} {H:Hp} {v w:V} {d:D} (r:Rp K H v d) (e:scD d=some w):v=w/\lJ v=true:=by
 cases r <;> simp [scD] at e <;> subst e <;> exact ⟨rfl,rfl⟩
theorem Ag {K:W.Frag} {H:Hp}:∀ {vs ws:List V} {ds:List D},Rps K H vs ds->Ah ds=some ws->vs=ws/\vs.all lJ=true
 | _,_,_,.nil,e=>by simp [Ah] at e; subst e; exact ⟨rfl,rfl⟩
 | _,_,_,.cons h r,e=>by
  obtain ⟨v,e1,e2⟩:=bind_some (show (scD _).bind _=_ from e);obtain ⟨ws,e3,e4⟩:=Zm e2;obtain ⟨q1,q2⟩:=EE h e1;obtain ⟨q3,q4⟩:=Ag r e3;subst q1 q3;exact ⟨e4,by rw [Xw,q2,q4]; rfl⟩
section
variable {X:Cx}
theorem AS {K:W.Frag} {neg:Bool} {x y:V} {H:Hp} {Q:VK} (h:rdR K (if neg then iH else vL) x y H Q):rIn K neg x y H Q:=by
 obtain ⟨Hs,dx,dy,d,sm,rx,ry,e,k⟩:=h
 obtain ⟨ys,b,e1,e2,e3⟩:∃ ys b,Ds dy=some ys/\inS dx ys=some b/\d=.bl (if neg then !b else b):=by
  cases neg with
  | true =>
   obtain ⟨ys,a1,a2⟩:=bind_some (e);obtain ⟨b,a3,a4⟩:=Zm a2;exact ⟨ys,b,a1,a3,a4.symm⟩
  | false =>
   obtain ⟨ys,a1,a2⟩:=bind_some (show (Ds dy).bind _=some d from e);obtain ⟨b,a3,a4⟩:=Zm a2;exact ⟨ys,b,a1,a3,a4.symm⟩
 obtain ⟨v,e4,e5⟩:=bind_some e2;obtain ⟨vs,e6,e7⟩:=Zm e5;obtain ⟨q1,q2⟩:=EE rx e4;subst q1 e3;have ry':=ry.same sm
 obtain ⟨p,xs,ep,hq,rs⟩:∃ p xs,y=.ref p/\(SqL K H p xs\/SqT K H p xs)/\Rps K H xs ys:=by
  cases ry' with
  | tup h r=>simp [Ds] at e1; subst e1; exact ⟨_,_,rfl,.inr h,r⟩
  | lst h r=>simp [Ds] at e1; subst e1; exact ⟨_,_,rfl,.inl (.of h),r⟩
  | _=>simp [Ds] at e1
 obtain ⟨q3,q4⟩:=Ag rs e6;subst q3;refine ⟨p,xs,ep,hq,q2,q4,?_⟩;rw [e7];exact k _ Hs H (.refl sm) (.bl _)
theorem FJ:OpR X (compareOp .In) (rdR X.K vL):=vB.imp λ x y H Q h=>AS h
theorem yV:OpR X (compareOp .NotIn) (rdR X.K iH):=nQ.imp λ x y H Q h=>AS h
end
section
variable {X:Cx} {a b c:Expr} {pos:Pos} {f g h:DE}
theorem zY (K:W.Frag) (hh:rdE K (kI (dOp o f g) (dOp o' g h)) σ H Q):um (rdR K o) (rdR K o') (rdE K f) (rdE K g) (rdE K h) σ H Q:=by
 obtain ⟨H0,Hs,τ,fp,d,st,sm,e,k⟩:=hh;obtain ⟨r,e0,e⟩:=bind_some e;obtain ⟨x,e1,e0⟩:=bind_some e0;obtain ⟨y,e2,e0⟩:=bind_some e0;refine ⟨H0,Hs,τ,fp,x,st,sm,e1,λ v Hs1 H1 g1 r1=>?_⟩;refine ⟨H0,Hs1,τ,fp,y,st.ext g1,g1.sh,e2,λ u Hs2 H2 g2 r2=>?_⟩;refine ⟨Hs2,x,y,r,g2.sh,r1.same g2.ss,r2,e0,λ w Hs3 H3 g3 r3=>?_⟩
 cases r3 with
 | bl kb =>
  refine ⟨kb,rfl,?_⟩
  cases kb with
  | false =>
   rw [if_neg Zf];have e':D.bl false=d:=by simpa using e
   subst e';exact k _ Hs3 H3 ((g1.trans g2).trans g3) (.bl false)
  | true =>
   rw [if_pos rfl];obtain ⟨y',q1,q2⟩:=bind_some (e);have ey:y'=y:=by rw [e2] at q1; exact (Zj q1).symm
   subst ey;obtain ⟨z,q3,q4⟩:=bind_some q2;refine ⟨H0,Hs3,τ,fp,z,st.ext ((g1.trans g2).trans g3),g3.sh,q3,λ u' Hs4 H4 g4 r4=>?_⟩;exact ⟨Hs4,y',z,d,g4.sh,(r2.same g3.ss).same g4.ss,r4,q4,λ w' Hs5 H5 g5 r5=>k w' Hs5 H5 ((((g1.trans g2).trans g3).trans g4).trans g5) r5⟩
 | _=>exact nn e
theorem uV (ho:OpR X (compareOp op) (rdR X.K o)) (ho':OpR X (compareOp op') (rdR X.K o')) (ha:PEd X a f) (hb:PEd X b g) (hc:PEd X c h)
  (hm:lastMarks [op,op'] [b,c]=false:=by with_unfolding_all rfl):PTd X (.Compare a [op,op'] [b,c] pos) (dT (kI (dOp o f g) (dOp o' g h))) :=
 (yk ho ho' ha hb hc hm).imp λ σ H Q hh=>zY X.K (Bf X.K hh)
end
def rP:List (DE×DE)->List Sl->Option (List (Key×D))
 | [],_=>some []
 | p::ps,τ=>(p.1 τ).bind λ k=>(iK k).bind λ k'=>(p.2 τ).bind λ v=>(rP ps τ).map ((k',v)::·)
def q9 (kvs more:List (Key×D)):List (Key×D):=more.foldl (λ acc kv=>putD acc kv.1 kv.2) kvs
def zW (ps:List (DE×DE)):DE:=λ τ=>(rP ps τ).bind λ kvs=>if kvs.length<=15 then some (.dct (q9 [] kvs)) else none
theorem RpK.merge {K:W.Frag} {H:Hp}:∀ {more:List (Key×V)} {ms:List (Key×D)} {kvs:List (Key×V)} {ds:List (Key×D)},RpK K H more ms->RpK K H kvs ds->RpK K H (j3 kvs more) (q9 ds ms)
 | _,_,_,_,.nil,h=>h
 | _,_,kvs,ds,@RpK.cons _ _ j x d xs es hv r,h=>show RpK K H (j3 (putK kvs j x) xs) (q9 (putD ds j d) es) from RpK.merge r (h.put hv)
section
variable {X:Cx} {pos:Pos}
def PPd (X:Cx) (pos:Pos) (keys:List (Option Expr)) (values:List Expr) (ps:List (DE×DE)):Prop:=PPs X pos keys values (ps.map λ p=>(rdE X.K p.1,rdE X.K p.2))
theorem BY:PPd X pos [] [] []:=vh
theorem yz (hk:PEd X k f) (hv:PEd X v g) (hr:PPd X pos ks vs ps):PPd X pos (some k::ks) (v::vs) ((f,g)::ps):=qP hk hv hr
theorem qS {K:W.Frag} {σ:St} {τ:List Sl} {H0:Hp}:∀ {ps:List (DE×DE)} {Hs H:Hp} {fp:List Addr} {kvs:List (Key×D)} {Q:List (V×V)->Hp->Prop},StR K H0 Hs H σ τ fp->b6 Hs H->rP ps τ=some kvs ->
  (∀ ws Hs' H',Ext Hs H Hs' H'->RpK K Hs' ws kvs->Q (ws.map λ kv=>(kV kv.1,kv.2)) H')->qx (ps.map λ p=>(rdE K p.1,rdE K p.2)) σ H Q
 | [],Hs,H,fp,kvs,Q,st,sm,e,k=>by
  have e':[]=kvs:=Zj e;subst e';exact k [] Hs H (.refl sm) .nil
 | p::ps,Hs,H,fp,kvs,Q,st,sm,e,k=>by
  obtain ⟨dk,e1,e⟩:=bind_some (show (p.1 τ).bind _=some kvs from e);obtain ⟨k',e2,e⟩:=bind_some e;obtain ⟨dv,e3,e⟩:=bind_some e;obtain ⟨rest,e4,rfl⟩:=Zm e;refine ⟨H0,Hs,τ,fp,dk,st,sm,e1,λ v Hs1 H1 g1 r1=>?_⟩;refine ⟨H0,Hs1,τ,fp,dv,st.ext g1,g1.sh,e3,λ u Hs2 H2 g2 r2=>?_⟩;refine qS ((st.ext g1).ext g2) g2.sh e4 λ ws Hs3 H3 g3 r3=>?_
  have:=je r1 e2;subst this;exact k ((k',u)::ws) Hs3 H3 ((g1.trans g2).trans g3) (.cons (r2.same g3.ss) r3)
theorem B2 (h:PPd X pos keys values ps) (hall:keys.all (·.isSome)=true:=by rfl) (hl:keys.length=values.length:=by rfl) (h0:keys≠[]:=by exact List.cons_ne_nil _ _)
  (h15:keys.length<=15:=by exact Zb rfl):PEo X (.Dict keys values pos) (zW ps):=(vt h hall hl h0 h15).imp λ σ H Q ⟨H0,Hs,τ,fp,d,st,sm,e,k⟩ p hp=>by
 obtain ⟨kvs,e1,e⟩:=bind_some e;split at e
 ·rename_i hk
  cases e;have hsp:=sm.free hp;have g0:Ext Hs H Hs (upd H p (.dK [])):=⟨.refl _,sm.trans (aJ hp _),aJ hp _,λ _ h _=>h⟩
  refine qS (st.ext g0) g0.sh e1 λ ws Hs' H' g r=>?_
  have hp':=g.hh _ _ aw;have hs':=g.fr p hsp (by rw [aw]; simp);refine ⟨hp',ws,rfl,by rw [r.length]; exact hk,?_⟩;refine k p Hs' _ ⟨g.ss,λ b u z=>?_,λ b u z=>?_,λ b k1 k2=>?_⟩ (.dct aw hs' (r.merge .nil)) hp
  ·have ne:b≠p:=λ y=>by subst y; rw [hs'] at z; cases z
   rw [ak ne]; exact g.sh b u z
  ·have ne:b≠p:=λ y=>by subst y; rw [hp] at z; cases z
   rw [ak ne]; exact g.hh b u (by rw [ak ne]; exact z)
  ·by_cases z:b=p
   · subst z; exact hs'
   · exact g.fr b k1 (by rw [ak z]; exact k2)
 · cases e
end
inductive Tg where
 | l | d | o (C:Addr)
inductive Mt where
 | s (d:D)
 | n (t:Tg) (cs:List (Key×Mt))
def strOf:Key->Str
 | .inr x=>x
 | .inl _=>""
mutual
def frz:Mt->D
 | .s d=>d
 | .n .l cs=>.lst (lu cs)
 | .n .d cs=>.dct (wJ cs)
 | .n (.o C) cs=>.obj C (GB cs)
def lu:List (Key×Mt)->List D
 | []=>[]
 | (_,m)::r=>frz m::lu r
def wJ:List (Key×Mt)->List (Key×D)
 | []=>[]
 | (k,m)::r=>(k,frz m)::wJ r
def GB:List (Key×Mt)->List (Str×D)
 | []=>[]
 | (k,m)::r=>(strOf k,frz m)::GB r
end
theorem rD:∀ cs:List (Key×Mt),lu cs=cs.map λ c=>frz c.2
 | []=>rfl
 | (_,m)::r=>by rw [lu,rD r]; rfl
theorem mV:∀ cs:List (Key×Mt),wJ cs=cs.map λ c=>(c.1,frz c.2)
 | []=>rfl
 | (_,m)::r=>by rw [wJ,mV r]; rfl
theorem rF:∀ cs:List (Key×Mt),GB cs=cs.map λ c=>(strOf c.1,frz c.2)
 | []=>rfl
 | (_,m)::r=>by rw [GB,rF r]; rfl
inductive Stp where
 | k (k:Key) | i (n:Nat)
def vm (t:Tg) (cs:List (Key×Mt)) (st:Stp):Option Nat:=match t,st with
 | .l,.i n=>if n < cs.length then some n else none
 | .d,.k k=>cs.findIdx? λ c=>decide (c.1=k)
 | .o _,.k k=>cs.findIdx? λ c=>decide (c.1=k)
 | _,_=>none
def Mt.get:Mt->List Stp->Option Mt
 | m,[]=>some m
 | .s _,_::_=>none
 | .n t cs,st::p=>match vm t cs st with
  | none=>none
  | some i=>match cs[i]? with
   | none=>none
   | some c=>Mt.get c.2 p
def Mt.put:Mt->List Stp->Mt->Mt
 | _,[],m2=>m2
 | .s d,_::_,_=>.s d
 | .n t cs,st::p,m2=>match vm t cs st with
  | none=>.n t cs
  | some i=>match cs[i]? with
   | none=>.n t cs
   | some c=>.n t (cs.set i (c.1,Mt.put c.2 p m2))
inductive Lay:Tg->Addr->List (Key×V)->HO->Prop where
 | l {dx:Addr} (kvs:List (Key×V)):Lay .l dx kvs (.lst (kvs.map (·.2)))
 | d {dx:Addr} (kvs:List (Key×V)):Lay .d dx kvs (.dK kvs)
 | o {C dx:Addr} (fs:List (Str×V)):Lay (.o C) dx (fs.map λ f=>(.inr f.1,f.2)) (.ins C dx fs)
structure Kd where
 k:Key
 v:V
 m:Mt
 fp:List Addr
abbrev Kd.kv (t:Kd):Key×V:=(t.k,t.v)
abbrev Kd.km (t:Kd):Key×Mt:=(t.k,t.m)
def KU:Tg->List Kd->Prop
 | .l,_=>True
 | _,ts=>(ts.map Kd.k).Nodup
inductive Od (K:W.Frag) (Hs H:Hp):List Addr->V->Mt->Prop where
 | s {v:V} {d:D} (r:Rp K Hs v d):Od K Hs H [] v (.s d)
 | n {a dx:Addr} {t:Tg} {ts:List Kd} {u:HO} (h:H a=some u) (hl:Lay t dx (ts.map Kd.kv) u) (nh:Hs a=none) (ku:KU t ts) (nd:(a::ts.flatMap Kd.fp).Nodup) (r:∀ c ∈ ts,Od K Hs H c.fp c.v c.m):Od K Hs H (a::ts.flatMap Kd.fp) (.ref a) (.n t (ts.map Kd.km))
section
variable {K:W.Frag} {Hs H Hs' H':Hp} {fp:List Addr} {v:V} {m:Mt}
theorem Od.inv (h:Od K Hs H fp v (.n t cs)):∃ a dx ts u,v=.ref a/\fp=a::ts.flatMap Kd.fp/\cs=ts.map Kd.km/\H a=some u/\Lay t dx (ts.map Kd.kv) u/\Hs a=none/\KU t ts/\(a::ts.flatMap Kd.fp).Nodup/\∀ c ∈ ts,Od K Hs H c.fp c.v c.m:=by
 cases h with
 | n h hl nh ku nd r=>exact ⟨_,_,_,_,rfl,rfl,rfl,h,hl,nh,ku,nd,r⟩
theorem Od.live (h:Od K Hs H fp v m):∀ b ∈ fp,Hs b=none/\H b≠none:=by
 induction h with
 | s r=>intro b h; cases h
 | n h hl nh ku nd r ih =>
  intro b hb;rcases Zl.mp hb with e | e
  · subst e; exact ⟨nh,gD h⟩
  ·obtain ⟨c,hc,hb⟩:=Yd.mp e
   exact ih c hc b hb
theorem Od.nd (h:Od K Hs H fp v m):fp.Nodup:=by
 cases h with
 | s r=>exact .nil
 | n h hl nh ku nd r=>exact nd
theorem Od.mv (h:Od K Hs H fp v m) (g:b6 Hs Hs'):(∀ b ∈ fp,Hs' b=none/\H' b=H b)->Od K Hs' H' fp v m:=by
 induction h with
 | s r=>exact λ _=>.s (r.same g)
 | n h hl nh ku nd r ih =>
  intro q;have qa:=q _ (Ze ..);exact .n (by rw [qa.2]; exact h) hl qa.1 ku nd λ c hc=>ih c hc λ b hb=>q b (Zd _ (Yd.mpr ⟨c,hc,hb⟩))
theorem qG:∀ {ts:List Kd},(∀ c ∈ ts,Rp K H c.v (frz c.m))->Rps K H ((ts.map Kd.kv).map (·.2)) (lu (ts.map Kd.km))
 | [],_=>.nil
 | c::ts,h=>.cons (h c (Ze ..)) (qG λ c hc=>h c (Zd _ hc))
theorem uL:∀ {ts:List Kd},(∀ c ∈ ts,Rp K H c.v (frz c.m))->RpK K H (ts.map Kd.kv) (wJ (ts.map Kd.km))
 | [],_=>.nil
 | c::ts,h=>.cons (h c (Ze ..)) (uL λ c hc=>h c (Zd _ hc))
theorem Ao:∀ {ts:List Kd} {fs:List (Str×V)},(ts.map Kd.kv=fs.map λ f=>(Sum.inr f.1,f.2))->(∀ c ∈ ts,Rp K H c.v (frz c.m))->RpF K H fs (GB (ts.map Kd.km))
 | [],[],_,_=>.nil
 | [],_::_,e,_=>by cases e
 | _::_,[],e,_=>by cases e
 | c::ts,f::fs,e,h=>by
  obtain ⟨e1,e2⟩:=List.cons.inj e;obtain ⟨e3,e4⟩:=Prod.mk.inj e1;obtain ⟨x,y⟩:=f;have hc:=h c (Ze ..);show RpF K H ((x,y)::fs) ((strOf c.k,frz c.m)::_);have e3':c.k=Sum.inr x:=e3;have e4':c.v=y:=e4;rw [e3',<- e4'];exact .cons hc (Ao e2 λ c hc=>h c (Zd _ hc))
theorem Od.rp (h:Od K Hs H fp v m) (sm:b6 Hs H):Rp K H v (frz m):=by
 induction h with
 | s r=>exact r.same sm
 | @n a dx t ts u h hl nh ku nd r ih =>
  have ih':∀ c ∈ ts,Rp K H c.v (frz c.m):=λ c hc=>ih c hc
  generalize ek:ts.map Kd.kv=kvs at hl
  cases hl with
  | l=>exact .lst h (by rw [<- ek]; exact qG ih')
  | d=>exact .dct h (by rw [<- ek]; exact uL ih')
  | o fs=>exact .obj h (Ao ek ih')
end
def vAt (H:Hp):V->List Stp->Option V
 | v,[]=>some v
 | .ref a,.k k::p=>match H a with
  | some (.ins _ _ fs)=>(dN (fs.map λ f=>((Sum.inr f.1:Key),f.2)) k).bind λ v=>vAt H v p
  | some (.dK kvs)=>(dN kvs k).bind λ v=>vAt H v p
  | _=>none
 | .ref a,.i n::p=>match H a with
  | some (.lst xs)=>(xs[n]?).bind λ v=>vAt H v p
  | _=>none
 | _,_=>none
theorem l7 {α:Type}:∀ {cs:List (Key×α)} {i:Nat},(cs.findIdx? λ c=>decide (c.1=k))=some i->∃ l1 x l2,cs=l1++(k,x)::l2/\l1.length=i/\∀ c ∈ l1,c.1≠k
 | [],_,e=>by simp at e
 | (k',x)::cs,i,e=>by
  rw [List.findIdx?_cons] at e
  by_cases h:k'=k
  ·simp only [h,decide_true] at e
   have e':0=i:=by simpa using e
   subst h e';exact ⟨[],x,cs,rfl,rfl,λ c hc=>by cases hc⟩
  ·simp only [h,decide_false] at e
   obtain ⟨j,e1,rfl⟩:=Zm (by simpa using e);obtain ⟨l1,y,l2,e2,e3,e4⟩:=l7 e1
   exact ⟨(k',x)::l1,y,l2,by rw [e2]; rfl,by rw [Z0,e3],λ c hc=>by
    rcases Zl.mp hc with rfl | hc
    · exact h
    · exact e4 c hc⟩
theorem lR:∀ {l1 l2:List (Key×V)},(∀ c ∈ l1,c.1≠k)->dN (l1++(k,x)::l2) k=some x
 | [],_,_=>g9 rfl
 | c::l1,l2,h=>by
  rw [List.cons_append,hG (h c (Ze ..))];exact lR λ c hc=>h c (Zd _ hc)
theorem vY:∀ {l1 l2:List (Key×Mt)} {c:Key×Mt},ts.map Kd.km=l1++c::l2->∃ t1 t t2,ts=t1++t::t2/\t1.map Kd.km=l1/\t.km=c/\t2.map Kd.km=l2:=by
 intro l1 l2 c e;obtain ⟨t1,r,rfl,e1,e2⟩:=List.map_eq_append_iff.mp e;obtain ⟨t,t2,rfl,e3,e4⟩:=List.map_eq_cons_iff.mp e2;exact ⟨t1,t,t2,rfl,e1,e3,e4⟩
theorem rR {t:Tg} {dx a:Addr} {ts:List Kd} {u:HO} {st:Stp} {i:Nat} {c:Key×Mt} {H:Hp} (h:H a=some u) (hl:Lay t dx (ts.map Kd.kv) u) (e1:vm t (ts.map Kd.km) st=some i) (e2:(ts.map Kd.km)[i]?=some c) :
  ∃ t1 k t2,ts=t1++k::t2/\t1.length=i/\k.km=c/\∀ p,vAt H (.ref a) (st::p)=vAt H k.v p:=by
 have key:∀ {kk:Key},((ts.map Kd.km).findIdx? λ c=>decide (c.1=kk))=some i->∃ t1 k t2,ts=t1++k::t2/\t1.length=i/\k.km=c/\dN (ts.map Kd.kv) kk=some k.v:=λ {kk} e=>by
  obtain ⟨l1,x,l2,h1,h2,h3⟩:=l7 e;obtain ⟨t1,k,t2,rfl,q1,q2,q3⟩:=vY h1;refine ⟨t1,k,t2,rfl,by rw [<- h2,<- q1,Za],?_,?_⟩
  ·rw [h1,<- h2,List.getElem?_append_right (Zn _),Y7] at e2
   rw [q2];exact Zj e2
  ·rw [Zi,Zg]
   have hk:k.k=kk:=(Prod.mk.inj q2).1;rw [show k.kv=(kk,k.v) by rw [<- hk]]
   exact lR λ c hc=>by
    obtain ⟨y,hy,rfl⟩:=Z2.mp hc;exact h3 y.km (by rw [<- q1]; exact Yk hy)
 generalize ek:ts.map Kd.kv=kvs at hl
 cases hl with
 | l kvs' =>
  cases st with
  | k k=>cases e1
  | i n =>
   have lt:n < (ts.map Kd.km).length/\n=i:=by
    have e1':(if n < (ts.map Kd.km).length then some n else none)=some i:=e1;split at e1'
    · rename_i h; exact ⟨h,Zj e1'⟩
    · cases e1'
   obtain ⟨lt,rfl⟩:=lt;rw [Za] at lt;have ets:ts=ts.take n++ts[n]::ts.drop (n+1):=by rw [List.getElem_cons_drop,List.take_append_drop]
   refine ⟨ts.take n,ts[n],ts.drop (n+1),ets,by rw [Y0]; omega,?_,λ p=>?_⟩
   ·rw [List.getElem?_map,List.getElem?_eq_getElem lt] at e2
    exact Zj e2
   ·show (match H a with | some (.lst xs)=>(xs[n]?).bind λ v=>vAt H v p | _=>none)=_
    rw [h];show (((kvs.map (·.2))[n]?).bind λ v=>vAt H v p)=_;rw [<- ek,List.getElem?_map,List.getElem?_map,List.getElem?_eq_getElem lt];rfl
 | d kvs' =>
  cases st with
  | i n=>cases e1
  | k kk =>
   obtain ⟨t1,k,t2,q1,q2,q3,q4⟩:=key e1;refine ⟨t1,k,t2,q1,q2,q3,λ p=>?_⟩;show (match H a with | some (.ins _ _ fs)=>(dN (fs.map λ (f:Str×V)=>((Sum.inr f.1:Key),f.2)) kk).bind λ v=>vAt H v p | some (.dK kvs)=>(dN kvs kk).bind λ v=>vAt H v p | _=>none)=_;rw [h];show ((dN kvs kk).bind λ v=>vAt H v p)=_;rw [<- ek,q4];rfl
 | o fs =>
  cases st with
  | i n=>cases e1
  | k kk =>
   obtain ⟨t1,k,t2,q1,q2,q3,q4⟩:=key e1;refine ⟨t1,k,t2,q1,q2,q3,λ p=>?_⟩;show (match H a with | some (.ins _ _ fs)=>(dN (fs.map λ (f:Str×V)=>((Sum.inr f.1:Key),f.2)) kk).bind λ v=>vAt H v p | some (.dK kvs)=>(dN kvs kk).bind λ v=>vAt H v p | _=>none)=_;rw [h];show ((dN (fs.map λ f=>((Sum.inr f.1:Key),f.2)) kk).bind λ v=>vAt H v p)=_;rw [<- ek,q4];rfl
theorem vN {α:Type} {a:α} {x y z:List α} (h:(a::(x++(y++z))).Nodup):a ∉ x/\a ∉ y/\a ∉ z/\(∀ b ∈ y,b ∉ x/\b ∉ z)/\x.Nodup/\z.Nodup/\(∀ b ∈ x,b ∉ z):=by
 rw [Zw,Yb,Yb] at h;simp only [Zh,not_or] at h;obtain ⟨⟨h1,h2,h3⟩,hx,⟨hy,hz,hyz⟩,hxyz⟩:=h;refine ⟨h1,h2,h3,λ b hb=>⟨λ hx'=>hxyz b hx' b (.inl hb) rfl,λ hz'=>hyz b hb b hz' rfl⟩,hx,hz,λ b hb hz'=>hxyz b hb b (.inr hz') rfl⟩
theorem lX {α:Type} {a:α} {x y z:List α} (h1:a ∉ x) (h2:a ∉ y) (h3:a ∉ z) (hy:y.Nodup) (hd:∀ b ∈ y,b ∉ x/\b ∉ z) (hx:x.Nodup) (hz:z.Nodup) (hxz:∀ b ∈ x,b ∉ z):(a::(x++(y++z))).Nodup:=by
 rw [Zw,Yb,Yb];simp only [Zh,not_or];exact ⟨⟨h1,h2,h3⟩,hx,⟨hy,hz,λ b hb c hc e=>(hd b hb).2 (e ▸ hc)⟩,λ b hb c hc e=>hc.elim (λ q=>(hd c q).1 (e ▸ hb)) λ q=>hxz b hb (e ▸ q)⟩
theorem KU.swap (h:KU t (t1++k::t2)) (e:k'.k=k.k):KU t (t1++k'::t2):=by
 cases t with
 | l=>exact h
 | d =>
  show ((t1++k'::t2).map Kd.k).Nodup;rw [Zi,Zg,e,<- Zg,<- Zi];exact h
 | o C =>
  show ((t1++k'::t2).map Kd.k).Nodup;rw [Zi,Zg,e,<- Zg,<- Zi];exact h
section
variable {K:W.Frag} {Hs H:Hp}
theorem Od.r6:∀ (p:List Stp) {fp:List Addr} {v:V} {m m1:Mt},Od K Hs H fp v m->m.get p=some m1->∃ fp1 v1,vAt H v p=some v1/\Od K Hs H fp1 v1 m1/\(∀ b ∈ fp1,b ∈ fp) /\
  ∀ Hs' H' fp2 m2,b6 Hs Hs'->(∀ b ∈ fp,b ∉ fp1->Hs' b=none/\H' b=H b)->Od K Hs' H' fp2 v1 m2->(∀ b ∈ fp2,b ∈ fp1\/b ∉ fp)->∃ fp',Od K Hs' H' fp' v (m.put p m2)/\∀ b,b ∈ fp'↔(b ∈ fp/\b ∉ fp1)\/b ∈ fp2
 | [],fp,v,m,m1,h,e=>by
  have e':m=m1:=by
   cases m <;> exact Zj e
  subst e';have ep:∀ m2,m.put [] m2=m2:=λ m2=>by cases m <;> rfl
  exact ⟨fp,v,by cases v <;> rfl,h,λ _ q=>q,λ Hs' H' fp2 m2 g k h2 j=>⟨fp2,by rw [ep]; exact h2,λ b=>⟨.inr,λ q=>q.elim (λ z=>absurd z.1 z.2) id⟩⟩⟩
 | st::p,fp,v,.s d,m1,h,e=>by cases e
 | st :: p,fp,v,.n t cs,m1,h,e=>by
  obtain ⟨a,dx,ts,u,rfl,rfl,rfl,ha,hl,nh,ku,nd,r⟩:=h.inv;have e':(match vm t (ts.map Kd.km) st with | none=>none | some i=>match (ts.map Kd.km)[i]? with | none=>none | some c=>Mt.get c.2 p)=some m1:=e
  cases e1:vm t (ts.map Kd.km) st with
  | none=>rw [e1] at e'; cases e'
  | some i =>
   rw [e1] at e'
   cases e2:(ts.map Kd.km)[i]? with
   | none=>simp only [e2] at e'; cases e'
   | some c =>
    simp only [e2] at e';obtain ⟨t1,k,t2,rfl,q2,q3,q4⟩:=rR ha hl e1 e2;subst q3;obtain ⟨fp1,v1,w1,w2,w3,w4⟩:=Od.r6 p (r k (Zc _ (Ze ..))) e';rw [Yl,Z5] at nd;obtain ⟨n1,n2,n3,n4,n5,n6,n7⟩:=vN nd
    have mem:∀ b,b ∈ a::(t1++k::t2).flatMap Kd.fp↔b=a\/b ∈ t1.flatMap Kd.fp\/b ∈ k.fp\/b ∈ t2.flatMap Kd.fp:=λ b=>by
     rw [Yl,Z5,Zl,Zh,Zh]
    refine ⟨fp1,v1,by rw [q4]; exact w1,w2,λ b hb=>(mem b).mpr (.inr (.inr (.inl (w3 b hb)))),λ Hs' H' fp2 m2 g kk h2 j=>?_⟩;have j2:∀ b ∈ fp2,b ∈ fp1\/b ∉ k.fp:=λ b hb=>(j b hb).imp id λ z q=>z ((mem b).mpr (.inr (.inr (.inl q))))
    obtain ⟨fp',o',i'⟩:=w4 Hs' H' fp2 m2 g (λ b hb hn=>kk b ((mem b).mpr (.inr (.inr (.inl hb)))) hn) h2 j2;have a1:a ∉ fp1:=λ z=>n2 (w3 _ z)
    have off:∀ b,b ∈ fp'->b≠a/\b ∉ t1.flatMap Kd.fp/\b ∉ t2.flatMap Kd.fp:=λ b hb=>by
     rcases (i' b).mp hb with ⟨z1,_⟩ | z
     · exact ⟨λ e=>n2 (e ▸ z1),(n4 b z1).1,(n4 b z1).2⟩
     ·rcases j b z with z1 | z1
      ·have z2:=w3 b z1
       exact ⟨λ e=>n2 (e ▸ z2),(n4 b z2).1,(n4 b z2).2⟩
      · exact ⟨λ e=>z1 ((mem b).mpr (.inl e)),λ q=>z1 ((mem b).mpr (.inr (.inl q))),λ q=>z1 ((mem b).mpr (.inr (.inr (.inr q))))⟩
    let k':Kd:=⟨k.k,k.v,k.m.put p m2,fp'⟩
    have eput:(Mt.n t ((t1++k::t2).map Kd.km)).put (st::p) m2=.n t ((t1++k'::t2).map Kd.km):=by
     show (match vm t ((t1++k::t2).map Kd.km) st with | none=>Mt.n t ((t1++k::t2).map Kd.km) | some i=>match ((t1++k::t2).map Kd.km)[i]? with | none=>Mt.n t ((t1++k::t2).map Kd.km) | some c=>.n t (((t1++k::t2).map Kd.km).set i (c.1,Mt.put c.2 p m2)))=_;simp only [e1,e2];rw [Zi,Zg,<- q2,<- Za (f:=Kd.km),List.set_append_right _ _ (Zn _),Y7,Zi,Zg];rfl
    have hkv:(t1++k'::t2).map Kd.kv=(t1++k::t2).map Kd.kv:=by rw [Zi,Zg,Zi,Zg]
    have qa:=kk a ((mem a).mpr (.inl rfl)) a1;refine ⟨a::(t1++k'::t2).flatMap Kd.fp,?_,λ b=>?_⟩
    ·rw [eput]
     refine .n (dx:=dx) (by rw [qa.2]; exact ha) (by rw [hkv]; exact hl) qa.1 (ku.swap rfl) ?_ λ c hc=>?_
     ·rw [Yl,Z5]
      exact lX n1 (λ z=>(off _ z).1 rfl) n3 o'.nd (λ b hb=>(off b hb).2) n5 n6 n7
     ·rcases Zh.mp hc with hc | hc
      · exact (r c (Zp _ hc)).mv g λ b hb=>kk b ((mem b).mpr (.inr (.inl (Yd.mpr ⟨c,hc,hb⟩)))) λ z=>(n4 b (w3 b z)).1 (Yd.mpr ⟨c,hc,hb⟩)
      ·rcases Zl.mp hc with rfl | hc
       · exact o'
       · exact (r c (Zc _ (Zd _ hc))).mv g λ b hb=>kk b ((mem b).mpr (.inr (.inr (.inr (Yd.mpr ⟨c,hc,hb⟩))))) λ z=>(n4 b (w3 b z)).2 (Yd.mpr ⟨c,hc,hb⟩)
    ·rw [Yl,Z5,Zl,Zh,Zh,mem b,i' b]
     constructor
     ·rintro (rfl | z | (⟨z1,z2⟩ | z) | z)
      · exact .inl ⟨.inl rfl,a1⟩
      · exact .inl ⟨.inr (.inl z),λ q=>(n4 b (w3 b q)).1 z⟩
      · exact .inl ⟨.inr (.inr (.inl z1)),z2⟩
      · exact .inr z
      · exact .inl ⟨.inr (.inr (.inr z)),λ q=>(n4 b (w3 b q)).2 z⟩
     ·rintro (⟨rfl | z | z | z,z2⟩ | z)
      · exact .inl rfl
      · exact .inr (.inl z)
      · exact .inr (.inr (.inl (.inl ⟨z,z2⟩)))
      · exact .inr (.inr (.inr z))
      · exact .inr (.inr (.inl (.inr z)))
end
inductive Sm where
 | no | shr (d:D) | mu (b:Bool) (m:Mt)
def sk:Sm->Sl
 | .no=>.no
 | .shr d=>.shr d
 | .mu _ m=>.shr (frz m)
def er1:Sm->Sl
 | .shr d=>.shr d
 | _=>.no
abbrev bf (τ:List Sm):List Sl:=τ.map sk
abbrev er (τ:List Sm):List Sl:=τ.map er1
inductive StM (K:W.Frag) (H0 Hs H:Hp):List (Option Addr)->List (Option V)->List Sm->List Addr->Prop where
 | nil:StM K H0 Hs H [] [] [] []
 | no {p:Option Addr} {o:Option V} {ρ:List (Option Addr)} {σ:List (Option V)} {τ:List Sm} {fp:List Addr} (r:StM K H0 Hs H ρ σ τ fp):StM K H0 Hs H (p::ρ) (o::σ) (.no::τ) fp
 | shr {p:Option Addr} {v:V} {d:D} {ρ:List (Option Addr)} {σ:List (Option V)} {τ:List Sm} {fp:List Addr} (h:Rp K Hs v d) (r:StM K H0 Hs H ρ σ τ fp):StM K H0 Hs H (p::ρ) (some v::σ) (.shr d::τ) fp
 | mu {p:Option Addr} {v:V} {b:Bool} {m:Mt} {ρ:List (Option Addr)} {σ:List (Option V)} {τ:List Sm} {fq fp:List Addr} (h:Od K Hs H fq v m) (hp:b=true->∃ a,p=some a/\v=.ref a) (z:∀ c ∈ fq,H0 c=none) (j:∀ c ∈ fq,c ∉ fp) (r:StM K H0 Hs H ρ σ τ fp):StM K H0 Hs H (p::ρ) (some v::σ) (.mu b m::τ) (fq++fp)
section
variable {K:W.Frag} {H0 Hs H Hs' H':Hp} {ρ:List (Option Addr)} {σ:List (Option V)} {τ:List Sm} {fp:List Addr}
theorem StM.mv (h:StM K H0 Hs H ρ σ τ fp) (g:b6 Hs Hs'):(∀ b ∈ fp,Hs' b=none/\H' b=H b)->StM K H0 Hs' H' ρ σ τ fp:=by
 induction h with
 | nil=>exact λ _=>.nil
 | no _ ih=>exact λ q=>.no (ih q)
 | shr h _ ih=>exact λ q=>.shr (h.same g) (ih q)
 | mu h hp z j _ ih=>exact λ q=>.mu (h.mv g λ b hb=>q b (Zp _ hb)) hp z j (ih λ b hb=>q b (Zc _ hb))
theorem StM.live (h:StM K H0 Hs H ρ σ τ fp):∀ b ∈ fp,Hs b=none/\H b≠none/\H0 b=none:=by
 induction h with
 | nil=>intro b h; cases h
 | no _ ih=>exact ih
 | shr _ _ ih=>exact ih
 | mu h hp z j _ ih =>
  intro b hb;rcases Zh.mp hb with q | q
  · exact ⟨(h.live b q).1,(h.live b q).2,z b q⟩
  · exact ih b q
theorem StM.ext (g:Ext Hs H Hs' H') (h:StM K H0 Hs H ρ σ τ fp):StM K H0 Hs' H' ρ σ τ fp:=h.mv g.ss λ b hb=>by
 obtain ⟨h1,h2,_⟩:=h.live b hb;refine ⟨g.fr b h1 h2,?_⟩
 cases q:H b with
 | none=>exact absurd q h2
 | some u=>exact g.hh _ _ q
theorem StM.len (h:StM K H0 Hs H ρ σ τ fp):σ.length=τ.length:=by
 induction h with
 | nil=>rfl
 | no _ ih=>exact Yn (·+1) ih
 | shr _ _ ih=>exact Yn (·+1) ih
 | mu _ _ _ _ _ ih=>exact Yn (·+1) ih
theorem StM.bf (h:StM K H0 Hs H ρ σ τ fp) (sm:b6 Hs H):StR K H H H σ (bf τ) []:=by
 induction h with
 | nil=>exact .nil
 | no _ ih=>exact .no ih
 | shr h _ ih=>exact .shr (h.same sm) ih
 | mu h _ _ _ _ ih=>exact .shr (h.rp sm) ih
theorem StM.er (h:StM K H0 Hs H ρ σ τ fp):StR K H0 Hs H σ (er τ) []:=by
 induction h with
 | nil=>exact .nil
 | no _ ih=>exact .no ih
 | shr h _ ih=>exact .shr h ih
 | mu h _ _ _ _ ih=>exact .no ih
theorem StM.r6 (h:StM K H0 Hs H ρ σ τ fp):τ[i]?=some (.mu b m)->m.get q=some m1->∃ v fp1 v1,σ[i]?=some (some v)/\vAt H v q=some v1/\Od K Hs H fp1 v1 m1/\(∀ c ∈ fp1,c ∈ fp) /\
  ∀ Hs' H' fp2 m2,b6 Hs Hs'->(∀ c ∈ fp,c ∉ fp1->Hs' c=none/\H' c=H c)->Od K Hs' H' fp2 v1 m2->(∀ c ∈ fp2,c ∈ fp1\/(c ∉ fp/\H0 c=none))->∃ fp',StM K H0 Hs' H' ρ σ (τ.set i (.mu b (m.put q m2))) fp'/\∀ c,c ∈ fp'↔(c ∈ fp/\c ∉ fp1)\/c ∈ fp2:=by
 induction h generalizing i with
 | nil=>intro e; simp at e
 | no r ih =>
  intro e eg
  cases i with
  | zero=>simp at e
  | succ i =>
   obtain ⟨v,fp1,v1,h1,h2,h3,h4,h5⟩:=ih (i:=i) (by simpa using e) eg
   exact ⟨v,fp1,v1,by simpa using h1,h2,h3,h4,λ Hs' H' fp2 m2 g k o j=>by
    obtain ⟨fp',s,mem⟩:=h5 Hs' H' fp2 m2 g k o j
    exact ⟨fp',.no s,mem⟩⟩
 | shr hr r ih =>
  intro e eg
  cases i with
  | zero=>simp at e
  | succ i =>
   obtain ⟨v,fp1,v1,h1,h2,h3,h4,h5⟩:=ih (i:=i) (by simpa using e) eg
   exact ⟨v,fp1,v1,by simpa using h1,h2,h3,h4,λ Hs' H' fp2 m2 g k o j=>by
    obtain ⟨fp',s,mem⟩:=h5 Hs' H' fp2 m2 g k o j
    exact ⟨fp',.shr (hr.same g) s,mem⟩⟩
 | @mu p v b' m' ρ σ τ fq fp ho hp z j r ih =>
  intro e eg
  cases i with
  | zero =>
   have e':Sm.mu b' m'=.mu b m:=by simpa using e
   injection e' with e1 e2
   subst e1 e2;obtain ⟨fp1,v1,w1,w2,w3,w4⟩:=ho.r6 q eg;refine ⟨v,fp1,v1,rfl,w1,w2,λ c hc=>Zp _ (w3 c hc),λ Hs' H' fp2 m2 g k o jj=>?_⟩;obtain ⟨fp',o',i'⟩:=w4 Hs' H' fp2 m2 g (λ c hc hn=>k c (Zp _ hc) hn) o λ c hc=>(jj c hc).imp id λ y q=>y.1 (Zp _ q)
   refine ⟨fp'++fp,.mu o' hp (λ c hc=>?_) (λ c hc=>?_) (r.mv g λ c hc=>k c (Zc _ hc) λ y=>j c (w3 c y) hc),λ c=>?_⟩
   ·rcases (i' c).mp hc with y | y
    · exact z c y.1
    ·rcases jj c y with y | y
     · exact z c (w3 c y)
     · exact y.2
   ·rcases (i' c).mp hc with y | y
    · exact j c y.1
    ·rcases jj c y with y | y
     · exact j c (w3 c y)
     · exact λ q=>y.1 (Zc _ q)
   ·rw [Zh,Zh,i' c]
    constructor
    ·rintro ((y | y) | y)
     · exact .inl ⟨.inl y.1,y.2⟩
     · exact .inr y
     · exact .inl ⟨.inr y,λ q=>j c (w3 c q) y⟩
    ·rintro (⟨y | y,y2⟩ | y)
     · exact .inl (.inl ⟨y,y2⟩)
     · exact .inr y
     · exact .inl (.inr y)
  | succ i =>
   obtain ⟨v',fp1,v1,h1,h2,h3,h4,h5⟩:=ih (i:=i) (by simpa using e) eg;refine ⟨v',fp1,v1,by simpa using h1,h2,h3,λ c hc=>Zc _ (h4 c hc),λ Hs' H' fp2 m2 g k o jj=>?_⟩;obtain ⟨fp',s,mem⟩:=h5 Hs' H' fp2 m2 g (λ c hc hn=>k c (Zc _ hc) hn) o λ c hc=>(jj c hc).imp id λ y=>⟨λ q=>y.1 (Zc _ q),y.2⟩
   have nf:∀ c ∈ fq,c ∉ fp1:=λ c hc q=>j c hc (h4 c q)
   refine ⟨fq++fp',.mu (ho.mv g λ c hc=>k c (Zp _ hc) (nf c hc)) hp z (λ c hc q=>?_) s,λ c=>?_⟩
   ·rcases (mem c).mp q with y | y
    · exact j c hc y.1
    ·rcases jj c y with y | y
     · exact nf c hc y
     · exact y.1 (Zp _ hc)
   ·rw [Zh,Zh,mem c]
    constructor
    ·rintro (y | y | y)
     · exact .inl ⟨.inl y,nf c y⟩
     · exact .inl ⟨.inr y.1,y.2⟩
     · exact .inr y
    ·rintro (⟨y | y,y2⟩ | y)
     · exact .inl y
     · exact .inr (.inl ⟨y,y2⟩)
     · exact .inr (.inr y)
theorem StM.Oh (i:Nat) (h:StM K H0 Hs H ρ σ τ fp):∃ fp',StM K H0 Hs H ρ σ (τ.set i .no) fp'/\∀ c ∈ fp',c ∈ fp:=by
 induction h generalizing i with
 | nil=>exact ⟨[],.nil,λ _ h=>h⟩
 | no r ih =>
  cases i with
  | zero=>exact ⟨_,.no r,λ _ h=>h⟩
  | succ i=>obtain ⟨fp',h1,h2⟩:=ih i; exact ⟨fp',.no h1,h2⟩
 | shr h r ih =>
  cases i with
  | zero=>exact ⟨_,.no r,λ _ h=>h⟩
  | succ i=>obtain ⟨fp',h1,h2⟩:=ih i; exact ⟨fp',.shr h h1,h2⟩
 | mu h hp z j r ih =>
  cases i with
  | zero=>exact ⟨_,.no r,λ _ h=>Zc _ h⟩
  | succ i =>
   obtain ⟨fp',h1,h2⟩:=ih i;exact ⟨_,.mu h hp z (λ c hc q=>j c hc (h2 c q)) h1,λ c hc=>(Zh.mp hc).elim (Zp _) λ q=>Zc _ (h2 c q)⟩
theorem StM.out (h:StM K H0 Hs H ρ σ τ fp):τ[i]?=some (.mu b m)->∃ v fq fp',σ[i]?=some (some v)/\Od K Hs H fq v m/\StM K H0 Hs H ρ σ (τ.set i .no) fp'/\(∀ c ∈ fq,c ∉ fp'/\c ∈ fp)/\(∀ c,c ∈ fp↔c ∈ fq\/c ∈ fp'):=by
 induction h generalizing i with
 | nil=>intro e; simp at e
 | no r ih =>
  intro e
  cases i with
  | zero=>simp at e
  | succ i =>
   obtain ⟨v,fq,fp',h1,h2,h3,h4,h5⟩:=ih (i:=i) (by simpa using e);exact ⟨v,fq,fp',by simpa using h1,h2,.no h3,h4,h5⟩
 | shr hr r ih =>
  intro e
  cases i with
  | zero=>simp at e
  | succ i =>
   obtain ⟨v,fq,fp',h1,h2,h3,h4,h5⟩:=ih (i:=i) (by simpa using e);exact ⟨v,fq,fp',by simpa using h1,h2,.shr hr h3,h4,h5⟩
 | @mu p v b' m' ρ σ τ fq fp ho hp z j r ih =>
  intro e
  cases i with
  | zero =>
   have e':Sm.mu b' m'=.mu b m:=by simpa using e
   injection e' with e1 e2
   subst e1 e2;exact ⟨v,fq,fp,rfl,ho,.no r,λ c hc=>⟨j c hc,Zp _ hc⟩,λ c=>Zh⟩
  | succ i =>
   obtain ⟨v',fq',fp',h1,h2,h3,h4,h5⟩:=ih (i:=i) (by simpa using e);refine ⟨v',fq',fq++fp',by simpa using h1,h2,.mu ho hp z (λ c hc q=>j c hc ((h5 c).mpr (.inr q))) h3,λ c hc=>⟨λ q=>?_,Zc _ (h4 c hc).2⟩,λ c=>?_⟩
   ·rcases Zh.mp q with q | q
    · exact j c q (h4 c hc).2
    · exact (h4 c hc).1 q
   ·rw [Zh,Zh,h5 c]
    constructor
    ·rintro (y | y | y)
     · exact .inr (.inl y)
     · exact .inl y
     · exact .inr (.inr y)
    ·rintro (y | y | y)
     · exact .inr (.inl y)
     · exact .inl y
     · exact .inr (.inr y)
theorem StM.ux (h:StM K H0 Hs H ρ σ τ fp) (hv:Rp K Hs v d):∃ fp',StM K H0 Hs H ρ (σ.set i (some v)) (τ.set i (.shr d)) fp'/\∀ c ∈ fp',c ∈ fp:=by
 induction h generalizing i with
 | nil=>exact ⟨[],.nil,λ _ h=>h⟩
 | no r ih =>
  cases i with
  | zero=>exact ⟨_,.shr hv r,λ _ h=>h⟩
  | succ i=>obtain ⟨fp',h1,h2⟩:=ih (i:=i); exact ⟨fp',.no h1,h2⟩
 | shr h r ih =>
  cases i with
  | zero=>exact ⟨_,.shr hv r,λ _ h=>h⟩
  | succ i=>obtain ⟨fp',h1,h2⟩:=ih (i:=i); exact ⟨fp',.shr h h1,h2⟩
 | mu h hp z j r ih =>
  cases i with
  | zero=>exact ⟨_,.shr hv r,λ _ h=>Zc _ h⟩
  | succ i =>
   obtain ⟨fp',h1,h2⟩:=ih (i:=i);exact ⟨_,.mu h hp z (λ c hc q=>j c hc (h2 c q)) h1,λ c hc=>(Zh.mp hc).elim (Zp _) λ q=>Zc _ (h2 c q)⟩
theorem StM.setM (h:StM K H0 Hs H ρ σ τ fp) (hv:Od K Hs H fq v m) (z:∀ c ∈ fq,H0 c=none/\c ∉ fp) (hi:i < τ.length):∃ fp',StM K H0 Hs H ρ (σ.set i (some v)) (τ.set i (.mu false m)) fp'/\∀ c ∈ fp',c ∈ fq\/c ∈ fp:=by
 induction h generalizing i with
 | nil=>exact absurd hi (by simp)
 | no r ih =>
  cases i with
  | zero=>exact ⟨_,.mu hv (λ e=>by cases e) (λ c hc=>(z c hc).1) (λ c hc=>(z c hc).2) r,λ c h=>Zh.mp h⟩
  | succ i=>obtain ⟨fp',h1,h2⟩:=ih (i:=i) z (by simpa using hi); exact ⟨fp',.no h1,h2⟩
 | shr h r ih =>
  cases i with
  | zero=>exact ⟨_,.mu hv (λ e=>by cases e) (λ c hc=>(z c hc).1) (λ c hc=>(z c hc).2) r,λ c h=>Zh.mp h⟩
  | succ i=>obtain ⟨fp',h1,h2⟩:=ih (i:=i) z (by simpa using hi); exact ⟨fp',.shr h h1,h2⟩
 | @mu p v' b' m' ρ σ τ fq' fp h hp z' j r ih =>
  have zr:∀ c ∈ fq,H0 c=none/\c ∉ fp:=λ c hc=>⟨(z c hc).1,λ q=>(z c hc).2 (Zc _ q)⟩
  cases i with
  | zero=>exact ⟨_,.mu hv (λ e=>by cases e) (λ c hc=>(z c hc).1) (λ c hc=>(zr c hc).2) r,λ c h=>(Zh.mp h).imp id λ q=>Zc _ q⟩
  | succ i =>
   obtain ⟨fp',h1,h2⟩:=ih (i:=i) zr (by simpa using hi);refine ⟨_,.mu h hp z' (λ c hc q=>?_) h1,λ c hc=>?_⟩
   ·rcases h2 c q with y | y
    · exact (z c y).2 (Zp _ hc)
    · exact j c hc y
   ·rcases Zh.mp hc with y | y
    · exact .inr (Zp _ y)
    · exact (h2 c y).imp id λ q=>Zc _ q
end
structure bI (K:W.Frag) (Hs0 H0:Hp) (ρ:List (Option Addr)) (Hs H:Hp) (σ:St) (τ:List Sm):Prop where
 ext:Ext Hs0 H0 Hs H
 st:∃ fp,StM K H0 Hs H ρ σ τ fp
section
variable {K:W.Frag} {Hs0 H0 Hs H Hs' H':Hp} {ρ:List (Option Addr)} {σ:St} {τ:List Sm}
theorem bI.ext' (r:bI K Hs0 H0 ρ Hs H σ τ) (g:Ext Hs H Hs' H'):bI K Hs0 H0 ρ Hs' H' σ τ:=by
 obtain ⟨fp,h⟩:=r.st;refine ⟨⟨r.ext.ss.trans g.ss,g.sh,r.ext.hh.trans g.hh,λ b h1 h2=>g.fr b (r.ext.fr b h1 h2) (r.ext.hh.live h2)⟩,fp,h.ext g⟩
theorem bI.grow (r:bI K Hs0 H0 ρ Hs H σ τ) (g:b6 H H'):bI K Hs0 H0 ρ Hs H' σ τ:=r.ext' ⟨.refl _,r.ext.sh.trans g,g,λ _ h _=>h⟩
theorem bI.sm (r:bI K Hs0 H0 ρ Hs H σ τ):b6 Hs H:=r.ext.sh
end
def Nf (N H0:Hp):Prop:=∀ d o u,N d=some (.frz o u)->H0 d≠none
theorem Nf.upd (h:Nf N H0):Nf N (upd H0 p u):=λ d o w e=>by
 by_cases z:d=p
 · rw [z,aw]; simp
 · rw [ak z]; exact h d o w e
inductive tT where
 | next (τ:List Sm) | ret (s:Sm) (τ:List Sm) | brk (τ:List Sm) | cnt (τ:List Sm)
abbrev DSm:=List Sm->Option tT
abbrev DEm:=List Sm->Option (Sm×List Sm)
abbrev DTm:=List Sm->Option (Bool×List Sm)
abbrev DPx:=List Sm->Option (Nat×List Stp)
def IE (K:W.Frag) (Hs0 H0:Hp) (ρ:List (Option Addr)) (E:Ends):tT->Prop
 | .next τ=>∀ σ Hs H,bI K Hs0 H0 ρ Hs H σ τ->E.nx σ H
 | .brk τ=>∀ σ Hs H,bI K Hs0 H0 ρ Hs H σ τ->E.bk σ H
 | .cnt τ=>∀ σ Hs H,bI K Hs0 H0 ρ Hs H σ τ->E.ct σ H
 | .ret s τ=>∀ v σ Hs H,bI K Hs0 H0 (none::ρ) Hs H (some v::σ) (s::τ)->E.rt v H
def LS (N:Hp) (K:W.Frag) (f:DSm):TS:=λ E σ H=>∃ (Hs0 H0:Hp),∃ (_:Nf N H0),∃ ρ Hs τ o,bI K Hs0 H0 ρ Hs H σ τ/\f τ=some o/\IE K Hs0 H0 ρ E o
def Nc (N:Hp) (K:W.Frag) (f:DEm):TE:=λ σ H Q=>∃ (Hs0 H0:Hp),∃ (_:Nf N H0),∃ ρ Hs τ s τ',bI K Hs0 H0 ρ Hs H σ τ/\f τ=some (s,τ')/\∀ v Hs' H',bI K Hs0 H0 (none::ρ) Hs' H' (some v::σ) (s::τ')->Q v H'
def M9 (N:Hp) (K:W.Frag) (f:DTm):TT:=λ σ H Q=>∃ (Hs0 H0:Hp),∃ (_:Nf N H0),∃ ρ Hs τ b τ',bI K Hs0 H0 ρ Hs H σ τ/\f τ=some (b,τ')/\∀ Hs' H',bI K Hs0 H0 ρ Hs' H' σ τ'->Q b H'
def PSm (X:Cx) (s:Stmt) (f:DSm):Prop:=PS X s (LS X.H₀ X.K f)
def lQ (X:Cx) (s:List Stmt) (f:DSm):Prop:=PSs X s (LS X.H₀ X.K f)
def PEm (X:Cx) (e:Expr) (f:DEm):Prop:=PE X e (Nc X.H₀ X.K f)
def PTm (X:Cx) (e:Expr) (f:DTm):Prop:=PT X e (M9 X.H₀ X.K f)
def aZ (τ:List Sm) (i:Nat) (q:List Stp):Option Mt:=match τ[i]? with
 | some (.mu _ m)=>m.get q
 | _=>none
def c4 (τ:List Sm) (i:Nat) (q:List Stp) (m2:Mt):List Sm:=match τ[i]? with
 | some (.mu b m)=>τ.set i (.mu b (m.put q m2))
 | _=>τ
def rdX (N:Hp) (K:W.Frag) (f:DPx):TE:=λ σ H Q=>∃ (Hs0 H0:Hp),∃ (_:Nf N H0),∃ ρ Hs τ i q m,bI K Hs0 H0 ρ Hs H σ τ/\f τ=some (i,q)/\aZ τ i q=some m/\∀ v v1 H',b6 H H'->σ[i]?=some (some v)->vAt H' v q=some v1->Q v1 H'
def PXm (X:Cx) (e:Expr) (f:DPx):Prop:=PE X e (rdX X.H₀ X.K f)
structure Bx (p:Prop):Prop where
 out:p
section
variable {X:Cx} {a b e o:Expr} {es:List Expr} {pos apos cpos:Pos} {f g:DE}
theorem EC:SlR X (λ x lo hi H Q=>∃ z,x=.str z/\z.length<=sizeLine/\Q (.str (Txt.slice z lo hi)) H):=by
 intro pins s σ H x v vl vu lo hi sl Q I rx hs pl pu h;obtain ⟨z,rfl,hz,q⟩:=h;obtain ⟨t,rfl⟩:=rx;have fin:∀ t' k,EP X pins σ Q (.str (Txt.slice z lo hi) t') { s with toks:=k }:=λ t' k=>⟨.str _,H,I.tok k,⟨_,rfl⟩,q⟩
 refine ⟨"str",_,PySem.F.slot_str_getitem.lookup,typeIs_str s z t,?_⟩
 cases pl with
 | none=>cases pu with
  | none=>exact Xh (l:=none) (u:=none) (st:=none) hs rfl (post_val_or_str ⟨Z6 (Txt.slice_le z _ _) hz,fin⟩)
  | int j t2=>exact Xh (l:=none) (u:=some (j,t2)) (st:=none) hs rfl (post_val_or_str ⟨Z6 (Txt.slice_le z _ _) hz,fin⟩)
 | int i t1=>cases pu with
  | none=>exact Xh (l:=some (i,t1)) (u:=none) (st:=none) hs rfl (post_val_or_str ⟨Z6 (Txt.slice_le z _ _) hz,fin⟩)
  | int j t2=>exact Xh (l:=some (i,t1)) (u:=some (j,t2)) (st:=none) hs rfl (post_val_or_str ⟨Z6 (Txt.slice_le z _ _) hz,fin⟩)
def LY:D->Option Int->Option Int->Option D
 | .str z,l,u=>if z.length<=100000 then some (.str (Txt.slice z l u)) else none
 | _,_,_=>none
def IB (f:DE) (l u:DO):DE:=λ τ=>(f τ).bind λ x=>(l τ).bind λ l'=>(u τ).bind λ u'=>LY x l' u'
theorem Fg {lo hi:Option Expr} {p2:Pos} {l u:DO} (ha:PEd X a f) (hl:POd X lo l) (hh:POd X hi u):PEd X (.Subscript a (.Slice lo hi none p2) pos) (IB f l u) :=
 (yG EC ha hl hh).imp λ σ H Q ⟨H0,Hs,τ,fp,d,st,sm,e,k⟩=>by
   obtain ⟨x,e1,e⟩:=bind_some e;obtain ⟨l',e2,e⟩:=bind_some e;obtain ⟨u',e3,e⟩:=bind_some e;refine ⟨H0,Hs,τ,fp,x,st,sm,e1,λ v Hs1 H1 g1 r1=>?_⟩;refine ⟨H0,Hs1,τ,fp,l',st.ext g1,g1.sh,e2,λ Hs2 H2 g2=>?_⟩;refine ⟨H0,Hs2,τ,fp,u',(st.ext g1).ext g2,g2.sh,e3,λ Hs3 H3 g3=>?_⟩
   cases r1 with
   | str z =>
    unfold LY at e;simp only at e;split at e
    ·rename_i hz
     have e':=Zj e;subst e';exact ⟨z,rfl,sU hz,k _ Hs3 H3 ((g1.trans g2).trans g3) (.str _)⟩
    · cases e
   | _=>exact nn e
def si:List D->Option (List Str)
 | []=>some []
 | .str x::ds=>(si ds).map (x::·)
 | _::_=>none
theorem nD:∀ {ds:List D} {ts:List Str},si ds=some ts->ds=ts.map .str
 | [],ts,h=>by cases h; rfl
 | .str x::ds,ts,h=>by
  obtain ⟨us,e,rfl⟩:=Zm h;rw [nD e]; rfl
theorem Rps.jH {K:W.Frag} {H:Hp}:∀ {ts:List Str} {xs:List V},Rps K H xs (ts.map D.str)->xs=ts.map V.str
 | [],_,.nil=>rfl
 | x::ts,_,.cons h r=>by
  cases h;rw [Rps.jH r]; rfl
def zU (f g:DE):DE:=λ τ=>(f τ).bind λ x=>(g τ).bind λ y=>match x,y with
 | .str z,.lst ds=>(si ds).bind λ ts=>if (ts.map (·.length)).sum+ts.length * z.length<=100000 then some (.str (Txt.join z ts)) else none
 | _,_=>none
theorem Cp (ho:PEd X o f) (he:PEd X e g) (hbase:attributeBase o "join" X.env (eval o X.env)=eval o X.env:=by rfl)
   (hfew:((backTo cpos (starEach [e] X.env)).all (λ x=>!x.1)&&(backToKw cpos (keywordEach [] X.env)).all (λ x=>x.1.isSome)
     && decide ([e].length+([]:List Keyword).length+(if ([]:List Keyword).isEmpty then 0 else 1) < 30))=true:=by rfl)
   (hline:(apos.endLine == cpos.line)=true:=by rfl) (hst:starEach [e] X.env=(false,eval e X.env)::starEach [] X.env:=by rfl) (hplain:(backTo cpos (starEach [] X.env)).any (·.1)=false:=by rfl) :
   PEd X (.Call (.Attribute o "join" apos) [e] [] cpos) (zU f g) :=
 (mG PySem.F.plainAttrs_str PySem.F.slot_str_join PySem.F.type_str_join C3 ho (b7 he dr hst) hbase hfew hline hst hplain).imp λ σ H Q ⟨H0,Hs,τ,fp,d,st,sm,e,k⟩=>by
   obtain ⟨x,e1,e⟩:=bind_some e;obtain ⟨y,e2,e⟩:=bind_some e
   obtain ⟨z,ds,rfl,rfl⟩:∃ z ds,x=.str z/\y=.lst ds:=by
     split at e
     · exact ⟨_,_,rfl,rfl⟩
     · cases e
   refine ⟨H0,Hs,τ,fp,_,st,sm,e1,λ v Hs1 H1 g1 r1=>?_⟩
   cases r1 with
   | str _ =>
     refine ⟨rfl,H0,Hs1,τ,fp,_,st.ext g1,g1.sh,e2,λ u Hs2 H2 g2 r2=>?_⟩
     cases r2 with
     | @lst p xs _ h r =>
      obtain ⟨ts,e3,e4⟩:=bind_some (e);have ed:=nD e3;subst ed;have ex:=r.jH;subst ex;split at e4
      ·rename_i hs
       have e':=Zj e4;subst e';exact ⟨z,p,ts,rfl,rfl,SqL.of (g2.sh _ _ h),Z6 hs (by decide),k _ Hs2 H2 (g1.trans g2) (.str _)⟩
      · cases e4
end
end L2
end
section
namespace HT
open PySem PyProof.Rows
theorem yb (A:Around) (s:Shared) (a:Int) (t:Tok) (c:Int) (u:Tok) (prog:Program) (w:World) (E:Value->Shared->Prop) (Q:Value->Shared->Prop) (h:Q (.bool (decide (c < a))) s) :
  wpAny (model prog w) A (richCompare .Gt (.int a t) (.int c u)) Q E s :=
 (PyProof.Rows.gt_int h:wpAny (model prog w) A (compareOp .Gt (.int a t) (.int c u)) Q E s)
section
open PySem.SeqAt
open PySem.AutoSeq1 (wpAny_loadPart')
open PySem.MeetsSeq PySem.MeetsSeq2 PySem.MeetsSeq3
def gtR:List (Int×Int)->Bool
 | []=>false
 | (x,y)::r=>if x=y then gtR r else decide (y < x)
inductive pA:List (Value×Value)->List (Int×Int)->Prop where
 | nil:pA [] []
 | cons (a c:Int) (t u:Tok) {vs:List (Value×Value)} {ns:List (Int×Int)} (h:pA vs ns):pA ((.int a t,.int c u)::vs) ((a,c)::ns)
theorem lA (l b:Addr) (items items2:Array Value) (n n2:Nat) (dd dd2:Option Addr) (sl sl2:Array (Option Value)) (ns:List (Int×Int)) (hz:items.size=items2.size) (hi:pA (items.toList.zip items2.toList) ns) :
  Meets (Builtin.«tuple.__gt__» ⟨[.ref l,.ref b],[]⟩)
   (λ _ R s=>s.heap.get? l=some { cls:=.type "tuple",dict:=dd,data:=.seq items n,slots:=sl }/\s.heap.get? b=some { cls:=.type "tuple",dict:=dd2,data:=.seq items2 n2,slots:=sl2 } /\
     R (.ok (.ret (.bool (gtR ns)))) s) :=
 .of_wp λ prog w A R s h=>by
  obtain ⟨hp,g,d,tk,os⟩:=s; obtain ⟨hl,hb,h⟩:=h
  have f2:=AutoSeq1.sub_tuple_tuple
  wp_walk using wpAny_loadPart' hl,wpAny_loadPart' hb,wpAny_forIn_list _ (λ rest b s'=>b.1=none/\s'=⟨hp,g,d,tk,os⟩/\∃ ns',pA rest ns'/\R (.ok (.ret (.bool (gtR ns')))) ⟨hp,g,d,tk,os⟩) _
  case turn =>
   rintro ⟨y,x⟩ rest b s' ⟨hb',rfl,ns',hv,hR⟩
   cases hv with
   | cons a c t u hv' =>
     rw [gtR] at hR;obtain ⟨e,he,hiff⟩:=zO A.in1 ⟨hp,g,d,tk,os⟩ a t c u;refine Zo (he prog w _ _ ?_)
     cases e with
     | true =>
      rw [if_pos (hiff.mp rfl)] at hR
      wp_walk
      exact ⟨rfl,rfl,_,hv',hR⟩
     | false =>
      rw [if_neg (λ q=>absurd (hiff.mpr q) Zf)] at hR;have hri:=yb A.in1 ⟨hp,g,d,tk,os⟩ a t c u prog w
      wp_walk using hri
      exact ⟨_,rfl,by simpa using hR⟩
  case fin =>
   rintro ⟨b1,b2⟩ s' ⟨hb',rfl,ns',hv,hR⟩
   subst hb';cases hv
   wp_walk
   exact ⟨_,rfl,by simpa [Builtin.Tuple.tupleCompareSizes,gtR,hz] using hR⟩
  case h =>
   exact ⟨rfl,rfl,ns,hi,h⟩
end
end HT
end
section
namespace HT
open PySem PyProof.Rows
section
variable {prog:Program} {w:World} {A:Around} {I ax S:Addr} {items:Array Value} {kw:List (Str×Value)}
def jv (I S:Addr) (h h':Heap):Prop:=∀ b o,b≠I->b≠S->h.get? b=some o->h'.get? b=some o
theorem jv.trans (a:jv I S h1 h2) (b:jv I S h2 h3):jv I S h1 h3:=λ c o n1 n2 e=>b c o n1 n2 (a c o n1 n2 e)
theorem f7 (k:∀ b o,b ∉ [I]->h.get? b=some o->h'.get? b=some o):jv I S h h':=λ b o n1 _ e=>k b o (by simpa using n1) e
theorem fw (f:Obj->Obj):jv I S h (h.update S f):=λ b o _ n e=>(Heap.get?_update_other _ _ (Ne.symm n)).trans e
structure MK (prog:Program) (w:World) (A:Around) (I S:Addr) (items:Array Value) (Good:Heap->Prop) (bt:Nat->Nat->Bool):Prop where
 qA:∀ h h',Good h->jv I S h h'->Good h'
 cmp:∀ i j vi vj (s:Shared) (Q:Value->Shared->Prop) (E:Value->Shared->Prop),items[i]?=some vi->items[j]?=some vj->Good s.heap->Q (.bool (bt i j)) s->wpAny (model prog w) A.in1 (richCompare .Gt vi vj) Q E s
theorem mM:(toString "max"++toString ".loop":String)="max.loop":=by decide
theorem C0 {R:Result->Shared->Prop} {Good:Heap->Prop} {bt:Nat->Nat->Bool} (M:MK prog w A I S items Good bt) (hh:A.in1.handled=none) (n1:ax≠I) (n2:S≠I) (n3:S≠ax) :
    ∀ (k j:Nat) (s:Shared) (vb:Value) (c:Nat),items.size=j+1+k->s.heap.IsListIter I ax (j+1)->s.heap.IsList ax items->Good s.heap->items[argBest bt j]?=some vb ->
      s.heap.get? S=some { cls:=.type "list",dict:=none,data:=.seq #[vb,vb] c,slots:=#[] } ->
      (∀ v h' tk,items[argBest bt (items.size - 1)]?=some v->jv I S s.heap h'->R (.ok (.ret v)) { s with heap:=h',toks:=tk }) ->
      codeAny (model prog w) A (.builtin "max.loop" ⟨[.ref I,.none,.ref S],kw⟩) R s:=by
  have W:=Walks.list (prog:=prog) (w:=w) hh I ax n1 items;have nw:S ∉ [I]:=by simpa using n2
  intro k
  induction k with
  | zero =>
    intro j s vb c hk hi hl hg hb hS fin;refine codeAny_builtin F.entry_max_loop ?_
    rw [Around.under_plainId Y1 _];refine Zo (wpAny_seqItems hS rfl ?_);refine Zo (wpAny_tryCatch (W.done s _ _ (by rw [hk]; exact ⟨hi,hl⟩) λ h' tk keep=>?_));have hS':=keep S _ nw hS;refine Zo (wpAny_updateSeq hS' rfl (Zo (wpAny_letGo (Z1 ?_))));exact fin vb _ tk (by rw [hk]; exact hb) ((f7 keep).trans (fw _))
  | succ k ih =>
    intro j s vb c hk hi hl hg hb hS fin;refine codeAny_builtin F.entry_max_loop ?_
    rw [Around.under_plainId Y1 _];show wpAny _ A.in1 (seqItems? (.ref S) >>= _) _ _ s;refine Zo (wpAny_seqItems hS rfl ?_);show wpAny _ A.in1 (tryCatch (pyNext (.ref I)) _ >>= _) _ _ s;refine Zo (wpAny_tryCatch (W.item (j+1) s _ _ (by omega) ⟨hi,hl⟩ λ v h' tk hv ⟨hi',hl'⟩ keep=>?_));have hS':=keep S _ nw hS;have st:jv I S s.heap h':=f7 keep;have hg':=M.qA _ _ hg st;show wpAny _ A.in1 (tryCatch (holding [v,v] (richCompare .Gt v vb >>= _)) _ >>= _) _ _ _;refine Zo (wpAny_tryCatch (wpAny_holding (Zo (M.cmp (j+1) (argBest bt j) v vb _ _ _ hv hb hg' ?_))));refine Zo (wpAny_holding (Yg (Zo (wpAny_letGo (Z1 ?_)))))
    cases e:bt (j+1) (argBest bt j) with
    | true =>
      refine Zo (wpAny_updateSeq hS' rfl (Zo (wpAny_letGo ?_)));rw [mM]
      have f:=W.frame (j+2) h' (h'.update S (Obj.mapSeq λ _=>#[v,v])) ⟨hi',hl'⟩ λ b hbf o eb=>(Heap.get?_update_other _ _ (λ q:S=b=>by
        simp only [Zl,Xg,or_false] at hbf;rcases hbf with z | z
        · exact n2 (q.trans z)
        · exact n3 (q.trans z))).trans eb
      refine Z1 ⟨plainId_quiet Y1 _,ih (j+1) _ v _ (by omega) f.1 f.2 (M.qA _ _ hg' (fw _)) (by simp only [argBest,e,if_true]; exact hv) (Heap.get?_update_self _ hS' rfl) λ v' h2 t2 hv' st2=>?_⟩;exact fin v' h2 t2 hv' (st.trans ((fw _).trans st2))
    | false =>
      refine Zo (wpAny_letGo ?_);rw [mM];refine Z1 ⟨plainId_quiet Y1 _,ih (j+1) _ vb c (by omega) hi' hl' hg' (by simp only [argBest,e,Bool.false_eq_true,if_false]; exact hb) hS' λ v' h2 t2 hv' st2=>?_⟩;exact fin v' h2 t2 hv' (st.trans st2)
theorem za {R:Result->Shared->Prop} {Good:Heap->Prop} {bt:Nat->Nat->Bool} {d:Value} (M:MK prog w A I S items Good bt) (hh:A.in1.handled=none) (n1:ax≠I) (n2:S≠I) (n3:S≠ax) {s:Shared} {c:Nat} (hi:s.heap.IsListIter I ax 0) (hl:s.heap.IsList ax items) (hg:Good s.heap)
  (hS:s.heap.get? S=some { cls:=.type "list",dict:=none,data:=.seq #[] c,slots:=#[] })
  (fin0:items.size=0->∀ h' tk,jv I S s.heap h'->R (.ok (.ret d)) { s with heap:=h',toks:=tk })
  (fin:0 < items.size->∀ v h' tk,items[argBest bt (items.size - 1)]?=some v->jv I S s.heap h'->R (.ok (.ret v)) { s with heap:=h',toks:=tk }) :
  codeAny (model prog w) A (.builtin "max.loop" ⟨[.ref I,.none,.ref S],[("default",d)]⟩) R s:=by
 have W:=Walks.list (prog:=prog) (w:=w) hh I ax n1 items;have nw:S ∉ [I]:=by simpa using n2
 refine codeAny_builtin F.entry_max_loop ?_
 rw [Around.under_plainId Y1 _];refine Zo (wpAny_seqItems hS rfl ?_)
 by_cases z:items.size=0
 ·refine Zo (wpAny_tryCatch (W.done s _ _ (by rw [z]; exact ⟨hi,hl⟩) λ h' tk keep=>?_))
  refine Zo (wpAny_rule (Z1 ?_));exact fin0 z h' tk (f7 keep)
 ·refine Zo (wpAny_tryCatch (W.item 0 s _ _ (by omega) ⟨hi,hl⟩ λ v h' tk hv ⟨hi',hl'⟩ keep=>?_))
  have hS':=keep S _ nw hS;have st:jv I S s.heap h':=f7 keep;show wpAny _ A.in1 (updateSeq S (λ _=>#[v,v]) >>= _) _ _ _;refine Zo (wpAny_updateSeq hS' rfl ?_);rw [mM]
  have f:=W.frame 1 h' (h'.update S (Obj.mapSeq λ _=>#[v,v])) ⟨hi',hl'⟩ λ b hbf o eb=>(Heap.get?_update_other _ _ (λ q:S=b=>by
   simp only [Zl,Xg,or_false] at hbf;rcases hbf with z | z
   · exact n2 (q.trans z)
   · exact n3 (q.trans z))).trans eb
  refine Z1 ⟨plainId_quiet Y1 _,C0 M hh n1 n2 n3 (items.size - 1) 0 _ v _ (by omega) f.1 f.2 (M.qA _ _ (M.qA _ _ hg st) (fw _)) hv (Heap.get?_update_self _ hS' rfl) λ v' h2 t2 hv' st2=>?_⟩;exact fin (by omega) v' h2 t2 hv' (st.trans ((fw _).trans st2))
end
end HT
end
section
namespace HT
open PySem PyProof.Rows
theorem xJ (a d:Value):argsOk "max" ⟨[a],[("default",d)]⟩:=by rfl
def gtP (p q:Int×Int):Bool:=gtR [(p.1,q.1),(p.2,q.2)]
def btP (ps:List (Int×Int)) (i j:Nat):Bool:=gtP (ps.getD i (0,0)) (ps.getD j (0,0))
def G7 (ps:List (Int×Int)) (items:Array Value) (B:Nat) (h:Heap):Prop:=∀ (i:Nat) (v:Value),items[i]?=some v->∃ (a:Addr) (t1 t2:Tok) (p:Int×Int),v=Value.ref a/\a < B/\ps[i]?=some p/\IsTup h a #[.int p.1 t1,.int p.2 t2]
section
variable {prog:Program} {w:World} {A:Around} {E:Value->Shared->Prop} {s:Shared}
theorem zE (h1:IsTup s.heap a #[.int p.1 t1,.int p.2 t2]) (h2:IsTup s.heap b #[.int q.1 t3,.int q.2 t4]) (hu:A.units < cLine) (h:Q (.bool (gtP p q)) s) :
  wpAny (model prog w) A (richCompare .Gt (.ref a) (.ref b)) Q E s:=by
 obtain ⟨⟨cls,dd,data,sl⟩,ho,hc,n,hd⟩:=id h1;obtain ⟨⟨cls2,dd2,data2,sl2⟩,ho2,hc2,n2,hd2⟩:=id h2;subst hc hd hc2 hd2
 exact richCompare_meets_room ⟨_,ho,rfl⟩ ⟨_,ho2,rfl⟩ PySem.F.slot_tuple_gt PySem.F.entry_tuple_gt (PySem.F.args_tuple_gt_2 _ _) (lA a b #[.int p.1 t1,.int p.2 t2] #[.int q.1 t3,.int q.2 t4] n n2 dd dd2 sl sl2 [(p.1,q.1),(p.2,q.2)] rfl (.cons _ _ _ _ (.cons _ _ _ _ .nil)))
  ⟨ho,ho2,show Value.bool (gtP p q)≠Value.notImplemented/\Q (.bool (gtP p q)) s from ⟨(λ x=>nomatch x),h⟩⟩ hu
theorem xm (hh:A.in1.handled=none) (hu:A.units+64 < cLine) (hl:s.heap.IsList ax items) (hp:G7 ps items s.heap.objs.size s.heap)
  (fin0:items.size=0->∀ h' tk,(∀ b o,s.heap.get? b=some o->h'.get? b=some o)->Q d { s with heap:=h',toks:=tk })
  (fin:0 < items.size->∀ v h' tk,items[argBest (btP ps) (items.size - 1)]?=some v->(∀ b o,s.heap.get? b=some o->h'.get? b=some o)->Q v { s with heap:=h',toks:=tk }) :
  wpAny (model prog w) A (call (.builtin "max") [.ref ax] [("default",d)]) Q E s:=by
 have hax:ax < s.heap.objs.size:=by obtain ⟨_,e,_⟩:=hl; exact Zs e
 refine wpAny_call (codeAny_call_builtin F.plain_max F.entry_max ?_)
 have go:wpAny (model prog w) A.in1 (Builtin.«max» ⟨[.ref ax],[("default",d)]⟩) (λ f s'=>match f with
   | .done f=>(match (Except.ok f:Result) with | .ok (.ret v)=>Q v s' | .ok _=>False | .error e=>E e s')
   | .again c'=>c'.quiet=true/\codeAny (model prog w) A c' (λ r s'=>match r with | .ok (.ret v)=>Q v s' | .ok _=>False | .error e=>E e s') s') E s:=by
  refine Zo (wpAny_of_eq (rfl) ?_);refine Zo (Z1 ?_);refine Zo (Xo hl ?_);refine Zo (wpAny_newObj_type ?_);rw [mM];have keep:∀ b o,s.heap.get? b=some o->(((s.heap.push { cls:=.type "list_iterator",data:=.fields #[.ref ax,.int 0 0] }).push { cls:=.type "list",data:=.seq #[] }).get? b=some o):=λ b o e=>Heap.get?_push_of_some _ (Heap.get?_push_of_some _ e)
  have hsz:(s.heap.push { cls:=.type "list_iterator",data:=.fields #[.ref ax,.int 0 0] }).objs.size=s.heap.objs.size+1:=Xe ..
  have nS:∀ b o,s.heap.get? b=some o->b≠(s.heap.push { cls:=.type "list_iterator",data:=.fields #[.ref ax,.int 0 0] }).objs.size:=λ b o e=>by
   rw [hsz];exact Zy (Yv (Zs e))
  refine Z1 ⟨plainId_quiet Y1 _,za (items:=items) (Good:=G7 ps items s.heap.objs.size) (bt:=btP ps) ⟨λ h h' g st i v e=>?_,λ i j vi vj s1 Q' E' ei ej g q=>?_⟩ hh (Zy hax) (by rw [hsz]; exact Nat.succ_ne_self _) (by rw [hsz]; exact (Zy (Yv hax)).symm) ?_ ?_ ?_ (Heap.get?_push_size _ rfl) (λ z h' tk st=>?_) (λ z v h' tk hv st=>?_)⟩
  ·obtain ⟨a,t1,t2,p,e1,e2,e3,e4⟩:=g i v e
   refine ⟨a,t1,t2,p,e1,e2,e3,?_⟩;obtain ⟨o,ho,r⟩:=e4;exact ⟨o,st a o (Zy e2) (by rw [hsz]; exact Zy (Yv e2)) ho,r⟩
  ·obtain ⟨a,t1,t2,p,rfl,_,e3,e4⟩:=g i vi ei
   obtain ⟨b,t3,t4,p',rfl,_,f3,f4⟩:=g j vj ej;refine zE e4 f4 (by show A.units+1 < cLine; omega) ?_
   have h1:btP ps i j=gtP p p':=by
    unfold btP;rw [List.getD_eq_getElem?_getD,List.getD_eq_getElem?_getD,e3,f3];rfl
   rw [<- h1];exact q
  · exact ⟨_,Heap.get?_push_of_some _ (Heap.get?_push_size _ rfl),rfl,rfl⟩
  · exact (hl.push _).push _
  ·intro i v e
   obtain ⟨a,t1,t2,p,e1,e2,e3,o,ho,r⟩:=hp i v e;exact ⟨a,t1,t2,p,e1,e2,e3,o,keep _ _ ho,r⟩
  · exact fin0 z h' tk λ b o e=>st b o (Zy (Zs e)) (nS b o e) (keep b o e)
  · exact fin z v h' tk hv λ b o e=>st b o (Zy (Zs e)) (nS b o e) (keep b o e)
 cases hsig:Manifest.signature? "max" with
 | none=>exact Z1 go
 | some sig =>
  have ha':Bind.checkArgs "max" sig ⟨[.ref ax],[("default",d)]⟩=pure ():=by
   have:=xJ (.ref ax) d
   simpa only [argsOk,hsig] using this
  exact Z1 go
end
end HT
end
section
namespace L2
open PySem PySem.Spec PyProof.Rows
def Hd:List D->Option (List (Int×Int))
 | []=>some []
 | .tup [.int a,.int b]::r=>(Hd r).map ((a,b)::·)
 | _=>none
theorem qO:∀ {ds:List D} {ps:List (Int×Int)},Hd ds=some ps->∀ {i:Nat} {d:D},ds[i]?=some d->∃ p,ps[i]?=some p/\d=.tup [.int p.1,.int p.2]
 | [],ps,h,i,d,e=>by simp at e
 | .tup [.int a,.int b]::r,ps,h,i,d,e=>by
  obtain ⟨qs,e1,rfl⟩:=Zm (show (Hd r).map _=some ps from h)
  cases i with
  | zero=>simp at e; subst e; exact ⟨(a,b),rfl,rfl⟩
  | succ i=>simpa using qO e1 (i:=i) (d:=d) (by simpa using e)
def GP (f g:DE):DE:=λ τ=>(f τ).bind λ x=>(g τ).bind λ d=>match x with
 | .lst ds=>(Hd ds).bind λ ps=>if ds.length=0 then some d else ds[argBest (HT.btP ps) (ds.length - 1)]?
 | _=>none
theorem bN.ints2 (r:bN [.int a,.int b] us):∃ t1 t2,us=[.int a t1,.int b t2]:=by
 cases r with
 | cons h r =>
  cases r with
  | cons h' r' =>
   cases r';obtain ⟨t1,rfl⟩:=h;obtain ⟨t2,rfl⟩:=h';exact ⟨t1,t2,rfl⟩
section
variable {X:Cx} {e e2:Expr} {p kp pos:Pos} {f g:DE}
theorem Cn (hu:X.A.units+64 < cLine) (hc:X.calm=true) (hg:Gl X "max") (hm:X.mg "max"=none) (hv:bootBuiltins "max"=some (.builtin "max")) (he:PEd X e f) (hd:PEd X e2 g)
  (hst:starEach [e] X.env=(false,eval e X.env)::starEach [] X.env:=by rfl) (hb:backTo pos (starEach [e] X.env)=(false,eval e X.env)::backTo pos (starEach [] X.env):=by rfl) (hplain:(backTo pos (starEach [e] X.env)).any (·.1)=false:=by rfl) :
  PEd X (.Call (.Name "max" p) [e] [⟨some "default",e2,kp⟩] pos) (GP f g):=by
 intro pins s σ H Q I ⟨H0,Hs,τ,fp,d,st,sm,ee,k⟩;obtain ⟨x,e1,ee⟩:=bind_some ee;obtain ⟨dd,e3,ee⟩:=bind_some ee;refine Yt (ka I hg hm hv ?_ (by decide) (by decide));refine callWith_kw ?_ hb hplain rfl rfl;refine thn (b7 he dr hst pos pins s σ H (λ vs H1=>∃ v Hs1,vs=[v]/\Ext Hs H Hs1 H1/\Rp X.K Hs1 v x) I ⟨H0,Hs,τ,fp,x,st,sm,e1,λ v Hs1 H1 g1 r1=>⟨v,Hs1,rfl,g1,r1⟩⟩) λ us s1 ⟨vs,H1,I1,rv,v,Hs1,ev,g1,r1⟩=>?_
 refine thn (Cb hd E4 pos pins s1 σ H1 (λ zs H2=>∃ u Hs2,zs=[u]/\Ext Hs1 H1 Hs2 H2/\Rp X.K Hs2 u dd) I1 ⟨H0,Hs1,τ,fp,dd,st.ext g1,g1.sh,e3,λ u Hs2 H2 g2 r2=>⟨u,Hs2,rfl,g2,r2⟩⟩) λ ws s2 ⟨zs,H2,I2,rz,u,Hs2,eu,g2,r2⟩=>?_
 subst ev eu;obtain ⟨u1,rfl,ru1⟩:=vals1 rv;obtain ⟨u2,rfl,ru2⟩:=vals1 rz
 cases r1 with
 | @lst q xs ds hL rr =>
  cases (ru1);obtain ⟨ps,e4,e5⟩:=bind_some (ee);have hL2:=g2.sh _ _ (g2.ss _ _ hL);obtain ⟨its,rvv,pl,hz⟩:=I2.list (SqL.of hL2);have l1:=rvv.length;have l2:=rr.length;refine HT.xm (ps:=ps) (I.ok.hd hc) hu pl.isList (λ i v hi=>?_) (λ z h' tk hk=>?_) (λ z v h' tk hv hk=>?_)
  ·have hi':its[i]?=some v:=by simpa using hi
   obtain ⟨x',hx,rx⟩:∃ x',xs[i]?=some x'/\RelV x' v:=by
    have hlt:=(List.getElem?_eq_some_iff.mp hi').1;obtain ⟨v',hv',r'⟩:=rvv.get (x:=xs[i]'(by omega)) (List.getElem?_eq_getElem _);rw [hi'] at hv';cases hv';exact ⟨_,List.getElem?_eq_getElem _,r'⟩
   obtain ⟨d',hd',rd⟩:=rr.get' hx;obtain ⟨pp,hp,rfl⟩:=qO e4 hd'
   cases rd with
   | @tup a ys _ hT rT =>
    cases rT with
    | cons q1 rT=>cases rT with
     | cons q2 rT =>
      cases rT;cases q1;cases q2;cases (rx);obtain ⟨its2,r3,p3,_⟩:=I2.tuple (g2.sh.tup (g2.ss.tup hT));obtain ⟨t1,t2,rfl⟩:=r3.ints2;have lt:a < s2.heap.objs.size:=by obtain ⟨_,e6,_⟩:=p3; exact Zs e6
      exact ⟨a,t1,t2,pp,rfl,lt,hp,p3⟩
  ·have z':ds.length=0:=by rw [Zr] at z; omega
   rw [if_pos z'] at e5;have e6:=Zj e5;subst e6;exact ⟨u,H2,I2.kept hk,ru2,k u Hs2 H2 (g1.trans g2) r2⟩
  ·have z':¬ ds.length=0:=by rw [Zr] at z; omega
   rw [if_neg z'] at e5;have hn:its.toArray.size=ds.length:=by rw [Zr]; omega
   rw [hn] at hv;have hv':its[argBest (HT.btP ps) (ds.length - 1)]?=some v:=by simpa using hv
   obtain ⟨x',hx,rx⟩:=rr.get e5;obtain ⟨v',hv2,r'⟩:=rvv.get hx;rw [hv'] at hv2;cases hv2;exact ⟨x',H2,I2.kept (t':=tk) hk,r',k x' Hs2 H2 (g1.trans g2) (rx.same g2.ss)⟩
 | _=>exact nn ee
end
end L2
end
section
namespace PySem
section
variable {prog:Program} {w:World} {A:Around} {E:Value->Shared->Prop} {s:Shared}
theorem v9:typeLookup (.type "list_reverseiterator") "__len__"=pure none:=by rfl
theorem zi:typeLookup (.type "list_reverseiterator") "__length_hint__"=pure (some (.builtin "list_reverseiterator.__length_hint__")):=by rfl
theorem sS (hit:s.heap.IsRevIter it l i) (h:Q false s):wpAny (model prog w) A (Builtin.List.listLengthHint (.ref it)) Q E s:=by
 refine Zo (wpAny_specialOf hit.typeIs v9 ?_);refine Zo (wpAny_specialOf hit.typeIs zi ?_);generalize hid:("list_reverseiterator.__length_hint__":String)=id0
 wp_delta
 rw [show splitId id0=some ("list_reverseiterator","__length_hint__") from by subst hid; decide +kernel];subst hid;refine Zo (wpAny_isInstance (b:=true) hit.typeIs (by rw [isSubtype_type]; kernel_rfl) ?_);exact Z1 h
theorem sT (hh:A.handled=none) (hit:s.heap.IsRevIter it l ((items.size:Int) - 1)) (hl:s.heap.IsList l items)
  (hlen:items.size<=sizeLine) (hne:l≠it) (S:Addr) (res:Value) (c₀:Nat) (hS:s.heap.get? S=some { cls:=.type "list",data:=.seq #[] c₀ }) (hSl:S≠l) (hSi:S≠it)
  (hR:∀ h' tk acc' c',(∀ b o,b≠S->b≠it->s.heap.get? b=some o->h'.get? b=some o)->h'.get? S=some { cls:=.type "list",dict:=none,data:=.seq acc' c',slots:=#[] } ->
    ItemsOf (λ i v=>items[items.size - 1 - i]?=some v) acc' items.size->R (.ok (.ret res)) { s with heap:=h',toks:=tk }) :
  wpAny (model prog w) A.in1 (Builtin.List.listExtendWith (.ref S) (.ref it) res)
    (λ fin s'=>match fin with | .done f=>R (.ok f) s' | .again c'=>c'.quiet=true/\codeAny (model prog w) A c' R s') (λ e s'=>R (.error e) s') s:=by
 have W:=(Walks.listRev (prog:=prog) (w:=w) (A:=A.in1) hh it l hne items).toS
 have hSf:S ∉ [it,l]:=λ hm=>by
  rcases Zl.mp hm with e | hm
  · exact hSi e
  · exact hSl (Zt.mp hm)
 refine Zo (wpAny_typeOf hit.typeIs ?_);have h1:Builtin.List.listSameRef (.ref S) (.ref it)=false:=by simp [Builtin.List.listSameRef,hSi]
 have h2:(Value.type "list_reverseiterator" == Value.type "list")=false:=by decide
 have h3:(Value.type "list_reverseiterator" == Value.type "tuple")=false:=by decide
 simp only [h1,h2,h3,Bool.or_false,Bool.false_eq_true,if_false];refine Zo (wpAny_pyIter_revIter hit ?_);refine Zo (wpAny_holding (sS hit ?_));refine wpAny_ite_split (λ hab=>absurd hab (by decide)) (λ _=>?_);refine Z1 ⟨plainId_quiet F.plain_extend_loop _,?_⟩
 have hit0:s.heap.IsRevIter it l ((items.size:Int) - 1 - ((0:Nat):Int)):=by
  simpa using hit
 refine codeAny_extend_loopS W hlen S hSf res items.size 0 _ #[] c₀ rfl (Z7 _) ⟨Z7 _,hit0,hl⟩ hS (ItemsOf.nil _) λ s' acc' c' hm hS' hacc=>?_
 rw [Moved.eq_with hm];refine hR s'.heap s'.toks acc' c' (λ b o hb hb2 e=>hm.heap b o (λ hmem=>?_) e) hS' hacc;rcases Zl.mp hmem with e' | hmem
 · exact hb e'
 · exact hb2 (Zt.mp hmem)
theorem zh (hh:A.handled=none) (hit:s.heap.IsRevIter it l ((items.size:Int) - 1)) (hl:s.heap.IsList l items)
  (hlen:items.size<=sizeLine) (hne:l≠it) (S:Addr) (hS:s.heap.get? S=some { cls:=.type "list",data:=.seq #[] }) (hSl:S≠l) (hSi:S≠it)
  (hR:∀ h' tk acc' c',(∀ b o,b≠S->b≠it->s.heap.get? b=some o->h'.get? b=some o)->h'.get? S=some { cls:=.type "list",dict:=none,data:=.seq acc' c',slots:=#[] } ->
    ItemsOf (λ i v=>items[items.size - 1 - i]?=some v) acc' items.size->R (.ok (.ret .none)) { s with heap:=h',toks:=tk }) :
  wpAny (model prog w) A.in1 (Builtin.«list.__init__» ⟨[.ref S,.ref it],[]⟩)
    (λ fin s'=>match fin with | .done f=>R (.ok f) s' | .again c'=>c'.quiet=true/\codeAny (model prog w) A c' R s') (λ e s'=>R (.error e) s') s:=by
 refine Zo ?_
 refine Zo (wpAny_seqItems hS rfl (Z1 ?_));refine Zo (wpAny_updateSeq hS rfl ?_);have hS₂:=Heap.get?_update_self (Obj.mapSeq (λ _=>(#[]:Array Value))) hS rfl
 have oth:∀ b o,b≠S->s.heap.get? b=some o->(s.heap.update S (Obj.mapSeq (λ _=>(#[]:Array Value)))).get? b=some o :=
  λ b o hb e=>(Heap.get?_update_other _ _ (Ne.symm hb)).trans e
 refine Zo (wpAny_letGo ?_);refine sT hh (hit.at λ o e=>oth it o (Ne.symm hSi) e) (hl.at λ o e=>oth l o (Ne.symm hSl) e) hlen hne S .none _ hS₂ hSl hSi λ h' tk acc' c' hk hS' hacc=>?_
 exact hR h' tk acc' c' (λ b o hb hb2 e=>hk b o hb hb2 (oth b o hb e)) hS' hacc
theorem m4 (hh:A.handled=none) (hit:s.heap.IsRevIter it l ((items.size:Int) - 1)) (hl:s.heap.IsList l items)
  (hlen:items.size<=sizeLine) (hne:l≠it)
  (hQ:∀ h' tk acc' c',(∀ b o,b≠it->s.heap.get? b=some o->h'.get? b=some o) ->
    h'.get? s.heap.objs.size=some { cls:=.type "list",dict:=none,data:=.seq acc' c',slots:=#[] }->ItemsOf (λ i v=>items[items.size - 1 - i]?=some v) acc' items.size->Q (.ref s.heap.objs.size) { s with heap:=h',toks:=tk }) :
  wpAny (model prog w) A (call (.type "list") [.ref it]) Q E s:=by
 refine callType_codes (Q₁:=λ obj s₁=>obj=.ref s.heap.objs.size/\s₁={ s with heap:=s.heap.push { cls:=.type "list",data:=.seq #[] } }) F.called_list (F.typeCall_list_1 _) F.entry_list_init
  (code_list_new _ ⟨rfl,rfl⟩) λ obj s₁ h₁=>?_
 obtain ⟨rfl,rfl⟩:=h₁;have hS:(s.heap.push { cls:=.type "list",data:=.seq #[] }).get? s.heap.objs.size=some { cls:=.type "list",data:=.seq #[] }:=Heap.get?_push_size _ rfl
 have hSl:s.heap.objs.size≠l:=λ e=>by
  obtain ⟨o,ho,_⟩:=hl;exact Yq _ (Nat.lt_of_lt_of_eq (Zs ho) e)
 have hSi:s.heap.objs.size≠it:=λ e=>by
  obtain ⟨o,ho,_⟩:=hit;exact Yq _ (Nat.lt_of_lt_of_eq (Zs ho) e)
 refine ⟨⟨_,hS,rfl⟩,F.args_list_init_2 _ _,zh (A:=A.in1) hh (hit.at λ o e=>Heap.get?_push_of_some _ e) (hl.at λ o e=>Heap.get?_push_of_some _ e) hlen hne _ hS hSl hSi λ h' tk acc' c' hk hS' hacc=>?_⟩;exact ⟨rfl,hQ h' tk acc' c' (λ b o hb e=>hk b o (Zy (Zs e)) hb (Heap.get?_push_of_some _ e)) hS' hacc⟩
end
end PySem
namespace L2
open PySem PySem.Spec PyProof.Rows
section
variable {X:Cx} {a:Expr} {p p2 pos pos2:Pos}
def MO (K:W.Frag) (ta:TE):TE:=λ σ H Q=>ta σ H λ x H1=>∃ q ys,x=.ref q/\SqL K H1 q ys/\∀ l,H1 l=none->Q (.ref l) (upd H1 l (.lst ys.reverse))
theorem wx {its:List Value} {acc:Array Value} (h:ItemsOf (λ i v=>its.toArray[its.toArray.size - 1 - i]?=some v) acc its.toArray.size):acc=its.reverse.toArray:=by
 obtain ⟨hs,hv⟩:=h;refine Array.ext (by simpa using hs) λ i h1 h2=>?_
 have h3:=hv i acc[i] (Array.getElem?_eq_getElem h1);have h4:i < its.length:=by simpa using h2
 have h5:its[its.length - 1 - i]?=some acc[i]:=by simpa using h3
 rw [<- List.getElem?_reverse h4] at h5;have h6:its.reverse[i]?=some (its.reverse[i]'(by simpa using h4)):=List.getElem?_eq_getElem _;rw [h6] at h5
 simpa using (Zj h5).symm
theorem E8 {ta:TE} {x y:Str} (hc:X.calm=true) (hg:Gl X x) (hm:X.mg x=none) (hv:bootBuiltins x=some (.type "list")) (hg2:Gl X y) (hm2:X.mg y=none) (hv2:bootBuiltins y=some (.type "reversed")) (ha:PE X a ta)
  (hn:x≠"__name__":=by decide) (hdb:(x == ("__debug__":Str))=false:=by decide) (hn2:y≠"__name__":=by decide) (hdb2:(y == ("__debug__":Str))=false:=by decide)
  (he:starEach [.Call (.Name y p2) [a] [] pos2] X.env=(false,eval (.Call (.Name y p2) [a] [] pos2) X.env)::starEach [] X.env:=by rfl) (hpl:(backTo pos (starEach [] X.env)).any (·.1)=false:=by rfl)
  (he2:starEach [a] X.env=(false,eval a X.env)::starEach [] X.env:=by rfl) (hpl2:(backTo pos2 (starEach [] X.env)).any (·.1)=false:=by rfl) :
  PE X (.Call (.Name x p) [.Call (.Name y p2) [a] [] pos2] [] pos) (MO X.K ta):=by
 intro pins s σ H Q I h;refine Yt (ka I hg hm hv ?_ hn hdb);refine Yy ?_ he hpl;rw [he];refine Xi ?_
 refine Yt (ka I hg2 hm2 hv2 ?_ hn2 hdb2);refine Yy (thn (b7 ha dr he2 pos2 pins s σ H (λ vs H1=>match vs with | [x]=>(∃ q ys,x=V.ref q/\SqL X.K H1 q ys/\∀ l,H1 l=none->Q (.ref l) (upd H1 l (.lst ys.reverse))) | _=>False) I h) λ us s1 ⟨vs,H1,I1,r1,q1⟩=>?_) he2 hpl2
 match vs,r1,q1 with
 | [],_,q1=>exact q1.elim
 | _::_::_,_,q1=>exact q1.elim
 | [v],.cons r .nil,q1 =>
  obtain ⟨q,ys,ev,hq,k⟩:=q1;subst ev;cases r;obtain ⟨its,r',pl,hz⟩:=I1.list hq;have hlen:=r'.length
  have hql:q < s1.heap.objs.size:=by
   obtain ⟨o,ho,_⟩:=pl.isList;exact Zs ho
  refine call_reversed_list pl.isList ?_
  refine Calls.spliced_nil ?_
  refine m4 (I1.ok.hd hc) ⟨_,Heap.get?_push_size _ rfl,rfl,rfl⟩ (pl.isList.at λ o e=>Heap.get?_push_of_some _ e) (by simp only [Zr]; omega) (Zy hql) λ h' tk acc' c' kp e hacc=>?_
  have ea:=wx hacc;subst ea;have hS:s1.heap.objs.size<=(s1.heap.push (revObj q ((its.toArray.size:Int) - 1))).objs.size:=Yo (Nat.lt_of_lt_of_eq (Xf _) (Xe _ _).symm)
  exact ⟨.ref _,_,I1.laid (λ b o eb=>kp b o (Zy (Zs eb)) (Heap.get?_push_of_some _ eb)) hS
   (show cR X.prog X.w _ h' _ (.lst ys.reverse) from ⟨by rw [Yr]; exact hz,its.reverse,c',r'.reverse,e⟩),rfl,k _ (I1.hok.fresh hS)⟩
def DQ (f:DE):DE:=λ τ=>(f τ).bind λ x=>match x with
 | .lst ds=>some (.lst ds.reverse)
 | .fz ds=>some (.lst ds.reverse)
 | _=>none
theorem Rps.reverse {K:W.Frag} {H:Hp} {xs:List V} {ds:List D} (h:Rps K H xs ds):Rps K H xs.reverse ds.reverse:=by
 match xs,ds,h with
 | _,_,.nil=>exact .nil
 | _,_,.cons r t =>
  rw [Y6,Y6];exact (Rps.reverse t).append (.cons r .nil)
theorem E2 (hc:X.calm=true) (hg:Gl X x) (hm:X.mg x=none) (hv:bootBuiltins x=some (.type "list")) (hg2:Gl X y) (hm2:X.mg y=none) (hv2:bootBuiltins y=some (.type "reversed")) (ha:PEd X a f)
  (hn:x≠"__name__":=by decide) (hdb:(x == ("__debug__":Str))=false:=by decide) (hn2:y≠"__name__":=by decide) (hdb2:(y == ("__debug__":Str))=false:=by decide)
  (he:starEach [.Call (.Name y p2) [a] [] pos2] X.env=(false,eval (.Call (.Name y p2) [a] [] pos2) X.env)::starEach [] X.env:=by rfl) (hpl:(backTo pos (starEach [] X.env)).any (·.1)=false:=by rfl)
  (he2:starEach [a] X.env=(false,eval a X.env)::starEach [] X.env:=by rfl) (hpl2:(backTo pos2 (starEach [] X.env)).any (·.1)=false:=by rfl) :
  PEo X (.Call (.Name x p) [.Call (.Name y p2) [a] [] pos2] [] pos) (DQ f):=(E8 hc hg hm hv hg2 hm2 hv2 ha hn hdb hn2 hdb2 he hpl he2 hpl2).imp λ σ H Q ⟨H0,Hs,τ,fp,d,st,sm,e,k⟩=>by
 obtain ⟨x,e1,e⟩:=bind_some e;refine ⟨H0,Hs,τ,fp,x,st,sm,e1,λ v Hs1 H1 g1 r1=>?_⟩
 have fin:∀ (p:Addr) (ys:List V) (ds:List D),H1 p=none->Rps X.K Hs1 ys ds->d=.lst ds->Q (.ref p) (upd H1 p (.lst ys)):=λ p ys ds hp r ed=>by
  subst ed;exact k p Hs1 _ ⟨g1.ss,g1.sh.trans (aJ hp _),g1.hh.trans (aJ hp _),g1.fr⟩ (.lst aw (g1.sh.free hp) r) (g1.hh.free hp)
 cases r1 with
 | @lst a ys ds h r=>exact ⟨_,_,rfl,SqL.of (g1.sh _ _ h),λ l hl=>fin l _ _ hl r.reverse (Zj e).symm⟩
 | @fz a ys ds h r=>exact ⟨_,_,rfl,g1.sh.seq h,λ l hl=>fin l _ _ hl r.reverse (Zj e).symm⟩
 | _=>exact nn e
end
end L2
end
section
namespace L2
open PySem PySem.Spec PyProof.Rows
section
variable {X:Cx} {pins:List (Addr×Obj)} {σ:St} {H:Hp}
def jX:List D->Option D
 | [.dct kvs]=>some (.int kvs.length)
 | _=>none
theorem md:fo X (.builtin "len") (rdL X.K jX):=by
 intro pins s σ H xs us Q I rr h;obtain ⟨Hs,ds,d,sm,r,e,k⟩:=h
 match ds,r,e with
 | [x],.cons hx .nil,e =>
  obtain ⟨u,rfl,ru⟩:=vals1 rr
  cases hx with
  | @dct a kvs ds hH rk =>
   have e':=Zj e;subst e';cases (ru);exact Lz I (.inl (sm _ _ hH)) λ t s' I'=>⟨.int kvs.length,H,I',⟨t,rfl⟩,by rw [rk.length]; exact k _ Hs H (.refl sm) (.int _)⟩
  | _=>exact nn e
 | [],_,e=>simp [jX] at e
 | _::_::_,_,e=>simp [jX] at e
end
section
variable {X:Cx} {tg a e:Expr} {p p2 pos pos2:Pos}
def Bp (i:Nat) (f:DE):DS:=λ τ=>(f τ).bind λ d=>match d,τ[i]? with
 | .lst es,some (.own (.lst ds))=>if ds.length+es.length<=100000 then some (.next (τ.set i (.own (.lst (ds++es))))) else none
 | _,_=>none
theorem GG (h:Bp i f τ=some o):∃ es ds,f τ=some (.lst es)/\τ[i]?=some (.own (.lst ds))/\ds.length+es.length<=100000/\o=.next (τ.set i (.own (.lst (ds++es)))):=by
 obtain ⟨d,e1,e⟩:=bind_some h
 cases d with
 | lst es =>
  cases q:τ[i]? with
  | none=>rw [q] at e; cases e
  | some s =>
   rw [q] at e
   cases s with
   | own d=>cases d with
    | lst ds =>
     simp only at e;split at e
     ·rename_i hl
      cases e;exact ⟨es,ds,e1,rfl,hl,rfl⟩
     · cases e
    | _=>simp at e
   | _=>simp at e
 | _=>simp at e
theorem BU (i:Nat) (hN:X.N[i]?=some x) (hv:Vis X.env.scope x) (he:PEd X e f) (hd:(x == ("__debug__":Str))=false:=by decide) (hcd:(x == ("__classdict__":Str))=false:=by decide)
   (hbase:attributeBase (.Name x p) "extend" X.env (eval (.Name x p) X.env)=eval (.Name x p) X.env:=by rfl)
   (hfew:((backTo cpos (starEach [e] X.env)).all (λ x=>!x.1)&&(backToKw cpos (keywordEach [] X.env)).all (λ x=>x.1.isSome)
     && decide ([e].length+([]:List Keyword).length+(if ([]:List Keyword).isEmpty then 0 else 1) < 30))=true:=by rfl)
   (hline:(apos.endLine == cpos.line)=true:=by rfl) (hst:starEach [e] X.env=(false,eval e X.env)::starEach [] X.env:=by rfl) (hplain:(backTo cpos (starEach [] X.env)).any (·.1)=false:=by rfl)
   (hs:swapsWith (.Call (.Attribute (.Name x p) "extend" apos) [e] [] cpos) none pos.line X.env=pure false:=by rfl) :
   PSd X (.Expr (.Call (.Attribute (.Name x p) "extend" apos) [e] [] cpos) pos) (Bp i f) :=
 (dq (mG Z9 PySem.F.slot_list_extend PySem.F.type_list_extend nZ (gu hN hv hd hcd) (b7 he dr hst) hbase hfew hline hst hplain) hs).imp λ E σ H ⟨Hs0,H0,Hs,τ,o,r,e,k⟩=>by
   obtain ⟨es,ds,e1,q,hl,rfl⟩:=GG e;obtain ⟨fp,h⟩:=r.st;obtain ⟨a,h1,h2,h3,h4⟩:=h.Ea q
   cases h2 with
   | @lst xs _ hH hn hr =>
     refine ⟨_,h1,.inl ⟨rfl,_,SqL.of hH⟩,?_⟩;refine ⟨H0,Hs,τ,fp,_,h,r.same,e1,λ v Hs' H' g1 rv=>?_⟩;have hH':=g1.hh _ _ hH;have h':=h.ext g1;have n':=g1.fr a hn (gD hH)
     cases rv with
     | @lst b ys _ hB rb =>
      refine ⟨a,b,xs,ys,rfl,rfl,hH',g1.sh _ _ hB,by rw [hr.length,rb.length]; exact sU hl,?_⟩;refine k σ Hs' _ ⟨⟨r.ext.ss.trans g1.ss,λ b u z=>?_,λ b u z=>?_,λ b k1 k2=>?_⟩,fp,h'.mut q h1 (.lst aw n' ((hr.same g1.ss).append rb))⟩
      ·have ne:b≠a:=λ y=>by subst y; rw [n'] at z; cases z
       rw [ak ne]; exact g1.sh b u z
      ·have ne:b≠a:=λ y=>by subst y; rw [h3] at z; cases z
       rw [ak ne]; exact g1.hh b u (r.ext.hh b u z)
      · exact g1.fr b (r.ext.fr b k1 k2) (r.ext.hh.live k2)
end
def chD (z:Str):List D:=z.cps.toList.map λ c=>D.str ⟨#[c]⟩
def zw (f:DE):DI:=λ τ=>(f τ).bind λ d=>match d with | .str z=>some (chD z) | _=>none
theorem Du {K:W.Frag} {z:Str} {Hs:Hp}:ItR K (Its z) Hs (chD z):=λ Hs1 H g1 g2=>by
 refine ⟨λ i d e=>?_,λ i hi=>?_⟩
 ·unfold chD at e
  rw [List.getElem?_map] at e
  cases q:z.cps.toList[i]? with
  | none=>rw [q] at e; cases e
  | some c =>
   rw [q] at e;have ed:=Zj e;subst ed
   have hi:i < z.cps.size:=by
    have:=(List.getElem?_eq_some_iff.mp q).1
    simpa using this
   have q':z.cps[i]?=some c:=by rw [<- Array.getElem?_toList]; exact q
   refine ⟨hi,?_⟩
   rintro x H' ⟨rfl,c',hc,rfl⟩
   rw [q'] at hc;cases hc;exact ⟨Hs1,.refl g2,.str _⟩
 ·show z.cps.size<=i
  unfold chD at hi;rw [Za] at hi
  simpa using hi
section
variable {X:Cx} {tg l:Expr} {f g:DE}
theorem Cd (h:PEd X l f):PId X tg l (zw f):=(E6 h).imp λ σ H R ⟨H0,Hs,τ,fp,ds,st,sm,e,k⟩=>by
 obtain ⟨x,e1,e2⟩:=bind_some e;refine ⟨H0,Hs,τ,fp,x,st,sm,e1,λ v Hs' H' g r=>?_⟩
 cases r with
 | str z =>
  have e':=Zj e2;subst e';exact ⟨z,rfl,k _ Hs' H' g Du⟩
 | _=>exact nn e2
def JF:D->D->Option D
 | .str i,.str j=>some (.bl (!decide (j.cps.toList < i.cps.toList)))
 | _,_=>none
theorem FI:OpR X (compareOp .LtE) (rdR X.K JF):=vA.imp λ x y H Q ⟨Hs,dx,dy,d,sm,rx,ry,e,k⟩=>by
 unfold JF at e;split at e
 ·cases rx
  cases ry;have e':=Zj e;subst e';exact ⟨_,_,rfl,rfl,k _ Hs H (.refl sm) (.bl _)⟩
 · cases e
def t6:List D->Option (List Bool)
 | []=>some []
 | .bl b::ds=>(t6 ds).map (b::·)
 | _::_=>none
theorem gm:∀ {ds:List D} {bs:List Bool},t6 ds=some bs->ds=bs.map .bl
 | [],_,e=>by cases e; rfl
 | .bl b::ds,_,e=>by
  obtain ⟨bs,e1,rfl⟩:=Zm (show (t6 ds).map _=_ from e);rw [gm e1]; rfl
theorem Rps.xH {K:W.Frag} {H:Hp}:∀ {bs:List Bool} {xs:List V},Rps K H xs (bs.map D.bl)->xs=bs.map V.bl
 | [],_,.nil=>rfl
 | b::bs,_,.cons h r=>by
  cases h;rw [Rps.xH r]; rfl
def NC:List D->Option D
 | [.lst ds]=>(t6 ds).map λ bs=>.bl (bs.all id)
 | _=>none
theorem LF (hc:X.calm=true):fo X (.builtin "all") (rdL X.K NC):=(z4 hc).imp λ xs H Q ⟨Hs,ds,d,sm,r,e,k⟩=>by
 match ds,r,e with
 | [x],.cons hx .nil,e =>
  cases hx with
  | @lst a ys ds h r =>
   obtain ⟨bs,e1,e2⟩:=Zm (e);have ed:=gm e1;subst ed;have ey:=r.xH;subst ey;subst e2;exact ⟨a,bs,rfl,SqL.of (sm _ _ h),k _ Hs H (.refl sm) (.bl _)⟩
  | _=>exact nn e
 | [],_,e=>exact nn e
 | x::y::_,_,e=>cases x <;> exact nn e
end
theorem pU {κ:Type}:∀ {kvs:List (κ×V)} {vs:List (κ×Value)},KV kvs vs->vs.map (·.1)=kvs.map (·.1)
 | _,_,.nil=>rfl
 | _,_,.cons h r=>by rw [Zg,Zg,pU r,h.1]
def uO:V->List V->Hp->VK->Prop:=λ x vs H Q=>∃ l xs i y,x=.ref l/\vs=[.int i,y]/\H l=some (.lst xs)/\0<=i/\i<=xs.length/\xs.length < sizeLine/\i < 2 ^ 62/\Q .non (upd H l (.lst (xs.take i.toNat++y::xs.drop i.toNat)))
section
variable {X:Cx}
theorem vQ:MtM X "list.insert" uO:=by
 intro pins s σ H x vs v us Q I rx rv h;obtain ⟨l,xs,i,y,rfl,rfl,hH,h0,h1,hz,h62,q⟩:=h;cases rx
 cases rv with
 | cons ri rv=>cases rv with
  | cons ry rv =>
 cases rv;obtain ⟨t,rfl⟩:=ri;rename_i u;obtain ⟨z,its,n,r,hl,e⟩:=I.AM hH;refine Xy F.slot_list_insert ⟨_,e,rfl⟩ F.entry_list_insert (F.args_list_insert_3 _ _ _) (PySem.AutoSeq1.list_insert_list_int_val_1 l its.toArray n i t u (by rw [fitsIndex_both (by omega) (by omega)]; simp) (by rw [Zr]; omega)) ⟨e,?_⟩;refine ⟨.non,_,I.F8 (its':=its.take i.toNat++u::its.drop i.toNat) hH e ?_ ((r.take _).append (.cons ry (r.drop _))) ?_,rfl,q⟩
 · have hk:(if i < 0 then (i+(its.toArray.size:Int)).toNat else min i.toNat its.toArray.size)=i.toNat:=by
    rw [if_neg (by omega),Zr];omega
   show (its.toArray.extract 0 (if i < 0 then (i+(its.toArray.size:Int)).toNat else min i.toNat its.toArray.size)).push u++its.toArray.extract (if i < 0 then (i+(its.toArray.size:Int)).toNat else min i.toNat its.toArray.size)=_;rw [hk];exact PySem.W.kl_ins_eq its i.toNat u
 · rw [Zz,Z0,Y0,Xu]; omega
theorem Fe {KK:W.Frag} (hK:X.K=KK) {o i e:Expr} {apos cpos:Pos} {to ti te:TE} (ho:PE X o to) (hi:PE X i ti) (he:PE X e te)
  (hbase:attributeBase o "insert" X.env (eval o X.env)=eval o X.env:=by rfl)
  (hfew:((backTo cpos (starEach [i,e] X.env)).all (λ x=>!x.1)&&(backToKw cpos (keywordEach [] X.env)).all (λ x=>x.1.isSome)
    && decide ([i,e].length+([]:List Keyword).length+(if ([]:List Keyword).isEmpty then 0 else 1) < 30))=true:=by rfl)
  (hline:(apos.endLine == cpos.line)=true:=by rfl) (hst:starEach [i,e] X.env=(false,eval i X.env)::starEach [e] X.env:=by rfl) (hst2:starEach [e] X.env=(false,eval e X.env)::starEach [] X.env:=by rfl) (hplain:(backTo cpos (starEach [e] X.env)).any (·.1)=false:=by rfl) :
  PE X (.Call (.Attribute o "insert" apos) [i,e] [] cpos) (tBM KK "list" uO to (xU ti (xU te Ha))):=by
 subst hK;exact mG Z9 PySem.F.slot_list_insert PySem.F.type_list_insert vQ ho (b7 hi (b7 he dr hst2) hst) hbase hfew hline hst hplain
end
def ItK (d:Addr) (o:Obj) (kvs:List (Key×V)):It where
 go:=λ i H=>H d=some (.frz o (.dK kvs))/\i < kvs.length
 yld:=λ i H v H'=>H'=H/\∃ k w,kvs[i]?=some (k,w)/\v=kV k
 stop:=λ i H=>H d=some (.frz o (.dK kvs))/\kvs.length<=i
section
variable {X:Cx} {pins:List (Addr×Obj)} {σ:St} {H:Hp} {s:Shared}
theorem Inv.freeze (I:Inv X pins σ H s) (hd:H d=some (.dK kvs)) (ho:s.heap.get? d=some o):Inv X pins σ (upd H d (.frz o (.dK kvs))) s:=by
 have ne:∀ b u,H b=some u->(∀ k,u≠.dK k)->b≠d:=λ b u e n z=>by rw [z,hd] at e; cases e; exact n _ rfl
 have n0:∀ b,H b=none->b≠d:=λ b e z=>by rw [z,hd] at e; cases e
 refine I.un (h':=s.heap) (t':=s.toks) ⟨λ b o e _ _ _=>e,λ b o e _ _ _=>⟨o.slots,e⟩,λ b o _ z _=>by rw [ak (n0 b z)]; exact z,λ b o e _=>⟨o,e⟩,λ b xs e=>by rw [ak (ne b _ e λ _ y=>nomatch y)]; exact e,λ b o xs e=>by rw [ak (ne b _ e λ _ y=>nomatch y)]; exact e,λ b ps e=>⟨#[],by rw [ak (ne b _ e λ _ y=>nomatch y),e]; simp⟩⟩ λ b u e=>?_
 by_cases z:b=d
 ·subst z
  rw [aw] at e;cases e;exact ⟨ho,I.hok b _ hd⟩
 ·rw [ak z] at e
  exact (I.hok b u e).qA (λ _ _ _ q=>q) (λ c q=>by rw [ak (ne c _ q λ _ y=>nomatch y)]; exact q) λ c xs q=>by rw [ak (ne c _ q λ _ y=>nomatch y)]; exact q
theorem Inv.ML (I:Inv X pins σ H s) (hd:H d=some (.frz o (.dK kvs))) (h0:∀ o' u',X.H₀ d≠some (.frz o' u')):Inv X pins σ (upd H d (.dK kvs)) s:=by
 have ne:∀ b u,H b=some u->(∀ o k,u≠.frz o k)->b≠d:=λ b u e n z=>by rw [z,hd] at e; cases e; exact n _ _ rfl
 have n0:∀ b,H b=none->upd H d (.dK kvs) b=none:=λ b e=>by rw [ak (λ z=>by rw [z,hd] at e; cases e)]; exact e
 refine ⟨I.ok,I.os,I.bare,⟨I.base.keep,I.base.slot,λ b ob e z hx=>n0 b (I.base.free b ob e z hx),I.base.there,λ b xs e=>?_,λ b ob xs e=>?_,λ b ps e=>?_⟩,I.loc,I.cell,n0 _ I.free,λ x c e=>n0 _ (I.kq x c e),λ p hp=>⟨(I.pin p hp).1,n0 _ (I.pin p hp).2.1,(I.pin p hp).2.2⟩,λ b u e=>?_,I.len⟩
 ·have q:=I.base.ud b xs e
  rw [ak (ne b _ q λ _ _ y=>nomatch y)]; exact q
 ·have q:=I.base.tY b ob xs e
  rw [ak (λ z=>h0 _ _ (by rw [<- z]; exact e))]; exact q
 ·obtain ⟨more,q⟩:=I.base.uj b ps e
  exact ⟨more,by rw [ak (ne b _ q λ _ _ y=>nomatch y)]; exact q⟩
 ·by_cases z:b=d
  ·subst z
   rw [aw] at e;cases e;exact (I.hok b _ hd).2
  ·rw [ak z] at e
   exact (I.hok b u e).qA (λ _ _ _ q=>q) (λ c q=>by rw [ak (ne c _ q λ _ _ y=>nomatch y)]; exact q) λ c xs q=>by rw [ak (ne c _ q λ _ _ y=>nomatch y)]; exact q
end
theorem uc {P:Program} {w:World} {K:W.Frag} {tg:Expr} (d it:Addr) (o:Obj) (kvs:List (Key×V)) (es:Array DictEntry) (ep:Nat) (hdat:o.data=.dict es ep):Turn P w K tg (ItK d o kvs) [it] it (λ i h=>h.IsKeyIter it d i kvs.length ep) where
 mem:=by simp
 obj:=λ i h st b hb=>by
  have e:b=it:=by simpa using hb
  subst e;obtain ⟨o,e,c,d⟩:=st;exact ⟨o,e,λ v z=>by rw [d] at z; cases z⟩
 keep:=λ i h h' st k=>by
  obtain ⟨o,e,r⟩:=st;exact ⟨o,k it (by simp) o e,r⟩
 item:=by
  intro X hP hw hK hc i pins s σ H E I hf st hg;subst hP hw hK;obtain ⟨hd,hi⟩:=hg;obtain ⟨g,ok⟩:=I.hok d _ hd;obtain ⟨sz,lo,vs,kv,o',es',ep',h1,h2,h3,h4⟩:=ok;rw [g] at h1;cases h1;rw [hdat] at h3;cases h3;have lv:vs.length=kvs.length:=kv.length.symm;have dat:s.heap.DictAt (bB X.prog X.w) d vs ep:=⟨o,es,g,h2,hdat,h4⟩
  obtain ⟨f0,f1,f2,f3,f4,f5⟩:=hf it (by simp);have hx:vs[i]?=some (vs[i]'(by omega)):=List.getElem?_eq_getElem (by omega)
  have hk:(kvs[i]'hi).1=(vs[i]'(by omega)).1:=by
   have e1:(vs.map (·.1))[i]?=(kvs.map (·.1))[i]?:=by rw [pU kv]
   rw [List.getElem?_map,List.getElem?_map,hx,List.getElem?_eq_getElem hi] at e1;exact (Zj e1).symm
  refine wpAny_pyNext_dict_item (k:=(vs[i]'(by omega)).1) (v:=(vs[i]'(by omega)).2) (by rw [lv]; exact st) dat hx λ key h' ik st' sb=>?_
  have I1:Inv X pins σ H { s with heap:=h' }:=I.turned (t':=s.toks) (λ b o hb e=>(sb.2 b hb).trans e) f0 f1 f3 f4 f5;obtain ⟨o2,e2,c2,d2⟩:=id st';rw [lv] at st';refine ⟨key,rfl,tf (s:={ s with heap:=h' }) e2 c2 d2 (by decide) ⟨kV (kvs[i]'hi).1,H,I1,?_,⟨rfl,_,_,List.getElem?_eq_getElem hi,rfl⟩,st',λ b hb=>(hf b hb).1⟩⟩;rw [hk];rcases bw (show oo _ key=true from ik) with ⟨j,t,e4,e5⟩ | ⟨y,t,e4,e5⟩
  · rw [e4,e5]; exact ⟨t,rfl⟩
  · rw [e4,e5]; exact ⟨t,rfl⟩
 done:=by
  intro X hP hw hK hc i pins s σ H E I hf st hg;subst hP hw hK;obtain ⟨hd,hi⟩:=hg;obtain ⟨g,ok⟩:=I.hok d _ hd;obtain ⟨sz,lo,vs,kv,o',es',ep',h1,h2,h3,h4⟩:=ok;rw [g] at h1;cases h1;rw [hdat] at h3;cases h3;have lv:vs.length=kvs.length:=kv.length.symm;have dat:s.heap.DictAt (bB X.prog X.w) d vs ep:=⟨o,es,g,h2,hdat,h4⟩
  obtain ⟨f0,f1,f2,f3,f4,f5⟩:=hf it (by simp);exact wpAny_pyNext_dict_end (I.ok.hd hc) (by rw [lv]; exact st) dat (List.getElem?_eq_none (by omega)) λ h' eb=>⟨rfl,I.turned (t':=s.toks) (λ b o hb e=>eb b o hb e) f0 f1 f3 f4 f5⟩
 self:=λ _ _ _ _ _ st h=>wpAny_pyIter_keyiter st h
def Lm (td:TE):TI:=λ σ H R=>td σ H λ v H1=>∃ d kvs,v=.ref d/\H1 d=some (.dK kvs)/\∀ o,R (ItK d o kvs) (upd H1 d (.frz o (.dK kvs)))
theorem vp {X:Cx} {tg l:Expr} {tl:TE} (hl:PE X l tl):PI X tg l (Lm tl):=by
 intro pins s σ H R I h;refine thn (hl pins s σ H _ I h) λ v s1 ⟨x,H1,I1,r1,q1⟩=>?_
 obtain ⟨d,kvs,e,hd,q⟩:=q1;subst e;cases r1;obtain ⟨sz,lo,vs,kv,o,es,ep,h1,h2,h3,h4⟩:=wY I1.hok hd;have lv:vs.length=kvs.length:=kv.length.symm;refine wpAny_pyIter_dict lo ⟨o,es,h1,h2,h3,h4⟩ ?_
 have I2:=(I1.freeze hd h1).kept (t':=s1.toks) (h':=s1.heap.push { cls:=.type "dict_keyiterator",data:=.fields #[.ref d,.int 0 0,.int vs.length 0,.int ep 0] }) λ b o e=>Heap.get?_push_of_some _ e
 refine ⟨s1.heap.objs.size,[s1.heap.objs.size],_,_,_,rfl,I2,uc d _ o kvs es ep h3,⟨_,Heap.get?_push_size _ rfl,rfl,by rw [lv]; rfl⟩,λ b hb=>?_,q o⟩;have e:b=s1.heap.objs.size:=by simpa using hb
 subst e;exact (I1.freeze hd h1).xN (Zn _) ((I1.freeze hd h1).hok.fresh (Zn _))
def IP (H0:Hp) (t:TS):TS:=λ D σ H=>t { D with nx:=λ σ1 H1=>∃ d o kvs,H1 d=some (.frz o (.dK kvs))/\(∀ o' u',H0 d≠some (.frz o' u'))/\D.nx σ1 (upd H1 d (.dK kvs)) } σ H
theorem vf {X:Cx} {st:Stmt} {t:TS} (h:PS X st t):PS X st (IP X.H₀ t):=by
 intro pins s σ H D I hh;refine Ym (h pins s σ H _ I hh) (λ f s1 q=>?_) λ _ _ z=>z
 cases f with
 | next =>
  obtain ⟨σ',H',I',d,o,kvs,hd,h0,q⟩:=q;exact ⟨σ',_,I'.ML hd h0,q⟩
 | ret v=>exact q
 | brk=>exact q
 | cont=>exact q
def sca:D->Bool
 | .non=>true | .bl _=>true | .int _=>true | .str _=>true | .ty _=>true | _=>false
theorem uz {K:W.Frag} {H H':Hp} {v:V} {d:D} (h:Rp K H v d) (e:sca d=true):Rp K H' v d:=by
 cases h <;> first | exact .non | exact .bl _ | exact .int _ | exact .str _ | exact .ty _ | (simp [sca] at e)
theorem iE {K:W.Frag} {H H':Hp} {vs:List V} {ds:List D} (h:Rps K H vs ds):ds.all sca=true->Rps K H' vs ds:=by
 induction ds generalizing vs with
 | nil=>intro _; cases h; exact .nil
 | cons d ds ih =>
  intro e
  cases h with
  | cons h r =>
   rw [Xw,Yp] at e;exact .cons (uz h e.1) (ih r e.2)
def toM:Sm->Option Mt
 | .shr d=>some (.s d)
 | .mu false m=>some m
 | _=>none
def M8 (N:Hp) (K:W.Frag) (f:DEm):TE:=λ σ H Q=>∃ (Hs0 H0:Hp),∃ (_:Nf N H0),∃ ρ Hs τ s τ',bI K Hs0 H0 ρ Hs H σ τ/\f τ=some (s,τ')/\∀ v Hs' H',b6 H H'->bI K Hs0 H0 (none::ρ) Hs' H' (some v::σ) (s::τ')->Q v H'
def PVm (X:Cx) (e:Expr) (f:DEm):Prop:=PE X e (M8 X.H₀ X.K f)
def eS (g:DE):DEm:=λ τ=>(g (bf τ)).bind λ d=>if sca d=true then some (.shr d,τ) else none
def eN (g:DE):DEm:=λ τ=>(g (er τ)).map λ d=>(.shr d,τ)
def lM (ds:List D):Mt:=.n .l (ds.map λ d=>(.inl 0,.s d))
def eO (g:DE):DEm:=λ τ=>(g (bf τ)).bind λ d=>match d with
 | .lst ds=>if ds.all sca=true then some (.mu false (lM ds),τ) else none
 | _=>none
def eV (i:Nat):DEm:=λ τ=>match τ[i]? with
 | some (.mu false m)=>some (.mu false m,τ.set i .no)
 | some (.shr d)=>some (.shr d,τ)
 | _=>none
section
variable {K:W.Frag} {Hs0 H0 Hs H Hs' H':Hp} {ρ:List (Option Addr)} {σ:St} {τ:List Sm}
theorem bI.push (r:bI K Hs0 H0 ρ Hs H σ τ) (h:Rp K Hs v d):bI K Hs0 H0 (none::ρ) Hs H (some v::σ) (.shr d::τ):=⟨r.ext,let ⟨fp,s⟩:=r.st; ⟨fp,.shr h s⟩⟩
theorem bI.pop (r:bI K Hs0 H0 (p::ρ) Hs H (v::σ) (s::τ)):bI K Hs0 H0 ρ Hs H σ τ:=⟨r.ext,by
 obtain ⟨fp,s⟩:=r.st
 cases s with
 | no r=>exact ⟨_,r⟩
 | shr h r=>exact ⟨_,r⟩
 | mu h hp z j r=>exact ⟨_,r⟩⟩
theorem bI.old (r:bI K Hs0 H0 ρ Hs H σ τ) (h:H p=none):H0 p=none:=r.ext.hh.free h
theorem StM.new (h:StM K H0 Hs H ρ σ τ fp) (hp:H p=none):p ∉ fp:=λ q=>(h.live p q).2.1 hp
theorem Of {i:Nat} {d:D} {fp:List Addr} (h:StM K H0 Hs H ρ σ τ fp) (e:τ[i]?=some (.shr d)):∃ v,σ[i]?=some (some v)/\Rp K Hs v d:=h.er.get (by rw [List.getElem?_map,e]; rfl)
theorem Gd (h:Rps K Hs vs ds):∃ ts:List Kd,(ts.map Kd.kv).map (·.2)=vs/\ts.map Kd.km=ds.map (λ d=>((.inl 0:Key),Mt.s d))/\ts.flatMap Kd.fp=[]/\∀ H,∀ c ∈ ts,Od K Hs H c.fp c.v c.m:=by
 induction ds generalizing vs with
 | nil=>cases h; exact ⟨[],rfl,rfl,rfl,λ _ c hc=>by cases hc⟩
 | cons d ds ih =>
  cases h with
  | @cons x _ _ _ h r =>
   obtain ⟨ts,h1,h2,h3,h4⟩:=ih r;refine ⟨⟨.inl 0,x,.s d,[]⟩::ts,by rw [Zg,Zg,h1],by rw [Zg,Zg,h2],by rw [Z5,h3]; rfl,λ H c hc=>?_⟩;rcases Zl.mp hc with rfl | hc
   · exact .s h
   · exact h4 H c hc
theorem Od.lst (h:H a=some (.lst vs)) (n:Hs a=none) (r:Rps K Hs vs ds):Od K Hs H [a] (.ref a) (lM ds):=by
 obtain ⟨ts,h1,h2,h3,h4⟩:=Gd r;have:=Od.n (K:=K) (Hs:=Hs) (H:=H) (a:=a) (dx:=0) (t:=.l) (ts:=ts) (u:=.lst vs) h (by rw [<- h1]; exact .l _) n trivial (by rw [h3]; simp) (h4 H);rw [h2,h3] at this;exact this
theorem bI.BB (r:bI K Hs0 H0 ρ Hs H σ τ) (g:b6 H H') (h:Od K Hs H' fq v m) (z:∀ c ∈ fq,H c=none):bI K Hs0 H0 (none::ρ) Hs H' (some v::σ) (.mu false m::τ):=by
 obtain ⟨fp,s⟩:=r.st;exact ⟨(r.grow g).ext,fq++fp,.mu h (λ e=>by cases e) (λ c hc=>r.old (z c hc)) (λ c hc=>s.new (z c hc)) (s.ext ⟨.refl _,r.ext.sh.trans g,g,λ _ h _=>h⟩)⟩
theorem bI.into (r:bI K Hs0 H0 (none::ρ) Hs H (some v::σ) (s::τ)) (hf:i < τ.length) (hs:(toM s).isSome=true):bI K Hs0 H0 ρ Hs H (σ.set i (some v)) (τ.set i s):=⟨r.ext,by
 obtain ⟨fp,st⟩:=r.st
 cases st with
 | no r=>cases hs
 | shr h s=>obtain ⟨fp',h1,_⟩:=s.ux (i:=i) h; exact ⟨fp',h1⟩
 | @mu p v b m ρ σ τ fq fp h hp z j s =>
  cases b with
  | true=>cases hs
  | false=>obtain ⟨fp',h1,_⟩:=s.setM (i:=i) h (λ c hc=>⟨z c hc,j c hc⟩) hf; exact ⟨fp',h1⟩⟩
theorem mC {ts' ts:List Kd} (h:ts'.Sublist ts):(ts'.flatMap Kd.fp).Sublist (ts.flatMap Kd.fp):=by
 induction h with
 | slnil=>exact .slnil
 | cons a _ ih=>rw [Z5]; exact ih.trans (List.sublist_append_right _ _)
 | cons_cons a _ ih=>rw [Z5,Z5]; exact (List.Sublist.refl _).append ih
theorem StM.node {i:Nat} {q:List Stp} {t:Tg} {cs:List (Key×Mt)} {rt v1:V} {fp:List Addr} (rx:Ext Hs0 H0 Hs H) (st:StM K H0 Hs H ρ σ τ fp) (hg:aZ τ i q=some (.n t cs)) (hi:σ[i]?=some (some rt)) (hv:vAt H rt q=some v1) :
  ∃ a dx ts u,v1=.ref a/\cs=ts.map Kd.km/\H a=some u/\Lay t dx (ts.map Kd.kv) u/\KU t ts/\Hs a=none/\H0 a=none /\
  (∀ fq l1 (k:Kd) l2 u',(l1++l2).Sublist ts->k.fp=fq->Od K Hs H fq k.v k.m->(∀ c ∈ fq,H0 c=none/\c ∉ fp)->Lay t dx ((l1++k::l2).map Kd.kv) u'->KU t (l1++k::l2)->bI K Hs0 H0 ρ Hs (upd H a u') σ (c4 τ i q (.n t ((l1++k::l2).map Kd.km)))) /\
  (∀ ts' u',ts'.Sublist ts->Lay t dx (ts'.map Kd.kv) u'->KU t ts'->bI K Hs0 H0 ρ Hs (upd H a u') σ (c4 τ i q (.n t (ts'.map Kd.km)))):=by
 unfold aZ at hg;split at hg
 ·rename_i b m em
  obtain ⟨v,fp1,v1',w1,w2,w3,w4,w5⟩:=st.r6 em hg;rw [hi] at w1;cases w1;rw [hv] at w2;cases w2;obtain ⟨a,dx,ts,u,rfl,rfl,rfl,ha,hl,nh,ku,nd,rr⟩:=w3.inv;have afp:a ∈ fp:=w4 a (Ze ..);have h0:=(st.live a afp).2.2;have ep:∀ m2,c4 τ i q m2=τ.set i (.mu b (m.put q m2)):=λ m2=>by unfold c4; rw [em]
  have ex:∀ u',Ext Hs0 H0 Hs (upd H a u'):=λ u'=>by
   refine ⟨rx.ss,λ c o e=>?_,λ c o e=>?_,rx.fr⟩
   · rw [ak (λ z=>by rw [z,nh] at e; cases e)]; exact rx.sh c o e
   · rw [ak (λ z=>by rw [z,h0] at e; cases e)]; exact rx.hh c o e
  have nd1:=Zw.mp nd;refine ⟨a,dx,ts,u,rfl,rfl,ha,hl,ku,nh,h0,λ fq l1 k l2 u' hsub hk hod hz hl' ku'=>?_,λ ts' u' hsub hl' ku'=>?_⟩
  ·subst hk
   have zz:=hz;have sf:=mC hsub;rw [Yl] at sf;have nd2:=nd1.2.sublist sf;rw [Yb] at nd2;have inl:∀ c,c ∈ l1.flatMap Kd.fp\/c ∈ l2.flatMap Kd.fp->c ∈ fp:=λ c hc=>w4 c (Zd _ (sf.subset (Zh.mpr hc)))
   have nda:(a::(l1.flatMap Kd.fp++(k.fp++l2.flatMap Kd.fp))).Nodup:=lX (λ z=>nd1.1 (sf.subset (Zp _ z))) (λ z=>(zz a z).2 afp) (λ z=>nd1.1 (sf.subset (Zc _ z))) hod.nd (λ c hc=>⟨λ z=>(zz c hc).2 (inl c (.inl z)),λ z=>(zz c hc).2 (inl c (.inr z))⟩) nd2.1 nd2.2.1 λ c hc z=>nd2.2.2 c hc c z rfl
   have nda':(a::(l1++k::l2).flatMap Kd.fp).Nodup:=by rw [Yl,Z5]; exact nda
   have od:Od K Hs (upd H a u') (a::(l1++k::l2).flatMap Kd.fp) (.ref a) (.n t ((l1++k::l2).map Kd.km)):=by
    refine .n aw hl' nh ku' nda' λ c hc=>?_
    have off:∀ fp',Od K Hs H fp' c.v c.m->a ∉ fp'->Od K Hs (upd H a u') fp' c.v c.m:=λ fp' o n=>o.mv (.refl _) λ x hx=>⟨(o.live x hx).1,ak λ z=>n (z ▸ hx)⟩
    have na:a ∉ c.fp:=λ z=>(Zw.mp nda').1 (Yd.mpr ⟨c,hc,z⟩)
    rcases Zh.mp hc with hc | hc
    · exact off _ (rr c (hsub.subset (Zp _ hc))) na
    ·rcases Zl.mp hc with rfl | hc
     · exact off _ hod na
     · exact off _ (rr c (hsub.subset (Zc _ hc))) na
   obtain ⟨fp',s',_⟩:=w5 Hs (upd H a u') _ _ (.refl _) (λ c hc hn=>⟨(st.live c hc).1,ak λ z=>hn (by rw [z]; exact Ze ..)⟩) od λ c hc=>by
    rcases Zl.mp hc with rfl | hc
    · exact .inl (Ze ..)
    ·rw [Yl,Z5,Zh,Zh] at hc
     rcases hc with hc | hc | hc
     · exact .inl (Zd _ (sf.subset (Zp _ hc)))
     · exact .inr ⟨(zz c hc).2,(zz c hc).1⟩
     · exact .inl (Zd _ (sf.subset (Zc _ hc)))
   exact ⟨ex u',fp',by rw [ep]; exact s'⟩
  ·have sf:=mC hsub
   have nda':(a::ts'.flatMap Kd.fp).Nodup:=Zw.mpr ⟨λ z=>nd1.1 (sf.subset z),nd1.2.sublist sf⟩
   have od:Od K Hs (upd H a u') (a::ts'.flatMap Kd.fp) (.ref a) (.n t (ts'.map Kd.km)):=by
    refine .n aw hl' nh ku' nda' λ c hc=>?_
    have o:=rr c (hsub.subset hc);exact o.mv (.refl _) λ x hx=>⟨(o.live x hx).1,ak λ z=>(Zw.mp nda').1 (Yd.mpr ⟨c,hc,z ▸ hx⟩)⟩
   obtain ⟨fp',s',_⟩:=w5 Hs (upd H a u') _ _ (.refl _) (λ c hc hn=>⟨(st.live c hc).1,ak λ z=>hn (by rw [z]; exact Ze ..)⟩) od λ c hc=>by
    rcases Zl.mp hc with rfl | hc
    · exact .inl (Ze ..)
    · exact .inl (Zd _ (sf.subset hc))
   exact ⟨ex u',fp',by rw [ep]; exact s'⟩
 · cases hg
theorem bI.vO (r:bI K Hs0 H0 (none::ρ) Hs H (some v::σ) (s::τ)) (hs:toM s=some mv) (hg:aZ τ i q=some (.n t cs)) (hi:σ[i]?=some (some rt)) (hv:vAt H rt q=some v1) :
  ∃ a dx ts u fv,v1=.ref a/\cs=ts.map Kd.km/\H a=some u/\Lay t dx (ts.map Kd.kv) u/\KU t ts /\
  ∀ l1 kk l2 u',(l1++l2).Sublist ts->Lay t dx ((l1++⟨kk,v,mv,fv⟩::l2).map Kd.kv) u'->KU t (l1++⟨kk,v,mv,fv⟩::l2)->bI K Hs0 H0 ρ Hs (upd H a u') σ (c4 τ i q (.n t ((l1++⟨kk,v,mv,fv⟩::l2).map Kd.km))):=by
 obtain ⟨fp0,st⟩:=r.st
 cases st with
 | no st=>cases hs
 | shr h st =>
  cases hs;obtain ⟨a,dx,ts,u,h1,h2,h3,h4,h5,h6,h7,h8,_⟩:=StM.node r.ext st hg hi hv;exact ⟨a,dx,ts,u,[],h1,h2,h3,h4,h5,λ l1 kk l2 u' e1 e2 e3=>h8 [] l1 ⟨kk,v,_,[]⟩ l2 u' e1 rfl (.s h) (λ c hc=>by cases hc) e2 e3⟩
 | @mu p v b m ρ σ τ fq fp h hp z j st =>
  cases b with
  | true=>cases hs
  | false =>
   cases hs;obtain ⟨a,dx,ts,u,h1,h2,h3,h4,h5,h6,h7,h8,_⟩:=StM.node r.ext st hg hi hv;exact ⟨a,dx,ts,u,fq,h1,h2,h3,h4,h5,λ l1 kk l2 u' e1 e2 e3=>h8 fq l1 ⟨kk,v,_,fq⟩ l2 u' e1 rfl h (λ c hc=>⟨z c hc,j c hc⟩) e2 e3⟩
end
theorem dg (h:aZ τ i q=some m1):∃ b m,τ[i]?=some (.mu b m)/\m.get q=some m1:=by
 unfold aZ at h;split at h
 · exact ⟨_,_,‹_›,h⟩
 · cases h
theorem wI {st:Stp}:∀ (q:List Stp) {m m2:Mt},m.get (q++[st])=some m2->∃ m1,m.get q=some m1/\m1.get [st]=some m2
 | [],m,m2,h=>⟨m,by cases m <;> rfl,h⟩
 | s::q,.s d,m2,h=>by cases h
 | s :: q,.n t cs,m2,h=>by
  have h':(match vm t cs s with | none=>none | some i=>match cs[i]? with | none=>none | some c=>Mt.get c.2 (q++[st]))=some m2:=h
  cases e1:vm t cs s with
  | none=>rw [e1] at h'; cases h'
  | some i =>
   rw [e1] at h'
   cases e2:cs[i]? with
   | none=>simp only [e2] at h'; cases h'
   | some c =>
    simp only [e2] at h';obtain ⟨m1,h1,h2⟩:=wI q h';refine ⟨m1,?_,h2⟩;show (match vm t cs s with | none=>none | some i=>match cs[i]? with | none=>none | some c=>Mt.get c.2 q)=some m1;simp only [e1,e2];exact h1
theorem my {H:Hp} {st:Stp}:∀ (q:List Stp) {v v1:V},vAt H v q=some v1->vAt H v (q++[st])=vAt H v1 [st]
 | [],v,v1,h=>by
  have e:v=v1:=by cases v <;> exact Zj h
  rw [e]; rfl
 | .k k::q,v,v1,h=>by
  cases v with
  | ref a =>
   have h':(match H a with | some (.ins _ _ fs)=>(dN (fs.map λ (f:Str×V)=>((Sum.inr f.1:Key),f.2)) k).bind λ v=>vAt H v q | some (.dK kvs)=>(dN kvs k).bind λ v=>vAt H v q | _=>none)=some v1:=h;show (match H a with | some (.ins _ _ fs)=>(dN (fs.map λ (f:Str×V)=>((Sum.inr f.1:Key),f.2)) k).bind λ v=>vAt H v (q++[st]) | some (.dK kvs)=>(dN kvs k).bind λ v=>vAt H v (q++[st]) | _=>none)=_;split at h'
   ·obtain ⟨w,h1,h2⟩:=bind_some h'
    rw [h1]; exact my q h2
   ·obtain ⟨w,h1,h2⟩:=bind_some h'
    rw [h1]; exact my q h2
   · cases h'
  | _=>cases h
 | .i n::q,v,v1,h=>by
  cases v with
  | ref a =>
   have h':(match H a with | some (.lst xs)=>(xs[n]?).bind λ v=>vAt H v q | _=>none)=some v1:=h;show (match H a with | some (.lst xs)=>(xs[n]?).bind λ v=>vAt H v (q++[st]) | _=>none)=_;split at h'
   ·obtain ⟨w,h1,h2⟩:=bind_some h'
    rw [h1]; exact my q h2
   · cases h'
  | _=>cases h
theorem b5 (g:b6 H H'):∀ (q:List Stp) {v v1:V},vAt H v q=some v1->vAt H' v q=some v1
 | [],v,v1,h=>by cases v <;> exact h
 | .k k::q,v,v1,h=>by
  cases v with
  | ref a =>
   have h':(match H a with | some (.ins _ _ fs)=>(dN (fs.map λ (f:Str×V)=>((Sum.inr f.1:Key),f.2)) k).bind λ v=>vAt H v q | some (.dK kvs)=>(dN kvs k).bind λ v=>vAt H v q | _=>none)=some v1:=h;show (match H' a with | some (.ins _ _ fs)=>(dN (fs.map λ (f:Str×V)=>((Sum.inr f.1:Key),f.2)) k).bind λ v=>vAt H' v q | some (.dK kvs)=>(dN kvs k).bind λ v=>vAt H' v q | _=>none)=_;split at h'
   ·rename_i e
    obtain ⟨w,h1,h2⟩:=bind_some h';simp only [g _ _ e];rw [h1]; exact b5 g q h2
   ·rename_i e
    obtain ⟨w,h1,h2⟩:=bind_some h';simp only [g _ _ e];rw [h1]; exact b5 g q h2
   · cases h'
  | _=>cases h
 | .i n::q,v,v1,h=>by
  cases v with
  | ref a =>
   have h':(match H a with | some (.lst xs)=>(xs[n]?).bind λ v=>vAt H v q | _=>none)=some v1:=h;show (match H' a with | some (.lst xs)=>(xs[n]?).bind λ v=>vAt H' v q | _=>none)=_;split at h'
   ·rename_i e
    obtain ⟨w,h1,h2⟩:=bind_some h';simp only [g _ _ e];rw [h1]; exact b5 g q h2
   · cases h'
  | _=>cases h
theorem mx:∀ (fs:List (Str×V)),dN (fs.map λ f=>((Sum.inr f.1:Key),f.2)) (.inr x)=fs.lookup x
 | []=>rfl
 | (y,v)::fs=>by
  rw [Zg,List.lookup_cons]
  by_cases h:y=x
  · rw [g9 (by rw [h]),h]; simp
  ·rw [hG (λ z=>h (by injection z)),mx fs]
   have:(x == y)=false:=by simpa using λ z=>h z.symm
   rw [this]
def a6 (i:Nat):DPx:=λ _=>some (i,[])
def iF (C:Addr) (x:Str) (f:DPx):DPx:=λ τ=>(f τ).bind λ p=>match aZ τ p.1 p.2 with
 | some (.n (.o C') _)=>if C'=C then some (p.1,p.2++[.k (.inr x)]) else none
 | _=>none
def mF (f:DPx) (g:DE):DPx:=λ τ=>(f τ).bind λ p=>(g (bf τ)).bind λ d=>(iK d).bind λ k=>match aZ τ p.1 p.2 with
 | some (.n .d _)=>some (p.1,p.2++[.k k])
 | _=>none
def nL (f:DPx) (g:DE):DPx:=λ τ=>(f τ).bind λ p=>(g (bf τ)).bind λ d=>match d,aZ τ p.1 p.2 with
 | .int i,some (.n .l _)=>if 0<=i then some (p.1,p.2++[.i i.toNat]) else none
 | _,_=>none
section
variable {K:W.Frag} {Hs0 H0 Hs H Hs' H':Hp} {ρ:List (Option Addr)} {σ:St} {τ:List Sm}
theorem bI.child {i:Nat} {q:List Stp} {st:Stp} {t:Tg} {cs:List (Key×Mt)} {m2:Mt} {rt v1:V} (r:bI K Hs0 H0 ρ Hs H σ τ) (hg:aZ τ i q=some (.n t cs)) (hg2:aZ τ i (q++[st])=some m2) (hi:σ[i]?=some (some rt)) (hv:vAt H rt q=some v1) :
  ∃ (a dx:Addr) (ts:List Kd) (u:HO) (w:V),v1=.ref a/\cs=ts.map Kd.km/\H a=some u/\Lay t dx (ts.map Kd.kv) u/\vAt H rt (q++[st])=some w/\vAt H (.ref a) [st]=some w:=by
 obtain ⟨fp,s⟩:=r.st;obtain ⟨a,dx,ts,u,rfl,rfl,ha,hl,_⟩:=StM.node r.ext s hg hi hv;obtain ⟨b,m,e1,e2⟩:=dg hg2;obtain ⟨m1,e3,e4⟩:=wI q e2;have e5:aZ τ i q=m.get q:=by unfold aZ; rw [e1]
 rw [e5,e3] at hg;cases hg;have e':(match vm t (ts.map Kd.km) st with | none=>none | some i=>match (ts.map Kd.km)[i]? with | none=>none | some c=>Mt.get c.2 [])=some m2:=e4
 cases e6:vm t (ts.map Kd.km) st with
 | none=>rw [e6] at e'; cases e'
 | some j =>
  rw [e6] at e'
  cases e7:(ts.map Kd.km)[j]? with
  | none=>simp only [e7] at e'; cases e'
  | some c =>
   obtain ⟨t1,k,t2,_,_,_,q4⟩:=rR ha hl e6 e7;have w:vAt H (.ref a) [st]=some k.v:=by rw [q4]; cases k.v <;> rfl
   exact ⟨a,dx,ts,u,k.v,rfl,rfl,ha,hl,by rw [my q hv]; exact w,w⟩
end
section
variable {X:Cx} {a b c e o:Expr} {es:List Expr} {pos apos cpos pos':Pos} {x:Str}
theorem PVm.em (h:PVm X e f):PEm X e f:=PE.imp h λ σ H Q ⟨Hs0,H0,nf,ρ,Hs,τ,s,τ',r,e,k⟩=>⟨Hs0,H0,nf,ρ,Hs,τ,s,τ',r,e,λ v Hs' H' _ r'=>k v Hs' H' r'⟩
theorem Ny (h:PEd X e g):PVm X e (eS g):=PE.imp h λ σ H Q ⟨Hs0,H0,nf,ρ,Hs,τ,s,τ',r,e,k⟩=>by
 obtain ⟨d,e1,e2⟩:=bind_some e;split at e2
 ·rename_i hs
  cases e2;obtain ⟨fp,st⟩:=r.st;exact ⟨H,H,bf τ,[],d,st.bf r.sm,.refl H,e1,λ v Hs' H' g1 rv=>k v Hs H' g1.hh ((r.grow g1.hh).push (uz rv hs))⟩
 · cases e2
theorem Nv (h:PEd X e g):PVm X e (eN g):=PE.imp h λ σ H Q ⟨Hs0,H0,nf,ρ,Hs,τ,s,τ',r,e,k⟩=>by
 obtain ⟨d,e1,e2⟩:=Zm e;cases e2;obtain ⟨fp,st⟩:=r.st;exact ⟨H0,Hs,er τ,[],d,st.er,r.sm,e1,λ v Hs' H' g1 rv=>k v Hs' H' g1.hh ((r.ext' g1).push rv)⟩
theorem Nu (h:PEo X e g):PVm X e (eO g):=PE.imp h λ σ H Q ⟨Hs0,H0,nf,ρ,Hs,τ,s,τ',r,e,k⟩=>by
 obtain ⟨d,e1,e2⟩:=bind_some e;split at e2
 ·split at e2
  ·rename_i hs
   cases e2;obtain ⟨fp,st⟩:=r.st;refine ⟨H,H,bf τ,[],_,st.bf r.sm,.refl H,e1,λ a Hs' H' g1 ow hn=>?_⟩
   cases ow with
   | lst h n rr=>exact k _ Hs H' g1.hh (r.BB g1.hh (Od.lst h (r.sm.free hn) (iE rr hs)) λ c hc=>by rw [Zt.mp hc]; exact hn)
  · cases e2
 · cases e2
theorem Nr (i:Nat) (hN:X.N[i]?=some x:=by rfl) (hv:Vis X.env.scope x:=by first | exact Or.inl rfl | exact Or.inr (Or.inl rfl) | exact Or.inr (Or.inr rfl)) (hd:(x == ("__debug__":Str))=false:=by decide) (hcd:(x == ("__classdict__":Str))=false:=by decide):PVm X (.Name x p) (eV i) :=
 (gu hN hv hd hcd).imp λ σ H Q ⟨Hs0,H0,nf,ρ,Hs,τ,s,τ',r,e,k⟩=>by
   obtain ⟨fp,st⟩:=r.st;unfold eV at e;split at e
   ·rename_i m em
    cases e;obtain ⟨v,fq,fp',h1,h2,h3,h4,h5⟩:=st.out em;exact ⟨v,h1,k v Hs H (.refl H) ⟨r.ext,fq++fp',.mu h2 (λ e=>by cases e) (λ c hc=>(st.live c (h4 c hc).2).2.2) (λ c hc=>(h4 c hc).1) h3⟩⟩
   ·rename_i d ed
    cases e;obtain ⟨v,h1,h2⟩:=Of st ed;exact ⟨v,h1,k v Hs H (.refl H) (r.push h2)⟩
   · cases e
theorem EO (i:Nat) (hN:X.N[i]?=some x:=by rfl) (hv:Vis X.env.scope x:=by first | exact Or.inl rfl | exact Or.inr (Or.inl rfl) | exact Or.inr (Or.inr rfl)) (hd:(x == ("__debug__":Str))=false:=by decide) (hcd:(x == ("__classdict__":Str))=false:=by decide):PXm X (.Name x p) (a6 i) :=
 (gu hN hv hd hcd).imp λ σ H Q ⟨Hs0,H0,nf,ρ,Hs,τ,i',q,m,r,e,eg,k⟩=>by
   cases e;obtain ⟨b,m',e3,e4⟩:=dg eg;obtain ⟨fp,st⟩:=r.st;obtain ⟨v,fp1,v1,w1,w2,_⟩:=st.r6 e3 e4;exact ⟨v,w1,k v v H (.refl H) w1 (by cases v <;> rfl)⟩
theorem ES {C:Addr} {f:DPx} (cl:Cls X.K C) (n:cF X.K C x) (he:PXm X e f) (hb:attributeBase e x X.env (eval e X.env)=eval e X.env:=by rfl):PXm X (.Attribute e x pos) (iF C x f) :=
 (Av he hb).imp λ σ H Q ⟨Hs0,H0,nf,ρ,Hs,τ,i',q',m,r,e,eg,k⟩=>by
   obtain ⟨⟨i,q⟩,e1,e2⟩:=bind_some e;split at e2
   ·rename_i C' cs en
    split at e2
    ·rename_i hc
     subst hc;cases e2;refine ⟨Hs0,H0,nf,ρ,Hs,τ,i,q,_,r,e1,en,λ v v1 H' g hv hq=>?_⟩;obtain ⟨a,dx,ts,u,w,rfl,rfl,ha,hl,w1,w2⟩:=(r.grow g).child en eg hv hq;generalize ek:ts.map Kd.kv=kvs at hl
     cases hl with
     | o fs =>
      have w3:((dN (fs.map λ f=>((Sum.inr f.1:Key),f.2)) (.inr x)).bind λ v=>vAt H' v [])=some w:=by
       have:=w2;simp only [vAt,ha] at this;exact this
      obtain ⟨y,h1,h2⟩:=bind_some w3;have ey:y=w:=by cases y <;> exact Zj h2
      subst ey;rw [mx] at h1;exact ⟨a,C',dx,fs,y,rfl,ha,cl,n,h1,k v y H' g hv w1⟩
    · cases e2
   · cases e2
theorem ER {f:DPx} {g:DE} (hu:X.A.units+1 < cLine) (he:PXm X a f) (hk:PEd X b g) (hs:Ec b):PXm X (.Subscript a b pos) (mF f g) :=
 (vv hu he hk hs).imp λ σ H Q ⟨Hs0,H0,nf,ρ,Hs,τ,i',q',m,r,e,eg,k⟩=>by
   obtain ⟨⟨i,q⟩,e1,e2⟩:=bind_some e;obtain ⟨d,e3,e4⟩:=bind_some e2;obtain ⟨ky,e5,e6⟩:=bind_some e4;split at e6
   ·rename_i cs en
    cases e6;refine ⟨Hs0,H0,nf,ρ,Hs,τ,i,q,_,r,e1,en,λ v v1 H1 g1 hv hq=>?_⟩;have r1:=r.grow g1;obtain ⟨fp,st⟩:=r1.st;refine ⟨H1,H1,bf τ,[],d,st.bf r1.sm,.refl H1,e3,λ y Hs2 H2 g2 ry=>?_⟩;have hy:=je ry e5;subst hy;obtain ⟨a,dx,ts,u,w,rfl,rfl,ha,hl,w1,w2⟩:=(r1.grow g2.hh).child en eg hv (b5 g2.hh q hq);generalize ek:ts.map Kd.kv=kvs at hl
    cases hl with
    | d _ =>
     have w3:((dN kvs ky).bind λ v=>vAt H2 v [])=some w:=by
      have:=w2;simp only [vAt,ha] at this;exact this
     obtain ⟨y,h1,h2⟩:=bind_some w3;have ey:y=w:=by cases y <;> exact Zj h2
     subst ey;exact ⟨a,y,rfl,by rw [<- h1]; exact qu.k ha,k v y H2 (g1.trans g2.hh) hv w1⟩
   · cases e6
theorem Jd {f:DPx} {g:DE} (he:PXm X a f) (hk:PEd X b g) (hs:kW b):PXm X (.Subscript a b pos) (nL f g) :=
 (Fd wt he hk hs).imp λ σ H Q ⟨Hs0,H0,nf,ρ,Hs,τ,i',q',m,r,e,eg,k⟩=>by
   obtain ⟨⟨i,q⟩,e1,e2⟩:=bind_some e;obtain ⟨d,e3,e4⟩:=bind_some e2;split at e4
   ·rename_i j cs en
    split at e4
    ·rename_i hj
     cases e4;refine ⟨Hs0,H0,nf,ρ,Hs,τ,i,q,_,r,e1,en,λ v v1 H1 g1 hv hq=>?_⟩;have r1:=r.grow g1;obtain ⟨fp,st⟩:=r1.st;refine ⟨H1,H1,bf τ,[],_,st.bf r1.sm,.refl H1,e3,λ y Hs2 H2 g2 ry=>?_⟩;cases ry;obtain ⟨a,dx,ts,u,w,rfl,rfl,ha,hl,w1,w2⟩:=(r1.grow g2.hh).child en eg hv (b5 g2.hh q hq);generalize ek:ts.map Kd.kv=kvs at hl
     cases hl with
     | l _ =>
      have w3:(((kvs.map (·.2))[j.toNat]?).bind λ v=>vAt H2 v [])=some w:=by
       have:=w2;simp only [vAt,ha] at this;exact this
      obtain ⟨y,h1,h2⟩:=bind_some w3;have ey:y=w:=by cases y <;> exact Zj h2
      subst ey;refine ⟨a,kvs.map (·.2),j,y,rfl,rfl,SqL.of ha,?_,k v y H2 (g1.trans g2.hh) hv w1⟩;have lt:=(List.getElem?_eq_some_iff.mp h1).1;unfold atI ixN;rw [if_pos (by omega)];rw [if_pos (by omega)];exact h1
    · cases e4
   · cases e4
end
section
variable {X:Cx}
theorem z3 (hc:X.calm=true):fo X (.builtin "any") (λ xs H Q=>∃ (p:Addr) (bs:List Bool),xs=[.ref p]/\SqL X.K H p (bs.map V.bl)/\Q (.bl (bs.any id)) H):=by
 intro pins s σ H xs us Q I r h;obtain ⟨p,bs,rfl,hL,q⟩:=h;obtain ⟨u,rfl,ru⟩:=vals1 r;cases (show u=Value.ref p from ru);obtain ⟨its,rv,pl,hz⟩:=I.list hL;have hl:=pl.isList;have hlen:=rv.length;rw [Za] at hlen;have hlt:p < s.heap.objs.size:=by obtain ⟨_,e,_⟩:=hl; exact Zs e
 refine call_any_walk (Xo hl ?_)
 refine ⟨s.heap.objs.size,[s.heap.objs.size,p],[s.heap.objs.size],its.toArray.size,_,_,λ i=>(bs[i]?).getD false,rfl,Walks.list (A:=X.A.in1) (I.ok.hd hc) _ p (Zy hlt) its.toArray,
  ⟨⟨_,Heap.get?_push_size _ rfl,rfl,rfl⟩,hl.push _⟩,λ i v s' Q' E' hP hQ=>?_,λ h' tk hk=>?_⟩
 ·obtain ⟨b,e,rfl⟩:=nj rv i v (by simpa using hP)
  simp only [e,Option.getD_some] at hQ;exact Yg hQ
 ·have e:((List.range its.toArray.size).any λ i=>(bs[i]?).getD false)=bs.any id:=by
   rw [Zr,<- hlen,Y5,Xv,Xv];constructor
   ·rintro ⟨i,hi,h⟩
    have hi':=Xd.mp hi;rw [List.getElem?_eq_getElem hi'] at h;exact ⟨_,Xr hi',h⟩
   ·rintro ⟨b,hb,h⟩
    obtain ⟨i,hi,rfl⟩:=List.getElem_of_mem hb;exact ⟨i,Xd.mpr hi,by rw [List.getElem?_eq_getElem hi]; exact h⟩
  rw [e];refine ⟨.bl _,H,I.kept (t':=tk) λ b x ex=>hk b x (λ hm=>?_) (Heap.get?_push_of_some _ ex),rfl,q⟩;rw [Zt.mp hm] at ex;exact Yq _ (Zs ex)
def L0:List D->Option D
 | [.lst ds]=>(t6 ds).map λ bs=>.bl (bs.any id)
 | _=>none
theorem LD (hc:X.calm=true):fo X (.builtin "any") (rdL X.K L0):=(z3 hc).imp λ xs H Q ⟨Hs,ds,d,sm,r,e,k⟩=>by
 match ds,r,e with
 | [x],.cons hx .nil,e =>
  cases hx with
  | @lst a ys ds h r =>
   obtain ⟨bs,e1,e2⟩:=Zm (show (t6 ds).map _=some d from e);have ed:=gm e1;subst ed;have ey:=r.xH;subst ey;subst e2;exact ⟨a,bs,rfl,SqL.of (sm _ _ h),k _ Hs H (.refl sm) (.bl _)⟩
  | _=>exact nn e
 | [],_,e=>exact nn e
 | x::y::_,_,e=>cases x <;> exact nn e
theorem mS:∀ {ns:List Int} {us:List Value},bN (ns.map V.int) us->IntsAre us ns
 | [],_,.nil=>.nil
 | n::ns,_,.cons r t=>by
  obtain ⟨tk,rfl⟩:=r;exact .cons n tk (mS t)
theorem zb:MtR X "list.index" (λ x xs H Q=>∃ (p:Addr) (ns:List Int) (k:Int),x=.ref p/\xs=[.int k]/\SqL X.K H p (ns.map V.int)/\ns.length<=1000/\k ∈ ns/\Q (.int (ns.idxOf k:Nat)) H):=by
 intro pins s σ H x xs v us Q I rx rv h;obtain ⟨p,ns,k,rfl,rfl,hL,hz,hk,q⟩:=h;obtain ⟨u,rfl,tu,rfl⟩:=vals1 rv;cases (show v=Value.ref p from rx);obtain ⟨its,rw,pl,_⟩:=I.list hL;have hi:=mS rw;have hl:=hi.length;have hj:ns.idxOf k < ns.length:=Y9.mpr hk;obtain ⟨⟨c,d,da,sl⟩,ho,hc,n,hd⟩:=pl.isList;cases hc;cases hd
 refine Xy PySem.F.slot_list_index ⟨_,ho,rfl⟩ PySem.F.entry_list_index (PySem.F.args_list_index_2 _ _) (PySem.SeqAt.list_indexAt p its.toArray n d sl (.int k tu) (isInt k) (ns.idxOf k) (by simpa [hl] using hj) (by omega) ?_ λ j h1 h2=>?_)
  ⟨ho,λ y hy=>(eq_isInt k tu hi y (by simpa using hy)).at _ _,.int _,H,I.kept (t':=s.toks+1) (λ _ _ e=>e),⟨_,rfl⟩,q⟩
 ·show isInt k its[ns.idxOf k]=true
  rw [isInt_at k hi _ (by omega) hj]
  simpa using List.getElem_idxOf hj
 ·have h1':j < its.length:=by simpa using h1
  show isInt k its[j]=false;rw [isInt_at k hi j h1' (by omega)];exact ne_of_lt_idxOf h2 _
def FL:D->D->Option D
 | .lst ds,.int k=>(cO ds).bind λ ns=>if ns.length<=1000/\k ∈ ns then some (.int (ns.idxOf k:Nat)) else none
 | _,_=>none
variable {o e:Expr} {f g:DE} {apos cpos:Pos}
theorem Fq (ho:PEd X o f) (he:PEd X e g) (hbase:attributeBase o "index" X.env (eval o X.env)=eval o X.env:=by rfl)
   (hfew:((backTo cpos (starEach [e] X.env)).all (λ x=>!x.1)&&(backToKw cpos (keywordEach [] X.env)).all (λ x=>x.1.isSome)
     && decide ([e].length+([]:List Keyword).length+(if ([]:List Keyword).isEmpty then 0 else 1) < 30))=true:=by rfl)
   (hline:(apos.endLine == cpos.line)=true:=by rfl) (hst:starEach [e] X.env=(false,eval e X.env)::starEach [] X.env:=by rfl) (hplain:(backTo cpos (starEach [] X.env)).any (·.1)=false:=by rfl) :
   PEd X (.Call (.Attribute o "index" apos) [e] [] cpos) (dOp FL f g) :=
 (mG Z9 PySem.F.slot_list_index PySem.F.type_list_index zb ho (b7 he dr hst) hbase hfew hline hst hplain).imp λ σ H Q ⟨H0,Hs,τ,fp,d,st,sm,e,k⟩=>by
   obtain ⟨x,e1,e⟩:=bind_some e;obtain ⟨y,e2,e⟩:=bind_some e
   obtain ⟨ds,j,rfl,rfl⟩:∃ ds j,x=.lst ds/\y=.int j:=by
     unfold FL at e;split at e
     · exact ⟨_,_,rfl,rfl⟩
     · cases e
   refine ⟨H0,Hs,τ,fp,_,st,sm,e1,λ v Hs1 H1 g1 r1=>?_⟩
   cases r1 with
   | @lst a xs _ h r =>
     refine ⟨.inl ⟨rfl,_,.inl (.inl (g1.sh _ _ h))⟩,H0,Hs1,τ,fp,_,st.ext g1,g1.sh,e2,λ u Hs2 H2 g2 r2=>?_⟩
     cases r2 with
     | int _ =>
      obtain ⟨ns,en,ei⟩:=bind_some (show (cO ds).bind _=some d from e);have ed:=ie en;subst ed;have ex:=r.fE;subst ex;split at ei
      ·rename_i hc
       have e':=Zj ei;subst e';exact ⟨a,ns,j,rfl,rfl,SqL.of (g2.sh _ _ (g2.ss _ _ h)),hc.1,hc.2,k _ Hs2 H2 (g1.trans g2) (.int _)⟩
      · cases ei
end
def Bs:V->List V->Hp->VK->Prop:=λ x vs H Q=>∃ l ns k,x=.ref l/\vs=[.int k]/\H l=some (.lst (List.map V.int ns))/\ns.length<=1000/\k ∈ ns/\Q .non (upd H l (.lst ((ns.eraseIdx (ns.idxOf k)).map V.int)))
section
variable {X:Cx}
theorem bN.del:∀ {xs:List V} {us:List Value} (j:Nat),bN xs us->bN (xs.eraseIdx j) (us.eraseIdx j)
 | _,_,_,.nil=>.nil
 | _,_,0,.cons _ r=>r
 | _,_,j+1,.cons h r=>.cons h (bN.del j r)
theorem j4 {α β:Type} (f:α->β):∀ (l:List α) (j:Nat),(l.eraseIdx j).map f=(l.map f).eraseIdx j
 | [],_=>rfl
 | _::_,0=>rfl
 | x::l,j+1=>Yn (f x::·) (j4 f l j)
theorem vP:MtM X "list.remove" Bs:=by
 intro pins s σ H x vs v us Q I rx rv h;obtain ⟨l,ns,k,rfl,rfl,hH,hz,hk,q⟩:=h;cases rx;obtain ⟨u,rfl,tu,rfl⟩:=vals1 rv;obtain ⟨z,its,n,r,hl,e⟩:=I.AM hH;have hi:=mS r;have hln:=hi.length;have hj:ns.idxOf k < ns.length:=Y9.mpr hk
 refine Xy PySem.F.slot_list_remove ⟨_,e,rfl⟩ PySem.F.entry_list_remove (PySem.F.args_list_remove_2 _ _)
  (MeetsSeq.list_remove l its.toArray n (.int k tu) (isInt k) (λ y hy=>eq_isInt k tu hi y (by simpa using hy)) (ns.idxOf k) (by rw [Zr,hln]; exact hj) ?_ (λ m h1 h2=>?_) (by rw [Zr,hln]; exact Z6 hz (by decide))) ⟨e,?_⟩
 ·show isInt k its[ns.idxOf k]=true
  rw [isInt_at k hi _ (by omega) hj]
  simpa using List.getElem_idxOf hj
 ·have h1':m < its.length:=by simpa using h1
  show isInt k its[m]=false;rw [isInt_at k hi m h1' (by omega)];exact ne_of_lt_idxOf h2 _
 ·refine ⟨.non,_,I.F8 (its':=its.eraseIdx (ns.idxOf k)) hH e ?_ (by rw [j4]; exact bN.del _ r) ?_,rfl,q⟩
  ·show its.toArray.eraseIdxIfInBounds (ns.idxOf k)=(its.eraseIdx (ns.idxOf k)).toArray
   rw [List.eraseIdxIfInBounds_toArray]
  · rw [Za]; exact Z6 (List.length_eraseIdx_le ..) (by rw [Za] at z; exact z)
end
def gs:DSm:=λ τ=>some (.next τ)
def uG:DSm:=λ _=>none
def cY (f g:DSm):DSm:=λ τ=>match f τ with
 | some (.next τ')=>g τ'
 | r=>r
def nJ (t:DTm) (f g:DSm):DSm:=λ τ=>(t τ).bind λ x=>if x.1=true then f x.2 else g x.2
def jq (i:Nat) (f:DEm):DSm:=λ τ=>(f τ).bind λ x=>if i < x.2.length/\(toM x.1).isSome=true then some (.next (x.2.set i x.1)) else none
def nI (f:DEm):DSm:=λ τ=>(f τ).map λ x=>.ret x.1 x.2
def dR (f:DEm):DSm:=λ τ=>(f τ).map λ x=>.next x.2
def tS (g:DT):DTm:=λ τ=>(g (bf τ)).map λ b=>(b,τ)
section
variable {X:Cx} {a b c e o:Expr} {es:List Expr} {pos apos cpos pos':Pos} {x:Str} {st:Stmt} {rest:List Stmt} {f g:DSm}
theorem yn:lQ X [] gs:=pH.imp λ E σ H ⟨Hs0,H0,nf,ρ,Hs,τ,o,r,e,k⟩=>by
 cases e;exact k σ Hs H r
theorem ym (h:PSm X st f):lQ X [st] f:=jM h
theorem uW (h1:PSm X st f) (h2:lQ X rest g):lQ X (st::rest) (cY f g):=(qJ h1 h2).imp λ E σ H ⟨Hs0,H0,nf,ρ,Hs,τ,o,r,e,k⟩=>by
 unfold cY at e
 cases q:f τ with
 | none=>rw [q] at e; cases e
 | some o1 =>
  rw [q] at e;refine ⟨Hs0,H0,nf,ρ,Hs,τ,o1,r,q,?_⟩
  cases o1 with
  | next τ'=>exact λ σ' Hs' H' r'=>⟨Hs0,H0,nf,ρ,Hs',τ',o,r',e,k⟩
  | ret s τ'=>cases e; exact k
  | brk τ'=>cases e; exact k
  | cnt τ'=>cases e; exact k
theorem u0:PSm X st uG:=λ _ _ _ _ _ _ ⟨_,_,_,_,_,_,_,_,e,_⟩=>by cases e
theorem EX {t:DTm} {x y:List Stmt} (hc:PTm X c t) (ha:lQ X x f) (hb:lQ X y g):PSm X (.If c x y pos) (nJ t f g):=(BW hc ha hb).imp λ E σ H ⟨Hs0,H0,nf,ρ,Hs,τ,o,r,e,k⟩=>by
 obtain ⟨⟨bb,τ1⟩,e1,e2⟩:=bind_some e;refine ⟨Hs0,H0,nf,ρ,Hs,τ,bb,τ1,r,e1,λ Hs' H' r'=>?_⟩
 cases bb with
 | true=>exact ⟨Hs0,H0,nf,ρ,Hs',τ1,o,r',by simpa using e2,k⟩
 | false=>exact ⟨Hs0,H0,nf,ρ,Hs',τ1,o,r',by simpa using e2,k⟩
theorem BI {f:DEm} (h:PEm X e f):PSm X (.Return (some e) pos) (nI f):=(nO h).imp λ E σ H ⟨Hs0,H0,nf,ρ,Hs,τ,o,r,e,k⟩=>by
 obtain ⟨⟨s,τ1⟩,e1,rfl⟩:=Zm e;exact ⟨Hs0,H0,nf,ρ,Hs,τ,s,τ1,r,e1,λ v Hs' H' r'=>k v σ Hs' H' r'⟩
theorem BH {i:Nat} {f:DEm} (hN:X.N.Nodup) (hi:X.N[i]?=some x) (hx:Loc X.env.scope x) (he:PEm X e f) (hs:swapsWith e (some (.Name x pos')) pos.line X.env=pure false:=by rfl) (hf:X.fn x=true\/X.env.scope.names.lookup x=some .local:=by first | exact .inl rfl | exact .inr rfl | assumption) :
  PSm X (.Assign [.Name x pos'] e pos) (jq i f):=(qM hN hi hx he hs hf).imp λ E σ H ⟨Hs0,H0,nf,ρ,Hs,τ,o,r,e,k⟩=>by
 obtain ⟨⟨s,τ1⟩,e1,e2⟩:=bind_some e;split at e2
 ·rename_i h
  cases e2;exact ⟨Hs0,H0,nf,ρ,Hs,τ,s,τ1,r,e1,λ v Hs' H' r'=>k _ Hs' H' (r'.into h.1 h.2)⟩
 · cases e2
theorem yq {f:DEm} (he:PEm X e f) (hs:swapsWith e none pos.line X.env=pure false:=by rfl):PSm X (.Expr e pos) (dR f):=(dq he hs).imp λ E σ H ⟨Hs0,H0,nf,ρ,Hs,τ,o,r,e,k⟩=>by
 obtain ⟨⟨s,τ1⟩,e1,rfl⟩:=Zm e;exact ⟨Hs0,H0,nf,ρ,Hs,τ,s,τ1,r,e1,λ v Hs' H' r'=>k σ Hs' H' r'.pop⟩
def qE (g:DE):DSm:=λ τ=>(g (bf τ)).map λ _=>.next τ
theorem va {g:DE} (he:PEd X e g) (hs:swapsWith e none pos.line X.env=pure false:=by rfl):PSm X (.Expr e pos) (qE g):=(dq he hs).imp λ E σ H ⟨Hs0,H0,nf,ρ,Hs,τ,o,r,e,k⟩=>by
 obtain ⟨d,e1,rfl⟩:=Zm e;obtain ⟨fp,st⟩:=r.st;exact ⟨H,H,bf τ,[],d,st.bf r.sm,.refl H,e1,λ v Hs' H' g1 rv=>k σ Hs H' (r.grow g1.hh)⟩
theorem Je {g:DT} (h:PTd X e g):PTm X e (tS g):=PT.imp h λ σ H Q ⟨Hs0,H0,nf,ρ,Hs,τ,b,τ',r,e,k⟩=>by
 obtain ⟨b',e1,e2⟩:=Zm e;cases e2;obtain ⟨fp,st⟩:=r.st;exact ⟨H,H,bf τ,[],b,st.bf r.sm,.refl H,e1,λ Hs' H' g1=>k Hs H' (r.grow g1.hh)⟩
def gn (cs:List (Key×Mt)) (k:Key) (m:Mt):List (Key×Mt):=if cs.any (λ c=>decide (c.1=k)) then cs.map (λ c=>if c.1=k then (c.1,m) else c) else cs++[(k,m)]
def tE (cs:List (Key×Mt)) (k:Key):List (Key×Mt):=cs.filter λ c=>decide (c.1≠k)
theorem nM (k:Key) (nd:(ts.map Kd.k).Nodup):∃ l1 l2,(l1++l2).Sublist ts/\∀ n:Kd,n.k=k->(l1++n::l2).map Kd.kv=putK (ts.map Kd.kv) k n.v/\(l1++n::l2).map Kd.km=gn (ts.map Kd.km) k n.m/\((l1++n::l2).map Kd.k).Nodup:=by
 have ea:∀ {α:Type} (g:Kd->α),k ∈ ts.map Kd.k->((ts.map λ t=>(t.k,g t)).any λ c=>decide (c.1=k))=true:=λ g h=>by
  rw [List.any_map,Xv];obtain ⟨t,ht,rfl⟩:=Z2.mp h;exact ⟨t,ht,by simp⟩
 have en:∀ {α:Type} (g:Kd->α),k ∉ ts.map Kd.k->((ts.map λ t=>(t.k,g t)).any λ c=>decide (c.1=k))=false:=λ g h=>by
  rw [List.any_map,List.any_eq_false];exact λ t ht z=>h (Z2.mpr ⟨t,ht,by simpa using z⟩)
 by_cases h:k ∈ ts.map Kd.k
 ·obtain ⟨t,ht,et⟩:=Z2.mp h
  obtain ⟨l1,l2,rfl⟩:=List.append_of_mem ht;have nd':=nd;rw [Zi,Zg,Yb,Zw] at nd';have n1:∀ c ∈ l1,c.k≠k:=λ c hc z=>nd'.2.2 c.k (Yk hc) t.k (Ze ..) (by rw [z,et])
  have n2:∀ c ∈ l2,c.k≠k:=λ c hc z=>nd'.2.1.1 (by rw [et,<- z]; exact Yk hc)
  refine ⟨l1,l2,List.Sublist.append (.refl _) (List.sublist_cons_self ..),λ n hn=>⟨?_,?_,?_⟩⟩
  ·unfold putK
   rw [show ((l1++t::l2).map Kd.kv).any (λ kv=>decide (kv.1=k))=_ from ea Kd.v h,if_pos rfl,Zv,Zi,Zi,Zg,Zg];congr 1
   · exact Zu λ c hc=>(if_neg (n1 c hc)).symm
   ·rw [show ((λ kv=>if kv.1=k then (kv.1,n.v) else kv) ∘ Kd.kv) t=(t.k,n.v) from if_pos et,et,<- hn]
    congr 1;exact Zu λ c hc=>(if_neg (hn.symm ▸ n2 c hc)).symm
  ·unfold gn
   rw [show ((l1++t::l2).map Kd.km).any (λ kv=>decide (kv.1=k))=_ from ea Kd.m h,if_pos rfl,Zv,Zi,Zi,Zg,Zg];congr 1
   · exact Zu λ c hc=>(if_neg (n1 c hc)).symm
   ·rw [show ((λ c=>if c.1=k then (c.1,n.m) else c) ∘ Kd.km) t=(t.k,n.m) from if_pos et,et,<- hn]
    congr 1;exact Zu λ c hc=>(if_neg (hn.symm ▸ n2 c hc)).symm
  ·rw [Zi,Zg,hn,<- et,<- Zg,<- Zi]
   exact nd
 ·refine ⟨ts,[],by rw [Zx]; exact .refl _,λ n hn=>⟨?_,?_,?_⟩⟩
  ·unfold putK
   rw [show (ts.map Kd.kv).any (λ kv=>decide (kv.1=k))=_ from en Kd.v h,if_neg (by simp),Zi,<- hn];rfl
  ·unfold gn
   rw [show (ts.map Kd.km).any (λ kv=>decide (kv.1=k))=_ from en Kd.m h,if_neg (by simp),Zi,<- hn];rfl
  ·rw [Zi,Zg,Yb,hn]
   exact ⟨nd,by simp,λ c hc c' hc' z=>h (by rw [<- Zt.mp hc',<- z]; exact hc)⟩
theorem qI:∀ {fs:List (Str×V)},(fs.map Prod.fst).Nodup->(lE x v fs).map (λ f=>((Sum.inr f.1:Key),f.2))=putK (fs.map λ f=>((Sum.inr f.1:Key),f.2)) (.inr x) v
 | [],_=>rfl
 | (y,w)::fs,nd=>by
  rw [Zg,Zw] at nd
  by_cases h:y=x
  ·subst h
   rw [show lE y v ((y,w)::fs)=(y,v)::fs from if_pos rfl];unfold putK;rw [show ((((y,w)::fs).map λ f=>((Sum.inr f.1:Key),f.2)).any λ kv=>decide (kv.1=Sum.inr y))=true from by simp,if_pos rfl,Zg,Zg,Zg,Zv];congr 1
   · simp
   · exact Zu λ c hc=>(if_neg (λ z=>nd.1 (by injection z with z; exact Z2.mpr ⟨c,hc,z⟩))).symm
  ·rw [show lE x v ((y,w)::fs)=(y,w)::lE x v fs from if_neg h,Zg,qI nd.2]
   unfold putK;rw [Zg,Yz,show decide ((Sum.inr y:Key)=Sum.inr x)=false from Zk (λ z=>h (by injection z)),Bool.false_or];split
   · rw [Zg,if_neg (λ z=>h (by injection z))]
   · rfl
def eD (px:DPx) (gk:DE) (fv:DEm):DSm:=λ τ=>(fv τ).bind λ x=>(px x.2).bind λ p=>(gk (bf x.2)).bind λ d=>(iK d).bind λ k=>(toM x.1).bind λ mv=>match aZ x.2 p.1 p.2 with
 | some (.n .d cs)=>if cs.length < 100000 then some (.next (c4 x.2 p.1 p.2 (.n .d (gn cs k mv)))) else none
 | _=>none
theorem yr (hu:X.A.units+1 < cLine) (ho:PXm X o px) (hi:PEd X i gk) (hv:PEm X value fv) (hs:swapsWith value (some (.Subscript o i pos')) pos.line X.env=pure false:=by rfl) :
  PSm X (.Assign [.Subscript o i pos'] value pos) (eD px gk fv):=(BX hu ho hi hv hs).imp λ E σ H ⟨Hs0,H0,nf,ρ,Hs,τ,o,r,e,k⟩=>by
 obtain ⟨⟨s,τ1⟩,e1,e⟩:=bind_some e;obtain ⟨⟨i,q⟩,e2,e⟩:=bind_some e;obtain ⟨d,e3,e⟩:=bind_some e;obtain ⟨ky,e4,e⟩:=bind_some e;obtain ⟨mv,e5,e⟩:=bind_some e;split at e
 ·rename_i cs en
  split at e
  ·rename_i hz
   cases e;refine ⟨Hs0,H0,nf,ρ,Hs,τ,s,τ1,r,e1,λ v Hs1 H1 r1=>?_⟩;refine ⟨Hs0,H0,nf,ρ,Hs1,τ1,i,q,_,r1.pop,e2,en,λ rt v1 H2 g2 hrt hq=>?_⟩;have r2:=r1.grow g2;obtain ⟨fp,st⟩:=r2.pop.st;refine ⟨H2,H2,bf τ1,[],d,st.bf r2.sm,.refl H2,e3,λ y Hs3 H3 g3 ry=>?_⟩;have hy:=je ry e4;subst hy;obtain ⟨a,dx,ts,u,fv,rfl,rfl,ha,hl,ku,fin⟩:=(r2.grow g3.hh).vO e5 en hrt (b5 g3.hh q hq);obtain ⟨l1,l2,hsub,spl⟩:=nM ky ku;obtain ⟨p1,p2,p3⟩:=spl ⟨ky,v,mv,fv⟩ rfl;generalize ek:ts.map Kd.kv=kvs at hl
   cases hl with
   | d _ =>
    refine ⟨a,_,rfl,G9.k ha (by rw [<- ek,Za,<- Za (f:=Kd.km)]; exact le5 (Yo hz)),?_⟩;have:=fin l1 ky l2 (.dK (putK kvs ky v)) hsub (by rw [p1,ek]; exact .d _) p3;rw [p2] at this;exact k σ Hs1 _ this
  · cases e
 · cases e
def su (C:Addr) (x:Str) (px:DPx) (fv:DEm):DSm:=λ τ=>(fv τ).bind λ y=>(px y.2).bind λ p=>(toM y.1).bind λ mv=>match aZ y.2 p.1 p.2 with
 | some (.n (.o C') cs)=>if C'=C/\cs.length < 1000 then some (.next (c4 y.2 p.1 p.2 (.n (.o C) (gn cs (.inr x) mv)))) else none
 | _=>none
theorem BN (cl:Cls X.K C) (n:cF X.K C x) (ho:PXm X o px) (hv:PEm X value fv) (hs:swapsWith value (some (.Attribute o x pos')) pos.line X.env=pure false:=by rfl) :
  PSm X (.Assign [.Attribute o x pos'] value pos) (su C x px fv):=(Ar ho hv hs).imp λ E σ H ⟨Hs0,H0,nf,ρ,Hs,τ,o,r,e,k⟩=>by
 obtain ⟨⟨s,τ1⟩,e1,e⟩:=bind_some e;obtain ⟨⟨i,q⟩,e2,e⟩:=bind_some e;obtain ⟨mv,e5,e⟩:=bind_some e;split at e
 ·rename_i C' cs en
  split at e
  ·rename_i hz
   obtain ⟨hc,hz⟩:=hz;subst hc;cases e;refine ⟨Hs0,H0,nf,ρ,Hs,τ,s,τ1,r,e1,λ v Hs1 H1 r1=>?_⟩;refine ⟨Hs0,H0,nf,ρ,Hs1,τ1,i,q,_,r1.pop,e2,en,λ rt v1 H2 g2 hrt hq=>?_⟩;obtain ⟨a,dx,ts,u,fv,rfl,rfl,ha,hl,ku,fin⟩:=(r1.grow g2).vO e5 en hrt hq;obtain ⟨l1,l2,hsub,spl⟩:=nM (.inr x) ku;obtain ⟨p1,p2,p3⟩:=spl ⟨.inr x,v,mv,fv⟩ rfl;have ku':(ts.map Kd.k).Nodup:=ku;generalize ek:ts.map Kd.kv=kvs at hl
   cases hl with
   | o fs =>
    have nf:(fs.map Prod.fst).Nodup:=by
     have e0:ts.map Kd.k=(fs.map Prod.fst).map (λ x=>(Sum.inr x:Key)):=by
      rw [Zv,show ts.map Kd.k=(ts.map Kd.kv).map Prod.fst by rw [Zv]; rfl,ek,Zv];rfl
     rw [e0] at ku';exact List.Pairwise.of_map _ (λ a b h e=>h (by rw [e])) ku'
    refine ⟨a,C',dx,fs,rfl,ha,cl,n,?_,?_⟩
    ·have:=Yn List.length ek
     rw [Za,Za] at this;rw [Za] at hz;omega
    ·have:=fin l1 (.inr x) l2 (.ins C' dx (lE x v fs)) hsub (by rw [p1,ek,<- qI nf]; exact .o _) p3
     rw [p2] at this;exact k σ Hs1 _ this
  · cases e
 · cases e
end
section
variable {K:W.Frag} {Hs0 H0 Hs H Hs' H':Hp} {ρ:List (Option Addr)} {σ:St} {τ:List Sm}
theorem mR {dx:Addr} {ts:List Kd} {u:HO} (h:Lay .l dx (ts.map Kd.kv) u):u=.lst (ts.map Kd.v):=by
 generalize ek:ts.map Kd.kv=kvs at h
 cases h with
 | l _=>rw [<- ek,Zv]; rfl
theorem lY {dx:Addr} {ts:List Kd}:Lay .l dx (ts.map Kd.kv) (.lst (ts.map Kd.v)):=by
 have:=Lay.l (dx:=dx) (ts.map Kd.kv);rw [Zv] at this;exact this
theorem zp {dx:Addr} {ts:List Kd} {u:HO} (h:Lay .d dx (ts.map Kd.kv) u):u=.dK (ts.map Kd.kv):=by
 generalize ek:ts.map Kd.kv=kvs at h
 cases h with
 | d _=>rfl
theorem bI.pQ (r:bI K Hs0 H0 ρ Hs H σ τ) (hg:aZ τ i q=some (.n t cs)) (hi:σ[i]?=some (some rt)) (hv:vAt H rt q=some v1) :
  ∃ (a dx:Addr) (ts:List Kd) (u:HO),v1=.ref a/\cs=ts.map Kd.km/\H a=some u/\Lay t dx (ts.map Kd.kv) u/\KU t ts/\(∀ c ∈ ts,Rp K H c.v (frz c.m)) /\
  ∀ ts' ks u',ts'.Sublist ts->(∀ k ∈ ks,k.fp=[]/\Od K Hs H [] k.v k.m)->Lay t dx ((ts'++ks).map Kd.kv) u'->KU t (ts'++ks)->bI K Hs0 H0 ρ Hs (upd H a u') σ (c4 τ i q (.n t ((ts'++ks).map Kd.km))):=by
 obtain ⟨fp,st⟩:=r.st;obtain ⟨b,m,em,eg⟩:=dg hg;obtain ⟨v,fp1,v1',w1,w2,w3,w4,w5⟩:=st.r6 em eg;rw [hi] at w1;cases w1;rw [hv] at w2;cases w2;obtain ⟨a,dx,ts,u,rfl,rfl,rfl,ha,hl,nh,ku,nd,rr⟩:=w3.inv;have afp:a ∈ fp:=w4 a (Ze ..);have h0:=(st.live a afp).2.2;have nd1:=Zw.mp nd;refine ⟨a,dx,ts,u,rfl,rfl,ha,hl,ku,λ c hc=>(rr c hc).rp r.sm,λ ts' ks u' hsub hks hl' ku'=>?_⟩
 have ex:Ext Hs0 H0 Hs (upd H a u'):=by
  refine ⟨r.ext.ss,λ c o e=>?_,λ c o e=>?_,r.ext.fr⟩
  · rw [ak (λ z=>by rw [z,nh] at e; cases e)]; exact r.ext.sh c o e
  · rw [ak (λ z=>by rw [z,h0] at e; cases e)]; exact r.ext.hh c o e
 have kz:ks.flatMap Kd.fp=[]:=by
  rw [List.flatMap_eq_nil_iff];exact λ c hc=>(hks c hc).1
 have sf:=mC hsub
 have nda':(a::(ts'++ks).flatMap Kd.fp).Nodup:=by
  rw [Yl,kz,Zx];exact Zw.mpr ⟨λ z=>nd1.1 (sf.subset z),nd1.2.sublist sf⟩
 have od:Od K Hs (upd H a u') (a::(ts'++ks).flatMap Kd.fp) (.ref a) (.n t ((ts'++ks).map Kd.km)):=by
  refine .n aw hl' nh ku' nda' λ c hc=>?_
  have na:a ∉ c.fp:=λ z=>(Zw.mp nda').1 (Yd.mpr ⟨c,hc,z⟩)
  rcases Zh.mp hc with hc | hc
  ·have o:=rr c (hsub.subset hc)
   exact o.mv (.refl _) λ x hx=>⟨(o.live x hx).1,ak λ z=>na (z ▸ hx)⟩
  ·obtain ⟨k1,k2⟩:=hks c hc
   rw [k1];exact k2.mv (.refl _) λ x hx=>by cases hx
 obtain ⟨fp',s',_⟩:=w5 Hs (upd H a u') _ _ (.refl _) (λ c hc hn=>⟨(st.live c hc).1,ak λ z=>hn (by rw [z]; exact Ze ..)⟩) od λ c hc=>by
  rw [Yl,kz,Zx] at hc;rcases Zl.mp hc with rfl | hc
  · exact .inl (Ze ..)
  · exact .inl (Zd _ (sf.subset hc))
 exact ⟨ex,fp',by unfold c4; rw [em]; exact s'⟩
theorem bI.isList (r:bI K Hs0 H0 ρ Hs H σ τ) (hg:aZ τ i q=some (.n .l cs)) (hi:σ[i]?=some (some rt)) (hv:vAt H rt q=some v1):tyV K "list" v1 H:=by
 obtain ⟨a,dx,ts,u,rfl,rfl,ha,hl,_⟩:=r.pQ hg hi hv;rw [mR hl] at ha;exact .inl ⟨rfl,_,SqL.of ha⟩
end
def gE (px:DPx) (fv:DEm):DSm:=λ τ=>(px τ).bind λ p=>match aZ τ p.1 p.2 with
 | some (.n .l _)=>(fv τ).bind λ x=>(toM x.1).bind λ mv=>match aZ x.2 p.1 p.2 with
  | some (.n .l cs)=>if cs.length < 100000 then some (.next (c4 x.2 p.1 p.2 (.n .l (cs++[(.inl 0,mv)])))) else none
  | _=>none
 | _=>none
def Iy (cs:List (Key×Mt)) (i:Nat) (m:Mt):List (Key×Mt):=cs.take i++(.inl 0,m)::cs.drop i
def xZ (px:DPx) (gi:DE) (fv:DEm):DSm:=λ τ=>(px τ).bind λ p=>match aZ τ p.1 p.2 with
 | some (.n .l _)=>(gi (bf τ)).bind λ d=>(fv τ).bind λ x=>(toM x.1).bind λ mv=>match d,aZ x.2 p.1 p.2 with
  | .int i,some (.n .l cs)=>if 0<=i/\i<=cs.length/\cs.length < 100000 then some (.next (c4 x.2 p.1 p.2 (.n .l (Iy cs i.toNat mv)))) else none
  | _,_=>none
 | _=>none
def uF (px:DPx) (g:DE):DSm:=λ τ=>(px τ).bind λ p=>(g (bf τ)).bind λ d=>match d,aZ τ p.1 p.2 with
 | .int k,some (.n .l cs)=>(cO (lu cs)).bind λ ns=>if ns.length<=1000/\k ∈ ns then some (.next (c4 τ p.1 p.2 (.n .l (cs.eraseIdx (ns.idxOf k))))) else none
 | _,_=>none
def xY (px:DPx) (gk:DE):DSm:=λ τ=>(px τ).bind λ p=>(gk (bf τ)).bind λ d=>(iK d).bind λ k=>match aZ τ p.1 p.2 with
 | some (.n .d cs)=>if (cs.any λ c=>decide (c.1=k))=true then some (.next (c4 τ p.1 p.2 (.n .d (tE cs k)))) else none
 | _=>none
def sv (px:DPx) (g:DE):DSm:=λ τ=>(px τ).bind λ p=>(g (bf τ)).bind λ d=>match d,aZ τ p.1 p.2 with
 | .lst ds,some (.n .l cs)=>if ds.all sca=true/\cs.length+ds.length < 100000 then some (.next (c4 τ p.1 p.2 (.n .l (cs++ds.map λ d=>(.inl 0,.s d))))) else none
 | _,_=>none
theorem D2 {ts:List Kd} {k:Key} (h:((ts.map Kd.km).any λ c=>decide (c.1=k))=true):∃ v,dN (ts.map Kd.kv) k=some v:=by
 rw [<- Y8,<- jy];rw [List.any_map] at h ⊢;exact h
section
variable {X:Cx} {a b c e o:Expr} {es:List Expr} {pos apos cpos pos':Pos} {x:Str}
theorem BP (ho:PXm X o px) (he:PVm X e fv)
   (hbase:attributeBase o "append" X.env (eval o X.env)=eval o X.env:=by rfl)
   (hfew:((backTo cpos (starEach [e] X.env)).all (λ x=>!x.1)&&(backToKw cpos (keywordEach [] X.env)).all (λ x=>x.1.isSome)
     && decide ([e].length+([]:List Keyword).length+(if ([]:List Keyword).isEmpty then 0 else 1) < 30))=true:=by rfl)
   (hline:(apos.endLine == cpos.line)=true:=by rfl) (hst:starEach [e] X.env=(false,eval e X.env)::starEach [] X.env:=by rfl) (hplain:(backTo cpos (starEach [] X.env)).any (·.1)=false:=by rfl)
   (hs:swapsWith (.Call (.Attribute o "append" apos) [e] [] cpos) none pos.line X.env=pure false:=by rfl) :
   PSm X (.Expr (.Call (.Attribute o "append" apos) [e] [] cpos) pos) (gE px fv) :=
 (dq (mG Z9 PySem.F.slot_list_append PySem.F.type_list_append j0 ho (b7 he dr hst) hbase hfew hline hst hplain) hs).imp λ E σ H ⟨Hs0,H0,nf,ρ,Hs,τ,o,r,e,k⟩=>by
   obtain ⟨⟨i,q⟩,e1,e⟩:=bind_some e;split at e
   · rename_i cs0 en0
     obtain ⟨⟨s,τ1⟩,e2,e⟩:=bind_some e;obtain ⟨mv,e3,e⟩:=bind_some e;split at e
     ·rename_i cs en
      split at e
      ·rename_i hz
       cases e;refine ⟨Hs0,H0,nf,ρ,Hs,τ,i,q,_,r,e1,en0,λ rt v1 H1 g1 hrt hq=>⟨(r.grow g1).isList en0 hrt hq,?_⟩⟩;refine ⟨Hs0,H0,nf,ρ,Hs,τ,s,τ1,r.grow g1,e2,λ v Hs2 H2 g2 r2=>?_⟩;obtain ⟨a,dx,ts,u,fv,rfl,rfl,ha,hl,ku,fin⟩:=r2.vO e3 en hrt (b5 g2 q hq);rw [mR hl] at ha;refine ⟨a,_,v,rfl,rfl,ha,by rw [Za]; rw [Za] at hz; exact le5 (Yo hz),?_⟩
       have:=fin ts (.inl 0) [] (.lst (ts.map Kd.v++[v])) (by rw [Zx]; exact .refl _) (by
        have:=lY (dx:=dx) (ts:=ts++[⟨.inl 0,v,mv,fv⟩]);rw [Zi (f:=Kd.v)] at this
        exact this) trivial
       rw [Zi] at this;exact k σ Hs2 _ this
      · cases e
     · cases e
   · cases e
theorem BL (ho:PXm X o px) (hi:PEd X i gi) (he:PVm X e fv)
   (hbase:attributeBase o "insert" X.env (eval o X.env)=eval o X.env:=by rfl)
   (hfew:((backTo cpos (starEach [i,e] X.env)).all (λ x=>!x.1)&&(backToKw cpos (keywordEach [] X.env)).all (λ x=>x.1.isSome)
     && decide ([i,e].length+([]:List Keyword).length+(if ([]:List Keyword).isEmpty then 0 else 1) < 30))=true:=by rfl)
   (hline:(apos.endLine == cpos.line)=true:=by rfl) (hst:starEach [i,e] X.env=(false,eval i X.env)::starEach [e] X.env:=by rfl) (hst2:starEach [e] X.env=(false,eval e X.env)::starEach [] X.env:=by rfl) (hplain:(backTo cpos (starEach [e] X.env)).any (·.1)=false:=by rfl)
   (hs:swapsWith (.Call (.Attribute o "insert" apos) [i,e] [] cpos) none pos.line X.env=pure false:=by rfl) :
   PSm X (.Expr (.Call (.Attribute o "insert" apos) [i,e] [] cpos) pos) (xZ px gi fv) :=
 (dq (Fe (KK:=X.K) rfl ho hi he hbase hfew hline hst hst2 hplain) hs).imp λ E σ H ⟨Hs0,H0,nf,ρ,Hs,τ,o,r,e,k⟩=>by
   obtain ⟨⟨i,q⟩,e1,e⟩:=bind_some e;split at e
   · rename_i cs0 en0
     obtain ⟨d,e4,e5⟩:=bind_some e;obtain ⟨⟨s,τ1⟩,e2,e6⟩:=bind_some e5;obtain ⟨mv,e3,e7⟩:=bind_some e6;clear e e5 e6;split at e7
     ·rename_i j cs en
      split at e7
      ·rename_i hz
       obtain ⟨h0,h1,hz⟩:=hz;cases e7;refine ⟨Hs0,H0,nf,ρ,Hs,τ,i,q,_,r,e1,en0,λ rt v1 H1 g1 hrt hq=>⟨(r.grow g1).isList en0 hrt hq,?_⟩⟩;have r1:=r.grow g1;obtain ⟨fp,st⟩:=r1.st;refine ⟨H1,H1,bf τ,[],_,st.bf r1.sm,.refl H1,e4,λ y Hs2 H2 g2 ry=>?_⟩;cases ry;have r2:=r1.grow g2.hh;refine ⟨Hs0,H0,nf,ρ,Hs,τ,s,τ1,r2,e2,λ v Hs3 H3 g3 r3=>?_⟩;obtain ⟨a,dx,ts,u,fv,rfl,rfl,ha,hl,ku,fin⟩:=r3.vO e3 en hrt (b5 g3 q (b5 g2.hh q hq));rw [mR hl] at ha;rw [Za] at h1 hz;refine ⟨a,_,j,v,rfl,rfl,ha,h0,by rw [Za]; exact h1,by rw [Za]; exact le5 (Yo hz),by omega,?_⟩
       have:=fin (ts.take j.toNat) (.inl 0) (ts.drop j.toNat) (.lst ((ts.map Kd.v).take j.toNat++v::(ts.map Kd.v).drop j.toNat)) (by rw [List.take_append_drop]; exact .refl _) (by
        have:=lY (dx:=dx) (ts:=ts.take j.toNat++⟨.inl 0,v,mv,fv⟩::ts.drop j.toNat);rw [Zi (f:=Kd.v),Zg,List.map_take,List.map_drop] at this
        exact this) trivial
       rw [Zi,Zg,List.map_take,List.map_drop] at this;exact k σ Hs3 _ this
      · cases e7
     · cases e7
   · cases e
theorem BJ (ho:PXm X o px) (he:PEd X e g)
   (hbase:attributeBase o "remove" X.env (eval o X.env)=eval o X.env:=by rfl)
   (hfew:((backTo cpos (starEach [e] X.env)).all (λ x=>!x.1)&&(backToKw cpos (keywordEach [] X.env)).all (λ x=>x.1.isSome)
     && decide ([e].length+([]:List Keyword).length+(if ([]:List Keyword).isEmpty then 0 else 1) < 30))=true:=by rfl)
   (hline:(apos.endLine == cpos.line)=true:=by rfl) (hst:starEach [e] X.env=(false,eval e X.env)::starEach [] X.env:=by rfl) (hplain:(backTo cpos (starEach [] X.env)).any (·.1)=false:=by rfl)
   (hs:swapsWith (.Call (.Attribute o "remove" apos) [e] [] cpos) none pos.line X.env=pure false:=by rfl) :
   PSm X (.Expr (.Call (.Attribute o "remove" apos) [e] [] cpos) pos) (uF px g) :=
 (dq (mG Z9 PySem.F.slot_list_remove PySem.F.type_list_remove vP ho (b7 he dr hst) hbase hfew hline hst hplain) hs).imp λ E σ H ⟨Hs0,H0,nf,ρ,Hs,τ,o,r,e,k⟩=>by
   obtain ⟨⟨i,q⟩,e1,e⟩:=bind_some e;obtain ⟨d,e2,e⟩:=bind_some e;split at e
   · rename_i ky cs en
     obtain ⟨ns,e3,e⟩:=bind_some e;split at e
     ·rename_i hz
      cases e;refine ⟨Hs0,H0,nf,ρ,Hs,τ,i,q,_,r,e1,en,λ rt v1 H1 g1 hrt hq=>⟨(r.grow g1).isList en hrt hq,?_⟩⟩;have r1:=r.grow g1;obtain ⟨fp,st⟩:=r1.st;refine ⟨H1,H1,bf τ,[],_,st.bf r1.sm,.refl H1,e2,λ y Hs2 H2 g2 ry=>?_⟩;cases ry;have r2:=r1.grow g2.hh;obtain ⟨a,dx,ts,u,rfl,rfl,ha,hl,ku,hrp,fin⟩:=r2.pQ en hrt (b5 g2.hh q hq);rw [mR hl] at ha
      have ev:ts.map Kd.v=ns.map V.int:=by
       have h1:=qG hrp;rw [Zv,ie e3] at h1;exact Rps.fE h1
      rw [ev] at ha;refine ⟨a,ns,ky,rfl,rfl,ha,hz.1,hz.2,?_⟩
      have:=fin (ts.eraseIdx (ns.idxOf ky)) [] (.lst ((ns.eraseIdx (ns.idxOf ky)).map V.int)) (List.eraseIdx_sublist ..) (λ k hk=>by cases hk) (by
       have:=lY (dx:=dx) (ts:=ts.eraseIdx (ns.idxOf ky));rw [j4 Kd.v,ev,<- j4] at this;rw [Zx]
       exact this) trivial
      rw [Zx,j4 Kd.km] at this;exact k σ Hs _ this
     · cases e
   · cases e
theorem BK (ho:PXm X o px) (he:PEd X e gk) (m:M1 X o "pop" apos e cpos) (hs:swapsWith (.Call (.Attribute o "pop" apos) [e] [] cpos) none pos.line X.env=pure false:=by rfl) :
   PSm X (.Expr (.Call (.Attribute o "pop" apos) [e] [] cpos) pos) (xY px gk) :=
 (dq (yJ ho he m) hs).imp λ E σ H ⟨Hs0,H0,nf,ρ,Hs,τ,o,r,e,k⟩=>by
   obtain ⟨⟨i,q⟩,e1,e⟩:=bind_some e;obtain ⟨d,e2,e⟩:=bind_some e;obtain ⟨ky,e3,e⟩:=bind_some e;split at e
   ·rename_i cs en
    split at e
    ·rename_i hz
     cases e;refine ⟨Hs0,H0,nf,ρ,Hs,τ,i,q,_,r,e1,en,λ rt v1 H1 g1 hrt hq=>?_⟩;have r1:=r.grow g1;obtain ⟨a,dx,ts,u,rfl,rfl,ha,hl,ku,hrp,fin⟩:=r1.pQ en hrt hq;rw [zp hl] at ha;obtain ⟨fp,st⟩:=r1.st;refine ⟨a,rfl,.inl ⟨_,.inl ha⟩,H1,H1,bf τ,[],_,st.bf r1.sm,.refl H1,e2,λ y Hs2 H2 g2 ry=>?_⟩;have hy:=je ry e3;subst hy;have r2:=r1.grow g2.hh;obtain ⟨a',dx',ts',u',ea,ec,ha',hl',ku',hrp',fin'⟩:=r2.pQ en hrt (b5 g2.hh q hq);cases ea;have ha2:=ha';rw [zp hl'] at ha2;have eq:=g2.hh _ _ ha;rw [ha2] at eq;rw [ec] at hz;obtain ⟨w,hw⟩:=D2 hz;refine ⟨_,ky,w,ha2,rfl,hw,?_⟩
     have:=fin' (ts'.filter λ c=>decide (c.k≠ky)) [] (.dK (qe (ts'.map Kd.kv) ky)) List.filter_sublist (λ k hk=>by cases hk) (by
      rw [Zx];unfold qe;rw [List.filter_map]
      exact .d _) (by
      rw [Zx];show ((ts'.filter _).map Kd.k).Nodup
      exact List.Nodup.sublist (List.filter_sublist.map _) ku')
     rw [Zx] at this
     have em:(ts'.filter λ c=>decide (c.k≠ky)).map Kd.km=tE (ts.map Kd.km) ky:=by
      rw [ec];unfold tE;rw [List.filter_map];rfl
     rw [em] at this;exact k σ Hs _ this
    · cases e
   · cases e
end
def off (H:Hp) (fp:List Addr):Hp:=λ b=>if b ∈ fp then none else H b
def LV:V->Option Addr
 | .ref a=>some a
 | _=>none
abbrev hZ (vs:List V):List (Option Addr):=vs.map LV
def spM (F:List Sm->Option (Sm×List Sm)) (K:W.Frag):Sp:=λ vs H Q _=>∃ Hs fp as s as',b6 Hs H/\StM K (off H fp) Hs H (hZ vs) (vs.map some) as fp/\F as=some (s,as') /\
 ∀ v Hs' H' fp',Ext Hs (off H fp) Hs' H'->StM K (off H fp) Hs' H' (none::hZ vs) (some v::vs.map some) (s::as') fp'->Q v H'
inductive Am where
 | v (d:D) | p (i:Nat) (q:List Stp)
inductive pB (K:W.Frag) (Hs H:Hp) (σ:St):List V->List Am->Prop where
 | nil:pB K Hs H σ [] []
 | v {x:V} {d:D} {vs:List V} {as:List Am} (h:Rp K Hs x d) (r:pB K Hs H σ vs as):pB K Hs H σ (x::vs) (.v d::as)
 | p {x rt:V} {i:Nat} {q:List Stp} {vs:List V} {as:List Am} (h1:σ[i]?=some (some rt)) (h2:vAt H rt q=some x) (r:pB K Hs H σ vs as):pB K Hs H σ (x::vs) (.p i q::as)
theorem pB.ext {K:W.Frag} {Hs H Hs' H':Hp} {σ:St} {vs:List V} {as:List Am} (g1:b6 Hs Hs') (g2:b6 H H') (h:pB K Hs H σ vs as):pB K Hs' H' σ vs as:=by
 induction h with
 | nil=>exact .nil
 | v h _ ih=>exact .v (h.same g1) ih
 | p h1 h2 _ ih=>exact .p h1 (b5 g2 _ h2) ih
def lend:List Sm->List Am->Option (List Sm)
 | _,[]=>some []
 | τ,.v d::r=>(lend τ r).map (.shr d::·)
 | τ,.p i q::r=>match aZ τ i q with
  | some (.n t cs)=>(lend (τ.set i .no) r).map (.mu true (.n t cs)::·)
  | _=>none
def back:List Sm->List Am->List Sm->Option (List Sm)
 | τ,[],_=>some τ
 | τ,.v _::r,_::as=>back τ r as
 | τ,.p i q::r,.mu true m2::as=>(back (τ.set i .no) r as).bind λ τ'=>match τ[i]? with
  | some (.mu b m)=>some (τ'.set i (.mu b (m.put q m2)))
  | _=>none
 | _,_,_=>none
section
variable {K:W.Frag} {H0 Hs H Hs' H':Hp} {ρ:List (Option Addr)} {σ:List (Option V)} {τ:List Sm} {fp:List Addr}
theorem StM.rebase (h:StM K H0 Hs H ρ σ τ fp):(∀ c ∈ fp,H1 c=none)->StM K H1 Hs H ρ σ τ fp:=by
 induction h with
 | nil=>exact λ _=>.nil
 | no _ ih=>exact λ q=>.no (ih q)
 | shr h _ ih=>exact λ q=>.shr h (ih q)
 | mu h hp z j _ ih=>exact λ q=>.mu h hp (λ c hc=>q c (Zp _ hc)) j (ih λ c hc=>q c (Zc _ hc))
theorem StM.pin {i:Nat} {b:Bool} {m:Mt} {v:V} (h:StM K H0 Hs H ρ σ τ fp):τ[i]?=some (.mu b m)->σ[i]?=some (some v)->b=true->∃ a,ρ[i]?=some (some a)/\v=.ref a:=by
 induction h generalizing i with
 | nil=>intro e; simp at e
 | no _ ih =>
  intro e e2 hb
  cases i with
  | zero=>simp at e
  | succ i=>simpa using ih (i:=i) (by simpa using e) (by simpa using e2) hb
 | shr h _ ih =>
  intro e e2 hb
  cases i with
  | zero=>simp at e
  | succ i=>simpa using ih (i:=i) (by simpa using e) (by simpa using e2) hb
 | @mu p v' b' m' ρ σ τ fq fp h hp z j _ ih =>
  intro e e2 hb
  cases i with
  | zero =>
   have e':Sm.mu b' m'=.mu b m:=by simpa using e
   injection e' with e1 _
   have e3:v'=v:=by simpa using e2
   subst e3;obtain ⟨a,h1,h2⟩:=hp (e1.trans hb);exact ⟨a,by rw [h1]; rfl,h2⟩
  | succ i=>simpa using ih (i:=i) (by simpa using e) (by simpa using e2) hb
theorem StM.fill (h:StM K H0 Hs H ρ σ τ fp) (hv:Od K Hs H fq v m) (z:∀ c ∈ fq,H0 c=none/\c ∉ fp):i < τ.length->σ[i]?=some (some v)->(b=true->∃ a,ρ[i]?=some (some a)/\v=.ref a)->∃ fp',StM K H0 Hs H ρ σ (τ.set i (.mu b m)) fp'/\∀ c ∈ fp',c ∈ fq\/c ∈ fp:=by
 induction h generalizing i with
 | nil=>intro hi; exact absurd hi (by simp)
 | @no p o ρ σ τ fp r ih =>
  intro hi e hp
  cases i with
  | zero =>
   have e':o=some v:=by simpa using e
   subst e';exact ⟨_,.mu hv (λ hb=>by obtain ⟨a,h1,h2⟩:=hp hb; exact ⟨a,by simpa using h1,h2⟩) (λ c hc=>(z c hc).1) (λ c hc=>(z c hc).2) r,λ c h=>Zh.mp h⟩
  | succ i =>
   obtain ⟨fp',h1,h2⟩:=ih z (i:=i) (by simpa using hi) (by simpa using e) (by simpa using hp);exact ⟨fp',.no h1,h2⟩
 | @shr p v' d ρ σ τ fp h r ih =>
  intro hi e hp
  cases i with
  | zero =>
   have e':v'=v:=by simpa using e
   subst e';exact ⟨_,.mu hv (λ hb=>by obtain ⟨a,h1,h2⟩:=hp hb; exact ⟨a,by simpa using h1,h2⟩) (λ c hc=>(z c hc).1) (λ c hc=>(z c hc).2) r,λ c h=>Zh.mp h⟩
  | succ i =>
   obtain ⟨fp',h1,h2⟩:=ih z (i:=i) (by simpa using hi) (by simpa using e) (by simpa using hp);exact ⟨fp',.shr h h1,h2⟩
 | @mu p v' b' m' ρ σ τ fq' fp h hp' z' j r ih =>
  intro hi e hp;have zr:∀ c ∈ fq,H0 c=none/\c ∉ fp:=λ c hc=>⟨(z c hc).1,λ q=>(z c hc).2 (Zc _ q)⟩
  cases i with
  | zero =>
   have e':v'=v:=by simpa using e
   subst e';exact ⟨_,.mu hv (λ hb=>by obtain ⟨a,h1,h2⟩:=hp hb; exact ⟨a,by simpa using h1,h2⟩) (λ c hc=>(z c hc).1) (λ c hc=>(zr c hc).2) r,λ c h=>(Zh.mp h).imp id λ q=>Zc _ q⟩
  | succ i =>
   obtain ⟨fp',h1,h2⟩:=ih zr (i:=i) (by simpa using hi) (by simpa using e) (by simpa using hp);refine ⟨_,.mu h hp' z' (λ c hc q=>?_) h1,λ c hc=>?_⟩
   ·rcases h2 c q with y | y
    · exact (z c y).2 (Zp _ hc)
    · exact j c hc y
   ·rcases Zh.mp hc with y | y
    · exact .inr (Zp _ y)
    · exact (h2 c y).imp id λ q=>Zc _ q
theorem rZ:back τ [] ss=some τ:=by cases ss <;> rw [back]
theorem nq:∀ {as:List Am} {τ ss τ':List Sm},back τ as ss=some τ'->τ'.length=τ.length
 | [],τ,ss,τ',e=>by rw [rZ] at e; cases e; rfl
 | .v _::r,τ,[],τ',e=>by cases e
 | .v _::r,τ,_::as,τ',e=>nq (as:=r) e
 | .p i q::r,τ,[],τ',e=>by cases e
 | .p i q::r,τ,s::as,τ',e=>by
  cases s with
  | no=>cases e
  | shr d=>cases e
  | mu b m2 =>
   cases b with
   | false=>cases e
   | true =>
    obtain ⟨τ1,e1,e2⟩:=bind_some (show (back (τ.set i .no) r as).bind _=_ from e);have l1:=nq e1;rw [List.length_set] at l1;split at e2
    ·cases e2
     rw [List.length_set,l1]
    · cases e2
abbrev DB:Hp:=λ _=>none
theorem mQ : ∀ {as : List Am} {τ ss:List Sm} {fp:List Addr} {vs:List V},StM K H0 Hs H ρ σ τ fp->pB K Hs H σ vs as->lend τ as=some ss ->
    ∃ fpa,StM K DB Hs H (hZ vs) (vs.map some) ss fpa/\(∀ c ∈ fpa,c ∈ fp) /\
    ∀ Hs' H' ss' fpa' τ',b6 Hs Hs'->(∀ c ∈ fp,c ∉ fpa->Hs' c=none/\H' c=H c)->StM K DB Hs' H' (hZ vs) (vs.map some) ss' fpa'->(∀ c ∈ fpa',c ∈ fpa\/(c ∉ fp/\H0 c=none))->back τ as ss'=some τ' ->
      ∃ fp',StM K H0 Hs' H' ρ σ τ' fp'/\∀ c ∈ fp',(c ∈ fp/\c ∉ fpa)\/c ∈ fpa'
  | [],τ,ss,fp,[],st,.nil,e=>by
    cases e;refine ⟨[],.nil,λ c hc=>(nomatch hc),λ Hs' H' ss' fpa' τ' g k sa j eb=>?_⟩;rw [rZ] at eb;cases eb;exact ⟨fp,st.mv g λ c hc=>k c hc (by simp),λ c hc=>.inl ⟨hc,by simp⟩⟩
  | .v d :: r,τ,ss,fp,_,st,.v h rr,e=>by
    obtain ⟨ss1,e1,rfl⟩:=Zm (show (lend τ r).map _=_ from e);obtain ⟨fpa,s1,w1,w2⟩:=mQ st rr e1;refine ⟨fpa,.shr h s1,w1,λ Hs' H' ss' fpa' τ' g k sa j eb=>?_⟩
    cases ss' with
    | nil=>cases eb
    | cons s as' =>
      cases sa with
      | no sa=>exact w2 Hs' H' as' _ τ' g k sa j eb
      | shr _ sa=>exact w2 Hs' H' as' _ τ' g k sa j eb
      | mu _ _ _ _ sa =>
        obtain ⟨fp',h1,h2⟩:=w2 Hs' H' as' _ τ' g k sa (λ c hc=>j c (Zc _ hc)) eb;exact ⟨fp',h1,λ c hc=>(h2 c hc).imp id λ y=>Zc _ y⟩
  | .p i q :: r, τ, ss, fp,_,st,@pB.p _ _ _ _ x rt _ _ vs _ h1 h2 rr,e=>by
    have e':(match aZ τ i q with | some (.n t cs)=>(lend (τ.set i .no) r).map (.mu true (.n t cs)::·) | _=>none)=some ss:=e;split at e'
    · rename_i t cs eg
      obtain ⟨ss1,e1,rfl⟩:=Zm e';obtain ⟨b,m,em,egm⟩:=dg eg;obtain ⟨v0,fq,fp0,o1,o2,o3,o4,o5⟩:=st.out em;rw [h1] at o1;cases o1;obtain ⟨fp1,v1,w1,w2,w3,w4⟩:=o2.r6 q egm;rw [h2] at w1;cases w1;obtain ⟨a,dx,ts,u,rfl,_⟩:=w2.inv;obtain ⟨fpa,s1,a1,a2⟩:=mQ o3 rr e1;have dj:∀ c ∈ fp1,c ∉ fpa:=λ c hc y=>(o4 c (w3 c hc)).1 (a1 c y)
      refine ⟨fp1++fpa,.mu w2 (λ _=>⟨a,rfl,rfl⟩) (λ _ _=>rfl) dj s1,λ c hc=>?_,λ Hs' H' ss' fpa' τ' g k sa j eb=>?_⟩
      · rcases Zh.mp hc with y | y
        · exact (o5 c).mpr (.inl (w3 c y))
        · exact (o5 c).mpr (.inr (a1 c y))
      · cases ss' with
        | nil=>cases eb
        | cons s as' =>
          cases s with
          | no=>cases eb
          | shr d=>cases eb
          | mu b2 m2 =>
            cases b2 with
            | false=>cases eb
            | true =>
              obtain ⟨τ1,eb1,eb2⟩:=bind_some (show (back (τ.set i .no) r as').bind _=_ from eb);simp only [em] at eb2;cases eb2
              cases sa with
              | @mu _ _ _ _ _ _ _ fq2 fpr od2 _ _ jj sr =>
                obtain ⟨fpx,x1,x2⟩:=a2 Hs' H' as' fpr τ1 g (λ c hc hn=>k c ((o5 c).mpr (.inr hc)) λ y=>(Zh.mp y).elim (λ y=>(o4 c (w3 c y)).1 hc) hn) sr (λ c hc=>by
                  rcases j c (Zc _ hc) with y | y
                  · rcases Zh.mp y with y | y
                    · exact .inr ⟨(o4 c (w3 c y)).1,(st.live c (o4 c (w3 c y)).2).2.2⟩
                    · exact .inl y
                  · exact .inr ⟨λ z=>y.1 ((o5 c).mpr (.inr z)),y.2⟩) eb1
                obtain ⟨fpo,y1,y2⟩:=w4 Hs' H' fq2 m2 g (λ c hc hn=>k c ((o5 c).mpr (.inl hc)) λ y=>(Zh.mp y).elim hn λ y=>(o4 c hc).1 (a1 c y)) od2 (λ c hc=>by
                  rcases j c (Zp _ hc) with y | y
                  · rcases Zh.mp y with y | y
                    · exact .inl y
                    · exact .inr λ z=>(o4 c z).1 (a1 c y)
                  · exact .inr λ z=>y.1 ((o5 c).mpr (.inl z)))
                have hlen:i < τ1.length:=by
                  rw [nq eb1,List.length_set];exact (List.getElem?_eq_some_iff.mp em).1
                obtain ⟨fp',z1,z2⟩:=x1.fill (i:=i) (b:=b) y1 (λ c hc=>by
                  rcases (y2 c).mp hc with y | y
                  · refine ⟨(st.live c (o4 c y.1).2).2.2,λ z=>?_⟩
                    rcases x2 c z with z | z
                    · exact (o4 c y.1).1 z.1
                    · rcases j c (Zc _ z) with w | w
                      · rcases Zh.mp w with w | w
                        · exact y.2 w
                        · exact (o4 c y.1).1 (a1 c w)
                      · exact w.1 (o4 c y.1).2
                  · refine ⟨?_,λ z=>?_⟩
                    · rcases j c (Zp _ y) with w | w
                      · rcases Zh.mp w with w | w
                        · exact (st.live c (o4 c (w3 c w)).2).2.2
                        · exact (st.live c ((o5 c).mpr (.inr (a1 c w)))).2.2
                      · exact w.2
                    · rcases x2 c z with z | z
                      · rcases j c (Zp _ y) with w | w
                        · rcases Zh.mp w with w | w
                          · exact (o4 c (w3 c w)).1 z.1
                          · exact z.2 w
                        · exact w.1 ((o5 c).mpr (.inr z.1))
                      · exact jj c y z) hlen h1 (λ hb=>st.pin em h1 hb)
                refine ⟨fp',z1,λ c hc=>?_⟩;rcases z2 c hc with y | y
                · rcases (y2 c).mp y with y | y
                  · exact .inl ⟨(o4 c y.1).2,λ w=>(Zh.mp w).elim y.2 λ w=>(o4 c y.1).1 (a1 c w)⟩
                  · exact .inr (Zp _ y)
                · rcases x2 c y with y | y
                  · exact .inl ⟨(o5 c).mpr (.inr y.1),λ w=>(Zh.mp w).elim (λ w=>(o4 c (w3 c w)).1 y.1) y.2⟩
                  · exact .inr (Zc _ y)
    · cases e'
end
abbrev DAm:=List Sm->Option (List Am)
def Ng (N:Hp) (K:W.Frag) (g:DAm):TA:=λ σ H Q=>∃ (Hs0 H0:Hp),∃ (_:Nf N H0),∃ ρ Hs τ as,bI K Hs0 H0 ρ Hs H σ τ/\g τ=some as/\∀ vs Hs' H',b6 H H'->bI K Hs0 H0 ρ Hs' H' σ τ->b6 Hs Hs'->pB K Hs' H' σ vs as->Q vs H'
def PAm (X:Cx) (es:List Expr) (g:DAm):Prop:=PA X es (Ng X.H₀ X.K g)
def Na (N:Hp) (K:W.Frag) (g:List Sm->Option Am):TE:=λ σ H Q=>∃ (Hs0 H0:Hp),∃ (_:Nf N H0),∃ ρ Hs τ a,bI K Hs0 H0 ρ Hs H σ τ/\g τ=some a/\∀ v Hs' H',b6 H H'->bI K Hs0 H0 ρ Hs' H' σ τ->b6 Hs Hs'->pB K Hs' H' σ [v] [a]->Q v H'
def PQm (X:Cx) (e:Expr) (g:List Sm->Option Am):Prop:=PE X e (Na X.H₀ X.K g)
def qN (g:DE):List Sm->Option Am:=λ τ=>(g (er τ)).map .v
def qX (f:DPx):List Sm->Option Am:=λ τ=>(f τ).bind λ p=>match aZ τ p.1 p.2 with
 | some (.n _ _)=>some (.p p.1 p.2)
 | some (.s d)=>some (.v d)
 | none=>none
def iP:DAm:=λ _=>some []
def aQ (h:List Sm->Option Am) (g:DAm):DAm:=λ τ=>(h τ).bind λ a=>(g τ).map (a::·)
theorem pB.app {K:W.Frag} {Hs H:Hp} {σ:St} {v:V} {a:Am} {vs:List V} {as:List Am} (h:pB K Hs H σ [v] [a]) (r:pB K Hs H σ vs as):pB K Hs H σ (v::vs) (a::as):=by
 cases h with
 | v h _=>exact .v h r
 | p h1 h2 _=>exact .p h1 h2 r
def qg (F:List Sm->Option (Sm×List Sm)) (τ:List Sm) (as:List Am):Option (Sm×List Sm):=(lend τ as).bind λ ss=>(F ss).bind λ x=>(back τ as x.2).map λ τ'=>(x.1,τ')
section
variable {K:W.Frag} {Hs0 H0 Hs H Hs' H':Hp} {ρ:List (Option Addr)} {σ:St} {τ:List Sm}
theorem jQ (h:off H fp c=none):c ∈ fp\/H c=none:=by
 unfold off at h;split at h
 · exact .inl ‹_›
 · exact .inr h
theorem yU:b6 (off H fp) H:=λ b o e=>by
 unfold off at e;split at e
 · cases e
 · exact e
theorem vD (h:c ∈ fp):off H fp c=none:=if_pos h
theorem iG (h:c ∉ fp):off H fp c=H c:=if_neg h
theorem bI.call (r:bI K Hs0 H0 ρ Hs H σ τ) (ha:pB K Hs H σ vs as) (e:qg F τ as=some (s,τ'))
  (k:∀ v Hs' H',bI K Hs0 H0 (none::ρ) Hs' H' (some v::σ) (s::τ')->Q v H'):spM F K vs H Q E:=by
 obtain ⟨ss,e1,e⟩:=bind_some e;obtain ⟨⟨s0,ss'⟩,e2,e⟩:=bind_some e;obtain ⟨τ0,e3,e4⟩:=Zm e;obtain ⟨e4,e5⟩:=Prod.mk.inj e4;have e4':s0=s:=e4;subst e4' e5;obtain ⟨fp,st⟩:=r.st;obtain ⟨fpa,sA,sub,r6⟩:=mQ st ha e1;refine ⟨Hs,fpa,ss,s0,ss',r.sm,sA.rebase λ c hc=>vD hc,e2,λ v Hs' H' fp2 g s2=>?_⟩
 have far:∀ c ∈ fp,c ∉ fpa->Hs' c=none/\H' c=H c:=λ c hc hn=>by
  obtain ⟨l1,l2,_⟩:=st.live c hc;have ho:off H fpa c=H c:=iG hn;refine ⟨g.fr c l1 (by rw [ho]; exact l2),?_⟩
  cases q:H c with
  | none=>exact absurd q l2
  | some u=>exact g.hh _ _ (ho.trans q)
 have ex:Ext Hs0 H0 Hs' H':=by
  have nf:∀ c,H0 c≠none->c ∉ fpa:=λ c h q=>h (st.live c (sub c q)).2.2
  refine ⟨r.ext.ss.trans g.ss,g.sh,λ c o e=>?_,λ c h1 h2=>?_⟩
  · exact g.hh _ _ ((iG (nf c (gD e))).trans (r.ext.hh _ _ e))
  · exact g.fr c (r.ext.fr c h1 h2) (by rw [iG (nf c h2)]; exact r.ext.hh.live h2)
 have fin:∀ fpr,StM K (off H fpa) Hs' H' (hZ vs) (vs.map some) ss' fpr->∃ fp',StM K H0 Hs' H' ρ σ τ0 fp'/\∀ c ∈ fp',(c ∈ fp/\c ∉ fpa)\/c ∈ fpr:=λ fpr sr=>by
  refine r6 Hs' H' ss' fpr τ0 g.ss far (sr.rebase λ _ _=>rfl) (λ c hc=>?_) e3;rcases jQ (sr.live c hc).2.2 with y | y
  · exact .inl y
  · exact .inr ⟨st.new y,r.old y⟩
 cases s2 with
 | no sr =>
  obtain ⟨fp',h1,_⟩:=fin _ sr;exact k v Hs' H' ⟨ex,_,.no h1⟩
 | shr h sr =>
  obtain ⟨fp',h1,_⟩:=fin _ sr;exact k v Hs' H' ⟨ex,_,.shr h h1⟩
 | @mu _ _ b m _ _ _ fq fpr od hp z j sr =>
  obtain ⟨fp',h1,h2⟩:=fin _ sr;refine k v Hs' H' ⟨ex,_,.mu od (λ hb=>by obtain ⟨a,q,_⟩:=hp hb; cases q) (λ c hc=>?_) (λ c hc y=>?_) h1⟩
  ·rcases jQ (z c hc) with y | y
   · exact (st.live c (sub c y)).2.2
   · exact r.old y
  ·rcases h2 c y with w | w
   ·rcases jQ (z c hc) with y | y
    · exact w.2 y
    · exact (st.live c w.1).2.1 y
   · exact j c hc w
end
def eC (F:List Sm->Option (Sm×List Sm)) (g:DAm):DEm:=λ τ=>(g τ).bind λ as=>qg F τ as
def eM (C:Addr) (m:Str) (F:List Sm->Option (Sm×List Sm)) (f:DPx) (g:DAm):DEm:=λ τ=>(f τ).bind λ p=>match aZ τ p.1 p.2 with
 | some (.n (.o C') cs)=>if C'=C/\(cs.any λ c=>decide (c.1=.inr m))=false then (g τ).bind λ as=>qg F τ (.p p.1 p.2::as) else none
 | _=>none
def eK (C:Addr) (F:List Sm->Option (Sm×List Sm)) (g:DAm):DEm:=λ τ=>(g τ).bind λ as=>(lend τ as).bind λ ss=>(F (.mu true (.n (.o C) [])::ss)).bind λ x=>match x.1,x.2 with
 | .shr .non,.mu true m::r=>(back τ as r).map λ τ'=>(.mu false m,τ')
 | _,_=>none
section
variable {X:Cx} {a b c e o:Expr} {es:List Expr} {pos apos cpos pos' p:Pos} {x m:Str} {k:Nat} {f fa C:Addr} {fd:FuncData} {ps:List Str} {F:List Sm->Option (Sm×List Sm)} {g:DAm}
theorem Nq {g:DE} (h:PEd X e g):PQm X e (qN g):=PE.imp h λ σ H Q ⟨Hs0,H0,nf,ρ,Hs,τ,a,r,e,k⟩=>by
 obtain ⟨d,e1,e2⟩:=Zm e;cases e2;obtain ⟨fp,st⟩:=r.st;exact ⟨H0,Hs,er τ,[],d,st.er,r.sm,e1,λ v Hs' H' g1 rv=>k v Hs' H' g1.hh (r.ext' g1) g1.ss (.v rv .nil)⟩
theorem Np {f:DPx} (h:PXm X e f):PQm X e (qX f):=PE.imp h λ σ H Q ⟨Hs0,H0,nf,ρ,Hs,τ,a,r,e,k⟩=>by
 obtain ⟨⟨i,q⟩,e1,e2⟩:=bind_some e;split at e2
 ·rename_i t cs eg
  cases e2;exact ⟨Hs0,H0,nf,ρ,Hs,τ,i,q,_,r,e1,eg,λ v v1 H' g hv hq=>k v1 Hs H' g (r.grow g) (.refl _) (.p hv hq .nil)⟩
 ·rename_i d eg
  cases e2;refine ⟨Hs0,H0,nf,ρ,Hs,τ,i,q,_,r,e1,eg,λ v v1 H' g hv hq=>?_⟩;have r':=r.grow g;obtain ⟨fp,st⟩:=r'.st;obtain ⟨b,m,e3,e4⟩:=dg eg;obtain ⟨v',fp1,v1',w1,w2,w3,_⟩:=st.r6 e3 e4;rw [hv] at w1;cases w1;rw [hq] at w2;cases w2
  cases w3 with
  | s rr=>exact k v1 Hs H' g r' (.refl _) (.v rr .nil)
 · cases e2
theorem Cu:PAm X [] iP:=dr.imp λ σ H Q ⟨Hs0,H0,nf,ρ,Hs,τ,as,r,e,k⟩=>by
 cases e;exact k [] Hs H (.refl H) r (.refl _) .nil
theorem yR (h1:PQm X e h) (h2:PAm X es g) (hs:starEach (e::es) X.env=(false,eval e X.env)::starEach es X.env:=by rfl):PAm X (e::es) (aQ h g) :=
 (b7 h1 h2 hs).imp λ σ H Q ⟨Hs0,H0,nf,ρ,Hs,τ,as,r,e,k⟩=>by
   obtain ⟨a,e1,e2⟩:=bind_some e;obtain ⟨as',e3,e4⟩:=Zm e2;cases e4;refine ⟨Hs0,H0,nf,ρ,Hs,τ,a,r,e1,λ v Hs1 H1 g1 r1 s1 a1=>?_⟩;refine ⟨Hs0,H0,nf,ρ,Hs1,τ,as',r1,e3,λ vs Hs2 H2 g2 r2 s2 a2=>?_⟩;exact k (v::vs) Hs2 H2 (g1.trans g2) r2 (s1.trans s2) ((a1.ext s2 g2).app a2)
theorem B9 (Fo:gY X.prog X.w X.K X.mg X.base CX0 k f fd ps (spM F X.K)) (hr:dm k X.A) (hg:Gl X x) (hm:X.mg x=some (.ref f)) (hk:W.keepIn X.K (.ref f)=true) (hb:Binds X.K fd ps [])
  (ha:PAm X (e::es) g) (hdb:(x == ("__debug__":Str))=false:=by decide) (he:starEach (e::es) X.env=(false,eval e X.env)::starEach es X.env:=by rfl) (hpl:(backTo pos (starEach es X.env)).any (·.1)=false:=by rfl) :
  PEm X (.Call (.Name x p) (e::es) [] pos) (eC F g):=(pI Fo hr hg hm hk hb .nil nP ha hdb he hpl).imp λ σ H Q ⟨Hs0,H0,nf,ρ,Hs,τ,s,τ',r,e,k⟩=>by
 obtain ⟨as,e1,e2⟩:=bind_some e;refine ⟨Hs0,H0,nf,ρ,Hs,τ,as,r,e1,λ vs Hs1 H1 g1 r1 s1 a1=>?_⟩;show spM F X.K (vs++[]) H1 Q E0;rw [Zx];exact r1.call a1 e2 k
theorem B6 (ho:PXm X o fx) (c:Cls X.K C) (hm:A7 X.K C m fa) (Fo:gY X.prog X.w X.K X.mg X.base CX0 k fa fd ps (spM F X.K)) (hr:dm k X.A) (hb:Binds X.K fd ps []) (ha:PAm X (e::es) g)
  (hst:starEach (e::es) X.env=(false,eval e X.env)::starEach es X.env:=by rfl) (hpl:(backTo pos (starEach es X.env)).any (·.1)=false:=by rfl)
  (ht:eval (.Call (.Attribute o m apos) (e::es) [] pos) X.env=(do
    let ov <- eval o X.env
    standAt apos.atName
    let (f,first) <- holding [ov] (getMethod ov m pl)
    callWith pos f first (backTo pos (starEach (e::es) X.env)) (backToKw pos (keywordEach [] X.env))):=by rfl) :
  PEm X (.Call (.Attribute o m apos) (e::es) [] pos) (eM C m F fx g):=(vq (pl:=pl) ho c hm Fo hr hb .nil nP ha hst hpl ht).imp λ σ H Q ⟨Hs0,H0,nf,ρ,Hs,τ,s,τ',r,e,k⟩=>by
 obtain ⟨⟨i,q⟩,e1,e2⟩:=bind_some e;split at e2
 ·rename_i C' cs en
  split at e2
  · rename_i hc
    obtain ⟨hc,hn⟩:=hc;subst hc;obtain ⟨as,e3,e4⟩:=bind_some e2;refine ⟨Hs0,H0,nf,ρ,Hs,τ,i,q,_,r,e1,en,λ rt v1 H1 g1 hrt hq=>?_⟩;have r1:=r.grow g1;obtain ⟨a,dx,ts,u,rfl,rfl,hu,hl,_⟩:=r1.pQ en hrt hq;generalize ek:ts.map Kd.kv=kvs at hl
    cases hl with
    | o fs =>
     refine ⟨a,dx,fs,rfl,hu,?_,Hs0,H0,nf,ρ,Hs,τ,as,r1,e3,λ vs Hs2 H2 g2 r2 s2 a2=>?_⟩
     ·rw [<- mx,<- ek]
      have:=jy (Sum.inr m) (ts.map Kd.kv);rw [List.any_map] at this hn;have h2:(dN (ts.map Kd.kv) (Sum.inr m)).isSome=false:=this.symm.trans hn
      cases q:dN (ts.map Kd.kv) (Sum.inr m) with
      | none=>rfl
      | some y=>rw [q] at h2; cases h2
     ·show spM F X.K (V.ref a::(vs++[])) H2 Q E0
      rw [Zx];exact r2.call (.p hrt (b5 g2 q hq) a2) e4 k
  · cases e2
 · cases e2
theorem B7 (M:Mk X.K C fa) (Fo:gY X.prog X.w X.K X.mg X.base CX0 k fa fd ps (spM F X.K)) (hr:dm (k+1) X.A) (hg:Gl X x) (hm:X.mg x=some (.ref C)) (hb:Binds X.K fd ps [])
  (ha:PAm X (e::es) g) (hdb:(x == ("__debug__":Str))=false:=by decide) (he:starEach (e::es) X.env=(false,eval e X.env)::starEach es X.env:=by rfl) (hpl:(backTo pos (starEach es X.env)).any (·.1)=false:=by rfl) :
  PEm X (.Call (.Name x p) (e::es) [] pos) (eK C F g):=(vr M Fo hr hg hm hb .nil nP ha hdb he hpl).imp λ σ H Q ⟨Hs0,H0,nf,ρ,Hs,τ,s,τ',r,e,k⟩=>by
 obtain ⟨as,e1,e2⟩:=bind_some e;obtain ⟨ss,e3,e4⟩:=bind_some e2;obtain ⟨⟨s0,ss'⟩,e5,e6⟩:=bind_some e4;refine ⟨Hs0,H0,nf,ρ,Hs,τ,as,r,e1,λ vs Hs1 H1 g1 r1 s1 a1 y dx hy hdx ne=>?_⟩;rw [Zx];split at e6
 ·rename_i m0 r0 q1 q2
  have q1':s0=.shr .non:=q1;have q2':ss'=.mu true m0::r0:=q2;subst q1' q2';obtain ⟨τ0,e7,e8⟩:=Zm e6;cases e8
  let H2:Hp:=upd (upd H1 dx (.own y)) y (.ins C dx [])
  have hy1:upd H1 dx (.own y) y=none:=(ak (Ne.symm ne)).trans hy;have g2:b6 H1 H2:=(aJ hdx _).trans (aJ hy1 _);have r2:=r1.grow g2;obtain ⟨fp,st⟩:=r1.st;have st2:StM X.K H0 Hs1 H2 ρ σ τ fp:=st.ext ⟨.refl _,r1.ext.sh.trans g2,g2,λ _ h _=>h⟩;obtain ⟨fpa,sA,sub,r6⟩:=mQ st2 (a1.ext (.refl _) g2) e3;have yfp:y ∉ fp:=st.new hy;have od:Od X.K Hs1 H2 [y] (.ref y) (.n (.o C) []):=Od.n (ts:=[]) (dx:=dx) (u:=.ins C dx []) aw (.o []) (r1.sm.free hy) (by show ([]:List Key).Nodup; exact .nil) (by simp) (λ c hc=>by cases hc);have sN:StM X.K (off H2 (y::fpa)) Hs1 H2 (hZ (.ref y::vs)) ((V.ref y::vs).map some) (.mu true (.n (.o C) [])::ss) ([y]++fpa):=.mu od (λ _=>⟨y,rfl,rfl⟩) (λ c hc=>vD (by rw [Zt.mp hc]; exact Ze ..)) (λ c hc q=>yfp (sub y (by rw [<- Zt.mp hc]; exact q))) (sA.rebase λ c hc=>vD (Zd _ hc));refine ⟨Hs1,y::fpa,_,_,_,r2.sm,sN,e5,λ v Hs' H' fp2 g s2=>⟨?_,?_⟩⟩
  ·cases s2 with
   | shr h _=>cases h; rfl
  ·cases s2 with
   | shr h sr =>
   cases sr with
   | @mu _ _ _ _ _ _ _ fq fpr od2 hp z j sr =>
   have far:∀ c ∈ fp,c ∉ fpa->Hs' c=none/\H' c=H2 c:=λ c hc hn=>by
    obtain ⟨l1,l2,_⟩:=st2.live c hc;have ho:off H2 (y::fpa) c=H2 c:=iG λ q=>(Zl.mp q).elim (λ q=>yfp (q ▸ hc)) hn
    refine ⟨g.fr c l1 (by rw [ho]; exact l2),?_⟩
    cases q:H2 c with
    | none=>exact absurd q l2
    | some u=>exact g.hh _ _ (ho.trans q)
   have h0y:H0 y=none:=r1.old hy
   have ex:Ext Hs0 H0 Hs' H':=by
    have nf:∀ c,H0 c≠none->c ∉ y::fpa:=λ c h q=>(Zl.mp q).elim (λ q=>h (q ▸ h0y)) λ q=>h (st.live c (sub c q)).2.2
    refine ⟨r1.ext.ss.trans g.ss,g.sh,λ c o e=>?_,λ c h1 h2=>?_⟩
    · exact g.hh _ _ ((iG (nf c (gD e))).trans (r2.ext.hh _ _ e))
    · exact g.fr c (r1.ext.fr c h1 h2) (by rw [iG (nf c h2)]; exact r2.ext.hh.live h2)
   obtain ⟨fp',h1,h2⟩:=r6 Hs' H' r0 fpr _ g.ss far (sr.rebase λ _ _=>rfl) (λ c hc=>by
    rcases jQ (sr.live c hc).2.2 with w | w
    ·rcases Zl.mp w with w | w
     ·subst w
      exact .inr ⟨yfp,h0y⟩
     · exact .inl w
    · exact .inr ⟨st2.new w,r2.old w⟩) e7
   refine k (.ref y) Hs' H' ⟨ex,_,.mu od2 (λ hb=>by cases hb) (λ c hc=>?_) (λ c hc q=>?_) h1⟩
   ·rcases jQ (z c hc) with w | w
    ·rcases Zl.mp w with w | w
     · rw [w]; exact h0y
     · exact (st.live c (sub c w)).2.2
    · exact r2.old w
   ·rcases h2 c q with w | w
    ·rcases jQ (z c hc) with y' | y'
     ·rcases Zl.mp y' with y' | y'
      · exact yfp (y' ▸ w.1)
      · exact w.2 y'
     · exact (st2.live c w.1).2.1 y'
    · exact j c hc w
 · cases e6
end
def sW:Sm->Sm
 | .mu true m=>.mu true m
 | _=>.no
def jr (n m:Nat) (b:DSm) (as:List Sm):Option (Sm×List Sm):=if as.length=m then (match b (as++List.replicate (n - as.length) .no) with
 | some (.ret s τ)=>some (s,(τ.take m).map sW)
 | some (.next τ)=>some (.shr .non,(τ.take m).map sW)
 | _=>none) else none
section
variable {K:W.Frag} {H0 Hs H:Hp}
theorem StM.startM (k:Nat) (h:StM K H0 Hs H ρ σ τ fp):StM K H0 Hs H (ρ++List.replicate k none) (σ++List.replicate k none) (τ++List.replicate k .no) fp:=by
 induction h with
 | nil =>
  induction k with
  | zero=>exact .nil
  | succ k ih=>rw [Xc,Xc,Xc]; exact .no ih
 | no _ ih=>exact .no ih
 | shr h _ ih=>exact .shr h ih
 | mu h hp z j _ ih=>exact .mu h hp z j ih
theorem StM.qr:∀ {vs:List V} {ρ:List (Option Addr)} {σ:List (Option V)} {τ:List Sm} {fp:List Addr},StM K H0 Hs H (hZ vs++ρ) σ τ fp->∃ fp',StM K H0 Hs H (hZ vs) (vs.map some) ((τ.take vs.length).map sW) fp'/\∀ c ∈ fp',c ∈ fp
 | [],ρ,σ,τ,fp,h=>⟨[],.nil,λ c hc=>(nomatch hc)⟩
 | v :: vs,ρ,σ,τ,fp,h=>by
  cases h with
  | no r =>
   obtain ⟨fp',h1,h2⟩:=StM.qr r;exact ⟨fp',.no h1,h2⟩
  | shr _ r =>
   obtain ⟨fp',h1,h2⟩:=StM.qr r;exact ⟨fp',.no h1,h2⟩
  | @mu _ w b m _ _ _ fq fr od hp z j r =>
   obtain ⟨fp',h1,h2⟩:=StM.qr r
   cases b with
   | false=>exact ⟨fp',.no h1,λ c hc=>Zc _ (h2 c hc)⟩
   | true =>
    obtain ⟨a,p1,p2⟩:=hp rfl
    have ev:v=.ref a:=by
     cases v <;> simp [LV] at p1
     rw [p1]
    subst p2;subst ev;exact ⟨fq++fp',.mu od (λ _=>⟨a,rfl,rfl⟩) z (λ c hc q=>j c hc (h2 c q)) h1,λ c hc=>(Zh.mp hc).elim (Zp _) λ q=>Zc _ (h2 c q)⟩
theorem Od.CG (h:Od K Hs H fp v m):∀ c ∈ fp,∀ o u,H c≠some (.frz o u):=by
 induction h with
 | s r=>intro c h; cases h
 | @n a dx t ts u h hl nh ku nd r ih =>
  intro c hc o w;rcases Zl.mp hc with e | e
  ·subst e
   rw [h];generalize ts.map Kd.kv=kvs at hl;cases hl <;> (intro z; cases z)
  ·obtain ⟨k,hk,hb⟩:=Yd.mp e
   exact ih k hk c hb o w
theorem StM.CG (h:StM K H0 Hs H ρ σ τ fp):∀ c ∈ fp,∀ o u,H c≠some (.frz o u):=by
 induction h with
 | nil=>intro c h; cases h
 | no _ ih=>exact ih
 | shr _ _ ih=>exact ih
 | mu h hp z j _ ih=>exact λ c hc=>(Zh.mp hc).elim (h.CG c) (ih c)
variable {P:Program} {w:World} {mg:Str->Option Value} {base:Heap}
theorem Fun.okM {x qual:Str} {st:Stmt} {f:Addr} {fd:FuncData} {N ps:List Str} {k:Nat} {b:DSm} (F:Fun K x qual st f fd) (S:dJ N ps (aK st))
  (hbody:∀ (cdv:Value) (A:Around) (outer:List Env) (s:Shared) (H:Hp) (E:XK),dm k (A.deeper (envOfC qual (aK st) s.heap.objs.size f cdv)) ->
    lQ (zX CX0 P w K mg base N qual (aK st) f cdv A outer s H E).nox (bY st) b):gY P w K mg base CX0 (k+1) f fd ps (spM (jr N.length ps.length b) K):=by
 refine F.ok S (λ vs H Q E h=>?_) (λ cdv A outer s H vs Q E hr h=>?_)
 ·obtain ⟨Hs,fp,as,s,as',sm,r,e,_⟩:=h
  unfold jr at e;split at e
  · rename_i hl
    have:=r.len;rw [Za] at this;rw [this]; exact hl
  · cases e
 obtain ⟨Hs,fp,as,sl,as',sm,r,e,q⟩:=h;refine ⟨_,hbody cdv A outer s H E hr,?_⟩;have lv:vs.length=as.length:=by have:=r.len; rw [Za] at this; exact this
 unfold jr at e;split at e
 ·rename_i hl
  have h0:bI K Hs (off H fp) (hZ vs++List.replicate (N.length - vs.length) none) Hs H (start N vs) (as++List.replicate (N.length - as.length) .no):=⟨⟨.refl _,sm,yU,λ _ h _=>h⟩,fp,by unfold start; rw [lv]; exact r.startM _⟩
  have nf:Nf H (off H fp):=λ d o u e z=>by
    rcases jQ z with q | q
    · exact r.CG d q o u e
    · rw [q] at e; cases e
  cases q2:b (as++List.replicate (N.length - as.length) .no) with
  | none=>rw [q2] at e; cases e
  | some o =>
    rw [q2] at e;refine ⟨Hs,off H fp,nf,_,Hs,_,o,h0,q2,?_⟩
    cases o with
    | next τ =>
     cases e;intro σ Hs' H' r';obtain ⟨fp1,s1⟩:=r'.st;obtain ⟨fp2,s2,_⟩:=s1.qr;rw [lv,hl] at s2;exact q .non Hs' H' fp2 r'.ext (.shr .non s2)
    | ret s τ =>
     cases e;intro v σ Hs' H' r';obtain ⟨fp1,s1⟩:=r'.st
     cases s1 with
     | no s1 =>
      obtain ⟨fp2,s2,_⟩:=s1.qr;rw [lv,hl] at s2;exact q v Hs' H' fp2 r'.ext (.no s2)
     | shr h s1 =>
      obtain ⟨fp2,s2,_⟩:=s1.qr;rw [lv,hl] at s2;exact q v Hs' H' fp2 r'.ext (.shr h s2)
     | mu h hp z j s1 =>
      obtain ⟨fp2,s2,sub⟩:=s1.qr;rw [lv,hl] at s2;exact q v Hs' H' _ r'.ext (.mu h hp z (λ c hc y=>j c hc (sub c y)) s2)
    | brk τ=>cases e
    | cnt τ=>cases e
 · cases e
end
section
variable {K:W.Frag} {Hs0 H0 Hs H Hs' H':Hp} {ρ:List (Option Addr)} {σ:St} {τ:List Sm}
theorem bI.rebase (r:bI K Hs0 H0 ρ Hs H σ τ):bI K Hs H0 ρ Hs H σ τ:=⟨⟨.refl _,r.sm,r.ext.hh,λ _ h _=>h⟩,r.st⟩
theorem bI.iZ (a:Ext Hs0 H0 Hs1 H1) (r:bI K Hs1 H0 ρ Hs H σ τ):bI K Hs0 H0 ρ Hs H σ τ:=⟨a.sub r.ext,r.st⟩
theorem IE.rebase (a:Ext Hs0 H0 Hs1 H1) (h:IE K Hs0 H0 ρ E o):IE K Hs1 H0 ρ E o:=by
 cases o with
 | next τ=>exact λ σ Hs H r=>h σ Hs H (r.iZ a)
 | brk τ=>exact λ σ Hs H r=>h σ Hs H (r.iZ a)
 | cnt τ=>exact λ σ Hs H r=>h σ Hs H (r.iZ a)
 | ret s τ=>exact λ v σ Hs H r=>h v σ Hs H (r.iZ a)
theorem bI.ux (r:bI K Hs0 H0 ρ Hs H σ τ) (h:Rp K Hs v d):bI K Hs0 H0 ρ Hs H (σ.set i (some v)) (τ.set i (.shr d)):=⟨r.ext,by
 obtain ⟨fp,st⟩:=r.st;obtain ⟨fp',h1,_⟩:=st.ux (i:=i) h
 exact ⟨fp',h1⟩⟩
theorem bI.hold (r:bI K Hs0 H0 ρ Hs H σ τ) (hp:H p=none):bI K Hs0 (upd H0 p u) ρ Hs (upd H p u) σ τ:=by
 obtain ⟨fp,st⟩:=r.st;refine ⟨⟨r.ext.ss,r.sm.trans (aJ hp u),λ b o e=>?_,λ b h1 h2=>?_⟩,fp,?_⟩
 ·by_cases z:b=p
  · subst z; rw [aw] at e ⊢; exact e
  · rw [ak z] at e ⊢; exact r.ext.hh b o e
 ·by_cases z:b=p
  · subst z; exact r.sm.free hp
  · rw [ak z] at h2; exact r.ext.fr b h1 h2
 ·refine (st.rebase λ c hc=>?_).ext ⟨.refl _,r.sm.trans (aJ hp u),aJ hp u,λ _ h _=>h⟩
  rw [ak (show c≠p from λ z=>(st.live c hc).2.1 (by rw [z]; exact hp))];exact (st.live c hc).2.2
theorem bI.Ej (r:bI K Hs0 (upd H0 p u) ρ Hs H σ τ) (h0:H0 p=none) (hs:Hs0 p=none):Ext Hs0 H0 Hs H/\Hs p=none/\H p=some u/\∃ fp,p ∉ fp/\StM K H0 Hs H ρ σ τ fp:=by
 obtain ⟨fp,st⟩:=r.st;have np:p ∉ fp:=λ q=>by have:=(st.live p q).2.2; rw [aw] at this; cases this
 refine ⟨⟨r.ext.ss,r.sm,λ b o e=>?_,λ b h1 h2=>?_⟩,r.ext.fr p hs (by rw [aw]; simp),r.ext.hh _ _ aw,fp,np,st.rebase λ c hc=>?_⟩
 · exact r.ext.hh b o (by rw [ak (show b≠p from λ z=>by rw [z,h0] at e; cases e)]; exact e)
 · exact r.ext.fr b h1 (by rw [ak (show b≠p from λ z=>h2 (by rw [z]; exact h0))]; exact h2)
 ·have:=(st.live c hc).2.2
  rw [ak (show c≠p from λ z=>np (by rw [<- z]; exact hc))] at this;exact this
end
def eD0:DEm:=λ τ=>some (.mu false (.n .d []),τ)
def eD1 (kc:Key) (fv:DEm):DEm:=λ τ=>(fv τ).bind λ x=>(toM x.1).map λ mv=>(.mu false (.n .d [(kc,mv)]),x.2)
def eF (g:DE):DEm:=λ τ=>(g (bf τ)).bind λ d=>match d with
 | .lst ds=>if ds.all sca=true then some (.shr (.lst ds),τ) else none
 | _=>none
section
variable {X:Cx} {a b c e o:Expr} {es:List Expr} {pos apos cpos pos' p:Pos} {x m:Str}
theorem Jh:PVm X (.Dict [] [] pos) eD0:=yK.imp λ σ H Q ⟨Hs0,H0,nf,ρ,Hs,τ,s,τ',r,e,k⟩=>by
 cases e;intro p hp;exact k (.ref p) Hs _ (aJ hp _) (r.BB (aJ hp _) (fq:=[p]) (Od.n (ts:=[]) (dx:=0) (u:=.dK []) aw (.d []) (r.sm.free hp) (by show ([]:List Key).Nodup; exact .nil) (by simp) (λ c hc=>by cases hc)) λ c hc=>by rw [Zt.mp hc]; exact hp)
theorem Nw (h:PEo X e g):PVm X e (eF g):=PE.imp h λ σ H Q ⟨Hs0,H0,nf,ρ,Hs,τ,s,τ',r,e,k⟩=>by
 obtain ⟨d,e1,e2⟩:=bind_some e;split at e2
 ·split at e2
  ·rename_i hs
   cases e2;obtain ⟨fp,st⟩:=r.st;refine ⟨H,H,bf τ,[],_,st.bf r.sm,.refl H,e1,λ a Hs' H' g1 ow hn=>?_⟩
   cases ow with
   | @lst xs ds h n rr =>
    have ha:Hs a=none:=r.sm.free hn
    have ex:Ext Hs H (upd Hs a (.lst xs)) H':=by
     refine ⟨aJ ha _,λ b u q=>?_,g1.hh,λ b h1 h2=>?_⟩
     ·by_cases z:b=a
      · subst z; rw [aw] at q; cases q; exact h
      · rw [ak z] at q; exact g1.hh _ _ (r.sm _ _ q)
     · rw [ak (show b≠a from λ z=>h2 (by rw [z]; exact hn))]; exact h1
    exact k _ _ H' g1.hh ((r.ext' ex).push (.lst aw (iE rr hs)))
  · cases e2
 · cases e2
theorem Jg (hk:PE X kx (tC (kV kc))) (hv:PVm X value fv):PVm X (.Dict [some kx] [value] pos) (eD1 kc fv) :=
 (@vt X pos [some kx] [value] _ (@qP _ _ _ _ _ _ _ _ _ hk hv vh) rfl rfl (by simp) (by simp)).imp λ σ H Q ⟨Hs0,H0,nf,ρ,Hs,τ,s,τ',r,e,k⟩=>by
   obtain ⟨⟨s1,τ1⟩,e1,e2⟩:=bind_some e;obtain ⟨mv,e3,e4⟩:=Zm e2;cases e4;intro p hp;refine ⟨Hs0,upd H0 p (.dK []),nf.upd,ρ,Hs,τ,s1,τ1,r.hold hp,e1,λ v Hs2 H2 g2 r2=>?_⟩;obtain ⟨ex,hsp,hpp,fp,np,st⟩:=r2.Ej (r.old hp) (r.ext.ss.free (r.sm.free hp));refine ⟨hpp,[(kc,v)],rfl,Zb rfl,?_⟩
   have sm0:b6 H (upd H2 p (.dK [(kc,v)])):=λ b o q=>by
    have nb:b≠p:=λ z=>by rw [z,hp] at q; cases q
    rw [ak nb];exact g2 _ _ (by rw [ak nb]; exact q)
   have ex':Ext Hs0 H0 Hs2 (upd H2 p (.dK [(kc,v)])):=by
    refine ⟨ex.ss,λ b o q=>?_,λ b o q=>?_,ex.fr⟩
    · rw [ak (show b≠p from λ z=>by rw [z,hsp] at q; cases q)]; exact ex.sh b o q
    · rw [ak (show b≠p from λ z=>by rw [z,r.old hp] at q; cases q)]; exact ex.hh b o q
   have fin:∀ {fq fr:List Addr},Od X.K Hs2 H2 fq v mv->p ∉ fq->p ∉ fr->(∀ c ∈ fq,H0 c=none)->(∀ c ∈ fq,c ∉ fr)->StM X.K H0 Hs2 H2 ρ σ τ1 fr->Q (.ref p) (upd H2 p (.dK [(kc,v)])):=λ {fq fr} od n1 n2 z j sr=>by
    refine k (.ref p) Hs2 _ sm0 ⟨ex',(p::fq)++fr,.mu (fq:=p::fq) ?_ (λ e=>by cases e) (λ c hc=>?_) (λ c hc=>?_) (sr.mv (.refl _) λ c hc=>⟨(sr.live c hc).1,ak (show c≠p from λ q=>n2 (by rw [<- q]; exact hc))⟩)⟩
    ·have:=Od.n (K:=X.K) (Hs:=Hs2) (H:=upd H2 p (.dK [(kc,v)])) (a:=p) (dx:=0) (t:=.d) (ts:=[⟨kc,v,mv,fq⟩]) (u:=.dK [(kc,v)]) aw (.d _) hsp (by show [kc].Nodup; simp) (by
      rw [Z5,List.flatMap_nil,Zx]
      exact Zw.mpr ⟨n1,od.nd⟩) (λ c hc=>by
      rw [Zt.mp hc]
      exact od.mv (.refl _) λ x hx=>⟨(od.live x hx).1,ak (show x≠p from λ q=>n1 (by rw [<- q]; exact hx))⟩)
     rw [Z5,List.flatMap_nil,Zx] at this;exact this
    ·rcases Zl.mp hc with q | q
     · rw [q]; exact r.old hp
     · exact z c q
    ·rcases Zl.mp hc with q | q
     · rw [q]; exact n2
     · exact j c q
   cases st with
   | no st=>cases e3
   | shr h st=>cases e3; exact fin (.s h) (by simp) np (λ c hc=>by cases hc) (λ c hc=>by cases hc) st
   | @mu _ _ b _ _ _ _ fq fr od hpn z j st =>
    cases b with
    | true=>cases e3
    | false=>cases e3; exact fin od (λ q=>np (Zp _ q)) (λ q=>np (Zc _ q)) z j st
end
abbrev DGm:=D->List Sm->Option (List Sm)
def Nb (N:Hp) (K:W.Frag) (g:DGm):TG:=λ v σ H Q=>∃ (Hs0 H0:Hp),∃ (_:Nf N H0),∃ ρ Hs τ τ' d,bI K Hs0 H0 ρ Hs H σ τ/\Rp K Hs v d/\g d τ=some τ'/\∀ σ',bI K Hs0 H0 ρ Hs H σ' τ'->Q σ' H
def PGm (X:Cx) (tg:Expr) (g:DGm):Prop:=PG X tg (Nb X.H₀ X.K g)
def gNm (i:Nat):DGm:=λ d τ=>some (τ.set i (.shr d))
def forM (b:D->DSm):List D->DSm
 | [],τ=>some (.next τ)
 | d::ds,τ=>match b d τ with
  | some (.next τ')=>forM b ds τ'
  | some (.cnt τ')=>forM b ds τ'
  | some (.brk τ')=>some (.next τ')
  | r=>r
def jK (it:DI) (g:DGm) (b:DSm):DSm:=λ τ=>(it (er τ)).bind λ ds=>forM (λ d τ=>(g d τ).bind b) ds τ
section
variable {X:Cx} {a b c e o tg iter:Expr} {es:List Expr} {body:List Stmt} {pos apos cpos pos' p:Pos} {x m:Str}
theorem yE (hN:X.N.Nodup) (hi:X.N[i]?=some x) (hx:Loc X.env.scope x) (hf:X.fn x=true\/X.env.scope.names.lookup x=some .local:=by first | exact .inl rfl | exact .inr rfl | assumption):PGm X (.Name x pos) (gNm i) :=
 (jN hN hi hx hf).imp λ v σ H Q ⟨Hs0,H0,nf,ρ,Hs,τ,τ',d,r,rv,e,k⟩=>by
   cases e;exact k _ (r.ux rv)
theorem BM {it:DI} {g:DGm} {b:DSm} (hp:PassesOwn (model X.prog X.w) X.A X.env X.xe) (hc:X.calm=true) (hi:PId X tg iter it) (hg:PGm X tg g) (hb:lQ X body b) (hs:∀ x,foldedSetIterable iter X.env x=pure x:=by intro _; rfl) :
  PSm X (.For tg iter body [] pos) (jK it g b):=(vg hp hc hi hg hb hs).imp λ E σ H ⟨Hs0,H0,nf,ρ,Hs,τ,o,r,e,k⟩=>by
 obtain ⟨ds,e1,e2⟩:=bind_some e;obtain ⟨fp,hst⟩:=r.st;refine ⟨H0,Hs,er τ,[],ds,hst.er,r.sm,e1,λ J Hs1 H1 g1 hJ=>?_⟩;have r1:=r.ext' g1;have kk:=k.rebase r1.ext;refine ⟨λ i m σ H=>m=ds.length - i/\i<=ds.length/\∃ Hs2 τ2,bI X.K Hs1 H0 ρ Hs2 H σ τ2/\forM (λ d τ=>(g d τ).bind b) (ds.drop i) τ2=some o,⟨ds.length,by simp,Z7 _,Hs1,τ,r1.rebase,by simpa using e2⟩,?_⟩
 rintro i m σ2 H2 ⟨rfl,hi,Hs2,τ2,r2,e3⟩
 obtain ⟨hgo,hstop⟩:=hJ Hs2 H2 r2.ext.ss r2.sm
 by_cases hlt:i < ds.length
 ·have ed:ds.drop i=ds[i]::ds.drop (i+1):=Ys hlt
  rw [ed] at e3;obtain ⟨go,yl⟩:=hgo i ds[i] (List.getElem?_eq_getElem hlt);refine .inr ⟨go,λ σ' H'=>∃ Hs' τ',bI X.K Hs1 H0 ρ Hs' H' σ' τ'/\forM (λ d τ=>(g d τ).bind b) (ds.drop (i+1)) τ'=some o,?_,?_⟩
  ·rintro σ' H' ⟨Hs',τ',r',e'⟩
   exact ⟨ds.length - (i+1),by omega,rfl,hlt,Hs',τ',r',e'⟩
  ·intro x H' y
   obtain ⟨Hs3,g3,rx⟩:=yl x H' y;have r3:=r2.ext' g3;unfold forM at e3
   cases q:(g ds[i] τ2).bind b with
   | none=>simp only [q] at e3; cases e3
   | some o1 =>
    simp only [q] at e3;obtain ⟨τ3,q1,q2⟩:=bind_some q;refine ⟨Hs1,H0,nf,ρ,Hs3,τ2,τ3,ds[i],r3,rx,q1,λ σ' r'=>?_⟩;refine ⟨Hs1,H0,nf,ρ,Hs3,τ3,o1,r',q2,?_⟩
    cases o1 with
    | next τ'=>exact λ σ4 Hs4 H4 r4=>⟨Hs4,τ',r4,e3⟩
    | cnt τ'=>exact λ σ4 Hs4 H4 r4=>⟨Hs4,τ',r4,e3⟩
    | brk τ'=>cases e3; exact kk
    | ret s τ'=>cases e3; exact kk
 ·have e0:i=ds.length:=by omega
  subst e0;rw [Xs] at e3;have e':tT.next τ2=o:=by simpa [forM] using e3
  subst e';exact .inl ⟨hstop _ (Zn _),kk σ2 Hs2 H2 r2⟩
end
def zR (i:Nat):DT:=λ τ=>match τ[i]? with
 | some (.own (.lst ds))=>some (!ds.isEmpty)
 | _=>none
def pF (i j:Nat):DS:=λ τ=>match τ[j]? with
 | some (.own (.lst ds))=>(ds[ds.length - 1]?).map λ d=>.next ((τ.set j (.own (.lst ds.dropLast))).set i (.shr d))
 | _=>none
theorem Rps.dropLast {K:W.Frag} {H:Hp} {xs:List V} {ds:List D} (r:Rps K H xs ds):Rps K H xs.dropLast ds.dropLast:=by
 rw [List.dropLast_eq_take,List.dropLast_eq_take,r.length];exact r.take _
theorem Rps.emp {K:W.Frag} {H:Hp} {xs:List V} {ds:List D} (r:Rps K H xs ds):xs.isEmpty=ds.isEmpty:=by cases r <;> rfl
section
variable {X:Cx} {a b c e o tg iter:Expr} {es:List Expr} {body:List Stmt} {pos apos cpos pos' p:Pos} {x y:Str}
theorem yi (i:Nat) (hN:X.N[i]?=some x:=by rfl) (hv:Vis X.env.scope x:=by first | exact Or.inl rfl | exact Or.inr (Or.inl rfl) | exact Or.inr (Or.inr rfl)) (hd:(x == ("__debug__":Str))=false:=by decide) (hcd:(x == ("__classdict__":Str))=false:=by decide):PTd X (.Name x p) (zR i) :=
 (yj (gu hN hv hd hcd) (λ _=>rfl)).imp λ σ H Q ⟨H0,Hs,τ,fp,d,st,sm,e,k⟩=>by
   unfold zR at e;split at e
   ·rename_i ds q
    cases e;obtain ⟨a,h1,h2,_⟩:=st.Ea q
    cases h2 with
    | lst h n r=>exact ⟨_,h1,_,.inl ⟨_,SqL.of h,by rw [r.emp]⟩,k Hs H (.refl sm)⟩
   · cases e
theorem yx (i j:Nat) (hN:X.N.Nodup) (hi:X.N[i]?=some x) (hx:Loc X.env.scope x) (hj:X.N[j]?=some y) (hv:Vis X.env.scope y)
   (hd:(y == ("__debug__":Str))=false:=by decide) (hcd:(y == ("__classdict__":Str))=false:=by decide)
   (hbase:attributeBase (.Name y py) "pop" X.env (eval (.Name y py) X.env)=eval (.Name y py) X.env:=by rfl) (hline:(apos.endLine == cpos.line)=true:=by rfl)
   (hs:swapsWith (.Call (.Attribute (.Name y py) "pop" apos) [] [] cpos) (some (.Name x pos')) pos.line X.env=pure false:=by rfl) (hf:X.fn x=true\/X.env.scope.names.lookup x=some .local:=by first | exact .inl rfl | exact .inr rfl | assumption) :
   PSd X (.Assign [.Name x pos'] (.Call (.Attribute (.Name y py) "pop" apos) [] [] cpos) pos) (pF i j) :=
 (qM hN hi hx (Aw Z9 PySem.F.slot_list_pop PySem.F.type_list_pop AD (gu hj hv hd hcd) hbase hline) hs hf).imp λ E σ H ⟨Hs0,H0,Hs,τ,o,r,e,k⟩=>by
   unfold pF at e;split at e
   ·rename_i ds q
    obtain ⟨d,e1,rfl⟩:=Zm e;obtain ⟨fp,st⟩:=r.st;obtain ⟨a,h1,h2,h3,h4⟩:=st.Ea q
    cases h2 with
    | @lst xs _ hH hn hr =>
     obtain ⟨v,hv1,hv2⟩:=hr.get e1;rw [<- hr.length] at hv1;refine ⟨_,h1,.inl ⟨rfl,_,SqL.of hH⟩,a,xs,v,rfl,rfl,hH,hv1,?_⟩;have s1:=st.mut q h1 (o:=.lst xs.dropLast) (d':=.lst ds.dropLast) (.lst aw hn hr.dropLast);obtain ⟨fp',_,s2⟩:=s1.ux (i:=i) hv2;refine k _ Hs _ ⟨⟨r.ext.ss,λ b u z=>?_,λ b u z=>?_,r.ext.fr⟩,fp',s2⟩
     · rw [ak (show b≠a from λ w=>by rw [w,hn] at z; cases z)]; exact r.ext.sh b u z
     · rw [ak (show b≠a from λ w=>by rw [w,h3] at z; cases z)]; exact r.ext.hh b u z
   · cases e
end
theorem Od.M6 {K:W.Frag} {Hs H:Hp} {fp:List Addr} {v:V} {d:D} (h:Od K Hs H fp v (.s d)):Rp K Hs v d:=by
 cases h with
 | s r=>exact r
section
variable {K:W.Frag} {Hs0 H0 Hs H:Hp} {ρ:List (Option Addr)} {σ:St} {τ:List Sm}
theorem bI.forget (i:Nat) (v:Option V) (r:bI K Hs0 H0 ρ Hs H σ τ):bI K Hs0 H0 ρ Hs H (σ.set i v) (τ.set i .no):=by
 obtain ⟨fp,st⟩:=r.st;refine ⟨r.ext,?_⟩
 have:∀ {i ρ σ τ fp},StM K H0 Hs H ρ σ τ fp->∃ fp',StM K H0 Hs H ρ (σ.set i v) (τ.set i .no) fp'/\∀ c ∈ fp',c ∈ fp:=λ {i ρ σ τ fp} h=>by
  induction h generalizing i with
  | nil=>exact ⟨[],.nil,λ _ h=>h⟩
  | no r ih =>
   cases i with
   | zero=>exact ⟨_,.no r,λ _ h=>h⟩
   | succ i=>obtain ⟨fp',h1,h2⟩:=ih (i:=i); exact ⟨fp',.no h1,h2⟩
  | shr h r ih =>
   cases i with
   | zero=>exact ⟨_,.no r,λ _ h=>h⟩
   | succ i=>obtain ⟨fp',h1,h2⟩:=ih (i:=i); exact ⟨fp',.shr h h1,h2⟩
  | mu h hp z j r ih =>
   cases i with
   | zero=>exact ⟨_,.no r,λ _ h=>Zc _ h⟩
   | succ i =>
    obtain ⟨fp',h1,h2⟩:=ih (i:=i);exact ⟨_,.mu h hp z (λ c hc q=>j c hc (h2 c q)) h1,λ c hc=>(Zh.mp hc).elim (Zp _) λ q=>Zc _ (h2 c q)⟩
 obtain ⟨fp',h,_⟩:=this (i:=i) st;exact ⟨fp',h⟩
end
def kD:Key->D
 | .inl i=>.int i
 | .inr x=>.str x
theorem Dn {K:W.Frag} {H:Hp} (k:Key):Rp K H (kV k) (kD k):=by
 cases k with
 | inl i=>exact .int i
 | inr x=>exact .str x
def uJ (j i:Nat) (c:DT) (g:DE) (cs:List (Str×Nat)):DSm:=λ τ=>match τ[i]? with
 | some (.mu _ (.n .d ks))=>if ks.length<=100000/\j < τ.length then (pW (λ d=>c (.shr d::cV (bf (τ.set i .no)) cs)) (λ d=>g (.shr d::cV (bf (τ.set i .no)) cs)) (ks.map λ p=>kD p.1)).bind λ es=>if es.all sca=true then some (.next (τ.set j (.shr (.lst es)))) else none else none
 | _=>none
section
variable {X:Cx} {pos:Pos}
theorem vc (hN:X.N.Nodup) (hy:X.N[j]?=some y) (hx:Loc X.env.scope y)
   (hz:X.N[i]?=some z) (hv:Vis X.env.scope z) (hc:X.calm=true) (O:cM X scope cl x cs)
   (hcd:∀ s H fp C,PTd (bJ X scope cl (x::cs.map (·.1)) s H fp C) cnd c) (he:∀ s H fp C,PEd (bJ X scope cl (x::cs.map (·.1)) s H fp C) elt g)
   (hd:(z == ("__debug__":Str))=false:=by decide) (hcl:(z == ("__classdict__":Str))=false:=by decide) (hs:∀ x,foldedSetIterable (.Name z pz) X.env x=pure x:=by intro _; rfl)
   (hsw:swapsWith (.ListComp elt [⟨.Name x px,.Name z pz,[cnd],0⟩] scope pos) (some (.Name y py)) spos.line X.env=pure true:=by rfl)
   (hf:X.fn y=true\/X.env.scope.names.lookup y=some .local:=by first | exact .inl rfl | exact .inr rfl | assumption) :
   PSm X (.Assign [.Name y py] (.ListComp elt [⟨.Name x px,.Name z pz,[cnd],0⟩] scope pos) spos) (uJ j i c g cs) :=
 (vf (qL (te:=rdE X.K g) (tt:=rdT X.K c) hN hy hx hc O (vp (gu hz hv hd hcl)) hcd he hs hsw hf)).imp λ E σ H ⟨Hs0,H0,nf,ρ,Hs,τ,o,r,e,k⟩=>by
   unfold uJ at e;split at e
   ·rename_i b0 ks ei
    split at e
    ·rename_i hl
     obtain ⟨hl,hj⟩:=hl;obtain ⟨full,e3,e4⟩:=bind_some e;split at e4
     ·rename_i hsc
      cases e4;obtain ⟨fp,st⟩:=r.st;obtain ⟨v,fq,fpr,o1,o2,o3,o4,o5⟩:=st.out ei;obtain ⟨d,dx,ts,u,rfl,rfl,rfl,hdH,hlay,hnd,ku,ndp,rr⟩:=o2.inv;rw [zp hlay] at hdH;have d0:H0 d=none:=(st.live d (o4 d (Ze ..)).2).2.2;refine ⟨_,o1,d,ts.map Kd.kv,rfl,hdH,λ ob=>?_⟩;have dnf:d ∉ fpr:=(o4 d (Ze ..)).1;have s1:StM X.K H0 Hs (upd H d (.frz ob (.dK (ts.map Kd.kv)))) ρ σ (τ.set i .no) fpr:=o3.mv (.refl _) λ c hc=>⟨(o3.live c hc).1,ak (show c≠d from λ q=>dnf (by rw [<- q]; exact hc))⟩
      have sm1:b6 Hs (upd H d (.frz ob (.dK (ts.map Kd.kv)))):=λ c w q=>by
       rw [ak (show c≠d from λ y=>by rw [y,hnd] at q; cases q)]; exact r.sm c w q
      have snp:=s1.bf sm1;generalize hH1:upd H d (.frz ob (.dK (ts.map Kd.kv)))=H1 at snp;have h1d:H1 d=some (.frz ob (.dK (ts.map Kd.kv))):=by rw [<- hH1]; exact aw
      let ds:List D:=(ts.map Kd.km).map λ p=>kD p.1
      have ld:ds.length=(ts.map Kd.kv).length:=by simp [ds]
      rw [Za] at hl;have ld2:ds.length=ts.length:=by simp [ds]
      refine ⟨λ n m ys H'=>m=ds.length - n/\n<=ds.length/\b6 H1 H'/\∃ es rest,Rps X.K DB ys es/\es.length<=n/\pW (λ d=>c (.shr d::cV (bf (τ.set i .no)) cs)) (λ d=>g (.shr d::cV (bf (τ.set i .no)) cs)) (ds.drop n)=some rest/\es++rest=full,⟨ds.length,by simp,Z7 _,   .refl _,[],full,.nil,Zn _,by rw [List.drop_zero]; exact e3,rfl⟩,?_⟩
      rintro n m ys H2 ⟨rfl,hn,g2,es,rest,ry,ley,e5,e6⟩
      have ly:ys.length<=n:=by rw [ry.length]; exact ley
      have h2d:=g2 _ _ h1d
      by_cases hlt:n < ds.length
      ·have ed:ds.drop n=ds[n]::ds.drop (n+1):=Ys hlt
       rw [ed] at e5;obtain ⟨b,q0,q0'⟩:=bind_some e5;refine .inr ⟨⟨h2d,by rw [<- ld]; exact hlt⟩,le5 (by omega),?_⟩
       rintro w H3 ⟨rfl,kk,ww,hk,rfl⟩
       have ekk:ds[n]=kD kk:=by
        have h1:ds[n]?=some (kD kk):=by
         simp only [ds];rw [List.getElem?_map,List.getElem?_map];rw [List.getElem?_map] at hk;obtain ⟨t,ht,et⟩:=Zm hk;rw [ht];have:t.k=kk:=(Prod.mk.inj et).1;show some (kD t.k)=_;rw [this]
        rw [List.getElem?_eq_getElem hlt] at h1;exact Zj h1
       have snp2:StR X.K H3 H3 H3 σ (bf (τ.set i .no)) []:=by
        have s2:=s1;rw [hH1] at s2;exact (s2.ext ⟨.refl _,(hH1 ▸ sm1).trans g2,g2,λ _ h _=>h⟩).bf ((hH1 ▸ sm1).trans g2)
       refine ⟨H3,H3,.shr ds[n]::cV (bf (τ.set i .no)) cs,[],b,.shr (by rw [ekk]; exact Dn kk) (iB snp2 cs),.refl _,q0,λ Hs4 H4 g4=>?_⟩
       cases b with
       | true =>
        refine Iw ?_
        obtain ⟨x,q1,q2⟩:=bind_some (show (g (.shr ds[n]::cV (bf (τ.set i .no)) cs)).bind _=some rest from q0');obtain ⟨xs,q3,q4⟩:=bind_some q2;have eq:x::xs=rest:=Zj q4;subst eq
        have snp4:StR X.K H4 H4 H4 σ (bf (τ.set i .no)) []:=by
         have s2:=s1;rw [hH1] at s2;exact (s2.ext ⟨.refl _,((hH1 ▸ sm1).trans g2).trans g4.hh,g2.trans g4.hh,λ _ h _=>h⟩).bf (((hH1 ▸ sm1).trans g2).trans g4.hh)
        refine ⟨H4,H4,.shr ds[n]::cV (bf (τ.set i .no)) cs,[],x,.shr (by rw [ekk]; exact Dn kk) (iB snp4 cs),.refl _,q1,λ v5 Hs5 H5 g5 r5=>?_⟩
        have sx:sca x=true:=by
         refine Yu.mp hsc x ?_
         rw [<- e6];simp
        exact ⟨ds.length - (n+1),by omega,rfl,hlt,(g2.trans g4.hh).trans g5.hh,es++[x],xs,ry.append (.cons (uz r5 sx) .nil),by simp; omega,q3,by rw [<- e6]; simp⟩
       | false =>
        refine Gn ?_
        exact ⟨ds.length - (n+1),by omega,rfl,hlt,g2.trans g4.hh,es,rest,ry,by omega,q0',e6⟩
      ·have e0:n=ds.length:=by omega
       subst e0;rw [Xs] at e5;have er:[]=rest:=Zj e5;subst er;rw [Zx] at e6;subst e6;refine .inl ⟨⟨h2d,by rw [<- ld]; exact Zn _⟩,sU (by omega),λ p hp=>?_⟩;have pd:p≠d:=λ q=>by rw [q,h2d] at hp; cases hp
       refine ⟨d,ob,ts.map Kd.kv,by rw [ak (Ne.symm pd)]; exact h2d,λ o' u' q=>nf d o' u' q d0,?_⟩
       let Hf:Hp:=upd (upd H2 p (.lst ys)) d (.dK (ts.map Kd.kv))
       have hpH:H p=none:=by
        have:H1 p=none:=g2.free hp;rw [<- hH1,ak pd] at this;exact this
       have smf:b6 H Hf:=λ c w q=>by
        by_cases cd:c=d
        ·subst cd
         rw [hdH] at q;cases q;exact aw
        ·have c1:H1 c=some w:=by rw [<- hH1,ak cd]; exact q
         have cp:c≠p:=λ y=>by rw [y,hpH] at q; cases q
         show upd (upd H2 p (.lst ys)) d _ c=_;rw [ak cd,ak cp];exact g2 _ _ c1
       have hfp:Hf p=some (.lst ys):=by
        show upd (upd H2 p (.lst ys)) d _ p=_;rw [ak pd,aw]
       have hsp:Hs p=none:=r.sm.free hpH
       have ex:Ext Hs H (upd Hs p (.lst ys)) Hf:=by
        refine ⟨aJ hsp _,λ c w q=>?_,smf,λ c h1 h2=>?_⟩
        ·by_cases z:c=p
         · subst z; rw [aw] at q; cases q; exact hfp
         · rw [ak z] at q; exact smf _ _ (r.sm _ _ q)
        · rw [ak (show c≠p from λ z=>h2 (by rw [z]; exact hpH))]; exact h1
       exact k _ _ Hf ((r.ext' ex).ux (.lst aw (iE ry hsc)))
     · cases e4
    · cases e
   · cases e
end
section
variable {X:Cx} {a b c e o tg iter:Expr} {es:List Expr} {pos apos cpos pos' ipos rpos:Pos} {x:Str}
theorem BO (ho:PXm X o px) (he:PEd X e g)
   (hbase:attributeBase o "extend" X.env (eval o X.env)=eval o X.env:=by rfl)
   (hfew:((backTo cpos (starEach [e] X.env)).all (λ x=>!x.1)&&(backToKw cpos (keywordEach [] X.env)).all (λ x=>x.1.isSome)
     && decide ([e].length+([]:List Keyword).length+(if ([]:List Keyword).isEmpty then 0 else 1) < 30))=true:=by rfl)
   (hline:(apos.endLine == cpos.line)=true:=by rfl) (hst:starEach [e] X.env=(false,eval e X.env)::starEach [] X.env:=by rfl) (hplain:(backTo cpos (starEach [] X.env)).any (·.1)=false:=by rfl)
   (hs:swapsWith (.Call (.Attribute o "extend" apos) [e] [] cpos) none pos.line X.env=pure false:=by rfl) :
   PSm X (.Expr (.Call (.Attribute o "extend" apos) [e] [] cpos) pos) (sv px g) :=
 (dq (mG Z9 PySem.F.slot_list_extend PySem.F.type_list_extend nZ ho (b7 he dr hst) hbase hfew hline hst hplain) hs).imp λ E σ H ⟨Hs0,H0,nf,ρ,Hs,τ,o,r,e,k⟩=>by
   obtain ⟨⟨i,q⟩,e1,e9⟩:=bind_some e;obtain ⟨d,e2,e8⟩:=bind_some e9;clear e e9;split at e8
   · rename_i ds cs en
     split at e8
     ·rename_i hz
      obtain ⟨hsc,hz⟩:=hz;cases e8;refine ⟨Hs0,H0,nf,ρ,Hs,τ,i,q,_,r,e1,en,λ rt v1 H1 g1 hrt hq=>⟨(r.grow g1).isList en hrt hq,?_⟩⟩;have r1:=r.grow g1;obtain ⟨fp,st⟩:=r1.st;refine ⟨H1,H1,bf τ,[],_,st.bf r1.sm,.refl H1,e2,λ y Hs2 H2 g2 ry=>?_⟩
      cases ry with
      | @lst b zs _ hb rz =>
      have r2:=r1.grow g2.hh;obtain ⟨a,dx,ts,u,rfl,rfl,ha,hl,ku,hrp,fin⟩:=r2.pQ en hrt (b5 g2.hh q hq);rw [mR hl] at ha;rw [Za] at hz;refine ⟨a,b,_,zs,rfl,rfl,ha,g2.sh _ _ hb,by rw [Za,rz.length]; exact sU (Yo hz),?_⟩;obtain ⟨ks,k1,k2,k3,k4⟩:=Gd (K:=X.K) (Hs:=Hs) (iE rz hsc);have kv1:ks.map Kd.v=zs:=by rw [<- k1,Zv]; rfl
      have kf:∀ c ∈ ks,c.fp=[]:=λ c hc=>by
       have:=List.flatMap_eq_nil_iff.mp k3 c hc;exact this
      have:=fin ts ks (.lst (ts.map Kd.v++zs)) (.refl _) (λ c hc=>⟨kf c hc,by have:=k4 H2 c hc; rw [kf c hc] at this; exact this⟩) (by
       have:=lY (dx:=dx) (ts:=ts++ks);rw [Zi (f:=Kd.v),kv1] at this
       exact this) trivial
      rw [Zi,k2] at this;exact k σ Hs _ this
     · cases e8
   · cases e8
end
end L2
end
section
namespace L2
open PySem
section
variable {τ τ' τ1:List Sm} {f g:DSm} {s:Sm} {o:tT} {b:Bool} {d:D} {i j:Nat} {q:List Stp} {m m2 mv:Mt} {cs:List (Key×Mt)} {k:Key}
theorem aH (h:f τ=some (.next τ')) (h2:g τ'=some o):cY f g τ=some o:=by unfold cY; rw [h]; exact h2
theorem cw {f:DEm} (h:f τ=some (s,τ')) (hi:i < τ'.length) (hs:(toM s).isSome=true):jq i f τ=some (.next (τ'.set i s)):=by unfold jq; rw [h]; exact if_pos ⟨hi,hs⟩
theorem gy {f:DEm} (h:f τ=some (s,τ')):dR f τ=some (.next τ'):=by unfold dR; rw [h]; rfl
theorem dw {g:DE} (h:g (bf τ)=some d):qE g τ=some (.next τ):=by unfold qE; rw [h]; rfl
theorem j5 (h:t τ=some (true,τ')) (h2:f τ'=some o):nJ t f g τ=some o:=by unfold nJ; rw [h]; show (if true=true then f τ' else g τ')=_; rw [if_pos rfl]; exact h2
theorem d4 (h:t τ=some (false,τ')) (h2:g τ'=some o):nJ t f g τ=some o:=by unfold nJ; rw [h]; show (if false=true then f τ' else g τ')=_; rw [if_neg (by simp)]; exact h2
theorem mP {f:DEm} (h:f τ=some (s,τ')):nI f τ=some (.ret s τ'):=by unfold nI; rw [h]; rfl
theorem v_S {g:DE} (h:g (bf τ)=some d) (hs:sca d=true):eS g τ=some (.shr d,τ):=by unfold eS; rw [h]; exact if_pos hs
theorem v_N {g:DE} (h:g (er τ)=some d):eN g τ=some (.shr d,τ):=by unfold eN; rw [h]; rfl
theorem v_O {g:DE} {ds:List D} (h:g (bf τ)=some (.lst ds)) (hs:ds.all sca=true):eO g τ=some (.mu false (lM ds),τ):=by unfold eO; rw [h]; exact if_pos hs
theorem v_F {g:DE} {ds:List D} (h:g (bf τ)=some (.lst ds)) (hs:ds.all sca=true):eF g τ=some (.shr (.lst ds),τ):=by unfold eF; rw [h]; exact if_pos hs
theorem v_V (h:τ[i]?=some (.mu false m)):eV i τ=some (.mu false m,τ.set i .no):=by unfold eV; rw [h]
theorem LJ {f:DEm} (h:f τ=some (s,τ')) (hs:toM s=some mv):eD1 k f τ=some (.mu false (.n .d [(k,mv)]),τ'):=by unfold eD1; rw [h]; show (toM s).map _=_; rw [hs]; rfl
theorem t_S {g:DT} (h:g (bf τ)=some b):tS g τ=some (b,τ):=by unfold tS; rw [h]; rfl
theorem jZ (h:τ[i]?=some (.mu b m)):aZ τ i q=m.get q:=by unfold aZ; rw [h]
theorem c6 (h:τ[i]?=some (.mu b m)):c4 τ i q m2=τ.set i (.mu b (m.put q m2)):=by unfold c4; rw [h]
theorem bK:a6 i τ=some (i,[]):=rfl
theorem jF {C:Addr} {x:Str} {f:DPx} (h:f τ=some (i,q)) (hm:aZ τ i q=some (.n (.o C) cs)):iF C x f τ=some (i,q++[.k (.inr x)]):=by
 unfold iF;rw [h];show (match aZ τ i q with | some (.n (.o C') _)=>if C'=C then some (i,q++[Stp.k (.inr x)]) else none | _=>none)=_;rw [hm];exact if_pos rfl
theorem mw {f:DPx} {gk:DE} (h:f τ=some (i,q)) (hk:gk (bf τ)=some d) (he:iK d=some k) (hm:aZ τ i q=some (.n .d cs)):mF f gk τ=some (i,q++[.k k]):=by
 unfold mF;rw [h];show (gk (bf τ)).bind _=_;rw [hk];show (iK d).bind _=_;rw [he];show (match aZ τ i q with | some (.n .d _)=>some (i,q++[Stp.k k]) | _=>none)=_;rw [hm]
theorem eI (h1:fv τ=some (s,τ1)) (h2:px τ1=some (i,q)) (h3:gk (bf τ1)=some d) (h4:iK d=some k) (h5:toM s=some mv) (h6:aZ τ1 i q=some (.n .d cs)) (h7:cs.length < 100000):eD px gk fv τ=some (.next (c4 τ1 i q (.n .d (gn cs k mv)))):=by
 unfold eD;simp only [h1,h2,h3,h4,h5,h6,Ye];exact if_pos h7
theorem F6 (h1:fv τ=some (s,τ1)) (h2:px τ1=some (i,q)) (h5:toM s=some mv) (h6:aZ τ1 i q=some (.n (.o C) cs)) (h7:cs.length < 1000):su C x px fv τ=some (.next (c4 τ1 i q (.n (.o C) (gn cs (.inr x) mv)))):=by
 unfold su;simp only [h1,h2,h5,h6,Ye];exact if_pos ⟨trivial,h7⟩
theorem zg {px:DPx} {gi:DE} {fv:DEm} {cs0:List (Key×Mt)} {n:Int} (h1:px τ=some (i,q)) (h2:aZ τ i q=some (.n .l cs0)) (h3:gi (bf τ)=some (.int n)) (h4:fv τ=some (s,τ1)) (h5:toM s=some mv) (h6:aZ τ1 i q=some (.n .l cs)) (h7:0<=n/\n<=cs.length/\cs.length < 100000):xZ px gi fv τ=some (.next (c4 τ1 i q (.n .l (Iy cs n.toNat mv)))):=by
 unfold xZ;simp only [h1,h2,h3,h4,h5,h6,Ye];exact if_pos h7
theorem F5 (h1:px τ=some (i,q)) (h2:gk (bf τ)=some (.int n)) (h3:aZ τ i q=some (.n .l cs)) (h4:cO (lu cs)=some ns) (h5:ns.length<=1000/\n ∈ ns):uF px gk τ=some (.next (c4 τ i q (.n .l (cs.eraseIdx (ns.idxOf n))))):=by
 unfold uF;simp only [h1,h2,h3,h4,Ye];exact if_pos h5
theorem Lc (h1:px τ=some (i,q)) (h2:gk (bf τ)=some d) (h3:iK d=some k) (h4:aZ τ i q=some (.n .d cs)) (h5:(cs.any λ c=>decide (c.1=k))=true):xY px gk τ=some (.next (c4 τ i q (.n .d (tE cs k)))):=by
 unfold xY;simp only [h1,h2,h3,h4,Ye];exact if_pos h5
theorem Ld (h1:px τ=some (i,q)) (h2:gk (bf τ)=some (.lst ds)) (h3:aZ τ i q=some (.n .l cs)) (h4:ds.all sca=true/\cs.length+ds.length < 100000):sv px gk τ=some (.next (c4 τ i q (.n .l (cs++ds.map λ d=>(.inl 0,.s d))))):=by
 unfold sv;simp only [h1,h2,h3,Ye];exact if_pos h4
theorem q_N {g:DE} (h:g (er τ)=some d):qN g τ=some (.v d):=by unfold qN; rw [h]; rfl
theorem q_X {f:DPx} {t:Tg} (h:f τ=some (i,q)) (hm:aZ τ i q=some (.n t cs)):qX f τ=some (.p i q):=by
 unfold qX;rw [h];show (match aZ τ i q with | some (.n _ _)=>some (Am.p i q) | some (.s d)=>some (.v d) | none=>none)=_;rw [hm]
theorem aO {h:List Sm->Option Am} {g:DAm} {a:Am} {as:List Am} (h1:h τ=some a) (h2:g τ=some as):aQ h g τ=some (a::as):=by unfold aQ; rw [h1]; show (g τ).map _=_; rw [h2]; rfl
theorem v_C {F:List Sm->Option (Sm×List Sm)} {g:DAm} {as:List Am} {ss ss':List Sm} (h1:g τ=some as) (h2:lend τ as=some ss) (h3:F ss=some (s,ss')) (h4:back τ as ss'=some τ'):eC F g τ=some (s,τ'):=by
 unfold eC;rw [h1];show qg F τ as=_;unfold qg;simp only [h2,h3,h4,Ye,Option.map_some]
theorem v_M {C:Addr} {x:Str} {F:List Sm->Option (Sm×List Sm)} {f:DPx} {g:DAm} {as:List Am} {ss ss':List Sm} (h0:f τ=some (i,q)) (hm:aZ τ i q=some (.n (.o C) cs)) (hn:(cs.any λ c=>decide (c.1=.inr x))=false) (h1:g τ=some as) (h2:lend τ (.p i q::as)=some ss) (h3:F ss=some (s,ss')) (h4:back τ (.p i q::as) ss'=some τ'):eM C x F f g τ=some (s,τ'):=by
 unfold eM;simp only [h0,hm,Ye];rw [if_pos ⟨trivial,hn⟩,h1];show qg F τ _=_;unfold qg;simp only [h2,h3,h4,Ye,Option.map_some]
theorem v_K {C:Addr} {F:List Sm->Option (Sm×List Sm)} {g:DAm} {as:List Am} {ss r:List Sm} (h1:g τ=some as) (h2:lend τ as=some ss) (h3:F (.mu true (.n (.o C) [])::ss)=some (.shr .non,.mu true m::r)) (h4:back τ as r=some τ'):eK C F g τ=some (.mu false m,τ'):=by
 unfold eK;simp only [h1,h2,h3,Ye];rw [h4];rfl
theorem gF (h:bd (as++List.replicate (n - as.length) .no)=some (.ret s τ)) (hl:as.length=mm:=by rfl):jr n mm bd as=some (s,(τ.take mm).map sW):=by unfold jr; rw [if_pos hl,h]
theorem qF (h:bd (as++List.replicate (n - as.length) .no)=some (.next τ)) (hl:as.length=mm:=by rfl):jr n mm bd as=some (.shr .non,(τ.take mm).map sW):=by unfold jr; rw [if_pos hl,h]
theorem zQ:(Mt.n .d cs).get [.k k]=(cs.find? λ c=>decide (c.1=k)).map (·.2):=by
 show (match cs.findIdx? (λ c=>decide (c.1=k)) with | none=>none | some i=>match cs[i]? with | none=>none | some c=>Mt.get c.2 [])=_;have e:∀ m:Mt,m.get []=some m:=λ m=>by cases m <;> rfl
 rw [List.find?_eq_bind_findIdx?_getElem?]
 cases h:cs.findIdx? (λ c=>decide (c.1=k)) with
 | none=>rfl
 | some i =>
  show (match cs[i]? with | none=>none | some c=>Mt.get c.2 [])=(cs[i]?).map (·.2)
  cases cs[i]? with
  | none=>rfl
  | some c=>exact e c.2
end
end L2
end
section
namespace L2
open PySem PySem.Spec PyProof.Rows
def nuI (ns:List Int) (i:Nat):Int:=(ns[i]?).getD 0
def mxI (ns:List Int):Int:=nuI ns (argBest (λ i j=>decide (nuI ns i > nuI ns j)) (ns.length - 1))
def yX:List D->Option D
 | [.lst ds]=>(cO ds).bind λ ns=>if 0 < ns.length then some (.int (mxI ns)) else none
 | _=>none
theorem C1 (h:0 < ns.length):mxI ns ∈ ns:=by
 unfold mxI nuI;have:=(argBest_gt (nuI ns) (ns.length - 1)).1;have hl:argBest (λ i j=>decide (nuI ns i > nuI ns j)) (ns.length - 1) < ns.length:=by omega
 have e:ns[argBest (λ i j=>decide (nuI ns i > nuI ns j)) (ns.length - 1)]?=some (ns[argBest (λ i j=>decide (nuI ns i > nuI ns j)) (ns.length - 1)]):=List.getElem?_eq_getElem hl;unfold nuI at e;rw [e];exact Xr _
section
variable {X:Cx}
theorem xl (hc:X.calm=true):fo X (.builtin "max") (λ xs H Q=>∃ (p:Addr) (ns:List Int),xs=[.ref p]/\H p=some (.lst (ns.map V.int))/\0 < ns.length/\Q (.int (mxI ns)) H):=by
 intro pins s σ H xs us Q I r h;obtain ⟨p,ns,rfl,hH,hs,q⟩:=h;obtain ⟨u,rfl,ru⟩:=vals1 r;cases (show u=Value.ref p from ru);obtain ⟨its,rv,pl,hz⟩:=I.list (SqL.of hH);have hl:=pl.isList;have hlen:=rv.length;rw [Za] at hlen;have hlt:p < s.heap.objs.size:=by obtain ⟨_,e,_⟩:=hl; exact Zs e
 refine call_max_walk (Xo hl ?_)
 refine ⟨s.heap.objs.size,[s.heap.objs.size,p],[s.heap.objs.size],its.toArray.size,_,_,_,rfl,Walks.list (A:=X.A.in1) (I.ok.hd hc) _ p (Zy hlt) its.toArray,
  ⟨⟨_,Heap.get?_push_size _ rfl,rfl,rfl⟩,hl.push _⟩,λ b hb=>?_,by rw [Zr,<- hlen]; exact hs,CmpOf.ints_gt (nuI ns) (λ i v hP=>fE rv i v (by simpa using hP)),λ v h' tk hP hk=>?_⟩
 ·rw [Xe]
  simp only [Zl,Xg,or_false] at hb;rcases hb with rfl | rfl
  · exact Xf _
  · exact Yv hlt
 ·rw [Zr,<- hlen] at hP
  obtain ⟨t,e⟩:=fE rv _ v (by simpa using hP);refine ⟨.int (mxI ns),H,I.kept (t':=tk) λ b x ex=>hk b x (λ hm=>?_) (Heap.get?_push_of_some _ ex),⟨t,e⟩,q⟩;rw [Zt.mp hm] at ex;exact Yq _ (Zs ex)
theorem GU (hc:X.calm=true):fo X (.builtin "max") (rdL X.K yX):=(xl hc).imp λ xs H Q ⟨Hs,ds,d,sm,r,e,k⟩=>by
 match ds,r,e with
 | [x],.cons hx .nil,e =>
  cases hx with
  | @lst a ys ds h r =>
   obtain ⟨ns,e1,e2⟩:=bind_some (show (cO ds).bind _=some d from e);have ed:=ie e1;subst ed;have ey:=r.fE;subst ey;split at e2
   ·rename_i hs
    have e':D.int (mxI ns)=d:=Zj e2;subst e';exact ⟨a,ns,rfl,sm _ _ h,hs,k _ Hs H (.refl sm) (.int _)⟩
   · cases e2
  | _=>exact nn e
 | [],_,e=>simp [yX] at e
 | _::_::_,_,e=>simp [yX] at e
end
section
variable {X:Cx} {pos:Pos}
theorem uZ (hN:X.N.Nodup) (hy:X.N[i]?=some y) (hx:Loc X.env.scope y)
  (hc:X.calm=true) (O:cM X scope cl x cs) (hi:PId X (.Name x px) iter it)
  (hcd:∀ s H fp C,PTd (bJ X scope cl (x::cs.map (·.1)) s H fp C) cnd c) (he:∀ s H fp C,PEd (bJ X scope cl (x::cs.map (·.1)) s H fp C) elt g) (hs:∀ x,foldedSetIterable iter X.env x=pure x:=by intro _; rfl)
  (hsw:swapsWith (.ListComp elt [⟨.Name x px,iter,[cnd],0⟩] scope pos) (some (.Name y py)) spos.line X.env=pure true:=by rfl)
  (hf:X.fn y=true\/X.env.scope.names.lookup y=some .local:=by first | exact .inl rfl | exact .inr rfl | assumption) :
  PSm X (.Assign [.Name y py] (.ListComp elt [⟨.Name x px,iter,[cnd],0⟩] scope pos) spos) (jq i (eO (iq it c g cs))):=(qL (te:=rdE X.K g) (tt:=rdT X.K c) hN hy hx hc O hi hcd he hs hsw hf).imp λ E σ H ⟨Hs0,H0,nf,ρ,Hs,τ,o,r,e,k⟩=>by
 obtain ⟨⟨s,τ1⟩,e1,e2⟩:=bind_some e;split at e2
 ·rename_i h
  cases e2;obtain ⟨d,e3,e4⟩:=bind_some e1;split at e4
  ·split at e4
   ·rename_i hsc
    cases e4;obtain ⟨fp,st⟩:=r.st;refine rQ ⟨H,H,bf τ,[],_,st.bf r.sm,.refl H,e3,λ a Hs' H' g1 ow hn=>?_⟩
    cases ow with
    | lst h' n rr=>exact k _ Hs H' ((r.BB g1.hh (Od.lst h' (r.sm.free hn) (iE rr hsc)) λ c hc=>by rw [Zt.mp hc]; exact hn).into h.1 h.2)
   · cases e4
  · cases e4
 · cases e2
end
def eT (g:DA):DEm:=λ τ=>(g (bf τ)).bind λ ds=>if ds.all sca=true/\ds.length<=100000 then some (.shr (.tup ds),τ) else none
section
variable {X:Cx} {es:List Expr} {pos:Pos}
theorem Nt {x1} (h:PAd X es g):PVm X (.Tuple es x1 pos) (eT g):=(As h).imp λ σ H Q ⟨Hs0,H0,nf,ρ,Hs,τ,s,τ',r,e,k⟩=>by
 obtain ⟨ds,e1,e2⟩:=bind_some e;split at e2
 ·rename_i hs
  cases e2;obtain ⟨fp,st⟩:=r.st;refine ⟨H,H,bf τ,[],ds,st.bf r.sm,.refl H,e1,λ vs Hs1 H1 g1 r1=>⟨by rw [r1.length]; exact sU hs.2,λ p hp=>?_⟩⟩;have hp1:H p=none:=g1.hh.free hp;have hp0:Hs p=none:=r.sm.free hp1
  have ex:Ext Hs H (upd Hs p (.tup vs)) (upd H1 p (.tup vs)):=by
   refine ⟨aJ hp0 _,λ b u q=>?_,g1.hh.trans (aJ hp _),λ b h1 h2=>?_⟩
   ·by_cases z:b=p
    · subst z; rw [aw] at q ⊢; exact q
    · rw [ak z] at q ⊢; exact g1.hh _ _ (r.sm _ _ q)
   · rw [ak (show b≠p from λ z=>h2 (by rw [z]; exact hp1))]; exact h1
  exact k _ _ _ (g1.hh.trans (aJ hp _)) ((r.ext' ex).push (.tup (SqT.of aw) (iE r1 hs.1)))
 · cases e2
end

def leS (a b:Str):Bool:=!decide (b.cps.toList < a.cps.toList)
theorem gJ:leS a b=true↔a.cps.toList<=b.cps.toList:=by
 unfold leS;rw [Bool.not_eq_true',decide_eq_false_iff_not];exact List.not_lt
theorem oi (a b c:Str) (h1:leS a b=true) (h2:leS b c=true):leS a c=true:=gJ.mpr (List.le_trans (gJ.mp h1) (gJ.mp h2))
theorem wk (a b:Str):(leS a b||leS b a)=true:=by
 rcases List.le_total a.cps.toList b.cps.toList with h | h
 · rw [gJ.mpr h]; rfl
 · rw [gJ.mpr h,Bool.or_true]
theorem zo (h1:leS a b=true) (h2:leS b a=true):a=b:=by
 have e:=List.le_antisymm (gJ.mp h1) (gJ.mp h2);cases a;cases b;exact Yn Str.mk (Array.toList_inj.mp e)
noncomputable def D6 (ss:List Str):List Str:=ss.mergeSort leS
theorem pw_rising:∀ (p:Str) (l:List Str),risingS p l=true->(p::l).Pairwise (λ a b=>leS a b=true)
 | p,[],_=>List.pairwise_singleton ..
 | p,x::r,h=>by
  have h':(!ltCps x.cps.toList p.cps.toList&&risingS x r)=true:=h;rw [Yp,ltCps_eq] at h';have ih:=pw_rising x r h'.2;have px:leS p x=true:=h'.1;refine List.pairwise_cons.mpr ⟨λ y hy=>?_,ih⟩;rcases Zl.mp hy with rfl | hy
  · exact px
  · exact oi _ _ _ px (List.rel_of_pairwise_cons ih hy)
theorem pw_sorted:∀ {l:List Str},sortedS l=true->l.Pairwise (λ a b=>leS a b=true)
 | [],_=>.nil
 | x::r,h=>pw_rising x r h
theorem EA (h1:ss'.Perm ss) (h2:sortedS ss'=true):ss'=D6 ss :=
 List.Perm.eq_of_pairwise (λ a b _ _=>zo) (pw_sorted h2) (List.pairwise_mergeSort oi wk ss) (h1.trans (List.mergeSort_perm ss leS).symm)
def EM:List V->Hp->VK->Prop:=λ xs H Q=>∃ (a:Addr) (kvs:List (Key×V)) (ss:List Str),xs=[.ref a]/\H a=some (.dK kvs)/\kvs.map (·.1)=ss.map Sum.inr/\kvs.length < 64 /\
 ∀ (p:Addr),H p=none->Q (.ref p) (upd H p (.lst ((D6 ss).map .str)))
theorem uo:∀ {us:List Value} {ss:List Str},us.length=ss.length->(∀ (j:Nat) (v:Value),us[j]?=some v->∃ n t,ss[j]?=some n/\v=.str n t)->StrsAre us ss
 | [],[],_,_=>.nil
 | [],_::_,e,_=>by cases e
 | _::_,[],e,_=>by cases e
 | u::us,n::ns,e,h=>by
  obtain ⟨n',t,e1,e2⟩:=h 0 u rfl;cases e1;subst e2;exact .cons n t (uo (Nat.succ.inj e) λ j v ev=>h (j+1) v ev)
theorem nB:∀ {us:List Value} {ss:List Str},StrsAre us ss->bN (ss.map V.str) us
 | _,_,.nil=>.nil
 | _,_,.cons x t h=>.cons ⟨t,rfl⟩ (nB h)
theorem oW (hh:X.A.handled=none):fo X (.builtin "sorted") EM:=by
 intro pins s σ H xs us Q I r h;obtain ⟨a,kvs,ss,rfl,ha,ek,h64,q⟩:=h;obtain ⟨u,rfl,ru⟩:=vals1 r;cases (show u=Value.ref a from ru);obtain ⟨sz,lo,vs,kv,dd⟩:=wY I.hok ha;obtain ⟨ep,hat⟩:=dd.dictAt;have lv:vs.length=kvs.length:=kv.length.symm
 have ev:vs.map (·.1)=ss.map Sum.inr:=by
  rw [<- ek];exact pU kv
 refine Calls.call_function_entry kind_sorted plain_sorted entry_sorted (args_sorted1 _) ?_
 unfold Builtin.«sorted»;refine Zo (m:=checkCount "sorted" 1 1 _) (Z1 ?_);refine Zo (PySem.W.kdu_collect (A:=X.A.in1) (PySem.W.kdl_dict (knd:=bB X.prog X.w) (kvs:=vs) (ep:=ep) lo) hh hat (by rw [lv]; exact sz) λ h' tk acc hk hacc=>?_)
 have hI:StrsAre acc.toList ss:=by
  refine uo (by rw [Xb,hacc.1,<- Za (f:=(Sum.inr:Str->Key)),<- ev,Za]) λ j v hj=>?_
  obtain ⟨k,x,e1,e2⟩:=hacc.2 j v (by rw [<- Array.getElem?_toList]; exact hj);have e3:(vs.map (·.1))[j]?=some k:=by rw [List.getElem?_map,e1]; rfl
  rw [ev,List.getElem?_map] at e3
  cases q:ss[j]? with
  | none=>rw [q] at e3; cases e3
  | some n =>
   rw [q] at e3;cases e3;rcases bw (show oo (Sum.inr n) v=true from e2) with ⟨i,t,e4,e5⟩ | ⟨y,t,e4,e5⟩
   · cases e4
   · cases e4; exact ⟨_,t,rfl,e5⟩
 have la:acc.toList.length < 64:=by rw [Xb,hacc.1,lv]; exact h64
 refine Zo (wpAny_newList ?_ (Z6 (Yo la) (by decide)));have hoL:(h'.push (seqObj "list" acc.toList.toArray 0)).get? h'.objs.size=some (seqObj "list" acc.toList.toArray 0):=Heap.get?_push_size _ rfl;refine Zo (wpAny_holding (wpAny_call_entry slot_list_sort ⟨_,hoL,rfl⟩ entry_list_sort (list_sort_treeK strKind_oneLt hoL hI.keysOf (λ v₁ v₂ rest e=>keyKind_strs (by rw [<- e]; exact hI)) la λ st' hp hs=>⟨_,rfl,?_⟩) (args_list_sort _)));obtain ⟨ss',a1,a2,a3⟩:=sorted_out_str hI hp hs;have a4:=EA a2 a3;subst a4;generalize (arrOf st').map (·.2)=out at a1 ⊢;refine Z1 ⟨_,rfl,?_⟩;have I1:=I.kept (t':=tk) hk
 have old:∀ b o,h'.get? b=some o->(sortedHeap (h'.push (seqObj "list" acc.toList.toArray 0)) h'.objs.size acc.toList out).get? b=some o:=λ b o e1=>by
  rw [sortedHeap_old (Zy (Zs e1)) (by rw [size_push']; exact Yv (Zs e1))];exact Heap.get?_push_of_some _ e1
 obtain ⟨e,he⟩:=sortedHeap_at (out:=out) hoL;have I2:=I1.laid (a:=h'.objs.size) (o:=.lst ((D6 ss).map .str)) (t':=tk) old (Zn _) ⟨by rw [Za,a2.length_eq,<- StrsAre.length hI]; exact Z6 (Yo la) (by decide),out.toList,e,nB a1,by rw [he,Array.toArray_toList]⟩;exact ⟨.ref h'.objs.size,_,I2,rfl,q _ (I1.hok.fresh (Zn _))⟩
def om:List (Key×D)->Option (List Str)
 | []=>some []
 | (.inr x,_)::r=>(om r).map (x::·)
 | _=>none
theorem oj:∀ {ds:List (Key×D)} {ss:List Str},om ds=some ss->ds.map (·.1)=ss.map Sum.inr
 | [],_,e=>by cases e; rfl
 | (.inr x,_)::r,_,e=>by
  obtain ⟨ss,e1,rfl⟩:=Zm (show (om r).map _=_ from e);rw [Zg,oj e1];rfl
 | (.inl _,_)::_,_,e=>by cases e
theorem RpK.keys {K:W.Frag} {H:Hp}:∀ {kvs:List (Key×V)} {ds:List (Key×D)},RpK K H kvs ds->kvs.map (·.1)=ds.map (·.1)
 | _,_,.nil=>rfl
 | _,_,.cons h r=>by rw [Zg,Zg,RpK.keys r]
noncomputable def rO (f:DE):DE:=λ τ=>(f τ).bind λ d=>match d with | .dct kvs=>(om kvs).bind λ ss=>if ss.length < 64 then some (.lst ((D6 ss).map .str)) else none | _=>none
theorem z7 (hh:X.A.handled=none) (hg:Gl X "sorted") (hm:X.mg "sorted"=none) (he:Bx (PEd X e f)) (hst:starEach [e] X.env=(false,eval e X.env)::starEach [] X.env:=by rfl) (hpl:(backTo pos (starEach [] X.env)).any (·.1)=false:=by rfl):Bx (PEo X (.Call (.Name "sorted" p) [e] [] pos) (rO f)) :=
 ⟨(qR (oW hh) hg hm (by decide +kernel) (b7 he.out dr hst) (by decide) (by decide) hst hpl).imp λ σ H Q h=>by
   obtain ⟨H0,Hs,τ,fp,d,st,sm,e,q⟩:=h;obtain ⟨x,e1,e2⟩:=bind_some e;refine ⟨H0,Hs,τ,fp,x,st,sm,e1,λ v Hs1 H1 g1 rv=>?_⟩
   cases rv with
   | @dct a kvs ds h r =>
    obtain ⟨ss,e3,e4⟩:=bind_some (show (om ds).bind _=some d from e2);split at e4
    ·rename_i h64
     have e5:=Zj e4;subst e5;have ek:kvs.map (·.1)=ss.map Sum.inr:=r.keys.trans (oj e3);refine ⟨a,kvs,ss,rfl,g1.sh _ _ h,ek,?_,λ p hp=>?_⟩
     ·have:=Yn List.length ek
      rw [Za,Za] at this;omega
     ·have hHp:=g1.hh.free hp
      refine q p Hs1 _ ⟨g1.ss,g1.sh.trans (aJ hp _),g1.hh.trans (aJ hp _),g1.fr⟩ (.lst aw (g1.sh.free hp) (Rps.strs _)) hHp
    · cases e4
   | _=>exact nn e2⟩
def DZ (i jx:Nat) (τ:List Sm):List Sl:=bf ((τ.set i .no).set jx .no)
theorem yC (hh:X.A.handled=none) (hg:Gl X "sorted") (hm:X.mg "sorted"=none) (he:PEd X e f) (hst:starEach [e] X.env=(false,eval e X.env)::starEach [] X.env:=by rfl) (hpl:(backTo pos (starEach [] X.env)).any (·.1)=false:=by rfl):PEo X (.Call (.Name "sorted" p) [e] [] pos) (rO f):=(z7 hh hg hm ⟨he⟩ hst hpl).out
theorem xW {α:Type} {l:List α} {i:Nat} {x:α} (h:l[i]?=some x):l.set i x=l:=by
 obtain ⟨h1,h2⟩:=List.getElem?_eq_some_iff.mp h;rw [<- h2,List.set_getElem_self]
abbrev Fn0 (K:W.Frag) (x:Str) (st:Stmt) (f:Addr):Prop:=∃ (od an:Option Addr) (sl:Array (Option Value)) (oc kV dc pm cd ct:Value),PySem.W.nsIn K mainGlobals x=some (some (.ref f))/\K.lookup f=some ⟨oc,od,.func (PySem.W.fnOf x x (cI st) (bY st) (aK st) .none kV dc pm an cd ct),sl⟩/\PySem.W.codeIn K cd x=true/\W.keepIn K (.ref f)=true
theorem Fn0.mk {K:W.Frag} {x:Str} {st:Stmt} {f:Addr} {h:Heap} {mg:Str->Option Value} {ps:List Str} (e:Fn0 K x st f) (X:K.In h) (G:h.Ns mainGlobals mg) (hb:∀ (kV doc pm:Value) (an:Option Addr) (cdv ct:Value) (us:List Value),us.length=ps.length->bindArgs (PySem.W.fnOf x x (cI st) (bY st) (aK st) .none kV doc pm an cdv ct) ⟨us,[]⟩=pure (ps.zip us)):∃ fd,Fun K x x st f fd/\mg x=some (.ref f)/\Binds K fd ps []:=by
 obtain ⟨od,an,sl,oc,kV,dc,pm,cd,ct,a,l,c,k⟩:=e;exact ⟨_,kn (st:=st) l c k,PySem.W.mg_of X G a,(kn (st:=st) l c k).binds hb⟩
theorem FK {as:List Addr} {h:Heap}:∀ {K:W.Frag},as=K.map (·.1)->as.map h.get?=K.map (λ p=>some p.2)->∀ p ∈ K,h.get? p.1=some p.2:=by
 intro K e q;subst e;rw [Zv] at q;intro p hp;exact List.map_inj_left.mp q p hp
theorem AI:∀ {K:W.Frag},List.lookup a K=some o->(a,o) ∈ K
 | [],h=>by cases h
 | (b,u)::K,h=>by
  rw [List.lookup_cons] at h
  cases q:a == b with
  | true =>
   rw [q] at h;have e1:a=b:=eq_of_beq q;have e2:u=o:=Zj h;subst e1 e2;exact Ze ..
  | false =>
   rw [q] at h;exact Zd _ (AI h)
theorem xR {q:Program} {loose:List Str} {XP:(Str->Option Value)->Heap->Prop} {as:List Addr} {K:Params->W.Frag} {n t:Nat} {r:PySem.W.RowW} {d:PySem.DefRec} {kwd:List (Str×Expr)} {run:Value->List Value->Sem Value}
  (e:∀ P,as=(K P).map (·.1)) (h:PySem.W.WalkO q loose XP (PySem.W.InK K) r d kwd run):PySem.W.WalkX q loose XP (PySem.W.X.obsZ as) (PySem.W.X.valZ K n t) r d kwd run:=by
 intro w s₀ s₁ mg mb G y a o pm cd doc dV kV ho hd hcd hD hmg hg args vals bs L hpre hlay hrd hwl hlo;have y1:as.map s₀.heap.get?=(K w.params).map (λ p=>some p.2):=Yn Prod.fst y;have KX:(K w.params).In s₁.heap:=λ b o' e'=>L.keeps b o' (FK (e w.params) y1 (b,o') (AI e'))
 exact h w s₀ s₁ mg mb G KX a o pm cd doc dV kV ho hd hcd hD hmg hg args vals bs hpre hlay hrd hwl hlo
end L2
end
section
local macro_rules | `(tactic| walk_at "v")=>`(tactic| first | exact .inl rfl | exact .inr rfl | assumption)
local macro_rules | `(tactic| walk_at "w")=>`(tactic| first | exact .inl rfl | exact .inr (.inl rfl) | exact .inr (.inr rfl))
namespace L2
open PySem PySem.Spec PyProof.Rows
abbrev Dg (x:Str):Prop:=(x == ("__debug__":Str))=false
abbrev Dc (x:Str):Prop:=(x == ("__classdict__":Str))=false
abbrev Se (X:Cx) (e:Expr) (es:List Expr):Prop:=starEach (e::es) X.env=(false,eval e X.env)::starEach es X.env
abbrev Sb (X:Cx) (pos:Pos) (es:List Expr):Prop:=(backTo pos (starEach es X.env)).any (·.1)=false
abbrev Fs (X:Cx) (i:Expr):Prop:=∀ x,foldedSetIterable i X.env x=pure x
abbrev Xl (X:Cx) (x:Str):Prop:=X.fn x=true\/X.env.scope.names.lookup x=some .local
abbrev Sw (X:Cx) (e:Expr) (x:Str) (p pos:Pos):Prop:=swapsWith e (some (.Name x p)) pos.line X.env=pure false
def Df (K:W.Frag) (mg:Str->Option Value) (x:Str) (st:Stmt) (ps:List Str):Prop:=∃ a d,Fun K x x st a d/\mg x=some (.ref a)/\Binds K d ps []
def Mf (K:W.Frag) (C:Addr) (x q:Str) (st:Stmt) (ps:List Str):Prop:=∃ a d,Fun K x q st a d/\A7 K C x a/\Binds K d ps []
def If (K:W.Frag) (C:Addr) (q:Str) (st:Stmt) (ps:List Str):Prop:=∃ a d,Fun K "__init__" q st a d/\Mk K C a/\Binds K d ps []
structure Go (P:Program) (w:World) (K:W.Frag) (mg:Str->Option Value) (base:Heap) (k:Nat) (x:Str) (sp:Sp):Prop where
 go:∃ f fd ps,mg x=some (.ref f)/\W.keepIn K (.ref f)=true/\Binds K fd ps []/\gY P w K mg base CX0 k f fd ps sp
structure GoM (P:Program) (w:World) (K:W.Frag) (mg:Str->Option Value) (base:Heap) (k:Nat) (C:Addr) (x:Str) (sp:Sp):Prop where
 go:∃ f fd ps,A7 K C x f/\Binds K fd ps []/\gY P w K mg base CX0 k f fd ps sp
structure GoI (P:Program) (w:World) (K:W.Frag) (mg:Str->Option Value) (base:Heap) (k:Nat) (C:Addr) (sp:Sp):Prop where
 go:∃ f fd ps,Mk K C f/\Binds K fd ps []/\gY P w K mg base CX0 k f fd ps sp
theorem aa (i:Nat) (hN:X.N[i]?=some x:=by exact rfl) (hv:Vis X.env.scope x:=by walk_at "w") (hd:Dg x:=by decide) (hcd:Dc x:=by decide):Bx (PEd X (.Name x pos) (aE i)):=⟨Fh i hN hv hd hcd⟩
theorem ab  : Bx (PEd X (.Constant (.int i) j pos) (dC (.int i))):=⟨Fp ⟩
theorem cu  : Bx (PEd X (.Constant (.bool i) j pos) (dC (.bl i))):=⟨Jq ⟩
theorem iy  : Bx (PEd X (.Constant .none j pos) (dC .non)):=⟨Fn ⟩
theorem aN  : Bx (PEd X (.Constant (.str x) j pos) (dC (.str x))):=⟨Fj ⟩
theorem kT (hm:X.mg x=none) (hg:Gl X x:=by rfl) (hv:bootBuiltins x=some (.type n):=by decide +kernel) (hn:x≠"__name__":=by decide) (hd:Dg x:=by decide):Bx (PEd X (.Name x pos) (dC (.ty n))):=⟨Jm hg hm hv hn hd⟩
theorem iO (ho:OpR X (binaryOp op) (rdR X.K o)) (ha:Bx (PEd X a f)) (hb:Bx (PEd X b g)):Bx (PEd X (.BinOp a op b pos) (dOp o f g)):=⟨Jn ho ha.out hb.out⟩
theorem DX (ho:UnR X (unaryOp op) (rdU X.K o)) (ha:Bx (PEd X a f)):Bx (PEd X (.UnaryOp op a pos) (dUn o f)):=⟨Jl ho ha.out⟩
theorem rX (ho:OpR X (compareOp op) (rdR X.K o)) (ha:Bx (PEd X a f)) (hb:Bx (PEd X b g)) (hm:behindInMarks op b=false:=by first | exact Ay _ | rfl):Bx (PEd X (.Compare a [op] [b] pos) (dOp o f g)):=⟨Fu ho ha.out hb.out hm⟩
theorem cW (ho:OpR X (compareOp op) (rdR X.K o)) (ha:Bx (PEd X a f)) (hb:Bx (PEd X b g)) (hm:behindInMarks op b=false:=by first | exact Ay _ | rfl):Bx (PTd X (.Compare a [op] [b] pos) (dT (dOp o f g))):=⟨BF ho ha.out hb.out hm⟩
theorem tP (ho:OpR X (compareOp op) (rdR X.K o)) (ho':OpR X (compareOp op') (rdR X.K o')) (ha:Bx (PEd X a f)) (hb:Bx (PEd X b g)) (hc:Bx (PEd X c h)) (hm:lastMarks [op,op'] [b,c]=false:=by with_unfolding_all rfl):Bx (PEd X (.Compare a [op,op'] [b,c] pos) (kI (dOp o f g) (dOp o' g h))):=⟨yP ho ho' ha.out hb.out hc.out hm⟩
theorem bA  : Bx (PAd X [] cJ):=⟨Cv ⟩
theorem aT (ha:Bx (PEd X e f)) (hr:Bx (PAd X es g)) (hs:Se X e es:=by rfl):Bx (PAd X (e::es) (aD f g)):=⟨yS ha.out hr.out hs⟩
theorem bG (h:Bx (PAd X es g)):Bx (PEd X (.Tuple es x1 pos) (xO g)):=⟨Fi h.out⟩
theorem bp (h:Bx (PAd X es g)):Bx (PEo X (.List es pos) (A1 g)):=⟨E3 h.out⟩
theorem bH (h:Bx (PEo X e f)):Bx (PEd X e f):=⟨PEo.shr h.out⟩
theorem eJ (h:Bx (PEd X e f)) (he:∀ whole,isTrue e X.env whole=(do let v <- whole; standAt e.pos; holding [v] (truthy v)):=by intro _; rfl):Bx (PTd X e (dT f)):=⟨BC h.out he⟩
theorem dA (h:Bx (PTd X e f)):Bx (PTd X (.UnaryOp .Not e pos) (Eb f)):=⟨BD h.out⟩
theorem mf (h:Bx (PTd X a f)):Bx (PWd X (.BoolOp .And [a] pos) f):=⟨ye h.out⟩
theorem kL (h:Bx (PTd X a f)):Bx (PWd X (.BoolOp .Or [a] pos) f):=⟨Bv h.out⟩
theorem oY (ha:Bx (PTd X a f)) (hb:Bx (PWd X (.BoolOp .And (b::es) pos) g)):Bx (PWd X (.BoolOp .And (a::b::es) pos) (xi f g)):=⟨Bw ha.out hb.out⟩
theorem jD (ha:Bx (PTd X a f)) (hb:Bx (PWd X (.BoolOp .Or (b::es) pos) g)):Bx (PWd X (.BoolOp .Or (a::b::es) pos) (dOr f g)):=⟨ET ha.out hb.out⟩
theorem fM (h:Bx (PWd X e f)):Bx (PTd X e f):=⟨PWd.ptd h.out⟩
theorem m8 (h:Bx (PEd X a f)):Bx (PEd X (.BoolOp op [a] pos) f):=⟨Fk h.out⟩
theorem jE (ha:Bx (PEd X a f)) (hb:Bx (PEd X (.BoolOp .And (b::es) pos) g)):Bx (PEd X (.BoolOp .And (a::b::es) pos) (kI f g)):=⟨Fv ha.out hb.out⟩
theorem m9 (ha:Bx (PEd X a f)):Bx (PEd X (.UnaryOp .Not a pos) (zS f)):=⟨Fm ha.out⟩
theorem xF (hc:Bx (PTd X c t)) (ha:Bx (PEd X a f)) (hb:Bx (PEd X b g)):Bx (PEd X (.IfExp c a b pos) (dIf t f g)):=⟨Jp hc.out ha.out hb.out⟩
theorem bq (ha:Bx (PEd X a f)) (hb:Bx (PEd X b g)) (hs:kW b:=by exact λ _ _=>rfl):Bx (PEd X (.Subscript a b pos) (dOp oIx f g)):=⟨Jo ha.out hb.out hs⟩
theorem iN  : Bx (POd X none LC):=⟨yB ⟩
theorem iM (h:Bx (PEd X e f)):Bx (POd X (some e) (dP f)):=⟨yA h.out⟩
section
variable {X:Cx} {a b c e:Expr} {es:List Expr} {pos:Pos} {f g h:DE}
theorem aI {x:Str} {id:String} {p:Pos} {o:List D->Option D} {g:DA} (hc:fo X (.builtin id) (rdL X.K o)) (hm:X.mg x=none) (ha:Bx (PAd X (e::es) g)) (hg:Gl X x:=by rfl) (hv:bootBuiltins x=some (.builtin id):=by decide +kernel) (hn:x≠"__name__":=by decide) (hdb:Dg x:=by decide) (he:Se X e es:=by rfl) (hpl:Sb X pos es:=by rfl):Bx (PEd X (.Call (.Name x p) (e::es) [] pos) (fI o g)):=⟨yQ hc hg hm hv ha.out hn hdb he hpl⟩
end
theorem pf (hm:X.mg x=none) (ha:Bx (PAd X (e::es) g)) (hg:Gl X x:=by rfl) (hv:bootBuiltins x=some (.type "list"):=by decide +kernel) (hn:x≠"__name__":=by decide) (hdb:Dg x:=by decide) (he:Se X e es:=by rfl) (hpl:Sb X pos es:=by rfl):Bx (PEo X (.Call (.Name x p) (e::es) [] pos) (fI yY g)):=⟨B1 hg hm hv ha.out hn hdb he hpl⟩
theorem aC  : Bx (nt X [] lD):=⟨yp ⟩
section
variable {X:Cx} {a b c e:Expr} {es:List Expr} {pos:Pos} {st:Stmt} {rest:List Stmt} {f g:DS}
theorem aj (h:Bx (PSd X st f)):Bx (nt X [st] f):=⟨yo h.out⟩
end
section
variable {X:Cx} {a b c e:Expr} {es:List Expr} {pos:Pos} {st:Stmt} {rest:List Stmt} {f g:DS}
theorem ah (h1:Bx (PSd X st f)) (h2:Bx (nt X rest g)):Bx (nt X (st::rest) (i9 f g)):=⟨uX h1.out h2.out⟩
end
section
variable {X:Cx} {a b c e:Expr} {es:List Expr} {pos:Pos} {st:Stmt} {rest:List Stmt} {f g:DS}
theorem gO  : Bx (PSd X st Al):=⟨ve ⟩
end
theorem aM (hc:Bx (PTd X c t)) (ha:Bx (nt X x f)) (hb:Bx (nt X y g)):Bx (PSd X (.If c x y pos) (sIf t f g)):=⟨EY hc.out ha.out hb.out⟩
theorem av (h:Bx (PEd X e f)):Bx (PSd X (.Return (some e) pos) (Ak f)):=⟨BR h.out⟩
theorem mj (h:Bx (PEo X e f)):Bx (PSd X (.Return (some e) pos) (xX f)):=⟨yw h.out⟩
theorem mi (i:Nat) (hN:X.N[i]?=some x:=by exact rfl) (hv:Vis X.env.scope x:=by walk_at "w") (hd:Dg x:=by decide) (hcd:Dc x:=by decide):Bx (PSd X (.Return (some (.Name x p)) pos) (uE i)):=⟨yv i hN hv hd hcd⟩
theorem xq (i:Nat) (hN:X.N.Nodup) (hi:X.N[i]?=some x:=by exact rfl) (he:Bx (PEd X e f)) (hx:Loc X.env.scope x:=by walk_at "v") (hs:Sw X e x pos' pos:=by rfl) (hf:Xl X x:=by walk_at "v"):Bx (PSd X (.Assign [.Name x pos'] e pos) (Bo i f)):=⟨BQ hN hi hx he.out hs hf⟩
theorem iL (i:Nat) (hN:X.N.Nodup) (hi:X.N[i]?=some x:=by exact rfl) (he:Bx (PEo X e f)) (hx:Loc X.env.scope x:=by walk_at "v") (hs:Sw X e x pos' pos:=by rfl) (hf:Xl X x:=by walk_at "v"):Bx (PSd X (.Assign [.Name x pos'] e pos) (uD i f)):=⟨yu hN hi hx he.out hs hf⟩
theorem gj (he:Bx (PEd X e f)) (hs:swapsWith e none pos.line X.env=pure false:=by rfl):Bx (PSd X (.Expr e pos) (uI f)):=⟨yy he.out hs⟩
theorem pe (i:Nat) (hN:X.N[i]?=some x:=by exact rfl) (he:Bx (PEd X e f)) (hv:Vis X.env.scope x:=by walk_at "w") (hd:Dg x:=by decide) (hcd:Dc x:=by decide) (hbase:attributeBase (.Name x p) "append" X.env (eval (.Name x p) X.env)=eval (.Name x p) X.env:=by rfl) (hfew:((backTo cpos (starEach [e] X.env)).all (λ x=>!x.1)&&(backToKw cpos (keywordEach [] X.env)).all (λ x=>x.1.isSome)
 && decide ([e].length+([]:List Keyword).length+(if ([]:List Keyword).isEmpty then 0 else 1) < 30))=true:=by rfl) (hline:(apos.endLine == cpos.line)=true:=by rfl) (hst:starEach [e] X.env=(false,eval e X.env)::starEach [] X.env:=by rfl) (hplain:(backTo cpos (starEach [] X.env)).any (·.1)=false:=by rfl) (hs:swapsWith (.Call (.Attribute (.Name x p) "append" apos) [e] [] cpos) none pos.line X.env=pure false:=by rfl):Bx (PSd X (.Expr (.Call (.Attribute (.Name x p) "append" apos) [e] [] cpos) pos) (An i f)):=⟨BV i hN hv he.out hd hcd hbase hfew hline hst hplain hs⟩
theorem kS (h:Bx (PEd X l f)):Bx (PId X tg l (D9 f)):=⟨Ce h.out⟩
theorem kR (h:Bx (PEd X l f)):Bx (PId X tg l (wD f)):=⟨Cc h.out⟩
theorem cE (hm:X.mg "range"=none) (ha:Bx (PAd X [a] f)) (hg:Gl X "range":=by rfl) (hs:starEach [a] X.env=[(false,eval a X.env)]:=by rfl):Bx (PId X tg (.Call (.Name "range" p) [a] [] pos) (ig f)):=⟨sD hg hm ha.out hs⟩
theorem tM (i:Nat) (hN:X.N.Nodup) (hi:X.N[i]?=some x:=by exact rfl) (hx:Loc X.env.scope x:=by walk_at "v") (hf:Xl X x:=by walk_at "v"):Bx (PGd X (.Name x pos) (gN i)):=⟨yF hN hi hx hf⟩
theorem xr (hi:Bx (PId X tg iter it)) (hg:Bx (PGd X tg g)) (hb:Bx (nt X body b)) (hp:PassesOwn (model X.prog X.w) X.A X.env X.xe:=by exact .never) (hc:X.calm=true:=by rfl) (hs:Fs X iter:=by intro _; rfl):Bx (PSd X (.For tg iter body [] pos) (Hb it g b)):=⟨BS hp hc hi.out hg.out hb.out hs⟩
theorem kP (hc:Bx (PTd X c t)) (hb:Bx (nt X body b)) (hp:PassesOwn (model X.prog X.w) X.A X.env X.xe:=by exact .never):Bx (PSd X (.While c body [] pos) (lU t b)):=⟨vd hp hc.out hb.out⟩
theorem ao (Fo:Go X.prog X.w X.K X.mg X.base k x (spF F X.K)) (hr:dm jj X.A) (ha:Bx (PAd X (e::es) g)) (hj:k<=jj:=by decide) (hg:Gl X x:=by rfl) (hdb:Dg x:=by decide) (he:Se X e es:=by rfl) (hpl:Sb X pos es:=by rfl):Bx (PEd X (.Call (.Name x p) (e::es) [] pos) (dFn F g)):=by
 have ⟨f',fd',ps',hm,hk,hb,Fo⟩:=Fo.go;have hr:=hr.mono hj;exact ⟨Ct Fo hr hg hm hk hb ha.out hdb he hpl⟩
theorem xw (Fo:Go X.prog X.w X.K X.mg X.base k x (spF F X.K)) (hr:dm jj X.A) (ha:Bx (PAd X (e::es) g)) (hj:k<=jj:=by decide) (hg:Gl X x:=by rfl) (hdb:Dg x:=by decide) (he:Se X e es:=by rfl) (hpl:Sb X pos es:=by rfl):Bx (PEo X (.Call (.Name x p) (e::es) [] pos) (GQ F g)):=by
 have ⟨f',fd',ps',hm,hk,hb,Fo⟩:=Fo.go;have hr:=hr.mono hj;exact ⟨B4 Fo hr hg hm hk hb ha.out hdb he hpl⟩
theorem fL (O:cM X scope cl x cs) (hi:Bx (PId X (.Name x px) iter it)) (he:∀ s H fp C,Bx (PEd (bJ X scope cl (x::cs.map (·.1)) s H fp C) elt g):=by intros; walk_at "g") (hc:X.calm=true:=by rfl) (hs:Fs X iter:=by intro _; rfl):Bx (PEo X (.ListComp elt [⟨.Name x px,iter,[],0⟩] scope pos) (xh it g cs)):=⟨B3 hc O hi.out (λ s H fp C=>(he s H fp C).out) hs⟩
theorem bQ (c:Cls X.K C) (n:cF X.K C f) (he:Bx (PEd X e g)) (hb:attributeBase e f X.env (eval e X.env)=eval e X.env:=by rfl):Bx (PEd X (.Attribute e f pos) (dUn (vM C f) g)):=⟨Ft c n he.out hb⟩
theorem a8 (c:Cls X.K C) (Fo:GoM X.prog X.w X.K X.mg X.base k C m (spF F X.K)) (hr:dm jj X.A) (he:Bx (PEd X o g)) (ha:Bx (PAd X (e::es) ga)) (hj:k<=jj:=by decide) (hst:Se X e es:=by rfl) (hpl:Sb X pos es:=by rfl) (ht:eval (.Call (.Attribute o m apos) (e::es) [] pos) X.env=(do
  let ov <- eval o X.env
  standAt apos.atName
  let (f,first) <- holding [ov] (getMethod ov m pl)
  callWith pos f first (backTo pos (starEach (e::es) X.env)) (backToKw pos (keywordEach [] X.env))):=by rfl):Bx (PEd X (.Call (.Attribute o m apos) (e::es) [] pos) (kH C m F g ga)):=by
 have ⟨f',fd',ps',hm,hb,Fo⟩:=Fo.go;have hr:=hr.mono hj;exact ⟨Cm he.out c hm Fo hr hb ha.out hst hpl ht⟩
theorem tO (c:Cls X.K C) (Fo:GoM X.prog X.w X.K X.mg X.base k C m (spF F X.K)) (hr:dm jj X.A) (he:Bx (PEd X o g)) (hj:k<=jj:=by decide) (ht:eval (.Call (.Attribute o m apos) [] [] pos) X.env=(do
  let ov <- eval o X.env
  standAt apos.atName
  let (f,first) <- holding [ov] (getMethod ov m pl)
  callWith pos f first (backTo pos (starEach [] X.env)) (backToKw pos (keywordEach [] X.env))):=by rfl):Bx (PEd X (.Call (.Attribute o m apos) [] [] pos) (kH C m F g cJ)):=by
 have ⟨f',fd',ps',hm,hb,Fo⟩:=Fo.go;have hr:=hr.mono hj;exact ⟨yO he.out c hm Fo hr hb ht⟩
theorem xD (Fo:GoI X.prog X.w X.K X.mg X.base k C (uu C ns)) (hr:dm jj X.A) (hm:X.mg x=some (.ref C)) (ha:Bx (PAd X (e::es) ga)) (hj:k+1<=jj:=by decide) (hg:Gl X x:=by rfl) (hdb:Dg x:=by decide) (he:Se X e es:=by rfl) (hpl:Sb X pos es:=by rfl):Bx (PEd X (.Call (.Name x p) (e::es) [] pos) (zT C ns ga)):=by
 have ⟨f',fd',ps',M,hb,Fo⟩:=Fo.go;have hr:=hr.mono hj;exact ⟨Co M Fo hr hg hm hb ha.out hdb he hpl⟩
theorem tK (O:cM X scope cl x cs) (hi:Bx (PId X (.Name x px) iter it)) (hcd:∀ s H fp C,Bx (PTd (bJ X scope cl (x::cs.map (·.1)) s H fp C) cnd c):=by intros; walk_at "h") (he:∀ s H fp C,Bx (PEd (bJ X scope cl (x::cs.map (·.1)) s H fp C) elt g):=by intros; walk_at "g") (hc:X.calm=true:=by rfl) (hs:Fs X iter:=by intro _; rfl):Bx (PEo X (.ListComp elt [⟨.Name x px,iter,[cnd],0⟩] scope pos) (iq it c g cs)):=⟨yD hc O hi.out (λ s H fp C=>(hcd s H fp C).out) (λ s H fp C=>(he s H fp C).out) hs⟩
theorem aV (hu:X.A.units+64 < cLine) (hs:Ec i) (ho:Bx (PEd X o f)) (hi:Bx (PEd X i g)):Bx (PEd X (.Subscript o i pos) (dOp eE f g)):=⟨Cs hu ho.out hi.out hs⟩
theorem xn (hu:X.A.units+64 < cLine) (hm:behindInMarks .In o=false) (hi:Bx (PEd X i f)) (ho:Bx (PEd X o g)):Bx (PTd X (.Compare i [.In] [o] pos) (dT (dOp CF f g))):=⟨BE hu hi.out ho.out hm⟩
theorem jh (hu:X.A.units+64 < cLine) (hm:behindInMarks .NotIn o=false) (hi:Bx (PEd X i f)) (ho:Bx (PEd X o g)):Bx (PTd X (.Compare i [.NotIn] [o] pos) (dT (dOp eW f g))):=⟨sC hu hi.out ho.out hm⟩
theorem xG (hu:X.A.units+64 < cLine) (ho:Bx (PEd X o f)) (he:Bx (PEd X e g)) (hv:Bx (PEd X value h)) (m:M2 X o "get" apos e value cpos:=by exact ⟨rfl,rfl,rfl,rfl⟩):Bx (PEd X (.Call (.Attribute o "get" apos) [e,value] [] cpos) (zV f g h)):=⟨Cr hu ho.out he.out hv.out m⟩
theorem kN (ho:OpR X (compareOp op) (rdR X.K o)) (ho':OpR X (compareOp op') (rdR X.K o')) (ha:Bx (PEd X a f)) (hb:Bx (PEd X b g)) (hc:Bx (PEd X c h)) (hm:lastMarks [op,op'] [b,c]=false:=by with_unfolding_all rfl):Bx (PTd X (.Compare a [op,op'] [b,c] pos) (dT (kI (dOp o f g) (dOp o' g h)))):=⟨uV ho ho' ha.out hb.out hc.out hm⟩
theorem xu  : Bx (PPd X pos [] [] []):=⟨BY ⟩
theorem mn (hk:Bx (PEd X k f)) (hv:Bx (PEd X v g)) (hr:Bx (PPd X pos ks vs ps)):Bx (PPd X pos (some k::ks) (v::vs) ((f,g)::ps)):=⟨yz hk.out hv.out hr.out⟩
theorem xv (h:Bx (PPd X pos keys values ps)) (hall:keys.all (·.isSome)=true:=by rfl) (hl:keys.length=values.length:=by rfl) (h0:keys≠[]:=by exact List.cons_ne_nil _ _) (h15:keys.length<=15:=by exact Zb rfl):Bx (PEo X (.Dict keys values pos) (zW ps)):=⟨B2 h.out hall hl h0 h15⟩
section
variable {X:Cx} {a b e o:Expr} {es:List Expr} {pos apos cpos:Pos} {f g:DE}
theorem m7 {lo hi:Option Expr} {p2:Pos} {l u:DO} (ha:Bx (PEd X a f)) (hl:Bx (POd X lo l)) (hh:Bx (POd X hi u)):Bx (PEd X (.Subscript a (.Slice lo hi none p2) pos) (IB f l u)):=⟨Fg ha.out hl.out hh.out⟩
end
theorem xE (ho:Bx (PEd X o f)) (he:Bx (PEd X e g)) (hbase:attributeBase o "join" X.env (eval o X.env)=eval o X.env:=by rfl) (hfew:((backTo cpos (starEach [e] X.env)).all (λ x=>!x.1)&&(backToKw cpos (keywordEach [] X.env)).all (λ x=>x.1.isSome)
 && decide ([e].length+([]:List Keyword).length+(if ([]:List Keyword).isEmpty then 0 else 1) < 30))=true:=by rfl) (hline:(apos.endLine == cpos.line)=true:=by rfl) (hst:starEach [e] X.env=(false,eval e X.env)::starEach [] X.env:=by rfl) (hplain:(backTo cpos (starEach [] X.env)).any (·.1)=false:=by rfl):Bx (PEd X (.Call (.Attribute o "join" apos) [e] [] cpos) (zU f g)):=⟨Cp ho.out he.out hbase hfew hline hst hplain⟩
theorem xC (hu:X.A.units+64 < cLine) (hm:X.mg "max"=none) (he:Bx (PEd X e f)) (hd:Bx (PEd X e2 g)) (hc:X.calm=true:=by rfl) (hg:Gl X "max":=by rfl) (hv:bootBuiltins "max"=some (.builtin "max"):=by decide +kernel) (hst:starEach [e] X.env=(false,eval e X.env)::starEach [] X.env:=by rfl) (hb:backTo pos (starEach [e] X.env)=(false,eval e X.env)::backTo pos (starEach [] X.env):=by rfl) (hplain:(backTo pos (starEach [e] X.env)).any (·.1)=false:=by rfl):Bx (PEd X (.Call (.Name "max" p) [e] [⟨some "default",e2,kp⟩] pos) (GP f g)):=⟨Cn hu hc hg hm hv he.out hd.out hst hb hplain⟩
theorem m6 (hm:X.mg x=none) (hm2:X.mg y=none) (ha:Bx (PEd X a f)) (hc:X.calm=true:=by rfl) (hg:Gl X x:=by rfl) (hv:bootBuiltins x=some (.type "list"):=by decide +kernel) (hg2:Gl X y:=by rfl) (hv2:bootBuiltins y=some (.type "reversed"):=by decide +kernel) (hn:x≠"__name__":=by decide) (hdb:Dg x:=by decide) (hn2:y≠"__name__":=by decide) (hdb2:(y == ("__debug__":Str))=false:=by decide) (he:starEach [.Call (.Name y p2) [a] [] pos2] X.env=(false,eval (.Call (.Name y p2) [a] [] pos2) X.env)::starEach [] X.env:=by rfl) (hpl:(backTo pos (starEach [] X.env)).any (·.1)=false:=by rfl) (he2:starEach [a] X.env=(false,eval a X.env)::starEach [] X.env:=by rfl) (hpl2:(backTo pos2 (starEach [] X.env)).any (·.1)=false:=by rfl):Bx (PEo X (.Call (.Name x p) [.Call (.Name y p2) [a] [] pos2] [] pos) (DQ f)):=⟨E2 hc hg hm hv hg2 hm2 hv2 ha.out hn hdb hn2 hdb2 he hpl he2 hpl2⟩
theorem xt (i:Nat) (hN:X.N[i]?=some x:=by exact rfl) (he:Bx (PEd X e f)) (hv:Vis X.env.scope x:=by walk_at "w") (hd:Dg x:=by decide) (hcd:Dc x:=by decide) (hbase:attributeBase (.Name x p) "extend" X.env (eval (.Name x p) X.env)=eval (.Name x p) X.env:=by rfl) (hfew:((backTo cpos (starEach [e] X.env)).all (λ x=>!x.1)&&(backToKw cpos (keywordEach [] X.env)).all (λ x=>x.1.isSome)
 && decide ([e].length+([]:List Keyword).length+(if ([]:List Keyword).isEmpty then 0 else 1) < 30))=true:=by rfl) (hline:(apos.endLine == cpos.line)=true:=by rfl) (hst:starEach [e] X.env=(false,eval e X.env)::starEach [] X.env:=by rfl) (hplain:(backTo cpos (starEach [] X.env)).any (·.1)=false:=by rfl) (hs:swapsWith (.Call (.Attribute (.Name x p) "extend" apos) [e] [] cpos) none pos.line X.env=pure false:=by rfl):Bx (PSd X (.Expr (.Call (.Attribute (.Name x p) "extend" apos) [e] [] cpos) pos) (Bp i f)):=⟨BU i hN hv he.out hd hcd hbase hfew hline hst hplain hs⟩
theorem xB (h:Bx (PEd X l f)):Bx (PId X tg l (zw f)):=⟨Cd h.out⟩
theorem rW (ho:Bx (PEd X o f)) (he:Bx (PEd X e g)) (hbase:attributeBase o "index" X.env (eval o X.env)=eval o X.env:=by rfl) (hfew:((backTo cpos (starEach [e] X.env)).all (λ x=>!x.1)&&(backToKw cpos (keywordEach [] X.env)).all (λ x=>x.1.isSome)
 && decide ([e].length+([]:List Keyword).length+(if ([]:List Keyword).isEmpty then 0 else 1) < 30))=true:=by rfl) (hline:(apos.endLine == cpos.line)=true:=by rfl) (hst:starEach [e] X.env=(false,eval e X.env)::starEach [] X.env:=by rfl) (hplain:(backTo cpos (starEach [] X.env)).any (·.1)=false:=by rfl):Bx (PEd X (.Call (.Attribute o "index" apos) [e] [] cpos) (dOp FL f g)):=⟨Fq ho.out he.out hbase hfew hline hst hplain⟩
theorem aq (h:Bx (PVm X e f)):Bx (PEm X e f):=⟨PVm.em h.out⟩
theorem ji (h:Bx (PEd X e g)):Bx (PVm X e (eS g)):=⟨Ny h.out⟩
theorem a5 (h:Bx (PEd X e g)):Bx (PVm X e (eN g)):=⟨Nv h.out⟩
theorem eL (h:Bx (PEo X e g)):Bx (PVm X e (eO g)):=⟨Nu h.out⟩
theorem GY (i:Nat) (hN:X.N[i]?=some x:=by exact rfl) (hv:Vis X.env.scope x:=by walk_at "w") (hd:Dg x:=by decide) (hcd:Dc x:=by decide):Bx (PVm X (.Name x p) (eV i)):=⟨Nr i hN hv hd hcd⟩
theorem ar (i:Nat) (hN:X.N[i]?=some x:=by exact rfl) (hv:Vis X.env.scope x:=by walk_at "w") (hd:Dg x:=by decide) (hcd:Dc x:=by decide):Bx (PXm X (.Name x p) (a6 i)):=⟨EO i hN hv hd hcd⟩
theorem cz (cl:Cls X.K C) (n:cF X.K C x) (he:Bx (PXm X e f)) (hb:attributeBase e x X.env (eval e X.env)=eval e X.env:=by rfl):Bx (PXm X (.Attribute e x pos) (iF C x f)):=⟨ES cl n he.out hb⟩
theorem c9 (hu:X.A.units+1 < cLine) (hs:Ec b) (he:Bx (PXm X a f)) (hk:Bx (PEd X b g)):Bx (PXm X (.Subscript a b pos) (mF f g)):=⟨ER hu he.out hk.out hs⟩
theorem eZ (he:Bx (PXm X a f)) (hk:Bx (PEd X b g)) (hs:kW b:=by exact λ _ _=>rfl):Bx (PXm X (.Subscript a b pos) (nL f g)):=⟨Jd he.out hk.out hs⟩
theorem bc  : Bx (lQ X [] gs):=⟨yn ⟩
section
variable {X:Cx} {a b c e o:Expr} {es:List Expr} {pos apos cpos pos':Pos} {x:Str} {st:Stmt} {rest:List Stmt} {f g:DSm}
theorem ay (h:Bx (PSm X st f)):Bx (lQ X [st] f):=⟨ym h.out⟩
end
section
variable {X:Cx} {a b c e o:Expr} {es:List Expr} {pos apos cpos pos':Pos} {x:Str} {st:Stmt} {rest:List Stmt} {f g:DSm}
theorem ae (h1:Bx (PSm X st f)) (h2:Bx (lQ X rest g)):Bx (lQ X (st::rest) (cY f g)):=⟨uW h1.out h2.out⟩
end
section
variable {X:Cx} {a b c e o:Expr} {es:List Expr} {pos apos cpos pos':Pos} {x:Str} {st:Stmt} {rest:List Stmt} {f g:DSm}
theorem fc  : Bx (PSm X st uG):=⟨u0 ⟩
end
theorem bF (hc:Bx (PTm X c t)) (ha:Bx (lQ X x f)) (hb:Bx (lQ X y g)):Bx (PSm X (.If c x y pos) (nJ t f g)):=⟨EX hc.out ha.out hb.out⟩
theorem cb (h:Bx (PEm X e f)):Bx (PSm X (.Return (some e) pos) (nI f)):=⟨BI h.out⟩
theorem aG (i:Nat) (hN:X.N.Nodup) (hi:X.N[i]?=some x:=by exact rfl) (he:Bx (PEm X e f)) (hx:Loc X.env.scope x:=by walk_at "v") (hs:Sw X e x pos' pos:=by rfl) (hf:Xl X x:=by walk_at "v"):Bx (PSm X (.Assign [.Name x pos'] e pos) (jq i f)):=⟨BH hN hi hx he.out hs hf⟩
theorem bU (he:Bx (PEm X e f)) (hs:swapsWith e none pos.line X.env=pure false:=by rfl):Bx (PSm X (.Expr e pos) (dR f)):=⟨yq he.out hs⟩
theorem bz (he:Bx (PEd X e g)) (hs:swapsWith e none pos.line X.env=pure false:=by rfl):Bx (PSm X (.Expr e pos) (qE g)):=⟨va he.out hs⟩
theorem bZ (h:Bx (PTd X e g)):Bx (PTm X e (tS g)):=⟨Je h.out⟩
theorem be (hu:X.A.units+1 < cLine) (ho:Bx (PXm X o px)) (hi:Bx (PEd X i gk)) (hv:Bx (PEm X value fv)) (hs:swapsWith value (some (.Subscript o i pos')) pos.line X.env=pure false:=by rfl):Bx (PSm X (.Assign [.Subscript o i pos'] value pos) (eD px gk fv)):=⟨yr hu ho.out hi.out hv.out hs⟩
theorem cX (cl:Cls X.K C) (n:cF X.K C x) (ho:Bx (PXm X o px)) (hv:Bx (PEm X value fv)) (hs:swapsWith value (some (.Attribute o x pos')) pos.line X.env=pure false:=by rfl):Bx (PSm X (.Assign [.Attribute o x pos'] value pos) (su C x px fv)):=⟨BN cl n ho.out hv.out hs⟩
theorem kO (ho:Bx (PXm X o px)) (he:Bx (PVm X e fv)) (hbase:attributeBase o "append" X.env (eval o X.env)=eval o X.env:=by rfl) (hfew:((backTo cpos (starEach [e] X.env)).all (λ x=>!x.1)&&(backToKw cpos (keywordEach [] X.env)).all (λ x=>x.1.isSome)
 && decide ([e].length+([]:List Keyword).length+(if ([]:List Keyword).isEmpty then 0 else 1) < 30))=true:=by rfl) (hline:(apos.endLine == cpos.line)=true:=by rfl) (hst:starEach [e] X.env=(false,eval e X.env)::starEach [] X.env:=by rfl) (hplain:(backTo cpos (starEach [] X.env)).any (·.1)=false:=by rfl) (hs:swapsWith (.Call (.Attribute o "append" apos) [e] [] cpos) none pos.line X.env=pure false:=by rfl):Bx (PSm X (.Expr (.Call (.Attribute o "append" apos) [e] [] cpos) pos) (gE px fv)):=⟨BP ho.out he.out hbase hfew hline hst hplain hs⟩
theorem iu (ho:Bx (PXm X o px)) (hi:Bx (PEd X i gi)) (he:Bx (PVm X e fv)) (hbase:attributeBase o "insert" X.env (eval o X.env)=eval o X.env:=by rfl) (hfew:((backTo cpos (starEach [i,e] X.env)).all (λ x=>!x.1)&&(backToKw cpos (keywordEach [] X.env)).all (λ x=>x.1.isSome)
 && decide ([i,e].length+([]:List Keyword).length+(if ([]:List Keyword).isEmpty then 0 else 1) < 30))=true:=by rfl) (hline:(apos.endLine == cpos.line)=true:=by rfl) (hst:starEach [i,e] X.env=(false,eval i X.env)::starEach [e] X.env:=by rfl) (hst2:starEach [e] X.env=(false,eval e X.env)::starEach [] X.env:=by rfl) (hplain:(backTo cpos (starEach [e] X.env)).any (·.1)=false:=by rfl) (hs:swapsWith (.Call (.Attribute o "insert" apos) [i,e] [] cpos) none pos.line X.env=pure false:=by rfl):Bx (PSm X (.Expr (.Call (.Attribute o "insert" apos) [i,e] [] cpos) pos) (xZ px gi fv)):=⟨BL ho.out hi.out he.out hbase hfew hline hst hst2 hplain hs⟩
theorem oZ (ho:Bx (PXm X o px)) (he:Bx (PEd X e g)) (hbase:attributeBase o "remove" X.env (eval o X.env)=eval o X.env:=by rfl) (hfew:((backTo cpos (starEach [e] X.env)).all (λ x=>!x.1)&&(backToKw cpos (keywordEach [] X.env)).all (λ x=>x.1.isSome)
 && decide ([e].length+([]:List Keyword).length+(if ([]:List Keyword).isEmpty then 0 else 1) < 30))=true:=by rfl) (hline:(apos.endLine == cpos.line)=true:=by rfl) (hst:starEach [e] X.env=(false,eval e X.env)::starEach [] X.env:=by rfl) (hplain:(backTo cpos (starEach [] X.env)).any (·.1)=false:=by rfl) (hs:swapsWith (.Call (.Attribute o "remove" apos) [e] [] cpos) none pos.line X.env=pure false:=by rfl):Bx (PSm X (.Expr (.Call (.Attribute o "remove" apos) [e] [] cpos) pos) (uF px g)):=⟨BJ ho.out he.out hbase hfew hline hst hplain hs⟩
theorem xo (m:M1 X o "pop" apos e cpos) (ho:Bx (PXm X o px)) (he:Bx (PEd X e gk)) (hs:swapsWith (.Call (.Attribute o "pop" apos) [e] [] cpos) none pos.line X.env=pure false:=by rfl):Bx (PSm X (.Expr (.Call (.Attribute o "pop" apos) [e] [] cpos) pos) (xY px gk)):=⟨BK ho.out he.out m hs⟩
theorem bO (h:Bx (PEd X e g)):Bx (PQm X e (qN g)):=⟨Nq h.out⟩
theorem dB (h:Bx (PXm X e f)):Bx (PQm X e (qX f)):=⟨Np h.out⟩
theorem bS  : Bx (PAm X [] iP):=⟨Cu ⟩
theorem au (h1:Bx (PQm X e h)) (h2:Bx (PAm X es g)) (hs:Se X e es:=by rfl):Bx (PAm X (e::es) (aQ h g)):=⟨yR h1.out h2.out hs⟩
theorem iw (Fo:Go X.prog X.w X.K X.mg X.base k x (spM F X.K)) (hr:dm jj X.A) (ha:Bx (PAm X (e::es) g)) (hj:k<=jj:=by decide) (hg:Gl X x:=by rfl) (hdb:Dg x:=by decide) (he:Se X e es:=by rfl) (hpl:Sb X pos es:=by rfl):Bx (PEm X (.Call (.Name x p) (e::es) [] pos) (eC F g)):=by
 have ⟨f',fd',ps',hm,hk,hb,Fo⟩:=Fo.go;have hr:=hr.mono hj;exact ⟨B9 Fo hr hg hm hk hb ha.out hdb he hpl⟩
theorem dD (c:Cls X.K C) (Fo:GoM X.prog X.w X.K X.mg X.base k C m (spM F X.K)) (hr:dm jj X.A) (ho:Bx (PXm X o fx)) (ha:Bx (PAm X (e::es) g)) (hj:k<=jj:=by decide) (hst:Se X e es:=by rfl) (hpl:Sb X pos es:=by rfl) (ht:eval (.Call (.Attribute o m apos) (e::es) [] pos) X.env=(do
  let ov <- eval o X.env
  standAt apos.atName
  let (f,first) <- holding [ov] (getMethod ov m pl)
  callWith pos f first (backTo pos (starEach (e::es) X.env)) (backToKw pos (keywordEach [] X.env))):=by rfl):Bx (PEm X (.Call (.Attribute o m apos) (e::es) [] pos) (eM C m F fx g)):=by
 have ⟨f',fd',ps',hm,hb,Fo⟩:=Fo.go;have hr:=hr.mono hj;exact ⟨B6 ho.out c hm Fo hr hb ha.out hst hpl ht⟩
theorem xy (Fo:GoI X.prog X.w X.K X.mg X.base k C (spM F X.K)) (hr:dm jj X.A) (hm:X.mg x=some (.ref C)) (ha:Bx (PAm X (e::es) g)) (hj:k+1<=jj:=by decide) (hg:Gl X x:=by rfl) (hdb:Dg x:=by decide) (he:Se X e es:=by rfl) (hpl:Sb X pos es:=by rfl):Bx (PEm X (.Call (.Name x p) (e::es) [] pos) (eK C F g)):=by
 have ⟨f',fd',ps',M,hb,Fo⟩:=Fo.go;have hr:=hr.mono hj;exact ⟨B7 M Fo hr hg hm hb ha.out hdb he hpl⟩
theorem gP  : Bx (PVm X (.Dict [] [] pos) eD0):=⟨Jh ⟩
theorem G0 (h:Bx (PEo X e g)):Bx (PVm X e (eF g)):=⟨Nw h.out⟩
theorem kQ (hk:PE X kx (tC (kV kc))) (hv:Bx (PVm X value fv)):Bx (PVm X (.Dict [some kx] [value] pos) (eD1 kc fv)):=⟨Jg hk hv.out⟩
theorem eQ (i:Nat) (hN:X.N.Nodup) (hi:X.N[i]?=some x:=by exact rfl) (hx:Loc X.env.scope x:=by walk_at "v") (hf:Xl X x:=by walk_at "v"):Bx (PGm X (.Name x pos) (gNm i)):=⟨yE hN hi hx hf⟩
theorem fJ (hi:Bx (PId X tg iter it)) (hg:Bx (PGm X tg g)) (hb:Bx (lQ X body b)) (hp:PassesOwn (model X.prog X.w) X.A X.env X.xe:=by exact .never) (hc:X.calm=true:=by rfl) (hs:Fs X iter:=by intro _; rfl):Bx (PSm X (.For tg iter body [] pos) (jK it g b)):=⟨BM hp hc hi.out hg.out hb.out hs⟩
theorem tH (i:Nat) (hN:X.N[i]?=some x:=by exact rfl) (hv:Vis X.env.scope x:=by walk_at "w") (hd:Dg x:=by decide) (hcd:Dc x:=by decide):Bx (PTd X (.Name x p) (zR i)):=⟨yi i hN hv hd hcd⟩
theorem tI (i j:Nat) (hN:X.N.Nodup) (hi:X.N[i]?=some x:=by exact rfl) (hj:X.N[j]?=some y:=by exact rfl) (hx:Loc X.env.scope x:=by walk_at "v") (hv:Vis X.env.scope y:=by walk_at "w") (hd:(y == ("__debug__":Str))=false:=by decide) (hcd:(y == ("__classdict__":Str))=false:=by decide) (hbase:attributeBase (.Name y py) "pop" X.env (eval (.Name y py) X.env)=eval (.Name y py) X.env:=by rfl) (hline:(apos.endLine == cpos.line)=true:=by rfl) (hs:swapsWith (.Call (.Attribute (.Name y py) "pop" apos) [] [] cpos) (some (.Name x pos')) pos.line X.env=pure false:=by rfl) (hf:Xl X x:=by walk_at "v"):Bx (PSd X (.Assign [.Name x pos'] (.Call (.Attribute (.Name y py) "pop" apos) [] [] cpos) pos) (pF i j)):=⟨yx i j hN hi hx hj hv hd hcd hbase hline hs hf⟩
theorem qm (hN:X.N.Nodup) (O:cM X scope cl x cs) (hy:X.N[j]?=some y:=by exact rfl) (hz:X.N[i]?=some z:=by exact rfl) (hcd:∀ s H fp C,Bx (PTd (bJ X scope cl (x::cs.map (·.1)) s H fp C) cnd c):=by intros; walk_at "h") (he:∀ s H fp C,Bx (PEd (bJ X scope cl (x::cs.map (·.1)) s H fp C) elt g):=by intros; walk_at "g") (hx:Loc X.env.scope y:=by walk_at "v") (hv:Vis X.env.scope z:=by walk_at "w") (hc:X.calm=true:=by rfl) (hd:(z == ("__debug__":Str))=false:=by decide) (hcl:(z == ("__classdict__":Str))=false:=by decide) (hs:∀ x,foldedSetIterable (.Name z pz) X.env x=pure x:=by intro _; rfl) (hsw:swapsWith (.ListComp elt [⟨.Name x px,.Name z pz,[cnd],0⟩] scope pos) (some (.Name y py)) spos.line X.env=pure true:=by rfl) (hf:Xl X y:=by walk_at "v"):Bx (PSm X (.Assign [.Name y py] (.ListComp elt [⟨.Name x px,.Name z pz,[cnd],0⟩] scope pos) spos) (uJ j i c g cs)):=⟨vc hN hy hx hz hv hc O (λ s H fp C=>(hcd s H fp C).out) (λ s H fp C=>(he s H fp C).out) hd hcl hs hsw hf⟩
theorem xp (ho:Bx (PXm X o px)) (he:Bx (PEd X e g)) (hbase:attributeBase o "extend" X.env (eval o X.env)=eval o X.env:=by rfl) (hfew:((backTo cpos (starEach [e] X.env)).all (λ x=>!x.1)&&(backToKw cpos (keywordEach [] X.env)).all (λ x=>x.1.isSome)
 && decide ([e].length+([]:List Keyword).length+(if ([]:List Keyword).isEmpty then 0 else 1) < 30))=true:=by rfl) (hline:(apos.endLine == cpos.line)=true:=by rfl) (hst:starEach [e] X.env=(false,eval e X.env)::starEach [] X.env:=by rfl) (hplain:(backTo cpos (starEach [] X.env)).any (·.1)=false:=by rfl) (hs:swapsWith (.Call (.Attribute o "extend" apos) [e] [] cpos) none pos.line X.env=pure false:=by rfl):Bx (PSm X (.Expr (.Call (.Attribute o "extend" apos) [e] [] cpos) pos) (sv px g)):=⟨BO ho.out he.out hbase hfew hline hst hplain hs⟩
theorem qk (i:Nat) (hN:X.N.Nodup) (O:cM X scope cl x cs) (hy:X.N[i]?=some y:=by exact rfl) (hi:Bx (PId X (.Name x px) iter it)) (hcd:∀ s H fp C,Bx (PTd (bJ X scope cl (x::cs.map (·.1)) s H fp C) cnd c):=by intros; walk_at "h") (he:∀ s H fp C,Bx (PEd (bJ X scope cl (x::cs.map (·.1)) s H fp C) elt g):=by intros; walk_at "g") (hx:Loc X.env.scope y:=by walk_at "v") (hc:X.calm=true:=by rfl) (hs:Fs X iter:=by intro _; rfl) (hsw:swapsWith (.ListComp elt [⟨.Name x px,iter,[cnd],0⟩] scope pos) (some (.Name y py)) spos.line X.env=pure true:=by rfl) (hf:Xl X y:=by walk_at "v"):Bx (PSm X (.Assign [.Name y py] (.ListComp elt [⟨.Name x px,iter,[cnd],0⟩] scope pos) spos) (jq i (eO (iq it c g cs)))):=⟨uZ hN hy hx hc O hi.out (λ s H fp C=>(hcd s H fp C).out) (λ s H fp C=>(he s H fp C).out) hs hsw hf⟩
theorem GZ (h:Bx (PAd X es g)):Bx (PVm X (.Tuple es x1 pos) (eT g)):=⟨Nt h.out⟩
theorem tJ (hh:X.A.handled=none) (hm:X.mg "sorted"=none) (he:Bx (PEd X e f)) (hg:Gl X "sorted":=by rfl) (hst:starEach [e] X.env=(false,eval e X.env)::starEach [] X.env:=by rfl) (hpl:(backTo pos (starEach [] X.env)).any (·.1)=false:=by rfl):Bx (PEo X (.Call (.Name "sorted" p) [e] [] pos) (rO f)):=⟨yC hh hg hm he.out hst hpl⟩
theorem cB (ha:Bx (PEd X a f)) (hb:Bx (PEd X b g)):Bx (PEd X (.BinOp a .Add b pos) (dOp jB f g)):=iO JE ha hb
theorem tQ (ha:Bx (PEd X a f)) (hb:Bx (PEd X b g)):Bx (PEd X (.BinOp a .Sub b pos) (dOp Hg f g)):=iO Jx ha hb
theorem mo (ha:Bx (PEd X a f)) (hb:Bx (PEd X b g)):Bx (PEd X (.BinOp a .Mult b pos) (dOp vK f g)):=iO JA ha hb
theorem aU (ha:Bx (PEd X a f)) (hb:Bx (PEd X b g)):Bx (PEd X (.BinOp a .FloorDiv b pos) (dOp oDiv f g)):=iO JD ha hb
theorem bM (ha:Bx (PEd X a f)) (hb:Bx (PEd X b g)):Bx (PEd X (.BinOp a .Mod b pos) (dOp oMod f g)):=iO JB ha hb
theorem z6 (ha:Bx (PEd X a f)) (hb:Bx (PEd X b g)):Bx (PEd X (.BinOp a .Pow b pos) (dOp Ax f g)):=iO Jy ha hb
theorem GW (ha:Bx (PEd X a f)) (hb:Bx (PEd X b g)):Bx (PTd X (.Compare a [.Lt] [b] pos) (dT (dOp oLt f g))):=cW NA ha hb 
theorem qh (ha:Bx (PEd X a f)) (hb:Bx (PEd X b g)):Bx (PTd X (.Compare a [.Gt] [b] pos) (dT (dOp oGt f g))):=cW NB ha hb 
theorem LH (ha:Bx (PEd X a f)) (hb:Bx (PEd X b g)):Bx (PTd X (.Compare a [.Is] [b] pos) (dT (dOp JG f g))):=cW JC ha hb 
theorem rV (ha:Bx (PEd X a f)) (hb:Bx (PEd X b g)):Bx (PTd X (.Compare a [.IsNot] [b] pos) (dT (dOp sP f g))):=cW FH ha hb 
theorem MI (ha:Bx (PEd X a f)) (hb:Bx (PEd X b g)) (hm:behindInMarks .In b=false:=by rfl): Bx (PEd X (.Compare a [.In] [b] pos) (dOp vL f g)):=rX FJ ha hb hm
theorem GX (ha:Bx (PEd X a f)) (hb:Bx (PEd X b g)) (hm:behindInMarks .In b=false:=by rfl): Bx (PTd X (.Compare a [.In] [b] pos) (dT (dOp vL f g))):=cW FJ ha hb hm
theorem z5 (ha:Bx (PEd X a f)) (hb:Bx (PEd X b g)) (hm:behindInMarks .NotIn b=false:=by rfl): Bx (PTd X (.Compare a [.NotIn] [b] pos) (dT (dOp iH f g))):=cW yV ha hb hm
theorem A4 (ha:Bx (PEd X a f)) (hb:Bx (PEd X b g)) (hr:dm jj X.A:=by assumption):Bx (PEd X (.Compare a [.Eq] [b] pos) (dOp oEq f g)):=rX (LX hr.units) ha hb 
theorem cq (ha:Bx (PEd X a f)) (hb:Bx (PEd X b g)) (hr:dm jj X.A:=by assumption):Bx (PTd X (.Compare a [.Eq] [b] pos) (dT (dOp oEq f g))):=cW (LX hr.units) ha hb 
theorem m5 (ha:Bx (PEd X a f)) (hb:Bx (PEd X b g)) (hr:dm jj X.A:=by assumption):Bx (PTd X (.Compare a [.NotEq] [b] pos) (dT (dOp oNe f g))):=cW (Nz hr.units) ha hb 
theorem A3 (ha:Bx (PEd X a f)):Bx (PEd X (.UnaryOp .USub a pos) (dUn D8 f)):=DX Jz ha
theorem cA (h:Bx (PEd X e f)) (he:Se X e []:=by rfl):Bx (PAd X [e] (aD f cJ)):=aT h bA he
theorem cQ {e2:Expr} {f2:DE} (h:Bx (PEd X e f)) (h2:Bx (PEd X e2 f2)) (he:Se X e [e2]:=by rfl) (he2:Se X e2 []:=by rfl):Bx (PAd X [e,e2] (aD f (aD f2 cJ))):=aT h (cA h2 he2) he
theorem rY {e2 e3:Expr} {f2 f3:DE} (h:Bx (PEd X e f)) (h2:Bx (PEd X e2 f2)) (h3:Bx (PEd X e3 f3)) (he:Se X e [e2,e3]:=by rfl) (he2:Se X e2 [e3]:=by rfl) (he3:Se X e3 []:=by rfl):Bx (PAd X [e,e2,e3] (aD f (aD f2 (aD f3 cJ)))):=aT h (cQ h2 h3 he2 he3) he
theorem gM (i:Nat) {j:Int} (hN:X.N[i]?=some x:=by exact rfl) (hv:Vis X.env.scope x:=by walk_at "w") (hd:Dg x:=by decide) (hcd:Dc x:=by decide):Bx (PEd X (.Subscript (.Name x p) (.Constant (.int j) k q) r) (dOp oIx (aE i) (dC (.int j)))):=bq (aa i hN hv hd hcd) ab (λ _ _=>rfl)
theorem gC (i:Nat) {x:Str} {f:DE} {pos':Pos} (hN:X.N.Nodup) (he:Bx (PEd X e f)) (hi:X.N[i]?=some x:=by exact rfl) (hx:Loc X.env.scope x:=by walk_at "v") (hs:Sw X e x pos' pos:=by rfl) (hf:Xl X x:=by walk_at "v"):Bx (PSd X (.Assign [.Name x pos'] e pos) (Bo i f)):=xq i hN hi he hx hs hf
def Ic (mg:Str->Option Value) (x:Str) (i:Int):Prop:=∃ t,mg x=some (.int i t)
theorem G1 (h:Ic X.mg x i) (hg:Gl X x:=by rfl) (hd:(x == ("__debug__":Str))=false:=by decide):Bx (PEd X (.Name x pos) (dC (.int i))):=h.elim λ _ h=>⟨Cq (v:=.int i) hg h ⟨_,rfl⟩ (λ _=>.int _) hd⟩
theorem ckN {X:Cx} {scope:Scope} {cl:List (Str×Addr)} {x:Str} (cs:List (Str×Nat)) (h0:closureFor scope X.env=pure cl:=by rfl) (h1:scope.kind=.function:=by rfl) (h2:(scope.names.all λ y=>!(y.2 == .cell))=true:=by rfl)
 (h3:(scope.names.all λ y=>!(y.2 == .local)||(scope.names.lookup y.1 == some .local))=true:=by rfl) (h4:scope.names.lookup x=some .local:=by rfl) (h5:Ee X cl:=by repeat' first | exact trivial | rfl | constructor)
 (h6:((relabel scope X.env).names.all λ p=>!(p.2 == .cell||p.2 == .free)||(cl.lookup p.1).isSome)=true:=by rfl)
 (h7:AllP X scope cs:=by repeat' first | exact trivial | rfl | constructor) (h8:(x::cs.map (·.1)).Nodup:=by decide +kernel):cM X scope cl x cs:=DU cs h0 h1 h2 h3 h4 h5 h6 h7 h8
theorem ck0 {X:Cx} {scope:Scope} {x:Str} (h1:scope.kind=.function:=by rfl) (h2:∀ y ∈ scope.names,y.2≠.cell:=by decide +kernel) (h3:∀ y ∈ scope.names,y.2≠.free:=by decide +kernel) (h4:∀ y ∈ scope.names,y.2=.local->scope.names.lookup y.1=some .local:=by decide +kernel) (h5:scope.names.lookup x=some .local:=by rfl):cM X scope [] x []:=DW h1 h2 h3 h4 h5
section
variable {P:Program} {w:World} {K:W.Frag} {mg:Str->Option Value} {base:Heap} {x q:Str} {st:Stmt} {ps:List Str} {k:Nat} {C:Addr}
abbrev Bdy (P:Program) (w:World) (K:W.Frag) (mg:Str->Option Value) (base:Heap) (k:Nat) (q:Str) (st:Stmt) (N:List Str) (J:Cx->List Stmt->Prop):Prop:=∀ {cdv:Value} {A:Around} {outer:List Env} {s:Shared} {H:Hp} {E:XK} {f:Addr},dm k (A.deeper (envOfC q (aK st) s.heap.objs.size f cdv))->N.Nodup->Bx (J (zX CX0 P w K mg base N q (aK st) f cdv A outer s H E).nox (bY st))
theorem oD (N:List Str) {b:DS} (D:Df K mg x st ps) (h:Bdy P w K mg base k x st N λ X b'=>nt X b' b) (S:dJ N ps (aK st):=by exact ⟨rfl,rfl,rfl,by decide +kernel,rfl,by decide +kernel,by decide +kernel⟩):Go P w K mg base (k+1) x (spF (cN N.length ps.length b) K) :=
 have ⟨a,d,F,m,bi⟩:=D
 ⟨a,d,ps,m,F.kp,bi,F.okD S λ cdv A outer s H E hr=>(h hr S.nd).out⟩
theorem oDm (N:List Str) {b:DS} (D:Mf K C x q st ps) (h:Bdy P w K mg base k q st N λ X b'=>nt X b' b) (S:dJ N ps (aK st):=by exact ⟨rfl,rfl,rfl,by decide +kernel,rfl,by decide +kernel,by decide +kernel⟩):GoM P w K mg base (k+1) C x (spF (cN N.length ps.length b) K) :=
 have ⟨a,d,F,m,bi⟩:=D
 ⟨a,d,ps,m,bi,F.okD S λ cdv A outer s H E hr=>(h hr S.nd).out⟩
theorem oM (N:List Str) {b:DSm} (D:Df K mg x st ps) (h:Bdy P w K mg base k x st N λ X b'=>lQ X b' b) (S:dJ N ps (aK st):=by exact ⟨rfl,rfl,rfl,by decide +kernel,rfl,by decide +kernel,by decide +kernel⟩):Go P w K mg base (k+1) x (spM (jr N.length ps.length b) K) :=
 have ⟨a,d,F,m,bi⟩:=D
 ⟨a,d,ps,m,F.kp,bi,F.okM S λ cdv A outer s H E hr=>(h hr S.nd).out⟩
theorem oMm (N:List Str) {b:DSm} (D:Mf K C x q st ps) (h:Bdy P w K mg base k q st N λ X b'=>lQ X b' b) (S:dJ N ps (aK st):=by exact ⟨rfl,rfl,rfl,by decide +kernel,rfl,by decide +kernel,by decide +kernel⟩):GoM P w K mg base (k+1) C x (spM (jr N.length ps.length b) K) :=
 have ⟨a,d,F,m,bi⟩:=D
 ⟨a,d,ps,m,bi,F.okM S λ cdv A outer s H E hr=>(h hr S.nd).out⟩
theorem oMi (N:List Str) {b:DSm} (D:If K C q st ps) (h:Bdy P w K mg base k q st N λ X b'=>lQ X b' b) (S:dJ N ps (aK st):=by exact ⟨rfl,rfl,rfl,by decide +kernel,rfl,by decide +kernel,by decide +kernel⟩):GoI P w K mg base (k+1) C (spM (jr N.length ps.length b) K) :=
 have ⟨a,d,F,m,bi⟩:=D
 ⟨a,d,ps,m,bi,F.okM S λ cdv A outer s H E hr=>(h hr S.nd).out⟩
theorem oLM (N:List Str) {b:DSm} {a:Addr} {d:FuncData} (F:Fun K x x st a d) (h:Bdy P w K mg base k x st N λ X b'=>lQ X b' b) (S:dJ N ps (aK st):=by exact ⟨rfl,rfl,rfl,by decide +kernel,rfl,by decide +kernel,by decide +kernel⟩):gY P w K mg base CX0 (k+1) a d ps (spM (jr N.length ps.length b) K):=F.okM S λ cdv A outer s H E hr=>(h hr S.nd).out
theorem oNv (D:Df K mg x st ps):Go P w K mg base k x (spF (λ _=>none) K) :=
 have ⟨a,d,F,m,bi⟩:=D
 ⟨a,d,ps,m,F.kp,bi,zJ⟩
theorem Fn0.df {f:Addr} {h:Heap} (e:Fn0 K x st f) (X:K.In h) (G:h.Ns mainGlobals mg) (hb:∀ (kV doc pm:Value) (an:Option Addr) (cdv ct:Value) (us:List Value),us.length=ps.length->bindArgs (PySem.W.fnOf x x (cI st) (bY st) (aK st) .none kV doc pm an cdv ct) ⟨us,[]⟩=pure (ps.zip us)):Df K mg x st ps :=
 have ⟨d,F,m,b⟩:=e.mk X G hb
 ⟨f,d,F,m,b⟩
theorem zd {f:Addr} {oc:Value} {od an:Option Addr} {osl:Array (Option Value)} {kV doc pm cdv ct:Value} (a:W.findIn K (.ref C) x=some (some (.ref f))) (i:PySem.W.isFn K (.ref f)=true) (l:K.lookup f=some ⟨oc,od,.func (PySem.W.fnOf x q (cI st) (bY st) (aK st) .none kV doc pm an cdv ct),osl⟩) (c:PySem.W.codeIn K cdv q=true) (k:W.keepIn K (.ref f)=true) (hb:∀ (kV doc pm:Value) (an:Option Addr) (cdv ct:Value) (us:List Value),us.length=ps.length->bindArgs (PySem.W.fnOf x q (cI st) (bY st) (aK st) .none kV doc pm an cdv ct) ⟨us,[]⟩=pure (ps.zip us)):Mf K C x q st ps :=
 ⟨f,_,kn (st:=st) l c k,⟨a,i,k⟩,(kn (st:=st) l c k).binds hb⟩
theorem Li {f:Addr} {oc:Value} {od an:Option Addr} {osl:Array (Option Value)} {kV doc pm cdv ct:Value} (a:W.findIn K (.ref C) "__init__"=some (some (.ref f))) (i:PySem.W.isFn K (.ref f)=true) (l:K.lookup f=some ⟨oc,od,.func (PySem.W.fnOf "__init__" q (cI st) (bY st) (aK st) .none kV doc pm an cdv ct),osl⟩) (c:PySem.W.codeIn K cdv q=true) (k:W.keepIn K (.ref f)=true) (mk:PySem.W.makesIn K C=true) (kc:W.keepIn K (.ref C)=true) (hb:∀ (kV doc pm:Value) (an:Option Addr) (cdv ct:Value) (us:List Value),us.length=ps.length->bindArgs (PySem.W.fnOf "__init__" q (cI st) (bY st) (aK st) .none kV doc pm an cdv ct) ⟨us,[]⟩=pure (ps.zip us)):If K C q st ps :=
 ⟨f,_,kn (st:=st) l c k,⟨mk,a,i,kc⟩,(kn (st:=st) l c k).binds hb⟩
def Lf (K:W.Frag) (mg:Str->Option Value) (x:Str) (st:Stmt) (y:Str):Prop:=∃ a d,Fun K x x st a d/\mg x=some (.ref a)/\∀ (s:Shared) (u:Value),BindsTo s d ⟨[u],[]⟩ [(y,u)]
theorem Le {f:Addr} {y:Str} {h:Heap} (e:Fn0 K x st f) (X:K.In h) (G:h.Ns mainGlobals mg) (hb:∀ (kV doc pm:Value) (an:Option Addr) (cdv ct:Value) (s:Shared) (u:Value),BindsTo s (PySem.W.fnOf x x (cI st) (bY st) (aK st) .none kV doc pm an cdv ct) ⟨[u],[]⟩ [(y,u)]):Lf K mg x st y:=by
 obtain ⟨od,an,sl,oc,kV,dc,pm,cd,ct,a,l,c,k⟩:=e;exact ⟨_,_,kn (st:=st) l c k,PySem.W.mg_of X G a,hb _ _ _ _ _ _⟩
end
end L2
end
section
local macro_rules | `(tactic| walk_at "v")=>`(tactic| first | exact .inl rfl | exact .inr rfl | assumption)
local macro_rules | `(tactic| walk_at "w")=>`(tactic| first | exact .inl rfl | exact .inr (.inl rfl) | exact .inr (.inr rfl))
end
section
local macro_rules | `(tactic| walk_at "v")=>`(tactic| first | exact .inl rfl | exact .inr rfl | assumption)
local macro_rules | `(tactic| walk_at "w")=>`(tactic| first | exact .inl rfl | exact .inr (.inl rfl) | exact .inr (.inr rfl))
namespace L2
open PySem PySem.Spec PyProof.Rows
theorem lvl {a b n:Nat} (h:a<=b:=by decide):a<=b+n:=Nat.le_add_right_of_le h
end L2
end
section
local macro_rules | `(tactic| walk_at "v")=>`(tactic| first | exact .inl rfl | exact .inr rfl | assumption)
local macro_rules | `(tactic| walk_at "w")=>`(tactic| first | exact .inl rfl | exact .inr (.inl rfl) | exact .inr (.inr rfl))
end
section
namespace L2
open PySem PySem.Spec PyProof.Rows
def gq (c:DTm) (b:DSm):Nat->DSm
 | 0,_=>none
 | n+1,τ=>match c τ with
  | none=>none
  | some (false,τ1)=>some (.next τ1)
  | some (true,τ1)=>match b τ1 with
   | some (.next τ')=>gq c b n τ'
   | some (.cnt τ')=>gq c b n τ'
   | some (.brk τ')=>some (.next τ')
   | r=>r
open Classical in
noncomputable def uC (c:DTm) (b:DSm) (n:Nat):DSm:=λ τ=>gq c b n τ
section
variable {X:Cx} {a b c e o tg iter:Expr} {es:List Expr} {body:List Stmt} {pos apos cpos pos' p:Pos} {x y:Str}
theorem uY {t:DTm} {b:DSm} (n:Nat) (hp:PassesOwn (model X.prog X.w) X.A X.env X.xe) (hc:PTm X c t) (hb:lQ X body b):PSm X (.While c body [] pos) (uC t b n):=(qK hp hc hb).imp λ E σ H ⟨Hs0,H0,nf,ρ,Hs,τ,o,r,e,k⟩=>by
 have e:gq t b n τ=some o:=e;refine ⟨λ m σ H=>∃ Hs2 τ2,bI X.K Hs0 H0 ρ Hs2 H σ τ2/\gq t b m τ2=some o,⟨n,Hs,τ,r,e⟩,?_⟩
 rintro m σ2 H2 ⟨Hs2,τ2,r2,e2⟩
 cases m with
 | zero=>cases e2
 | succ m =>
  unfold gq at e2
  cases q:t τ2 with
  | none=>rw [q] at e2; cases e2
  | some bt =>
   obtain ⟨bb,τ3⟩:=bt;rw [q] at e2;refine ⟨Hs0,H0,nf,ρ,Hs2,τ2,bb,τ3,r2,q,λ Hs3 H3 r3=>?_⟩
   cases bb with
   | false =>
    have e':tT.next τ3=o:=by simpa using e2
    subst e';exact Gn (k σ2 Hs3 H3 r3)
   | true =>
    refine Iw ⟨λ σ' H'=>∃ Hs' τ',bI X.K Hs0 H0 ρ Hs' H' σ' τ'/\gq t b m τ'=some o,?_,?_⟩
    ·rintro σ' H' ⟨Hs',τ',r',e'⟩
     exact ⟨m,by omega,Hs',τ',r',e'⟩
    ·cases q2:b τ3 with
     | none=>simp only [q2] at e2; cases e2
     | some o1 =>
      simp only [q2] at e2;refine ⟨Hs0,H0,nf,ρ,Hs3,τ3,o1,r3,q2,?_⟩
      cases o1 with
      | next τ'=>exact λ σ4 Hs4 H4 r4=>⟨Hs4,τ',r4,e2⟩
      | cnt τ'=>exact λ σ4 Hs4 H4 r4=>⟨Hs4,τ',r4,e2⟩
      | brk τ'=>cases e2; exact k
      | ret s τ'=>cases e2; exact k
theorem yt {fv:DEm} (ho:PXm X o (a6 i)) (he:PEm X e fv)
   (hbase:attributeBase o "append" X.env (eval o X.env)=eval o X.env:=by rfl)
   (hfew:((backTo cpos (starEach [e] X.env)).all (λ x=>!x.1)&&(backToKw cpos (keywordEach [] X.env)).all (λ x=>x.1.isSome)
     && decide ([e].length+([]:List Keyword).length+(if ([]:List Keyword).isEmpty then 0 else 1) < 30))=true:=by rfl)
   (hline:(apos.endLine == cpos.line)=true:=by rfl) (hst:starEach [e] X.env=(false,eval e X.env)::starEach [] X.env:=by rfl) (hplain:(backTo cpos (starEach [] X.env)).any (·.1)=false:=by rfl)
   (hs:swapsWith (.Call (.Attribute o "append" apos) [e] [] cpos) none pos.line X.env=pure false:=by rfl) :
   PSm X (.Expr (.Call (.Attribute o "append" apos) [e] [] cpos) pos) (gE (a6 i) fv) :=
 (dq (mG Z9 PySem.F.slot_list_append PySem.F.type_list_append j0 ho (b7 he dr hst) hbase hfew hline hst hplain) hs).imp λ E σ H ⟨Hs0,H0,nf,ρ,Hs,τ,o,r,e,k⟩=>by
   unfold gE at e;rw [show a6 i τ=some (i,[]) from rfl] at e;simp only [Ye] at e;split at e
   · rename_i cs0 en0
     obtain ⟨⟨s,τ1⟩,e2,e⟩:=bind_some e;obtain ⟨mv,e3,e⟩:=bind_some e;split at e
     ·rename_i cs en
      split at e
      ·rename_i hz
       cases e;refine ⟨Hs0,H0,nf,ρ,Hs,τ,i,[],_,r,rfl,en0,λ rt v1 H1 g1 hrt hq=>⟨(r.grow g1).isList en0 hrt hq,?_⟩⟩;refine ⟨Hs0,H0,nf,ρ,Hs,τ,s,τ1,r.grow g1,e2,λ v Hs2 H2 r2=>?_⟩;have hq2:vAt H2 rt []=some v1:=by cases rt <;> exact hq
       obtain ⟨a,dx,ts,u,fv,rfl,rfl,ha,hl,ku,fin⟩:=r2.vO e3 en hrt hq2;rw [mR hl] at ha;refine ⟨a,_,v,rfl,rfl,ha,by rw [Za]; rw [Za] at hz; exact le5 (Yo hz),?_⟩
       have:=fin ts (.inl 0) [] (.lst (ts.map Kd.v++[v])) (by rw [Zx]; exact .refl _) (by
        have:=lY (dx:=dx) (ts:=ts++[⟨.inl 0,v,mv,fv⟩]);rw [Zi (f:=Kd.v)] at this
        exact this) trivial
       rw [Zi] at this;exact k σ Hs2 _ this
      · cases e
     · cases e
   · cases e
def qc (j:Nat):DEm:=λ τ=>match aZ τ j [] with
 | some (.n .l cs)=>match cs[cs.length - 1]? with
  | some (_,.s d)=>some (.shr d,c4 τ j [] (.n .l cs.dropLast))
  | _=>none
 | _=>none
theorem B5 (j:Nat) (ho:PXm X o (a6 j)) (hbase:attributeBase o "pop" X.env (eval o X.env)=eval o X.env:=by rfl) (hline:(apos.endLine == cpos.line)=true:=by rfl) :
   PEm X (.Call (.Attribute o "pop" apos) [] [] cpos) (qc j) :=
 (Aw Z9 PySem.F.slot_list_pop PySem.F.type_list_pop AD ho hbase hline).imp λ σ H Q ⟨Hs0,H0,nf,ρ,Hs,τ,s,τ',r,e,k⟩=>by
   unfold qc at e;split at e
   ·rename_i cs en
    split at e
    ·rename_i kk d ed
     cases e;refine ⟨Hs0,H0,nf,ρ,Hs,τ,j,[],_,r,rfl,en,λ rt v1 H1 g1 hrt hq=>⟨(r.grow g1).isList en hrt hq,?_⟩⟩;have r1:=r.grow g1;obtain ⟨fp,st⟩:=r1.st;obtain ⟨b,m,em,eg⟩:=dg en;obtain ⟨v,fp1,v1',w1,w2,w3,w4,w5⟩:=st.r6 em eg;rw [hrt] at w1;cases w1;rw [hq] at w2;cases w2;obtain ⟨a,dx,ts,u,h1,h2,h3,h4,h5,h6,h7⟩:=r1.pQ en hrt hq;obtain ⟨a',dx',ts',u',k1,k2,k3,k4,k5,k6,k7,k8,k9⟩:=w3.inv;subst h1;cases k1;rw [mR h4] at h3;rw [mR k5] at k4;have ets:ts.map Kd.v=ts'.map Kd.v:=by rw [h3] at k4; exact HO.lst.inj (Zj k4)
     rw [k3,List.getElem?_map] at ed;obtain ⟨c,hc,ec⟩:=Zm ed;have oc:=k9 c (List.mem_of_getElem? hc);have ecm:c.m=.s d:=(Prod.mk.inj ec).2;rw [ecm] at oc;have ll:ts'.length=ts.length:=by have:=Yn List.length ets; simpa using this.symm
     have hv:(ts.map Kd.v)[(ts.map Kd.v).length - 1]?=some c.v:=by
      rw [ets,List.getElem?_map,Za];rw [Za] at hc;rw [hc];rfl
     refine ⟨a,_,c.v,rfl,rfl,h3,hv,?_⟩
     have rf:=h7 ts.dropLast [] (.lst (ts.map Kd.v).dropLast) (List.dropLast_sublist _) (λ k hk=>by cases hk) (by
      rw [Zx,<- List.map_dropLast]
      exact lY) trivial
     rw [Zx,List.map_dropLast] at rf;obtain ⟨fpf,sf⟩:=rf.st;rw [<- h2] at rf sf;exact k c.v Hs _ ⟨rf.ext,fpf,.shr oc.M6 sf⟩
    · cases e
   · cases e
def eL2 (f g:DEm):DEm:=λ τ=>(f τ).bind λ x=>(toM x.1).bind λ m1=>(g x.2).bind λ y=>(toM y.1).map λ m2=>(.mu false (.n .l [(.inl 0,m1),(.inl 0,m2)]),y.2)
theorem LL {K:W.Frag} {Hs0 H0 Hs H:Hp} {ρ:List (Option Addr)} {σ:St} {τ:List Sm} {v:V} {s:Sm} {m:Mt} (r:bI K Hs0 H0 (none::ρ) Hs H (some v::σ) (s::τ)) (hs:toM s=some m):∃ fq fp,Od K Hs H fq v m/\(∀ c ∈ fq,H0 c=none)/\(∀ c ∈ fq,c ∉ fp)/\StM K H0 Hs H ρ σ τ fp:=by
 obtain ⟨fp0,st⟩:=r.st
 cases st with
 | no st=>cases hs
 | shr h st=>cases hs; exact ⟨[],_,.s h,(λ c hc=>by cases hc),(λ c hc=>by cases hc),st⟩
 | @mu _ _ b _ _ _ _ fq fr od hpn z j st =>
  cases b with
  | true=>cases hs
  | false=>cases hs; exact ⟨fq,fr,od,z,j,st⟩
theorem Jf {e e2:Expr} {f g:DEm} (h1:PVm X e f) (h2:PVm X e2 g) (hst:starEach [e,e2] X.env=(false,eval e X.env)::starEach [e2] X.env:=by rfl) (hst2:starEach [e2] X.env=(false,eval e2 X.env)::starEach [] X.env:=by rfl):PVm X (.List [e,e2] pos) (eL2 f g) :=
 (Au (b7 h1 (b7 h2 dr hst2) hst)).imp λ σ H Q ⟨Hs0,H0,nf,ρ,Hs,τ,s,τ',r,e,k⟩=>by
   obtain ⟨⟨s1,τ1⟩,e1,e⟩:=bind_some e;obtain ⟨m1,e2,e⟩:=bind_some e;obtain ⟨⟨s2,τ2⟩,e3,e⟩:=bind_some e;obtain ⟨m2,e4,e⟩:=Zm e;cases e;refine ⟨Hs0,H0,nf,ρ,Hs,τ,s1,τ1,r,e1,λ v1 Hs1 H1 g1 r1=>?_⟩;obtain ⟨q1,p1,od1,z1,j1,st1⟩:=LL r1 e2
   let H0':Hp:=λ b=>if b ∈ q1 then H1 b else H0 b
   have hin:∀ b,b ∈ q1->H0' b=H1 b:=λ b hb=>if_pos hb
   have hout:∀ b,b ∉ q1->H0' b=H0 b:=λ b hb=>if_neg hb
   have nf':Nf X.H₀ H0':=λ d o u q=>by
    by_cases z:d ∈ q1
    · rw [hin d z]; exact (od1.live d z).2
    · rw [hout d z]; exact nf d o u q
   have ra:bI X.K Hs1 H0' ρ Hs1 H1 σ τ1:=by
    refine ⟨⟨.refl _,r1.ext.sh,λ b o q=>?_,λ b y1 y2=>y1⟩,p1,st1.rebase λ c hc=>?_⟩
    ·by_cases z:b ∈ q1
     · rw [hin b z] at q; exact q
     · rw [hout b z] at q; exact r1.ext.hh b o q
    ·have nc:c ∉ q1:=λ z=>j1 c z hc
     rw [hout c nc];exact (st1.live c hc).2.2
   refine ⟨Hs1,H0',nf',ρ,Hs1,τ1,s2,τ2,ra,e3,λ v2 Hs2 H2 g2 r2=>?_⟩;obtain ⟨q2,p2,od2,z2,j2,st2⟩:=LL r2 e4;refine ⟨by rw [Xp]; exact (by decide:2<=16777216),λ p hp=>?_⟩
   have live1:∀ c ∈ q1,H2 c=H1 c/\Hs2 c=none:=λ c hc=>by
    refine ⟨?_,r2.ext.fr c (od1.live c hc).1 (by rw [hin c hc]; exact (od1.live c hc).2)⟩
    cases q:H1 c with
    | none=>exact absurd q (od1.live c hc).2
    | some u=>exact r2.ext.hh c u ((hin c hc).trans q)
   have apart:∀ c ∈ q1,c ∉ q2:=λ c h1 h2=>by
    have:=z2 c h2;rw [hin c h1] at this;exact (od1.live c h1).2 this
   have apart2:∀ c ∈ q1,c ∉ p2:=λ c h1 h2=>by
    have:=(st2.live c h2).2.2;rw [hin c h1] at this;exact (od1.live c h1).2 this
   have np1:p ∉ q1:=λ h=>by rw [(live1 p h).1] at hp; exact (od1.live p h).2 hp
   have np2:p ∉ q2:=λ h=>(od2.live p h).2 hp
   have npf:p ∉ p2:=st2.new hp;have h0p:H0 p=none:=by have:=r2.ext.hh.free hp; rw [hout p np1] at this; exact this
   have ex:Ext Hs0 H0 Hs2 H2:=⟨r1.ext.ss.trans r2.ext.ss,r2.ext.sh,λ b o q=>by
     by_cases z:b ∈ q1
     · rw [z1 b z] at q; cases q
     · exact r2.ext.hh b o ((hout b z).trans q),λ b y1 y2=>r2.ext.fr b (r1.ext.fr b y1 y2) (by
     by_cases z:b ∈ q1
     · exact absurd (z1 b z) y2
     · rw [hout b z]; exact y2)⟩
   have od:Od X.K Hs2 (upd H2 p (.lst [v1,v2])) (p::(q1++q2)) (.ref p) (.n .l [(.inl 0,m1),(.inl 0,m2)]):=by
    have:=Od.n (K:=X.K) (Hs:=Hs2) (H:=upd H2 p (.lst [v1,v2])) (a:=p) (dx:=0) (t:=.l) (ts:=[⟨.inl 0,v1,m1,q1⟩,⟨.inl 0,v2,m2,q2⟩]) (u:=.lst [v1,v2]) aw (.l _) (ex.sh.free hp) trivial (by
     rw [Z5,Z5,List.flatMap_nil,Zx]
     refine Zw.mpr ⟨λ z=>(Zh.mp z).elim np1 np2,Yb.mpr ⟨od1.nd,od2.nd,λ a ha b hb z=>apart a ha (z ▸ hb)⟩⟩) (λ c hc=>by
     rcases Zl.mp hc with q | q
     ·rw [q]
      exact od1.mv r2.ext.ss λ x hx=>⟨(live1 x hx).2,by rw [ak (show x≠p from λ z=>np1 (z ▸ hx))]; exact (live1 x hx).1⟩
     ·rw [Zt.mp q]
      exact od2.mv (.refl _) λ x hx=>⟨(od2.live x hx).1,ak (show x≠p from λ z=>np2 (z ▸ hx))⟩)
    rw [Z5,Z5,List.flatMap_nil,Zx] at this;exact this
   refine k (.ref p) Hs2 _ ((g1.trans g2).trans (aJ hp _)) ⟨⟨ex.ss,λ b o q=>by rw [ak (show b≠p from λ z=>by rw [z,ex.sh.free hp] at q; cases q)]; exact ex.sh b o q,ex.hh.trans (aJ hp _),ex.fr⟩,_,.mu od (λ e=>by cases e) (λ c hc=>?_) (λ c hc=>?_) (st2.rebase (λ c hc=>?_) |>.mv (.refl _) λ c hc=>⟨(st2.live c hc).1,ak (show c≠p from λ z=>npf (z ▸ hc))⟩)⟩
   ·rcases Zl.mp hc with q | q
    · rw [q]; exact h0p
    ·rcases Zh.mp q with q | q
     · exact z1 c q
     ·have:=z2 c q
      rw [hout c λ z=>apart c z q] at this;exact this
   ·rcases Zl.mp hc with q | q
    · rw [q]; exact npf
    ·rcases Zh.mp q with q | q
     · exact apart2 c q
     · exact j2 c q
   ·have:=(st2.live c hc).2.2
    rw [hout c λ z=>apart2 c z hc] at this;exact this
end
end L2
end
section
namespace L2
open PySem PySem.Spec PyProof.Rows
open Classical in
noncomputable def uH (i jx:Nat) (c:DT):DSm:=λ τ=>match τ[i]? with
 | some (.mu _ (.n .l ((_,.n .d ks)::rest)))=>if ks.length<=100000/\∀ p ∈ ks,c (((DZ i jx τ).set i (.shr (.lst (.dfz (wJ ks)::lu rest)))).set jx (.shr (kD p.1)))=some false then some (.next (τ.set jx .no)) else none
 | _=>none
section
variable {X:Cx} {c k it:Expr} {pos px pz ipos rpos:Pos} {x z:Str} {i jx:Nat} {t:DT} {g:DE}
theorem u9 (hp:PassesOwn (model X.prog X.w) X.A X.env X.xe) (hc:X.calm=true) (ho:PXm X it (nL (a6 i) (dC (.int 0)))) (hN:X.N.Nodup) (hx:X.N[jx]?=some x) (lx:Loc X.env.scope x) (n2:jx≠i)
  (ht:PTd X c t) (hk:PEd X k g) (hs:∀ x,foldedSetIterable it X.env x=pure x:=by intro _; rfl)
  (hfx:X.fn x=true\/X.env.scope.names.lookup x=some .local:=by first | exact .inl rfl | exact .inr rfl | assumption) :
  PSm X (.For (.Name x px) it [.If c [.Return (some k) rpos] [] ipos] [] pos) (uH i jx t) :=
 PS.imp (vf (vg hp hc (vp ho) (jN hN hx lx hfx) (jM (BW ht (jM (nO hk)) pH)) hs)) λ E σ H0' ⟨Hs0,H0,nf,ρ,Hs,τ,o,r',e,k⟩=>by
  unfold uH at e;split at e
  ·rename_i b0 k0 ks rest ei
   split at e
   ·rename_i hl
    obtain ⟨hl,hall⟩:=hl;cases e;have eg:aZ τ i [.i 0]=some (.n .d ks):=by rw [show aZ τ i _=_ from by unfold aZ; rw [ei]]; rfl
    have eg0:aZ τ i []=some (.n .l ((k0,.n .d ks)::rest)):=by unfold aZ; rw [ei]; rfl
    have ep:nL (a6 i) (dC (.int 0)) τ=some (i,[.i 0]):=by
     show (match D.int 0,aZ τ i [] with | .int j,some (.n .l _)=>if 0<=j then some (i,([]:List Stp)++[Stp.i j.toNat]) else none | _,_=>none)=_;rw [eg0];rfl
    refine ⟨Hs0,H0,nf,ρ,Hs,τ,i,[.i 0],_,r',ep,eg,λ rt v1 H g1 hrt hq=>?_⟩;have r:=r'.grow g1;obtain ⟨fp,st⟩:=r.st;obtain ⟨v,fq,fpr,o1,o2,o3,o4,o5⟩:=st.out ei;rw [hrt] at o1;cases o1;obtain ⟨a,dxa,tsa,ua,rfl,rfl,ecs,haH,hlayA,hna,kuA,ndA,rrA⟩:=o2.inv;rw [mR hlayA] at haH
    match tsa,ecs with
    | c0::tr,ecs =>
    obtain ⟨ec0,ecr⟩:=List.cons.inj ecs;have em0:c0.m=.n .d ks:=(Prod.mk.inj ec0).2.symm;have od0:=rrA c0 (Ze ..);rw [em0] at od0;obtain ⟨d,dx,ts,u,ev0,ef0,rfl,hdH,hlay,hnd,ku,ndp,rr⟩:=od0.inv;rw [zp hlay] at hdH
    have ev1:v1=.ref d:=by
     have:vAt H (.ref a) [.i 0]=some c0.v:=by
      unfold vAt;rw [haH];show ((c0.v::tr.map Kd.v)[0]?).bind _=_;show vAt H c0.v []=_;cases c0.v <;> rfl
     rw [this] at hq;rw [<- Zj hq,ev0]
    subst ev1;have dfq:d ∈ a::(c0::tr).flatMap Kd.fp:=Zd _ (Yd.mpr ⟨c0,Ze ..,by rw [ef0]; exact Ze ..⟩);have d0:H0 d=none:=(st.live d (o4 d dfq).2).2.2;have ad:a≠d:=λ z=>(Zw.mp ndA).1 (by rw [z]; exact Yd.mpr ⟨c0,Ze ..,by rw [ef0]; exact Ze ..⟩)
    refine ⟨d,ts.map Kd.kv,rfl,hdH,λ ob=>?_⟩;have dnf:d ∉ fpr:=(o4 d dfq).1;have s1:StM X.K H0 Hs (upd H d (.frz ob (.dK (ts.map Kd.kv)))) ρ σ (τ.set i .no) fpr:=o3.mv (.refl _) λ c hc=>⟨(o3.live c hc).1,ak (show c≠d from λ q=>dnf (by rw [<- q]; exact hc))⟩
    have sm1:b6 Hs (upd H d (.frz ob (.dK (ts.map Kd.kv)))):=λ c w q=>by
     rw [ak (show c≠d from λ y=>by rw [y,hnd] at q; cases q)]; exact r.sm c w q
    have sm0:b6 H0 (upd H d (.frz ob (.dK (ts.map Kd.kv)))):=λ c w q=>by
     rw [ak (show c≠d from λ y=>by rw [y,d0] at q; cases q)]; exact r.ext.hh c w q
    generalize hH1:upd H d (.frz ob (.dK (ts.map Kd.kv)))=H1 at s1 sm1 sm0;have h1d:H1 d=some (.frz ob (.dK (ts.map Kd.kv))):=by rw [<- hH1]; exact aw
    have h1a:H1 a=some (.lst ((c0::tr).map Kd.v)):=by rw [<- hH1,ak ad]; exact haH
    have r1:bI X.K Hs H0 ρ Hs H1 σ (τ.set i .no):=⟨⟨.refl _,sm1,sm0,λ _ h _=>h⟩,fpr,s1⟩
    have fg:∀ {Hs0 H0 Hs H:Hp} {τ:List Sm} {σ:St},bI X.K Hs0 H0 ρ Hs H σ τ->bI X.K Hs0 H0 ρ Hs H σ (τ.set jx .no):=λ {Hs0 H0 Hs H τ σ} r=>by
     obtain ⟨fp,st⟩:=r.st;obtain ⟨fp1,s1,_⟩:=st.Oh jx;exact ⟨r.ext,fp1,s1⟩
    have fs:∀ {Hs0 H0 Hs H:Hp} {τ:List Sm} {σ:St} (a:Option V),bI X.K Hs0 H0 ρ Hs H σ (τ.set jx .no)->bI X.K Hs0 H0 ρ Hs H (σ.set jx a) (τ.set jx .no):=λ {Hs0 H0 Hs H τ σ} a r=>by
     have:=r.forget jx a;rw [List.set_set] at this;exact this
    have rzd:Rp X.K H1 (.ref d) (.dfz (wJ (ts.map Kd.km))):=.dfz (.inr ⟨ob,h1d⟩) (uL λ c hc=>by
      have oc:=rr c hc;have dn:d ∉ c.fp:=λ z=>(Zw.mp ndp).1 (Yd.mpr ⟨c,hc,z⟩)
      exact (oc.mv (.refl _) λ b hb=>⟨(oc.live b hb).1,by rw [<- hH1,ak (show b≠d from λ y=>dn (y ▸ hb))]⟩).rp sm1)
    have rzr:Rps X.K H1 (tr.map Kd.v) (lu (tr.map Kd.km)):=by
     have:=qG (K:=X.K) (H:=H1) (ts:=tr) λ c hc=>by
      have oc:=rrA c (Zd _ hc)
      have dn:d ∉ c.fp:=λ z=>by
       have nd2:=(Zw.mp ndA).2;rw [Z5] at nd2;exact (Yb.mp nd2).2.2 d (by rw [ef0]; exact Ze ..) d (Yd.mpr ⟨c,hc,z⟩) rfl
      exact (oc.mv (.refl _) λ b hb=>⟨(oc.live b hb).1,by rw [<- hH1,ak (show b≠d from λ y=>dn (y ▸ hb))]⟩).rp sm1
     rw [Zv] at this;exact this
    have rzA:Rp X.K H1 (.ref a) (.lst (.dfz (wJ (ts.map Kd.km))::lu rest)):=by
     rw [ecr];refine .lst h1a ?_
     rw [Zg,ev0];exact .cons rzd rzr
    have lts:(ts.map Kd.kv).length=ts.length:=Za _;refine ⟨λ n m σ' H'=>m=ts.length - n/\n<=ts.length/\σ'[i]?=some (some (.ref a))/\b6 H1 H'/\bI X.K Hs H0 ρ Hs H1 σ' ((τ.set i .no).set jx .no)/\bI X.K Hs0 H0 ρ Hs H σ' (τ.set jx .no),⟨ts.length,by simp,Z7 _,hrt,.refl _,fg r1,fg r⟩,?_⟩
    rintro n m σ' H2 ⟨rfl,hn,od,g2,ra,rb⟩
    have h2d:=g2 _ _ h1d
    by_cases hlt:n < ts.length
    ·refine .inr ⟨⟨h2d,by rw [lts]; exact hlt⟩,λ σ'' H'=>σ''[i]?=some (some (.ref a))/\b6 H1 H'/\bI X.K Hs H0 ρ Hs H1 σ'' ((τ.set i .no).set jx .no)/\bI X.K Hs0 H0 ρ Hs H σ'' (τ.set jx .no),λ σ'' H' h=>⟨ts.length - (n+1),by omega,rfl,hlt,h⟩,?_⟩
     rintro w H3 ⟨rfl,kk,ww,hk',rfl⟩
     have hm:∃ p ∈ ts.map Kd.km,p.1=kk:=by
      rw [List.getElem?_map] at hk';obtain ⟨tt,ht',et⟩:=Zm hk';exact ⟨tt.km,Z2.mpr ⟨tt,List.mem_of_getElem? ht',rfl⟩,(Prod.mk.inj et).1⟩
     obtain ⟨p,hp',rfl⟩:=hm;obtain ⟨fpa,sa⟩:=(ra.grow g2).st;obtain ⟨fp8,n8,st8⟩:=StR.ux (i:=i) (rzA.same g2) (sa.bf (ra.grow g2).sm);rw [xW od] at st8;obtain ⟨fp9,n9,st9⟩:=StR.ux (i:=jx) (Dn p.1) st8;have e9:fp9=[]:=List.eq_nil_iff_forall_not_mem.mpr λ c hc=>nomatch n8 c (n9 c hc)
     subst e9;refine ⟨_,_,_,[],false,st9,.refl _,hall p hp',λ Hs7 H7 g7=>Gn ?_⟩;exact ⟨by rw [List.getElem?_set_ne n2]; exact od,g2.trans g7.hh,fs _ ra,fs _ rb⟩
    ·have e0:n=ts.length:=by omega
     subst e0;refine .inl ⟨⟨h2d,by rw [lts]; exact Zn _⟩,d,ob,ts.map Kd.kv,h2d,λ o' u' q=>nf d o' u' q d0,?_⟩
     have smf:b6 H (upd H2 d (.dK (ts.map Kd.kv))):=λ c w q=>by
      by_cases cd:c=d
      ·subst cd
       rw [hdH] at q;cases q;exact aw
      ·rw [ak cd]
       exact g2 _ _ (by rw [<- hH1,ak cd]; exact q)
     exact k _ _ _ (rb.grow smf)
   · cases e
  · cases e
end
end L2
end
section
local macro_rules | `(tactic| walk_at "v")=>`(tactic| first | exact .inl rfl | exact .inr rfl | assumption)
local macro_rules | `(tactic| walk_at "w")=>`(tactic| first | exact .inl rfl | exact .inr (.inl rfl) | exact .inr (.inr rfl))
namespace L2
open PySem PySem.Spec PyProof.Rows
section
variable {X:Cx} {a b c e o k it:Expr} {body:List Stmt} {pos apos cpos pos' p px rpos ipos:Pos} {x y:Str} {i jx:Nat}
theorem qj {t:DTm} {b:DSm} (n:Nat) (hc:Bx (PTm X c t)) (hb:Bx (lQ X body b)) (hp:PassesOwn (model X.prog X.w) X.A X.env X.xe:=by exact .never):Bx (PSm X (.While c body [] pos) (uC t b n)):=⟨uY n hp hc.out hb.out⟩
theorem mh {fv:DEm} (ho:Bx (PXm X o (a6 i))) (he:Bx (PEm X e fv))
 (hbase:attributeBase o "append" X.env (eval o X.env)=eval o X.env:=by rfl)
 (hfew:((backTo cpos (starEach [e] X.env)).all (λ x=>!x.1)&&(backToKw cpos (keywordEach [] X.env)).all (λ x=>x.1.isSome)
   && decide ([e].length+([]:List Keyword).length+(if ([]:List Keyword).isEmpty then 0 else 1) < 30))=true:=by rfl)
 (hline:(apos.endLine == cpos.line)=true:=by rfl) (hst:starEach [e] X.env=(false,eval e X.env)::starEach [] X.env:=by rfl) (hplain:(backTo cpos (starEach [] X.env)).any (·.1)=false:=by rfl)
 (hs:swapsWith (.Call (.Attribute o "append" apos) [e] [] cpos) none pos.line X.env=pure false:=by rfl) :
 Bx (PSm X (.Expr (.Call (.Attribute o "append" apos) [e] [] cpos) pos) (gE (a6 i) fv)):=⟨yt ho.out he.out hbase hfew hline hst hplain hs⟩
theorem xx (j:Nat) (ho:Bx (PXm X o (a6 j))) (hbase:attributeBase o "pop" X.env (eval o X.env)=eval o X.env:=by rfl) (hline:(apos.endLine == cpos.line)=true:=by rfl):Bx (PEm X (.Call (.Attribute o "pop" apos) [] [] cpos) (qc j)):=⟨B5 j ho.out hbase hline⟩
theorem xA {e e2:Expr} {f g:DEm} (h1:Bx (PVm X e f)) (h2:Bx (PVm X e2 g)) (hst:starEach [e,e2] X.env=(false,eval e X.env)::starEach [e2] X.env:=by rfl) (hst2:starEach [e2] X.env=(false,eval e2 X.env)::starEach [] X.env:=by rfl):Bx (PVm X (.List [e,e2] pos) (eL2 f g)):=⟨Jf h1.out h2.out hst hst2⟩
theorem ql {t:DT} {g:DE} (hN:X.N.Nodup) (n2:jx≠i) (ho:Bx (PXm X it (nL (a6 i) (dC (.int 0))))) (ht:Bx (PTd X c t)) (hk:Bx (PEd X k g)) (hx:X.N[jx]?=some x:=by exact rfl) (hp:PassesOwn (model X.prog X.w) X.A X.env X.xe:=by exact .never) (hc:X.calm=true:=by rfl) (lx:Loc X.env.scope x:=by walk_at "v") (hs:∀ x,foldedSetIterable it X.env x=pure x:=by intro _; rfl) (hfx:Xl X x:=by walk_at "v") :
 Bx (PSm X (.For (.Name x px) it [.If c [.Return (some k) rpos] [] ipos] [] pos) (uH i jx t)):=⟨u9 hp hc ho.out hN hx lx n2 ht.out hk.out hs hfx⟩
end
end L2
end
section
local macro_rules | `(tactic| walk_at "v")=>`(tactic| first | exact .inl rfl | exact .inr rfl | assumption)
local macro_rules | `(tactic| walk_at "w")=>`(tactic| first | exact .inl rfl | exact .inr (.inl rfl) | exact .inr (.inr rfl))
namespace N14
open PySem L2
def top (i:Nat):Stmt:=PySem.Challenge.pw_stylehouse_k14_plain_traits.main.body.getD i (.Pass ⟨0,0,0,0⟩)
structure Adr where
 aP:Addr
 af:Addr
structure Txt (K:W.Frag) (mg:Str->Option Value) (t:Adr):Prop where
 v8:mg "Trait"=some (.ref t.aP)
 ir:Cls K t.aP
 eY:cF K t.aP "told"
 AL:mg "Tree"=some (.ref t.af)
 aB:Cls K t.af
 eX:cF K t.af "given"
 cG:cF K t.af "names"
 b9:cF K t.af "holders"
 bo:cF K t.af "boxes"
 bP:cF K t.af "marks"
 ia:cF K t.af "words"
 jd:cF K t.af "rows"
 gA:Df K mg "trait_weight" (top 12) ["told"]
 wQ:Df K mg "is_name" (top 22) ["thing"]
 oH:Df K mg "_law_whole" (top 35) ["_law_found"]
 oB:Df K mg "check_name" (top 28) ["name"]
 tp:Df K mg "trait_of" (top 9) ["told"]
 Lu:Lf K mg "law" (top 43) "_law_script"
 mX:Df K mg "check_place" (top 29) ["place","row"]
 p7:Df K mg "_law_cell" (top 31) ["_law_script","_law_k"]
 tw:Df K mg "_law_mix" (top 32) ["_law_cell_here","_law_way"]
 p4:Df K mg "_law_name" (top 33) ["_law_cell_here","_law_way"]
 wR:Df K mg "beneath" (top 2) ["tree","box"]
 zL:Df K mg "row_of" (top 3) ["tree","box"]
 oA:Df K mg "holders_of" (top 4) ["tree","box"]
 pZ:Df K mg "_law_pool" (top 34) ["_law_script","_law_at"]
 tq:Df K mg "depth_of" (top 5) ["tree","box"]
 wO:Df K mg "spot_of" (top 6) ["tree","box"]
 oz:Df K mg "is_counted" (top 11) ["place","first","step"]
 p5:Df K mg "_law_many" (top 36) ["_law_cell_here","_law_way","_law_most"]
 oI:Df K mg "_law_plain" (top 39) ["_law_cell_here","_law_way","_law_pool_here"]
 kB:Df K mg "has_trait" (top 10) ["tree","box","told"]
 oK:Df K mg "_law_moved" (top 41) ["_law_tree","_law_rows","_law_facts","_law_draw"]
 l8:Df K mg "_law_has" (top 38) ["_law_rows","_law_facts","_law_marks","_law_trait","_law_box"]
 oJ:Df K mg "_law_other" (top 42) ["_law_tree","_law_rows","_law_facts","_law_marks","_law_pool_here","_law_cell_here"]
 p6:Df K mg "_law_grow" (top 37) ["_law_tree","_law_rows","_law_facts","_law_marks","_law_pool_here","_law_cell_here","_law_way"]
 lL:Df K mg "_law_true_of" (top 40) ["_law_trait","_law_tree","_law_rows","_law_facts","_law_marks","_law_told","_law_box"]
 ju:If K t.aP "Trait.__init__" (inClass (top 8) 0) ["self","told"]
 kF:If K t.af "Tree.__init__" (inClass (top 27) 0) ["self","name"]
 lP:Mf K t.aP "weight" "Trait.weight" (inClass (top 8) 2) ["self"]
 oP:Mf K t.af "check" "Tree.check" (inClass (top 27) 2) ["self","box"]
 lO:Mf K t.af "name_of" "Tree.name_of" (inClass (top 27) 11) ["self","box"]
 kC:Mf K t.af "marks_of" "Tree.marks_of" (inClass (top 27) 12) ["self","box"]
 jt:Mf K t.af "holder_of" "Tree.holder_of" (inClass (top 27) 15) ["self","box"]
 kE:Mf K t.af "boxes_of" "Tree.boxes_of" (inClass (top 27) 16) ["self","box"]
 oO:Mf K t.af "enter" "Tree.enter" (inClass (top 27) 1) ["self","holder","name"]
 p9:Mf K t.af "mark" "Tree.mark" (inClass (top 27) 6) ["self","box","word"]
 qb:Mf K t.af "bare" "Tree.bare" (inClass (top 27) 7) ["self","box","word"]
 oS:Mf K t.aP "fits" "Trait.fits" (inClass (top 8) 1) ["self","tree","box"]
 tz:Mf K t.af "put" "Tree.put" (inClass (top 27) 3) ["self","holder","place","name"]
 p8:Mf K t.af "move" "Tree.move" (inClass (top 27) 5) ["self","box","holder","place"]
 II:mg "all"=none
 IH:mg "any"=none
 Ac:mg "bool"=none
 Ba:mg "enumerate"=none
 IG:mg "int"=none
 cU:mg "isinstance"=none
 fu:mg "len"=none
 nA:mg "list"=none
 Ef:mg "max"=none
 iA:mg "range"=none
 iz:mg "reversed"=none
 xP:mg "sorted"=none
 IF:mg "str"=none
 A9:mg "tuple"=none
 lI:Ic mg "LONGEST_NAME" 8
 oe:Ic mg "MOST_BOXES" 90
 j6:Ic mg "MOST_DEEP" 12
 F7:Ic mg "ROOT" 0
abbrev gOD (f:∀ (P:Program) (w:World) (K:W.Frag) (mg:Str->Option Value) (base:Heap),DS->Prop) (t:Adr):Type:={G:DS // ∀ {P w K mg base},Txt K mg t->f P w K mg base G}
abbrev gO0 (f:∀ (P:Program) (w:World) (K:W.Frag) (mg:Str->Option Value) (base:Heap),DS->Prop):Type:={G:DS // ∀ {t P w K mg base},Txt K mg t->f P w K mg base G}
abbrev gFD (k:Nat) (x:Str) (n m:Nat) (P:Program) (w:World) (K:W.Frag) (mg:Str->Option Value) (base:Heap) (G:DS):Prop:=Go P w K mg base k x (spF (cN n m G) K)
abbrev gMD (k:Nat) (C:Addr) (x:Str) (n m:Nat) (P:Program) (w:World) (K:W.Frag) (mg:Str->Option Value) (base:Heap) (G:DS):Prop:=GoM P w K mg base k C x (spF (cN n m G) K)
abbrev gOM (f:∀ (P:Program) (w:World) (K:W.Frag) (mg:Str->Option Value) (base:Heap),DSm->Prop) (t:Adr):Type:={G:DSm // ∀ {P w K mg base},Txt K mg t->f P w K mg base G}
abbrev gFM (k:Nat) (x:Str) (n m:Nat) (P:Program) (w:World) (K:W.Frag) (mg:Str->Option Value) (base:Heap) (G:DSm):Prop:=Go P w K mg base k x (spM (jr n m G) K)
abbrev gMM (k:Nat) (C:Addr) (x:Str) (n m:Nat) (P:Program) (w:World) (K:W.Frag) (mg:Str->Option Value) (base:Heap) (G:DSm):Prop:=GoM P w K mg base k C x (spM (jr n m G) K)
abbrev gIM (k:Nat) (C:Addr) (n m:Nat) (P:Program) (w:World) (K:W.Frag) (mg:Str->Option Value) (base:Heap) (G:DSm):Prop:=GoI P w K mg base k C (spM (jr n m G) K)
section
variable {P:Program} {w:World} {K:W.Frag} {mg:Str->Option Value} {base:Heap} {t:Adr}
set_option maxHeartbeats 4000000
theorem js (T:Txt K mg t):GoI P w K mg base 1 t.aP (uu t.aP ["told"]):=by
 obtain ⟨a,d,F,m,bi⟩:=T.ju;refine ⟨a,d,_,m,bi,?_⟩;refine F.ok (N:=["self","told"]) ⟨rfl,rfl,rfl,by decide +kernel,rfl,by decide +kernel,by decide +kernel⟩ (λ vs H Q E h=>?_) (λ cdv A outer s H vs Q E hr h=>?_)
 ·obtain ⟨x,ws,dx,rfl,hl,_⟩:=h
  exact Yn (·+1) hl
 obtain ⟨x,ws,dx,rfl,hl,hH,q⟩:=h
 obtain ⟨v0,rfl⟩:∃ v0:V,ws=[v0]:=by
  match ws,hl with
  | [v0],_=>exact ⟨v0,rfl⟩
 refine ⟨_,(jM (Ar (pv 0) (pv 1) rfl)),?_⟩;refine ⟨_,rfl,_,rfl,x,_,dx,_,rfl,hH,T.ir,T.eY,(by show 0 < 1000; decide),?_⟩;exact q
noncomputable def fO:gO0 (gFD 1 "is_counted" 3 3):=⟨_,λ T=>oD ["place","first","step"] T.oz λ hr nd =>
 (ah (aM (cq (aa 2) ab) (aj (av (A4 (aa 0) (aa 1)))) aC) (aj (av (A4 (bM (aa 0) (aa 2)) (bM (aa 1) (aa 2))))))⟩
noncomputable def fW:=cN 3 3 (fO).1
theorem nR (T:Txt K mg t):Go P w K mg base 1 "is_counted" (spF (fW) K):=(fO).2 T
noncomputable def br (F:List D->Option Sl):{G:DS // ∀ {t:Adr} {P:Program} {w:World} {K:W.Frag} {mg:Str->Option Value} {base:Heap} (n:Nat),Txt K mg t->Go P w K mg base (0+n) "trait_weight" (spF F K)->Go P w K mg base (0+n+1) "trait_weight" (spF (cN 2 1 G) K)}:=⟨_,λ n T hF=>oD ["told","kind"] T.gA λ hr nd =>
 (ah (gC 1 nd (gM 0)) (ah (aM (cq (aa 1) aN) (aj (av (bG (cQ ab ab)))) aC) (ah (aM (cq (aa 1) aN) (aj (av (bG (cQ ab ab)))) aC) (ah (aM (cq (aa 1) aN) (aj (av (ao (hj:=Zn _) hF hr (cA (gM 0))))) aC) (ah (aM (cq (aa 1) aN) (aj (av (xC hr.units T.Ef (bH (fL ck0 (kR (gM 0)) (λ _ _ _ _=>(ao (hj:=Zn _) hF hr (cA (aa 0)))))) (bG (cQ ab ab))))) aC) (aj (av (bG (cQ ab ab)))))))))⟩
noncomputable def bV:Nat->List D->Option Sl
 | 0=>λ _=>none
 | n+1=>cN 2 1 (br (bV n)).1
theorem fC (T:Txt K mg t):∀ n,Go P w K mg base (0+n) "trait_weight" (spF (bV n) K)
 | 0=>oNv T.gA
 | n+1=>(br _).2 n T (fC T n)
noncomputable def d8:List D->Option Sl:=bV 1
theorem lF (T:Txt K mg t):Go P w K mg base 1 "trait_weight" (spF (d8) K):=fC T 1
noncomputable def kZ:gO0 (gFD 1 "is_name" 1 1):=⟨_,λ T=>oD ["thing"] T.wQ λ hr nd =>
 (ah (aM (dA (eJ (aI xk T.cU (cQ (aa 0) (kT (n:="str") T.IF))))) (aj (av cu)) aC) (ah (aM (dA (kN He He ab (aI kK T.fu (cA (aa 0))) (G1 T.lI))) (aj (av cu)) aC) (aj (av (aI (LF rfl) T.II (cA (bH (fL ck0 (xB (aa 0)) (λ _ _ _ _=>(tP FI FI aN (aa 0) aN))))))))))⟩
noncomputable def lp:=cN 1 1 (kZ).1
theorem vG (T:Txt K mg t):Go P w K mg base 1 "is_name" (spF (lp) K):=(kZ).2 T
noncomputable def fT (t:Adr):gOM (gMM 1 t.af "enter" 4 3) t:=⟨_,λ T=>oMm ["self","holder","name","box"] T.oO λ hr nd =>
 (ae (aG 3 nd (he:=aq (ji (bQ T.aB T.eX (aa 0))))) (ae (cX T.aB T.eX (ar 0) (aq (a5 (cB (aa 3) ab)))) (ae (be (dz hr) (cz T.aB T.cG (ar 0)) (aa 3) (aq (a5 (aa 2)))) (ae (be (dz hr) (cz T.aB T.b9 (ar 0)) (aa 3) (aq (a5 (aa 1)))) (ae (be (dz hr) (cz T.aB T.bo (ar 0)) (aa 3) (aq (eL (bp bA)))) (ae (be (dz hr) (cz T.aB T.bP (ar 0)) (aa 3) (aq gP)) (ae (be (dz hr) (cz T.aB T.ia (ar 0)) (aa 3) (aq (eL (bp bA)))) (ae (be (dz hr) (cz T.aB T.jd (ar 0)) (aa 3) (aq (a5 (bG bA)))) (ay (cb (aq (a5 (aa 3)))))))))))))⟩
noncomputable def fZ (t:Adr):=jr 4 3 (fT t).1
theorem jc (T:Txt K mg t):GoM P w K mg base 1 t.af "enter" (spM (fZ t) K):=(fT t).2 T
noncomputable def fU (t:Adr):gOD (gMD 1 t.af "check" 2 2) t:=⟨_,λ T=>oDm ["self","box"] T.oP λ hr nd =>
 (aj (aM (jh hr.units rfl (aa 1) (bQ T.aB T.cG (aa 0))) (aj gO) aC))⟩
noncomputable def dZ (t:Adr):=cN 2 2 (fU t).1
theorem bD (T:Txt K mg t):GoM P w K mg base 1 t.af "check" (spF (dZ t) K):=(fU t).2 T
noncomputable def fe:gO0 (gFD 1 "check_place" 2 2):=⟨_,λ T=>oD ["place","row"] T.mX λ hr nd =>
 (aj (aM (dA (kN He He ab (aa 0) (aI kK T.fu (cA (aa 1))))) (aj gO) aC))⟩
noncomputable def fh:=cN 2 2 (fe).1
theorem h9 (T:Txt K mg t):Go P w K mg base 1 "check_place" (spF (fh) K):=(fe).2 T
noncomputable def gU:gO0 (gFD 1 "_law_cell" 2 2):=⟨_,λ T=>oD ["_law_script","_law_k"] T.p7 λ hr nd =>
 (ah (aM (GW (aa 1) (aI kK T.fu (cA (aa 0)))) (aj (av (bq (aa 0) (aa 1)))) aC) (aj (av ab)))⟩
noncomputable def aX:=cN 2 2 (gU).1
theorem bu (T:Txt K mg t):Go P w K mg base 1 "_law_cell" (spF (aX) K):=(gU).2 T
noncomputable def iT:gO0 (gFD 1 "_law_mix" 3 2):=⟨_,λ T=>oD ["_law_cell_here","_law_way","_law_first"] T.tw λ hr nd =>
 (ah (gC 2 nd (bM (cB (mo (aa 0) ab) (mo (aa 1) ab)) ab)) (aj (av (bM (mo (aa 2) (cB ab (mo ab (aa 1)))) ab))))⟩
noncomputable def cS:=cN 3 2 (iT).1
theorem cg (T:Txt K mg t):Go P w K mg base 1 "_law_mix" (spF (cS) K):=(iT).2 T
noncomputable def jk:gO0 (gFD 1 "_law_whole" 1 1):=⟨_,λ T=>oD ["_law_found"] T.oH λ hr nd =>
 (aj (av (jE (aI xk T.cU (cQ (aa 0) (kT (n:="int") T.IG))) (m8 (m9 (aI xk T.cU (cQ (aa 0) (kT (n:="bool") T.Ac))))))))⟩
noncomputable def jm:=cN 1 1 (jk).1
theorem jb (T:Txt K mg t):Go P w K mg base 1 "_law_whole" (spF (jm) K):=(jk).2 T
noncomputable def a9 (F:List D->Option Sl):{G:DS // ∀ {t:Adr} {P:Program} {w:World} {K:W.Frag} {mg:Str->Option Value} {base:Heap} (n:Nat),Txt K mg t->Go P w K mg base (0+n) "_law_has" (spF F K)->Go P w K mg base (0+n+1) "_law_has" (spF (cN 9 5 G) K)}:=⟨_,λ n T hF=>oD ["_law_rows","_law_facts","_law_marks","_law_trait","_law_box","_law_kind","_law_one","_law_row","_law_place"] T.l8 λ hr nd =>
 (ah (gC 5 nd (gM 3)) (ah (aM (cq (aa 5) aN) (aj (av (A4 (bq (aV hr.units (λ _ _=>rfl) (aa 1) (aa 4)) ab) (gM 3)))) aC) (ah (aM (cq (aa 5) aN) (aj (av (MI (gM 3) (aV hr.units (λ _ _=>rfl) (aa 2) (aa 4))))) aC) (ah (aM (cq (aa 5) aN) (aj (av (m9 (ao (hj:=Zn _) hF hr (aT (aa 0) (aT (aa 1) (rY (aa 2) (gM 3) (aa 4)))))))) aC) (ah (aM (cq (aa 5) aN) (ah (xr (kR (gM 3)) (tM 6 nd) (aj (aM (eJ (ao (hj:=Zn _) hF hr (aT (aa 0) (aT (aa 1) (rY (aa 2) (aa 6) (aa 4)))))) (aj (av cu)) aC))) (aj (av cu))) aC) (ah (aM (cq (aa 5) aN) (aj (av cu)) aC) (ah (gC 7 nd (bH (bp (cA (aa 4))))) (ah (aM (rV (bq (aV hr.units (λ _ _=>rfl) (aa 1) (aa 4)) ab) iy) (aj (gC 7 nd (bH (pf T.nA (cA (aV hr.units (λ _ _=>rfl) (aa 0) (bq (aV hr.units (λ _ _=>rfl) (aa 1) (aa 4)) ab))))))) aC) (ah (aM (cq (aa 5) aN) (aj (gC 7 nd (bH (m6 T.nA T.iz (aa 7))))) aC) (ah (gC 8 nd (cB (rW (aa 7) (aa 4)) ab)) (ah (aM (cq (gM 3) ab) (aj (av (A4 (aa 8) (gM 3)))) aC) (aj (av (A4 (bM (tQ (aa 8) (gM 3)) (gM 3)) ab))))))))))))))⟩
noncomputable def iQ:Nat->List D->Option Sl
 | 0=>λ _=>none
 | n+1=>cN 9 5 (a9 (iQ n)).1
theorem jO (T:Txt K mg t):∀ n,Go P w K mg base (0+n) "_law_has" (spF (iQ n) K)
 | 0=>oNv T.l8
 | n+1=>(a9 _).2 n T (jO T n)
noncomputable def mr:List D->Option Sl:=iQ 1
theorem sJ (T:Txt K mg t):Go P w K mg base 1 "_law_has" (spF (mr) K):=jO T 1
noncomputable def d7 (t:Adr):gOD (gMD 2 t.aP "weight" 1 1) t:=⟨_,λ T=>oDm ["self"] T.lP λ hr nd =>
 (aj (av (ao (lF T) hr (cA (bQ T.ir T.eY (aa 0))))))⟩
noncomputable def eA (t:Adr):=cN 1 1 (d7 t).1
theorem lH (T:Txt K mg t):GoM P w K mg base 2 t.aP "weight" (spF (eA t) K):=(d7 t).2 T
noncomputable def d6 (t:Adr):gOD (gMD 2 t.af "name_of" 2 2) t:=⟨_,λ T=>oDm ["self","box"] T.lO λ hr nd =>
 (ah (gj (a8 T.aB (bD T) hr (aa 0) (cA (aa 1)))) (aj (av (aV hr.units (λ _ _=>rfl) (bQ T.aB T.cG (aa 0)) (aa 1)))))⟩
noncomputable def d9 (t:Adr):=cN 2 2 (d6 t).1
theorem lG (T:Txt K mg t):GoM P w K mg base 2 t.af "name_of" (spF (d9 t) K):=(d6 t).2 T
noncomputable def dG (t:Adr):gOD (gMD 2 t.af "marks_of" 2 2) t:=⟨_,λ T=>oDm ["self","box"] T.kC λ hr nd =>
 (ah (gj (a8 T.aB (bD T) hr (aa 0) (cA (aa 1)))) (aj (mj (tJ hr.hd T.xP (aV hr.units (λ _ _=>rfl) (bQ T.aB T.bP (aa 0)) (aa 1))))))⟩
noncomputable def dM (t:Adr):=cN 2 2 (dG t).1
theorem jT (T:Txt K mg t):GoM P w K mg base 2 t.af "marks_of" (spF (dM t) K):=(dG t).2 T
noncomputable def c5 (t:Adr):gOD (gMD 2 t.af "holder_of" 2 2) t:=⟨_,λ T=>oDm ["self","box"] T.jt λ hr nd =>
 (ah (gj (a8 T.aB (bD T) hr (aa 0) (cA (aa 1)))) (aj (av (aV hr.units (λ _ _=>rfl) (bQ T.aB T.b9 (aa 0)) (aa 1)))))⟩
noncomputable def bT (t:Adr):=cN 2 2 (c5 t).1
theorem cZ (T:Txt K mg t):GoM P w K mg base 2 t.af "holder_of" (spF (bT t) K):=(c5 t).2 T
noncomputable def dH (t:Adr):gOD (gMD 2 t.af "boxes_of" 2 2) t:=⟨_,λ T=>oDm ["self","box"] T.kE λ hr nd =>
 (ah (gj (a8 T.aB (bD T) hr (aa 0) (cA (aa 1)))) (aj (mj (pf T.nA (cA (aV hr.units (λ _ _=>rfl) (bQ T.aB T.bo (aa 0)) (aa 1)))))))⟩
noncomputable def cK (t:Adr):=cN 2 2 (dH t).1
theorem du (T:Txt K mg t):GoM P w K mg base 2 t.af "boxes_of" (spF (cK t) K):=(dH t).2 T
noncomputable def fQ:gO0 (gFD 2 "check_name" 1 1):=⟨_,λ T=>oD ["name"] T.oB λ hr nd =>
 (aj (aM (dA (eJ (ao (vG T) hr (cA (aa 0))))) (aj gO) aC))⟩
noncomputable def fY:=cN 1 1 (fQ).1
theorem dS (T:Txt K mg t):Go P w K mg base 2 "check_name" (spF (fY) K):=(fQ).2 T
noncomputable def gS:gO0 (gFD 2 "_law_name" 4 2):=⟨_,λ T=>oD ["_law_cell_here","_law_way","_law_letters","_law_size"] T.p4 λ hr nd =>
 (ah (gC 2 nd aN) (ah (gC 3 nd (cB ab (bM (ao (cg T) hr (cQ (aa 0) (cB (aa 1) ab))) ab))) (aj (av (xE aN (bH (fL (ckN [("_law_letters",2),("_law_cell_here",0),("_law_way",1)]) (cE T.iA (cA (aa 3))) (λ _ _ _ _=>(bq (aa 1) (bM (ao (cg T) hr (cQ (aa 2) (cB (aa 3) (mo ab (aa 0))))) ab))))))))))⟩
noncomputable def fj:=cN 4 2 (gS).1
theorem jR (T:Txt K mg t):Go P w K mg base 2 "_law_name" (spF (fj) K):=(gS).2 T
noncomputable def ff:gO0 (gFD 2 "_law_many" 4 3):=⟨_,λ T=>oD ["_law_cell_here","_law_way","_law_most","_law_draw"] T.p5 λ hr nd =>
 (ah (gC 3 nd (ao (cg T) hr (cQ (aa 0) (aa 1)))) (ah (aM (qh (bM (aa 3) ab) ab) (aj (av (tQ (aa 2) (bM (aU (aa 3) ab) ab)))) aC) (aj (av (bM (aU (aa 3) ab) (cB (aa 2) ab))))))⟩
noncomputable def g6:=cN 4 3 (ff).1
theorem pN (T:Txt K mg t):Go P w K mg base 2 "_law_many" (spF (g6) K):=(ff).2 T
noncomputable def dW:gO0 (gFD 2 "_law_plain" 7 3):=⟨_,λ T=>oD ["_law_cell_here","_law_way","_law_pool_here","_law_draw","_law_kind","_law_first","_law_every"] T.oI λ hr nd =>
 (ah (gC 3 nd (ao (cg T) hr (cQ (aa 0) (aa 1)))) (ah (gC 4 nd (bM (aa 3) ab)) (ah (aM (fM (jD (cq (aa 4) ab) (kL (cq (aa 4) ab)))) (aj (av (bG (cA aN)))) aC) (ah (aM (cq (aa 4) ab) (aj (av (bG (cQ aN (bq (aa 2) (bM (aU (aa 3) ab) ab)))))) aC) (ah (aM (cq (aa 4) ab) (aj (av (bG (cQ aN (bq (aa 2) (bM (aU (aa 3) ab) ab)))))) aC) (ah (gC 5 nd (bM (aU (aa 3) ab) ab)) (ah (gC 6 nd (bM (aU (aa 3) ab) ab)) (ah (aM (cq (bM (aU (aa 3) ab) ab) ab) (ah (gC 5 nd (bM (aa 0) (z6 ab ab))) (aj (gC 6 nd (aU (aa 3) ab)))) aC) (ah (aM (cq (bM (aU (aa 3) ab) ab) ab) (aj (gC 6 nd (bM (aa 0) (z6 ab ab)))) aC) (aj (av (bG (rY (bq (bH (bp (cQ aN aN))) (bM (aa 4) ab)) (aa 5) (aa 6))))))))))))))⟩
noncomputable def jn:=cN 7 3 (dW).1
theorem nU (T:Txt K mg t):Go P w K mg base 2 "_law_plain" (spF (jn) K):=(dW).2 T
noncomputable def lh (t:Adr):gOD (gFD 3 "beneath" 5 2) t:=⟨_,λ T=>oD ["tree","box","found","left","one"] T.wR λ hr nd =>
 (ah (iL 2 nd (he:=bp bA)) (ah (iL 3 nd (he:=m6 T.nA T.iz (a8 T.aB (du T) hr (aa 0) (cA (aa 1))))) (ah (kP (tH 3) (ah (tI 4 3 nd) (ah (pe 2 (he:=aa 4)) (aj (xt 3 (he:=bH (m6 T.nA T.iz (a8 T.aB (du T) hr (aa 0) (cA (aa 4)))))))))) (aj (mi 2)))))⟩
noncomputable def lr (t:Adr):=cN 5 2 (lh t).1
theorem vH (T:Txt K mg t):Go P w K mg base 3 "beneath" (spF (lr t) K):=(lh t).2 T
noncomputable def nu (t:Adr):gOD (gFD 3 "row_of" 3 2) t:=⟨_,λ T=>oD ["tree","box","holder"] T.zL λ hr nd =>
 (ah (gC 2 nd (a8 T.aB (cZ T) hr (aa 0) (cA (aa 1)))) (aj (av (xF (LH (aa 2) iy) (bH (bp (cA (aa 1)))) (a8 T.aB (du T) hr (aa 0) (cA (aa 2)))))))⟩
noncomputable def nv (t:Adr):=cN 3 2 (nu t).1
theorem yW (T:Txt K mg t):Go P w K mg base 3 "row_of" (spF (nv t) K):=(nu t).2 T
noncomputable def fP (t:Adr):gOD (gFD 3 "holders_of" 4 2) t:=⟨_,λ T=>oD ["tree","box","found","holder"] T.oA λ hr nd =>
 (ah (iL 2 nd (he:=bp bA)) (ah (gC 3 nd (a8 T.aB (cZ T) hr (aa 0) (cA (aa 1)))) (ah (kP (rV (aa 3) iy) (ah (pe 2 (he:=aa 3)) (aj (gC 3 nd (a8 T.aB (cZ T) hr (aa 0) (cA (aa 3))))))) (aj (mi 2)))))⟩
noncomputable def fX (t:Adr):=cN 4 2 (fP t).1
theorem nT (T:Txt K mg t):Go P w K mg base 3 "holders_of" (spF (fX t) K):=(fP t).2 T
noncomputable def iR (t:Adr):gOD (gFD 3 "trait_of" 1 1) t:=⟨_,λ T=>oD ["told"] T.tp λ hr nd =>
 (aj (av (xD (js T) hr T.v8 (cA (aa 0)))))⟩
noncomputable def iV (t:Adr):=cN 1 1 (iR t).1
theorem sI (T:Txt K mg t):Go P w K mg base 3 "trait_of" (spF (iV t) K):=(iR t).2 T
noncomputable def dI (t:Adr):gOM (gIM 3 t.af 2 2) t:=⟨_,λ T=>oMi ["self","name"] T.kF λ hr nd =>
 (ae (bz (ao (dS T) hr (cA (aa 1)))) (ae (cX T.aB T.eX (ar 0) (aq (a5 ab))) (ae (cX T.aB T.cG (ar 0) (aq gP)) (ae (cX T.aB T.b9 (ar 0) (aq gP)) (ae (cX T.aB T.bo (ar 0) (aq gP)) (ae (cX T.aB T.bP (ar 0) (aq gP)) (ae (cX T.aB T.ia (ar 0) (aq gP)) (ae (cX T.aB T.jd (ar 0) (aq gP)) (ay (bU (dD T.aB (jc T) hr (ar 0) (au (bO iy) (au (bO (aa 1)) bS)))))))))))))⟩
noncomputable def cL (t:Adr):=jr 2 2 (dI t).1
theorem jV (T:Txt K mg t):GoI P w K mg base 3 t.af (spM (cL t) K):=(dI t).2 T
noncomputable def gW (t:Adr):gOM (gMM 3 t.af "mark" 3 3) t:=⟨_,λ T=>oMm ["self","box","word"] T.p9 λ hr nd =>
 (ae (bz (a8 T.aB (bD T) hr (aa 0) (cA (aa 1)))) (ae (bz (ao (dS T) hr (cA (aa 2)))) (ae (bF (bZ (xn hr.units rfl (aa 2) (aV hr.units (λ _ _=>rfl) (bQ T.aB T.bP (aa 0)) (aa 1)))) (ay (cb (aq (a5 cu)))) bc) (ae (be (dz hr) (c9 (dz hr) (λ _ _=>rfl) (cz T.aB T.bP (ar 0)) (aa 1)) (aa 2) (aq (a5 cu))) (ay (cb (aq (a5 cu))))))))⟩
noncomputable def cD (t:Adr):=jr 3 3 (gW t).1
theorem jU (T:Txt K mg t):GoM P w K mg base 3 t.af "mark" (spM (cD t) K):=(gW t).2 T
noncomputable def gX (t:Adr):gOM (gMM 3 t.af "bare" 3 3) t:=⟨_,λ T=>oMm ["self","box","word"] T.qb λ hr nd =>
 (ae (bz (a8 T.aB (bD T) hr (aa 0) (cA (aa 1)))) (ae (bz (ao (dS T) hr (cA (aa 2)))) (ae (bF (bZ (jh hr.units rfl (aa 2) (aV hr.units (λ _ _=>rfl) (bQ T.aB T.bP (aa 0)) (aa 1)))) (ay (cb (aq (a5 cu)))) bc) (ae (xo ⟨rfl,rfl,rfl,rfl⟩ (c9 (dz hr) (λ _ _=>rfl) (cz T.aB T.bP (ar 0)) (aa 1)) (aa 2)) (ay (cb (aq (a5 cu))))))))⟩
noncomputable def fk (t:Adr):=jr 3 3 (gX t).1
theorem pP (T:Txt K mg t):GoM P w K mg base 3 t.af "bare" (spM (fk t) K):=(gX t).2 T
noncomputable def gR:gO0 (gFD 3 "_law_pool" 9 2):=⟨_,λ T=>oD ["_law_script","_law_at","_law_letters","_law_one","_law_draw","_law_place","_law_sign","_law_two","_law_three"] T.pZ λ hr nd =>
 (ah (gC 2 nd aN) (ah (gC 3 nd (ao (jR T) hr (cQ (ao (bu T) hr (cQ (aa 0) (aa 1))) ab))) (ah (gC 4 nd (ao (cg T) hr (cQ (ao (bu T) hr (cQ (aa 0) (cB (aa 1) ab))) ab))) (ah (gC 5 nd (bM (aa 4) (aI kK T.fu (cA (aa 3))))) (ah (gC 6 nd (bq (aa 2) (bM (aU (aa 4) ab) ab))) (ah (gC 7 nd (cB (cB (m7 (aa 3) iN (iM (aa 5))) (aa 6)) (m7 (aa 3) (iM (cB (aa 5) ab)) iN))) (ah (gC 8 nd (m7 (cB (aa 3) (aa 6)) (iM (A3 ab)) iN)) (aj (av (bH (bp (aT (aa 3) (rY (aa 7) (aa 8) (ao (jR T) hr (cQ (ao (bu T) hr (cQ (aa 0) (cB (aa 1) ab))) ab)))))))))))))))⟩
noncomputable def gZ:=cN 9 2 (gR).1
theorem pM (T:Txt K mg t):Go P w K mg base 3 "_law_pool" (spF (gZ) K):=(gR).2 T
noncomputable def iS (t:Adr):gOD (gFD 4 "depth_of" 2 2) t:=⟨_,λ T=>oD ["tree","box"] T.tq λ hr nd =>
 (aj (av (aI kK T.fu (cA (ao (nT T) hr (cQ (aa 0) (aa 1)))))))⟩
noncomputable def iW (t:Adr):=cN 2 2 (iS t).1
theorem gf (T:Txt K mg t):Go P w K mg base 4 "depth_of" (spF (iW t) K):=(iS t).2 T
noncomputable def kY (t:Adr):gOD (gFD 4 "spot_of" 3 2) t:=⟨_,λ T=>oD ["tree","box","row"] T.wO λ hr nd =>
 (ah (gC 2 nd (ao (yW T) hr (cQ (aa 0) (aa 1)))) (aj (av (bG (cQ (cB (rW (aa 2) (aa 1)) ab) (aI kK T.fu (cA (aa 2))))))))⟩
noncomputable def lj (t:Adr):=cN 3 2 (kY t).1
theorem vF (T:Txt K mg t):Go P w K mg base 4 "spot_of" (spF (lj t) K):=(kY t).2 T
noncomputable def aW (t:Adr) (F:List D->Option Sl):{G:DS // ∀ {P:Program} {w:World} {K:W.Frag} {mg:Str->Option Value} {base:Heap} (n:Nat),Txt K mg t->Go P w K mg base (4+n) "has_trait" (spF F K)->Go P w K mg base (4+n+1) "has_trait" (spF (cN 6 3 G) K)}:=⟨_,λ n T hF=>oD ["tree","box","told","kind","spot","place"] T.kB λ hr nd =>
 (ah (gC 3 nd (gM 2)) (ah (aM (cq (aa 3) aN) (aj (av cu)) aC) (ah (aM (cq (aa 3) aN) (aj (av (A4 (a8 T.aB (hj:=lvl) (lG T) hr (aa 0) (cA (aa 1))) (gM 2)))) aC) (ah (aM (cq (aa 3) aN) (aj (av (MI (gM 2) (a8 T.aB (hj:=lvl) (jT T) hr (aa 0) (cA (aa 1)))))) aC) (ah (aM (cq (aa 3) aN) (aj (av (m9 (ao (hj:=Zn _) hF hr (rY (aa 0) (aa 1) (gM 2)))))) aC) (ah (aM (cq (aa 3) aN) (aj (av (aI (LD rfl) T.IH (cA (bH (fL (ckN [("tree",0),("box",1)]) (kR (gM 2)) (λ _ _ _ _=>(ao (hj:=Zn _) hF hr (rY (aa 1) (aa 2) (aa 0)))))))))) aC) (ah (gC 4 nd (ao (hj:=lvl) (vF T) hr (cQ (aa 0) (aa 1)))) (ah (gC 5 nd (xF (cq (aa 3) aN) (gM 4) (cB (tQ (gM 4) (gM 4)) ab))) (aj (av (ao (hj:=lvl) (nR T) hr (rY (aa 5) (gM 2) (gM 2)))))))))))))⟩
noncomputable def gQ (t:Adr):Nat->List D->Option Sl
 | 0=>λ _=>none
 | n+1=>cN 6 3 (aW t (gQ t n)).1
theorem ja (T:Txt K mg t):∀ n,Go P w K mg base (4+n) "has_trait" (spF (gQ t n) K)
 | 0=>oNv T.kB
 | n+1=>(aW t _).2 n T (ja T n)
noncomputable def lq (t:Adr):List D->Option Sl:=gQ t 1
theorem pL (T:Txt K mg t):Go P w K mg base 5 "has_trait" (spF (lq t) K):=ja T 1
noncomputable def iU (t:Adr):gOM (gMM 5 t.af "put" 5 4) t:=⟨_,λ T=>oMm ["self","holder","place","name","box"] T.tz λ hr nd =>
 (ae (bz (a8 T.aB (bD T) hr (aa 0) (cA (aa 1)))) (ae (bz (ao (h9 T) hr (cQ (aa 2) (aV hr.units (λ _ _=>rfl) (bQ T.aB T.bo (aa 0)) (aa 1))))) (ae (bz (ao (dS T) hr (cA (aa 3)))) (ae (bF (bZ (qh (cB (aI md T.fu (cA (bQ T.aB T.cG (aa 0)))) ab) (G1 T.oe))) (ay fc) bc) (ae (bF (bZ (qh (cB (ao (gf T) hr (cQ (aa 0) (aa 1))) ab) (G1 T.j6))) (ay fc) bc) (ae (aG 4 nd (he:=dD T.aB (jc T) hr (ar 0) (au (bO (aa 1)) (au (bO (aa 3)) bS)))) (ae (iu (c9 (dz hr) (λ _ _=>rfl) (cz T.aB T.bo (ar 0)) (aa 1)) (aa 2) (a5 (aa 4))) (ay (cb (aq (a5 (aa 4))))))))))))⟩
noncomputable def iX (t:Adr):=jr 5 4 (iU t).1
theorem sL (T:Txt K mg t):GoM P w K mg base 5 t.af "put" (spM (iX t) K):=(iU t).2 T
noncomputable def dF (t:Adr):gOM (gMM 5 t.af "move" 7 4) t:=⟨_,λ T=>oMm ["self","box","holder","place","under","row","lowest"] T.p8 λ hr nd =>
 (ae (bz (a8 T.aB (bD T) hr (aa 0) (cA (aa 1)))) (ae (bz (a8 T.aB (bD T) hr (aa 0) (cA (aa 2)))) (ae (aG 4 nd (he:=aq (G0 (xw (vH T) hr (cQ (aa 0) (aa 1)))))) (ae (bF (bZ (fM (jD (cq (aa 1) (G1 T.F7)) (jD (cq (aa 2) (aa 1)) (kL (GX (aa 2) (aa 4))))))) (ay fc) bc) (ae (qk 5 nd (ckN [("box",1)]) (hi:=kS (aV hr.units (λ _ _=>rfl) (bQ T.aB T.bo (aa 0)) (aa 2))) (hcd:=(λ _ _ _ _=>(m5 (aa 0) (aa 1)))) (he:=(λ _ _ _ _=>(aa 0)))) (ae (bz (ao (h9 T) hr (cQ (aa 3) (aa 5)))) (ae (aG 6 nd (he:=aq (ji (aI (GU rfl) T.Ef (cA (bH (fL (ckN [("self",0)]) (kS (cB (bH (bp (cA (aa 1)))) (aa 4))) (λ _ _ _ _=>(ao (gf T) hr (cQ (aa 1) (aa 0))))))))))) (ae (bF (bZ (qh (tQ (cB (cB (ao (gf T) hr (cQ (aa 0) (aa 2))) ab) (aa 6)) (ao (gf T) hr (cQ (aa 0) (aa 1)))) (G1 T.j6))) (ay fc) bc) (ae (iu (ar 5) (aa 3) (a5 (aa 1))) (ae (bF (bZ (cq (aa 5) (aV hr.units (λ _ _=>rfl) (bQ T.aB T.bo (aa 0)) (aa 2)))) (ay (cb (aq (a5 cu)))) bc) (ae (oZ (c9 (dz hr) (λ _ _=>rfl) (cz T.aB T.bo (ar 0)) (aV hr.units (λ _ _=>rfl) (bQ T.aB T.b9 (aa 0)) (aa 1))) (aa 1)) (ae (be (dz hr) (cz T.aB T.bo (ar 0)) (aa 2) (aq (GY 5))) (ae (be (dz hr) (cz T.aB T.b9 (ar 0)) (aa 1) (aq (a5 (aa 2)))) (ay (cb (aq (a5 cu)))))))))))))))))⟩
noncomputable def g8 (t:Adr):=jr 7 4 (dF t).1
theorem pO (T:Txt K mg t):GoM P w K mg base 5 t.af "move" (spM (g8 t) K):=(dF t).2 T
noncomputable def fV (t:Adr):gOD (gMD 6 t.aP "fits" 3 3) t:=⟨_,λ T=>oDm ["self","tree","box"] T.oS λ hr nd =>
 (aj (av (ao (pL T) hr (rY (aa 1) (aa 2) (bQ T.ir T.eY (aa 0))))))⟩
noncomputable def f6 (t:Adr):=cN 3 3 (fV t).1
theorem nX (T:Txt K mg t):GoM P w K mg base 6 t.aP "fits" (spF (f6 t) K):=(fV t).2 T
noncomputable def gT (t:Adr):gOM (gFM 6 "_law_grow" 13 7) t:=⟨_,λ T=>oM ["_law_tree","_law_rows","_law_facts","_law_marks","_law_pool_here","_law_cell_here","_law_way","_law_draw","_law_number","_law_holder","_law_place","_law_name_here","_law_k"] T.p6 λ hr nd =>
 (ae (aG 7 nd (he:=aq (a5 (ao (cg T) hr (cQ (aa 5) (aa 6)))))) (ae (aG 8 nd (he:=aq (ji (aI md T.fu (cA (aa 1)))))) (ae (aG 9 nd (he:=aq (a5 (tQ (aa 8) ab)))) (ae (bF (bZ (cq (bM (aa 7) ab) ab)) (ay (aG 9 nd (he:=aq (a5 ab)))) bc) (ae (bF (bZ (qh (bM (aa 7) ab) ab)) (ay (aG 9 nd (he:=aq (a5 (bM (aU (aa 7) ab) (aa 8)))))) bc) (ae (aG 10 nd (he:=aq (ji (bM (ao (cg T) hr (cQ (aa 5) (cB (aa 6) ab))) (cB (aI kK T.fu (cA (aV hr.units (λ _ _=>rfl) (aa 1) (aa 9)))) ab))))) (ae (aG 11 nd (he:=aq (a5 (bq (aa 4) (bM (aU (aa 7) ab) ab))))) (ae (bU (dD T.aB (sL T) hr (ar 0) (au (bO (aa 9)) (au (bO (aa 10)) (au (bO (aa 11)) bS))))) (ae (iu (c9 (dz hr) (λ _ _=>rfl) (ar 1) (aa 9)) (aa 10) (a5 (aa 8))) (ae (be (dz hr) (ar 1) (aa 8) (aq (eL (bp bA)))) (ae (be (dz hr) (ar 2) (aa 8) (aq (a5 (bG (cQ (aa 9) (aa 11)))))) (ae (be (dz hr) (ar 3) (aa 8) (aq (eL (bp bA)))) (ay (fJ (cE T.iA (cA ab)) (eQ 12 nd) (ay (bF (bZ (cq (bM (ao (cg T) hr (cQ (aa 5) (cB (cB (aa 6) ab) (aa 12)))) ab) ab)) (ae (bU (dD T.aB (jU T) hr (ar 0) (au (bO (aa 8)) (au (bO (bq (aa 4) (aa 12))) bS)))) (ay (kO (c9 (dz hr) (λ _ _=>rfl) (ar 3) (aa 8)) (a5 (bq (aa 4) (aa 12)))))) bc))))))))))))))))⟩
noncomputable def cC (t:Adr):=jr 13 7 (gT t).1
theorem jS (T:Txt K mg t):Go P w K mg base 6 "_law_grow" (spM (cC t) K):=(gT t).2 T
noncomputable def fS (t:Adr):gOM (gFM 6 "_law_moved" 10 4) t:=⟨_,λ T=>oM ["_law_tree","_law_rows","_law_facts","_law_draw","_law_box","_law_under","_law_todo","_law_rest","_law_holder","_law_place"] T.oK λ hr nd =>
 (ae (aG 4 nd (he:=aq (ji (cB ab (bM (aa 3) (tQ (aI md T.fu (cA (aa 1))) ab)))))) (ae (aG 5 nd (he:=aq (eL (bp bA)))) (ae (aG 6 nd (he:=aq (eL (bp (cA (aa 4)))))) (ae (qj 100 (bZ (qh (aI kK T.fu (cA (aa 6))) ab)) (ae (mh (ar 5) (xx 6 (ar 6))) (ay (xp (ar 6) (aV hr.units (λ _ _=>rfl) (aa 1) (bq (aa 5) (A3 ab))))))) (ae (qm (i:=1) (j:=7) nd (ckN [("_law_under",5)]) (hcd:=(λ _ _ _ _=>(z5 (aa 0) (aa 1)))) (he:=(λ _ _ _ _=>(aa 0)))) (ae (aG 8 nd (he:=aq (ji (bq (aa 7) (bM (aU (aa 3) ab) (aI kK T.fu (cA (aa 7)))))))) (ae (oZ (c9 (dz hr) (λ _ _=>rfl) (ar 1) (bq (aV hr.units (λ _ _=>rfl) (aa 2) (aa 4)) ab)) (aa 4)) (ae (aG 9 nd (he:=aq (ji (bM (aU (aa 3) ab) (cB (aI kK T.fu (cA (aV hr.units (λ _ _=>rfl) (aa 1) (aa 8)))) ab))))) (ae (bU (dD T.aB (pO T) hr (ar 0) (au (bO (aa 4)) (au (bO (aa 8)) (au (bO (aa 9)) bS))))) (ae (iu (c9 (dz hr) (λ _ _=>rfl) (ar 1) (aa 8)) (aa 9) (a5 (aa 4))) (ay (be (dz hr) (ar 2) (aa 4) (aq (GZ (cQ (aa 8) (bq (aV hr.units (λ _ _=>rfl) (aa 2) (aa 4)) ab))))))))))))))))⟩
noncomputable def dY (t:Adr):=jr 10 4 (fS t).1
theorem nW (T:Txt K mg t):Go P w K mg base 6 "_law_moved" (spM (dY t) K):=(fS t).2 T
noncomputable def d5 (t:Adr):gOD (gFD 7 "_law_true_of" 8 7) t:=⟨_,λ T=>oD ["_law_trait","_law_tree","_law_rows","_law_facts","_law_marks","_law_told","_law_box","_law_found"] T.lL λ hr nd =>
 (ah (gC 7 nd (a8 T.ir (nX T) hr (aa 0) (cQ (aa 1) (aa 6)))) (aj (av (jE (aI xk T.cU (cQ (aa 7) (kT (n:="bool") T.Ac))) (m8 (A4 (aa 7) (ao (sJ T) hr (aT (aa 2) (aT (aa 3) (rY (aa 4) (aa 5) (aa 6)))))))))))⟩
noncomputable def cT (t:Adr):=cN 8 7 (d5 t).1
theorem gw (T:Txt K mg t):Go P w K mg base 7 "_law_true_of" (spF (cT t) K):=(d5 t).2 T
noncomputable def fR (t:Adr):gOM (gFM 7 "_law_other" 9 6) t:=⟨_,λ T=>oM ["_law_tree","_law_rows","_law_facts","_law_marks","_law_pool_here","_law_cell_here","_law_draw","_law_box","_law_word"] T.oJ λ hr nd =>
 (ae (aG 6 nd (he:=aq (a5 (ao (cg T) hr (cQ (aa 5) ab))))) (ae (aG 7 nd (he:=aq (ji (bM (aU (aa 6) ab) (aI md T.fu (cA (aa 1))))))) (ae (aG 8 nd (he:=aq (a5 (bq (aa 4) (bM (aU (aa 6) ab) ab))))) (ay (bF (bZ (fM (oY (cq (bM (aa 6) ab) ab) (mf (qh (aI md T.fu (cA (aa 1))) ab))))) (ay (bU (iw (nW T) hr (au (dB (ar 0)) (au (dB (ar 1)) (au (dB (ar 2)) (au (bO (aU (aa 6) ab)) bS))))))) (ay (bF (bZ (cq (bM (aa 6) ab) ab)) (ay (bU (iw (jS T) hr (au (dB (ar 0)) (au (dB (ar 1)) (au (dB (ar 2)) (au (dB (ar 3)) (au (bO (aa 4)) (au (bO (aa 5)) (au (bO ab) bS)))))))))) (ay (bF (bZ (cq (bM (aa 6) ab) ab)) (ae (bU (dD T.aB (jU T) hr (ar 0) (au (bO (aa 7)) (au (bO (aa 8)) bS)))) (ay (kO (c9 (dz hr) (λ _ _=>rfl) (ar 3) (aa 7)) (a5 (aa 8))))) (ae (bU (dD T.aB (pP T) hr (ar 0) (au (bO (aa 7)) (au (bO (aa 8)) bS)))) (ay (be (dz hr) (ar 3) (aa 7) (aq (eL (tK (ckN [("_law_word",8)]) (kS (aV hr.units (λ _ _=>rfl) (aa 3) (aa 7))) (λ _ _ _ _=>(m5 (aa 0) (aa 1))) (λ _ _ _ _=>(aa 0)))))))))))))))))⟩
noncomputable def dX (t:Adr):=jr 9 6 (fR t).1
theorem nV (T:Txt K mg t):Go P w K mg base 7 "_law_other" (spM (dX t) K):=(fR t).2 T
noncomputable def D4 (t:Adr):{G:DSm // ∀ {P w K mg base a d},Txt K mg t->Fun K "law" "law" (top 43) a d->gY P w K mg base CX0 8 a d ["_law_script"] (spM (jr 14 1 G) K)}:=⟨_,λ T F=>oLM ["_law_script","_law_pool_here","_law_grove","_law_rows","_law_facts","_law_marks","_law_side","_law_name_here","_law_k","_law_cell_here","_law_told","_law_trait","_law_due","_law_found"] F λ hr nd =>
 (ae (aG 1 nd (he:=aq (a5 (ao (pM T) hr (cQ (aa 0) ab))))) (ae (aG 2 nd (he:=aq (eL (bp bA)))) (ae (aG 3 nd (he:=aq (xA (kQ (kc:=.inl 0) lV (eL (bp bA))) (kQ (kc:=.inl 0) lV (eL (bp bA)))))) (ae (aG 4 nd (he:=aq (eL (bp bA)))) (ae (aG 5 nd (he:=aq (xA (kQ (kc:=.inl 0) lV (eL (bp bA))) (kQ (kc:=.inl 0) lV (eL (bp bA)))))) (ae (fJ (cE T.iA (cA ab)) (eQ 6 nd) (ae (aG 7 nd (he:=aq (a5 (bq (aa 1) (bM (ao (bu T) hr (cQ (aa 0) (cB ab (aa 6)))) ab))))) (ae (mh (ar 2) (xy (jV T) hr T.AL (au (bO (aa 7)) bS))) (ae (kO (ar 4) (kQ (kc:=.inl 0) lV (a5 (bG (cQ iy (aa 7)))))) (ay (fJ (cE T.iA (cA (ao (pN T) hr (rY (ao (bu T) hr (cQ (aa 0) (cB ab (aa 6)))) ab ab)))) (eQ 8 nd) (ae (aG 9 nd (he:=aq (a5 (ao (bu T) hr (cQ (aa 0) (cB (cB ab (aa 8)) (mo ab (aa 6)))))))) (ay (bU (iw (jS T) hr (au (dB (eZ (ar 2) (aa 6))) (au (dB (eZ (ar 3) (aa 6))) (au (dB (eZ (ar 4) (aa 6))) (au (dB (eZ (ar 5) (aa 6))) (au (bO (aa 1)) (au (bO (aa 9)) (au (bO (aa 8)) bS))))))))))))))))) (ae (aG 10 nd (he:=aq (a5 (ao (nU T) hr (rY (ao (bu T) hr (cQ (aa 0) ab)) ab (aa 1)))))) (ae (bF (bZ (fM (oY (GX (gM 10) (bG (cQ aN aN))) (mf (cq (bM (ao (bu T) hr (cQ (aa 0) ab)) ab) ab))))) (ay (aG 10 nd (he:=aq (a5 (bG (rY (gM 10) (bM (ao (bu T) hr (cQ (aa 0) ab)) (z6 ab ab)) (bM (aU (ao (bu T) hr (cQ (aa 0) ab)) ab) (z6 ab ab)))))))) bc) (ae (aG 11 nd (he:=aq (a5 (ao (sI T) hr (cA (aa 10)))))) (ae (fJ (cE T.iA (cA ab)) (eQ 8 nd) (ay (fJ (cE T.iA (cA ab)) (eQ 6 nd) (ay (bF (bZ (GW (aa 8) (aI md T.fu (cA (bq (aa 3) (aa 6)))))) (ay (bF (bZ (dA (eJ (ao (gw T) hr (aT (aa 11) (aT (bq (aa 2) (aa 6)) (aT (bq (aa 3) (aa 6)) (aT (bq (aa 4) (aa 6)) (rY (bq (aa 5) (aa 6)) (aa 10) (aa 8)))))))))) (ay (cb (aq (a5 cu)))) bc)) bc))))) (ae (bU (iw (nV T) hr (au (dB (eZ (ar 2) ab)) (au (dB (eZ (ar 3) ab)) (au (dB (eZ (ar 4) ab)) (au (dB (eZ (ar 5) ab)) (au (bO (aa 1)) (au (bO (ao (bu T) hr (cQ (aa 0) ab))) bS)))))))) (ae (ql (i:=3) (jx:=8) nd (by decide) (ho:=eZ (ar 3) ab) (ht:=dA (eJ (ao (gw T) hr (aT (aa 11) (aT (gM 2) (aT (gM 3) (aT (gM 4) (rY (gM 5) (aa 10) (aa 8))))))))) (hk:=cu)) (ae (aG 12 nd (he:=aq (a5 (xG hr.units (bH (xv (mn aN (bG (cQ ab ab)) (mn aN (bG (cQ ab ab)) xu)))) (gM 10) (bG (cQ ab ab)))))) (ae (aG 13 nd (he:=aq (a5 (tO T.ir (lH T) hr (aa 11))))) (ae (bF (bZ (fM (jD (dA (eJ (aI xk T.cU (cQ (aa 13) (kT (n:="tuple") T.A9))))) (kL (m5 (aI kK T.fu (cA (aa 13))) ab))))) (ay (cb (aq (a5 cu)))) bc) (ay (cb (aq (a5 (jE (ao (jb T) hr (cA (gM 13))) (jE (ao (jb T) hr (cA (gM 13))) (m8 (A4 (aa 13) (aa 12))))))))))))))))))))))))⟩
noncomputable def G8 (t:Adr):=jr 14 1 (D4 t).1
end
end N14
end
section
namespace L2
open PySem
section
variable {τ τ':List Sl} {f g h:DE} {x y z d:D}
theorem ai {i:Nat} (q:τ[i]?=some (.shr d)):aE i τ=some d:=by unfold aE; rw [q]
theorem e_v {i:Nat} (q:τ[i]?=some (.shr d):=by rfl):aE i τ=some d:=ai q
theorem e_c:dC d τ=some d:=rfl
theorem az {o:D->D->Option D} (h1:f τ=some x) (h2:g τ=some y) (h3:o x y=some z):dOp o f g τ=some z:=by unfold dOp; rw [h1,h2]; exact h3
theorem GI {o:D->Option D} (h1:f τ=some x) (h3:o x=some z):dUn o f τ=some z:=by unfold dUn; rw [h1]; exact h3
theorem aA:cJ τ=some []:=rfl
theorem ag {ga:DA} {xs:List D} (h1:f τ=some x) (h2:ga τ=some xs):aD f ga τ=some (x::xs):=by unfold aD; rw [h1,h2]; rfl
theorem bL {o:List D->Option D} {ga:DA} {xs:List D} (h1:ga τ=some xs) (h2:o xs=some z):fI o ga τ=some z:=by unfold fI; rw [h1]; exact h2
theorem il {ga:DA} {xs:List D} (h1:ga τ=some xs) (h2:xs.length<=100000):xO ga τ=some (.tup xs):=by unfold xO; rw [h1]; exact if_pos h2
theorem fG {ga:DA} {xs:List D} (h1:ga τ=some xs) (h2:xs.length<=100000):A1 ga τ=some (.lst xs):=by unfold A1; rw [h1]; exact if_pos h2
theorem dO {F:List D->Option Sl} {ga:DA} {xs:List D} {s:Sl} (h1:ga τ=some xs) (h2:F xs=some s) (h3:slD s=some z):dFn F ga τ=some z:=by unfold dFn; rw [h1]; show (F xs).bind slD=_; rw [h2]; exact h3
theorem Lw {F:List D->Option Sl} {ga:DA} {xs:List D} {s:Sl} (h1:ga τ=some xs) (h2:F xs=some s) (h3:slO s=some z):GQ F ga τ=some z:=by unfold GQ; rw [h1]; show (F xs).bind slO=_; rw [h2]; exact h3
theorem Lv {c:DT} {b:Bool} (h1:c τ=some b) (h2:b=true->f τ=some z) (h3:b=false->g τ=some z):dIf c f g τ=some z:=by
 unfold dIf; rw [h1]
 cases b with
 | true=>exact h2 rfl
 | false=>exact h3 rfl
theorem DN {b:Bool} (h1:f τ=some (.bl b)) (h2:b=true->g τ=some z) (h3:b=false->z=.bl false):kI f g τ=some z:=by
 unfold kI; rw [h1]
 cases b with
 | true=>exact h2 rfl
 | false=>rw [h3 rfl]; rfl
theorem GK {b:Bool} (h1:f τ=some (.bl b)):zS f τ=some (.bl (!b)):=by unfold zS; rw [h1]; rfl
theorem aF {b:Bool} (h1:f τ=some (.bl b)):dT f τ=some b:=by unfold dT; rw [h1]; rfl
theorem IM {f g:DT} {b c:Bool} (h1:f τ=some b) (h2:b=true->g τ=some c) (h3:b=false->c=false):xi f g τ=some c:=by
 unfold xi; rw [h1]
 cases b with
 | true=>exact h2 rfl
 | false=>rw [h3 rfl]; rfl
theorem IL {f g:DT} {b c:Bool} (h1:f τ=some b) (h2:b=false->g τ=some c) (h3:b=true->c=true):dOr f g τ=some c:=by
 unfold dOr; rw [h1]
 cases b with
 | false=>exact h2 rfl
 | true=>rw [h3 rfl]; rfl
theorem lC {f:DT} {b:Bool} (h1:f τ=some b):Eb f τ=some (!b):=by unfold Eb; rw [h1]; rfl
theorem D7:LC τ=some none:=rfl
theorem lW {i:Int} (h:f τ=some (.int i)):dP f τ=some (some i):=by unfold dP; rw [h]; rfl
theorem rL {it:DI} {g:DE} {cs:List (Str×Nat)} {ds es:List D} (h1:it τ=some ds) (hl:ds.length<=100000) (h2:tW (λ d=>g (.shr d::cV τ cs)) ds=some es):xh it g cs τ=some (.lst es):=by
 unfold xh; rw [h1]; show (if ds.length<=100000 then _ else _)=_; rw [if_pos hl,h2]; rfl
theorem ft {C:Addr} {n:Str} {fs:List (Str×D)} (h1:f τ=some (.obj C fs)) (h2:fs.lookup n=some z):dUn (vM C n) f τ=some z:=by unfold dUn; rw [h1]; show (if C=C then _ else _)=_; rw [if_pos rfl]; exact h2
theorem cH {C:Addr} {m:Str} {F:List D->Option Sl} {o:DE} {ga:DA} {fs:List (Str×D)} {xs:List D} {s:Sl} (h1:o τ=some (.obj C fs)) (h2:ga τ=some xs) (h0:fs.lookup m=none) (h3:F (.obj C fs::xs)=some s) (h4:slD s=some z):kH C m F o ga τ=some z:=by
 unfold kH; rw [h1]; show (ga τ).bind _=_; rw [h2]; show (if C=C/\_ then _ else _)=_; rw [if_pos ⟨rfl,h0⟩,h3]; exact h4
theorem rJ {C:Addr} {ns:List Str} {ga:DA} {xs:List D} (h1:ga τ=some xs) (h2:xs.length=ns.length):zT C ns ga τ=some (.obj C (ns.zip xs)):=by unfold zT; rw [h1]; exact if_pos h2
theorem Dx {ds:List D} (h:f τ=some (.lst ds)):D9 f τ=some ds:=by unfold D9; rw [h]; rfl
theorem Gq {ds:List D} (h:f τ=some (.tup ds)):wD f τ=some ds:=by unfold wD; rw [h]; rfl
theorem sZ {ga:DA} {j:Int} (h:ga τ=some [.int j]) (h1:-(2 ^ 62)<=j/\j < 2 ^ 62):ig ga τ=some (nK 0 j.toNat):=by unfold ig; rw [h]; exact if_pos h1
end
section
variable {τ τ':List Sl} {f g:DS} {e:DE} {d:D} {o:Out}
theorem bh (h:f τ=some (.next τ')) (h2:g τ'=some o):i9 f g τ=some o:=by simp only [i9,h]; exact h2
theorem qD {s:Sl} (h:f τ=some (.ret s)):i9 f g τ=some (.ret s):=by simp only [i9,h]
theorem bC {i:Nat} (h:e τ=some d):Bo i e τ=some (.next (τ.set i (.shr d))):=by unfold Bo; rw [h]; rfl
theorem uA {i:Nat} (h:e τ=some d) (hi:i < τ.length):uD i e τ=some (.next (τ.set i (.own d))):=by unfold uD; rw [if_pos hi,h]; rfl
theorem bW (h:e τ=some d):Ak e τ=some (.ret (.shr d)):=by unfold Ak; rw [h]; rfl
theorem Aj (h:e τ=some d):xX e τ=some (.ret (.own d)):=by unfold xX; rw [h]; rfl
theorem Ai {i:Nat} (q:τ[i]?=some (.own d)):uE i τ=some (.ret (.own d)):=by unfold uE; rw [q]
theorem EG (h:e τ=some d):uI e τ=some (.next τ):=by unfold uI; rw [h]; rfl
theorem sq {c:DT} {b:Bool} {r:Option Out} (h:c τ=some b) (h1:b=true->f τ=r) (h2:b=false->g τ=r):sIf c f g τ=r:=by
 unfold sIf; rw [h]
 cases b with
 | true=>exact h1 rfl
 | false=>exact h2 rfl
theorem EH {i:Nat} {ds:List D} (h:e τ=some d) (q:τ[i]?=some (.own (.lst ds))) (hl:ds.length < 100000):An i e τ=some (.next (τ.set i (.own (.lst (ds++[d]))))):=by unfold An; rw [h]; show (match τ[i]? with | some (.own (.lst ds))=>_ | _=>_)=_; rw [q]; exact if_pos hl
theorem cf {n m:Nat} {b:DS} {ds:List D} {s:Sl} (h:b (hU n ds)=some (.ret s)) (hl:ds.length=m:=by rfl):cN n m b ds=some s:=by
 unfold cN;rw [if_pos hl,h]
theorem mE {lo:Int} {n j:Nat} {d:D} (h:(nK lo n)[j]?=some d):d=.int (lo+j)/\j < n:=by
 unfold nK at h;rw [List.getElem?_map] at h
 by_cases hj:j < n
 ·rw [List.getElem?_range hj] at h
  exact ⟨by simpa using h.symm,hj⟩
 ·rw [List.getElem?_eq_none (by simpa using hj)] at h
  cases h
theorem pG {lo:Int} {n:Nat}:(nK lo n).length=n:=by simp [nK]
end
theorem a7 (i j:Int):jB (.int i) (.int j)=some (.int (i+j)):=rfl
theorem c7 (i j:Int):Hg (.int i) (.int j)=some (.int (i - j)):=rfl
theorem jW (i j:Int):oLt (.int i) (.int j)=some (.bl (decide (i < j))):=rfl
theorem aR {i j:Int} (h:0 < j):oMod (.int i) (.int j)=some (.int (i % j)):=by
 simp only [oMod,Ne.symm (Int.ne_of_lt h),ne_eq,not_false_eq_true,if_true,Int.fmod_eq_emod_of_nonneg _ (Int.le_of_lt h)]
theorem ck {i j:Int} (h:0 < j) (z:Sz j):oDiv (.int i) (.int j)=some (.int (i / j)):=by
 simp only [oDiv,Ne.symm (Int.ne_of_lt h),ne_eq,not_false_eq_true,z,and_self,if_true,Int.fdiv_eq_ediv_of_nonneg _ (Int.le_of_lt h)]
theorem qU {i j:Int} (h:-(2 ^ 64) < j) (z:j < 2 ^ 64):vK (.int i) (.int j)=some (.int (i * j)):=by
 have:A8 i j:=.inr ⟨h,z⟩;simp only [vK,this,true_or,if_true]
theorem qV {i j:Int} (h:-(2 ^ 64) < i) (z:i < 2 ^ 64):vK (.int i) (.int j)=some (.int (i * j)):=by
 have:A8 i j:=.inl ⟨h,z⟩;simp only [vK,this,true_or,if_true]
theorem vJ {i j:Int} (h:Ed i j):Ax (.int i) (.int j)=some (.int (i ^ j.toNat)):=by
 exact if_pos h
theorem b8 (i j:Int):oEq (.int i) (.int j)=some (.bl (decide (i=j))):=rfl
theorem mK (i j:Int):oNe (.int i) (.int j)=some (.bl (!decide (i=j))):=rfl
theorem gH (i j:Str):oEq (.str i) (.str j)=some (.bl (decide (i=j))):=rfl
theorem mJ (i j:Str):oNe (.str i) (.str j)=some (.bl (!decide (i=j))):=rfl
theorem pw {α:Type} (x:α) (xs:List α):atI (x::xs) 0=some x:=by simp [atI,ixN]
theorem Ab {α:Type} (x y:α) (xs:List α):atI (x::y::xs) 1=some y:=by
 have:(1:Int) < ((xs.length+1+1:Nat):Int):=by omega
 simp only [atI,ixN,Z0,this,if_true];rfl
theorem Aa {α:Type} (x y z:α) (xs:List α):atI (x::y::z::xs) 2=some z:=by
 have:(2:Int) < ((xs.length+1+1+1:Nat):Int):=by omega
 simp only [atI,ixN,Z0,this,if_true];rfl
theorem pE (d:D):slD (.shr d)=some d:=rfl
theorem bE (x:D) (xs:List D):oIx (.tup (x::xs)) (.int 0)=some x:=pw _ _
theorem cP (x y:D) (xs:List D):oIx (.tup (x::y::xs)) (.int 1)=some y:=Ab _ _ _
theorem jY (x y z:D) (xs:List D):oIx (.tup (x::y::z::xs)) (.int 2)=some z:=Aa _ _ _ _
theorem aY {τ:List Sl} {c:DT} {f g:DS} {r:Option Out} (h:c τ=some false) (h2:g τ=r):i9 (sIf c f lD) g τ=r:=by
 simp only [i9,sIf,h,Ye,Bool.false_eq_true,if_false,lD];exact h2
theorem dQ {τ:List Sl} {c:DT} {f g:DS} {s:Sl} (h:c τ=some true) (h2:f τ=some (.ret s)):i9 (sIf c f lD) g τ=some (.ret s):=by
 simp only [i9,sIf,h,Ye,if_true,h2]
end L2
end
section
namespace L2
open PySem
def Ret (P:D->Prop) (o:Option Out):Prop:=∃ d,o=some (.ret (.shr d))/\P d
def Nx (P:List Sl->Prop) (o:Option Out):Prop:=∃ τ',o=some (.next τ')/\P τ'
section
variable {τ τ':List Sl} {f g:DS} {e e2 e3:DE} {c:DT} {b:Bool} {d x y z:D} {P:D->Prop} {R:List Sl->Prop}
theorem sy (h:f τ=some (.next τ')) (h2:Ret P (g τ')):Ret P (i9 f g τ):=by
 obtain ⟨d,e,p⟩:=h2;exact ⟨d,bh h e,p⟩
theorem LU (h:Nx R (f τ)) (h2:∀ τ',R τ'->Ret P (g τ')):Ret P (i9 f g τ):=by
 obtain ⟨τ',e,p⟩:=h;exact sy e (h2 _ p)
theorem EN (h:e τ=some d) (p:P d):Ret P (Ak e τ):=⟨d,bW h,p⟩
theorem qH (h:e τ=some d) (p:P d):Ret P (i9 (Ak e) g τ):=⟨d,qD (bW h),p⟩
theorem Hc (h:c τ=some b) (h1:b=true->Ret P (i9 f g τ)) (h2:b=false->Ret P (g τ)):Ret P (i9 (sIf c f lD) g τ):=by
 cases b with
 | true =>
  obtain ⟨d,e,p⟩:=h1 rfl;refine ⟨d,?_,p⟩;rw [<- e];simp only [i9,sIf,h,Ye,if_true]
 | false =>
  obtain ⟨d,e,p⟩:=h2 rfl;exact ⟨d,aY h e,p⟩
theorem AB (p:R τ):Nx R (lD τ):=⟨τ,rfl,p⟩
theorem Mw (h:f τ=some (.next τ')) (p:R τ'):Nx R (f τ):=⟨τ',h,p⟩
theorem Mx (h:c τ=some b) (h1:b=true->Nx R (f τ)) (h2:b=false->Nx R (g τ)):Nx R (sIf c f g τ):=by
 cases b with
 | true =>
  obtain ⟨d,e,p⟩:=h1 rfl;exact ⟨d,sq h (λ _=>e) (λ q=>nomatch q),p⟩
 | false =>
  obtain ⟨d,e,p⟩:=h2 rfl;exact ⟨d,sq h (λ q=>nomatch q) (λ _=>e),p⟩
theorem GF {n m:Nat} {b:DS} {ds:List D} (h:Ret P (b (hU n ds))) (hl:ds.length=m:=by rfl):∃ d,cN n m b ds=some (.shr d)/\P d:=by
 obtain ⟨d,e,p⟩:=h;exact ⟨d,cf e hl,p⟩
theorem lT {f g:DT} {b c:Bool} (h1:f τ=some b) (h2:g τ=some c):xi f g τ=some (b&&c):=by
 unfold xi; rw [h1]; cases b <;> simp [h2]
theorem Bg {f g:DT} {b c:Bool} (h1:f τ=some b) (h2:g τ=some c):dOr f g τ=some (b||c):=by
 unfold dOr; rw [h1]; cases b <;> simp [h2]
theorem l9 {b c:Bool} (h1:e τ=some (.bl b)) (h2:e2 τ=some (.bl c)):kI e e2 τ=some (.bl (b&&c)):=by
 unfold kI; rw [h1]; cases b <;> simp [h2]
theorem GN {ps:List (DE×DE)} {kvs:List (Key×D)} (h:rP ps τ=some kvs) (hl:kvs.length<=15):zW ps τ=some (.dct (q9 [] kvs)):=by
 unfold zW; rw [h]; exact if_pos hl
theorem rK {kvs:List (Key×D)} {k:Key} (h1:e τ=some (.dct kvs)) (h2:e2 τ=some y) (h3:e3 τ=some z) (hk:iK y=some k):zV e e2 e3 τ=some ((gr kvs k).getD z):=by
 unfold zV; rw [h1]; show (e2 τ).bind _=_; rw [h2]; show (e3 τ).bind _=_; rw [h3]; show (iK y).map _=_; rw [hk]; rfl
end
theorem kr {c:D->Option Bool} {g:D->Option D} {t:D->Bool}:∀ {ds:List D},(∀ d ∈ ds,c d=some (t d)/\g d=some d)->pW c g ds=some (ds.filter t)
 | [],_=>rfl
 | d::ds,h=>by
  obtain ⟨h1,h2⟩:=h d (Ze ..);have ih:=kr (c:=c) (g:=g) (t:=t) (ds:=ds) λ e m=>h e (Zd _ m)
  unfold pW;rw [h1]
  cases q:t d with
  | true=>simp [h2,ih,q]
  | false=>simp [ih,q]
theorem A5 {α:Type} {xs:List α} {j:Int} (h0:0<=j) (h1:j < xs.length):∃ (h:j.toNat < xs.length),atI xs j=some xs[j.toNat]:=by
 refine ⟨by omega,?_⟩;have e:=xI (xs:=xs) (j:=j.toNat) (List.getElem?_eq_getElem (by omega));rw [show ((j.toNat:Nat):Int)=j by omega] at e;exact e
end L2
end
local macro_rules | `(tactic| walk_at "ee")=>`(tactic| first
 | with_reducible assumption
 | with_reducible exact L2.e_c
 | ((with_reducible apply L2.ai); exact rfl)
 | with_reducible exact L2.aA
 | ((with_reducible apply L2.ag) <;> walk_at "ee")
 | ((with_reducible apply L2.az) <;> walk_at "ee")
 | ((with_reducible apply L2.il) <;> walk_at "ee")
 | ((with_reducible apply L2.fG) <;> walk_at "ee")
 | ((with_reducible apply L2.ft) <;> walk_at "ee")
 | ((with_reducible apply L2.GI) <;> walk_at "ee")
 | ((with_reducible apply L2.bL) <;> walk_at "ee")
 | ((with_reducible apply L2.dO) <;> walk_at "ee")
 | ((with_reducible apply L2.rJ) <;> walk_at "ee")
 | ((with_reducible apply L2.cH) <;> walk_at "ee")
 | ((with_reducible apply L2.aF) <;> walk_at "ee")
 | ((with_reducible apply L2.lC) <;> walk_at "ee")
 | with_reducible exact L2.D7
 | ((with_reducible apply L2.lW) <;> walk_at "ee")
 | ((with_reducible apply e_sl) <;> walk_at "ee")
 | ((with_reducible apply L2.lT) <;> walk_at "ee")
 | ((with_reducible apply L2.Bg) <;> walk_at "ee")
 | ((with_reducible apply L2.l9) <;> walk_at "ee")
 | ((with_reducible apply e_or2) <;> walk_at "ee")
 | ((with_reducible apply L2.rK) <;> walk_at "ee")
 | with_reducible exact L2.pE _
 | with_reducible exact slD_own _
 | with_reducible exact L2.bE _ _
 | with_reducible exact L2.cP _ _ _
 | with_reducible exact L2.jY _ _ _ _
 | with_reducible exact L2.a7 _ _
 | with_reducible exact L2.c7 _ _
 | with_reducible exact L2.b8 _ _
 | with_reducible exact L2.mK _ _
 | with_reducible exact L2.jW _ _
 | with_reducible exact L2.gH _ _
 | with_reducible exact L2.mJ _ _
 | with_reducible exact L2.aR (by decide)
 | with_reducible exact L2.ck (by decide) (by decide +kernel)
 | with_reducible exact L2.qU (by decide) (by decide)
 | with_reducible exact L2.qV (by decide) (by decide)
 | with_reducible exact L2.pw _ _
 | with_reducible exact L2.Ab _ _ _
 | with_reducible exact L2.Aa _ _ _ _
 | exact rfl
 | exact Zb rfl
 | skip)
section
namespace N14
open PySem L2
theorem Jb {n m:Nat} {b:DS} {ds:List D} {τ:List Sl} (h:b (hU n ds)=some (.next τ)) (hl:ds.length=m:=by rfl):cN n m b ds=some (.shr .non):=by
 unfold cN;rw [if_pos hl,h]
theorem I0 {τ:List Sl} {c:DT} {f g:DS} {b:Bool} {s:Sl} (h:c τ=some b) (h1:b=true->f τ=some (.ret s)) (h2:b=false->g τ=some (.ret s)):i9 (sIf c f lD) g τ=some (.ret s):=by
 cases b with
 | true=>exact dQ h (h1 rfl)
 | false=>exact aY h (h2 rfl)
theorem Lj {τ:List Sl} {f:DE} {x:Str} (h:f τ=some (.str x)):zw f τ=some (chD x):=by unfold zw; rw [h]; rfl
def lower (c:Nat):Bool:=decide (97<=c)&&decide (c<=122)
def bR (x:Str):Bool:=(decide (1<=(x.length:Int))&&decide ((x.length:Int)<=8))&&x.cps.toList.all lower
theorem lt1 (c d:Nat):[c] < [d]↔c < d:=by
 constructor
 ·intro z
  cases z with
  | rel h=>exact h
  | cons h=>cases h
 ·intro h
  exact List.Lex.rel h
theorem le1 (c d:Nat):JF (.str ⟨#[c]⟩) (.str ⟨#[d]⟩)=some (.bl (decide (c<=d))):=by
 show some (D.bl (!decide ([d] < [c])))=_;congr 2
 by_cases h:c<=d
 ·rw [Zq h,Zk]
  · rfl
  ·intro z
   have:=(lt1 d c).mp z;omega
 ·rw [Zk h,Zq]
  · rfl
  · exact (lt1 d c).mpr (by omega)
theorem vZ {g:D->Option D} {t:Nat->Bool}:∀ {cs:List Nat},(∀ c ∈ cs,g (.str ⟨#[c]⟩)=some (.bl (t c)))->tW g (cs.map λ c=>.str ⟨#[c]⟩)=some (cs.map λ c=>.bl (t c))
 | [],_=>rfl
 | c::cs,h=>by
  show (g (.str ⟨#[c]⟩)).bind (λ x=>(tW g (cs.map λ c=>.str ⟨#[c]⟩)).bind λ xs=>some (x::xs))=_;rw [h c (Ze ..),vZ λ c m=>h c (Zd _ m)];rfl
theorem gm (t:Nat->Bool):∀ cs:List Nat,t6 (cs.map λ c=>.bl (t c))=some (cs.map t)
 | []=>rfl
 | c::cs=>by
  show (t6 (cs.map λ c=>.bl (t c))).map (t c::·)=_;rw [gm t cs]; rfl
theorem wz (x:Str) (hx:x.length<=100):lp [.str x]=some (.shr (.bl (bR x))):=by
 unfold lp kZ;dsimp only;refine cf ?_
 refine aY (lC (b:=true) (aF (bL (ag e_v (ag e_c aA)) rfl))) ?_
 have hl:tV [.str x]=some (.int (x.length:Int)):=by
  show (if x.length<=100000 then _ else none)=_;rw [if_pos (by omega)]
 refine I0 (lC (aF (l9 (az e_c (bL (ag e_v aA) hl) rfl) (az (bL (ag e_v aA) hl) e_c rfl)))) (λ h=>?_) (λ h=>?_)
 ·unfold bR
  rw [Bool.not_eq_true'] at h;rw [h];exact bW e_c
 ·rw [Bool.not_eq_false'] at h
  refine bW (bL (ag (rL (Lj e_v) ?_ (vZ λ c _=>l9 (az e_c e_v (le1 97 c)) (az e_v e_c (le1 c 122)))) aA) ?_)
  ·show (x.cps.toList.map _).length<=_
   rw [Za];exact Z6 hx (by decide)
  ·show (t6 _).map _=_
   rw [gm];unfold bR;rw [h];show some (D.bl ((x.cps.toList.map lower).all id))=some (D.bl (x.cps.toList.all lower));rw [List.all_map];rfl
def scr (ns:List Int):D:=.fz (ns.map .int)
theorem Dh (ns:List Int):tV [scr ns]=some (.int ns.length):=by
 show some (D.int ((ns.map D.int).length:Nat))=_;rw [Za]
theorem Gk {ns:List Int} {j:Int} (h0:0<=j) (h1:j < ns.length):∃ c:Int,oIx (scr ns) (.int j)=some (.int c):=by
 obtain ⟨h,e⟩:=A5 (xs:=ns.map D.int) h0 (by rw [Za]; exact h1);refine ⟨ns[j.toNat]'(by rw [Za] at h; exact h),?_⟩;show atI (ns.map D.int) j=_;rw [e,List.getElem_map]
theorem mO (c:Int) {w:Int} (w0:0<=w) (w1:w<=10000):∃ r,cS [.int c,.int w]=some (.shr (.int r))/\0<=r/\r < 1000003:=by
 have m0:=Yc ((c * 48271+w * 7919) % 2147483647 * (16807+2 * w)) (b:=1000003) (by decide);have m1:=Z8 ((c * 48271+w * 7919) % 2147483647 * (16807+2 * w)) (b:=1000003) (by decide);have e1:=qU (i:=(c * 48271+w * 7919) % 2147483647) (j:=16807+2 * w) (by omega) (by omega);refine ⟨_,?_,m0,m1⟩;unfold cS iT;refine cf ?_
 refine bh (bC (by walk_at "ee")) ?_
 exact bW (by walk_at "ee")
theorem jg (ns:List Int) {k:Int} (k0:0<=k):∃ c:Int,aX [scr ns,.int k]=some (.shr (.int c)):=by
 have hl:=Dh ns;have t:=jW k (ns.length:Int);unfold aX gU
 by_cases h:k < (ns.length:Int)
 ·obtain ⟨c,hc⟩:=Gk k0 h
  rw [Zq h] at t;refine ⟨c,cf ?_⟩;exact dQ (by walk_at "ee") (bW (by walk_at "ee"))
 ·rw [Zk h] at t
  refine ⟨0,cf ?_⟩;show i9 _ _ [.shr (scr ns),.shr (.int k)]=_;exact aY (by walk_at "ee") (bW e_c)
def LET:Str:="abcdefghijklmnopqrstuvwxyz"
def okS (x:Str):Bool:=x.cps.all lower
def One (z:Str):Prop:=z.length=1/\okS z=true
theorem De:LET.cps.toList.length=26:=by rfl
theorem Ga:∀ c ∈ LET.cps.toList,lower c=true:=by decide +kernel
theorem AN {k:Int} (k0:0<=k) (k1:k < 26):∃ z:Str,oIx (.str LET) (.int k)=some (.str z)/\One z:=by
 obtain ⟨h,e⟩:=A5 k0 (by rw [De]; omega);refine ⟨⟨#[LET.cps.toList[k.toNat]]⟩,?_,rfl,?_⟩
 ·show (if LET.length<=100000 then (atI LET.cps.toList k).map _ else none)=_
  rw [if_pos (by decide +kernel),e];rfl
 ·unfold okS
  rw [Array.all_eq_true_iff_forall_mem];intro c hc;have e:c=LET.cps.toList[k.toNat]:=by simpa using hc
  rw [e];exact Ga _ (Xr h)
theorem strs_map:∀ ts:List Str,L2.si (ts.map .str)=some ts
 | []=>rfl
 | t::ts=>by
  show (L2.si (ts.map .str)).map _=_;rw [strs_map ts]; rfl
theorem oa {gg:D->Option D}:∀ {ds:List D},(∀ d ∈ ds,∃ z:Str,gg d=some (.str z)/\One z)->∃ ts:List Str,tW gg ds=some (ts.map .str)/\ts.length=ds.length/\∀ z ∈ ts,One z
 | [],_=>⟨[],rfl,rfl,λ q hq=>nomatch hq⟩
 | d::ds,h=>by
  obtain ⟨q,e1,p1⟩:=h d (Ze ..);obtain ⟨qs,e2,l2,p2⟩:=oa (gg:=gg) (ds:=ds) λ x hx=>h x (Zd _ hx)
  refine ⟨q::qs,by simp only [tW,e1,e2]; rfl,by simp [l2],λ x hx=>?_⟩;rcases Zl.mp hx with rfl | hx
  · exact p1
  · exact p2 x hx
theorem qy:∀ {ts:List Str},(∀ z ∈ ts,One z)->(ts.map (·.length)).sum=ts.length
 | [],_=>rfl
 | t::ts,h=>by
  rw [Zg,List.sum_cons,(h t (Ze ..)).1,qy λ z hz=>h z (Zd _ hz),Z0];omega
theorem Bq {n:Nat} {d:D} (h:d ∈ nK 0 n):∃ j:Nat,j < n/\d=.int (j:Int):=by
 obtain ⟨j,hj⟩:=List.getElem?_of_mem h;obtain ⟨e,l⟩:=mE hj;exact ⟨j,l,by rw [e]; congr 1; omega⟩
theorem vC {x y:Array Nat} (hx:x.all (lower)=true) (hy:y.all (lower)=true):(x++y).all (lower)=true:=by grind
theorem wL:∀ (ts:List Str) (a:Array Nat),(∀ z ∈ ts,One z)->a.all (lower)=true->(ts.foldl (λ acc p=>acc++(Str.cps "")++p.cps) a).size=a.size+ts.length/\(ts.foldl (λ acc p=>acc++(Str.cps "")++p.cps) a).all (lower)=true
 | [],a,_,h=>⟨rfl,h⟩
 | t::ts,a,h,ha=>by
  have h1:=h t (Ze ..);have h0:(Str.cps "").size=0:=by decide +kernel
  have h1':t.cps.size=1:=h1.1;obtain ⟨e1,e2⟩:=wL ts (a++(Str.cps "")++t.cps) (λ z hz=>h z (Zd _ hz)) (vC (vC ha (by decide +kernel)) h1.2);refine ⟨?_,e2⟩;rw [List.foldl_cons,e1,Array.size_append,Array.size_append,h1',h0,Z0];omega
theorem Dp {ts:List Str} (h:∀ z ∈ ts,One z) (n:ts≠[]):(Txt.join "" ts).length=ts.length/\okS (Txt.join "" ts)=true:=by
 match ts,n with
 | t::ts,_ =>
  have h1:=h t (Ze ..);have h1':t.cps.size=1:=h1.1;obtain ⟨e1,e2⟩:=wL ts t.cps (λ z hz=>h z (Zd _ hz)) h1.2;refine ⟨?_,e2⟩;show (ts.foldl (λ acc p=>acc++(Str.cps "")++p.cps) t.cps).size=_;rw [e1,h1',Z0];omega
theorem GL {τ:List Sl} {f g:DE} {z:Str} {ts:List Str} (h1:f τ=some (.str z)) (h2:g τ=some (.lst (ts.map .str))) (h3:(ts.map (·.length)).sum+ts.length * z.length<=100000):zU f g τ=some (.str (Txt.join z ts)):=by
 unfold zU;rw [h1];rw [h2];show (L2.si (ts.map .str)).bind _=_;rw [strs_map];exact if_pos h3
theorem CI (c:Int) {w:Int} (w0:0<=w) (w1:w<=9000):∃ z:Str,fj [.int c,.int w]=some (.shr (.str z))/\bR z=true:=by
 obtain ⟨r,er,r0,r1⟩:=mO c (w:=w+3) (by omega) (by omega)
 obtain ⟨ts,ets,lts,ots⟩:=oa (gg:=λ d=>dOp oIx (aE 1) (dOp oMod (dFn cS (aD (aE 2) (aD (dOp jB (aE 3) (dOp vK (dC (.int 5)) (aE 0))) cJ))) (dC (.int 26))) [.shr d,.shr (.str LET),.shr (.int c),.shr (.int w)]) (ds:=nK 0 (Int.toNat (1+r % 8))) (by
  intro d hm;obtain ⟨j,hj,rfl⟩:=Bq hm;obtain ⟨q,eq,q0,q1⟩:=mO c (w:=w+5 * (j:Int)) (by omega) (by omega);obtain ⟨z,ez,lz⟩:=AN (Yc _ (by decide)) (Z8 _ (by decide))
  exact ⟨z,by walk_at "ee",lz⟩)
 rw [pG] at lts;have ne:ts≠[]:=λ z=>by rw [z] at lts; simp at lts; omega
 obtain ⟨jl,jo⟩:=Dp ots ne
 have nk:bR (Txt.join "" ts)=true:=by
  unfold bR
  have jo':(Txt.join "" ts).cps.toList.all lower=true:=by
   rw [Array.all_toList];exact jo
  rw [Zq (by omega),Zq (by omega),jo'];rfl
 refine ⟨Txt.join "" ts,?_,nk⟩;unfold fj gS;dsimp only;refine cf ?_
 refine bh (bC e_c) ?_
 refine bh (bC (by walk_at "ee")) ?_
 exact bW (GL e_c (rL (sZ rfl (by omega)) (by rw [pG]; omega) ets) (by rw [qy ots,show Str.length ""=0 by decide +kernel]; omega))
theorem AA (c:Int) {w:Int} (w0:0<=w) (w1:w<=1000):∃ z:Str,fj [.int c,.int w]=some (.shr (.str z))/\bR z=true:=CI c w0 (by omega)
theorem c8 {z:Str} (h:bR z=true):fY [.str z]=some (.shr .non):=by
 have l:z.length<=100:=by
  unfold bR at h;rw [Yp,Yp] at h;have:=of_decide_eq_true h.1.2;omega
 have e:=wz z l;rw [h] at e;unfold fY fQ;exact Jb (sq (lC (aF (dO (ag e_v aA) e rfl))) nofun λ _=>rfl)
theorem Di (ns:List Int):tV [.lst (ns.map .int)]=some (.int (ns.length:Int)):=by
 show some (D.int ((ns.map D.int).length:Nat))=_;rw [Za]
theorem gB {ns:List Int} {p:Int} (h0:0<=p) (h1:p<=ns.length):fh [.int p,.lst (ns.map .int)]=some (.shr .non):=by
 have hl:=Di ns;have e1:oLe (.int 0) (.int p)=some (.bl true):=by show some (D.bl (decide _))=_; rw [Zq h0]
 have e2:oLe (.int p) (.int (ns.length:Int))=some (.bl true):=by show some (D.bl (decide _))=_; rw [Zq h1]
 unfold fh fe;exact Jb (sq (lC (aF (l9 (az e_c e_v e1) (az e_v (bL (ag e_v aA) hl) e2)))) nofun λ _=>rfl)
theorem qv (i:Int):jm [.int i]=some (.shr (.bl true)):=rfl
end N14
end
section
namespace N14
open PySem L2
structure Pl where
 k:List Str
 l:List Str
structure B8 where
 i:Int
 h:Option Int
 n:Str
 r:List Int
 m:Pl
def cc:Pl:=⟨[],[]⟩
def mkD (b:B8):D:=.dct (b.m.k.map λ x=>((.inr x:Key),.bl true))
def wdD (b:B8):D:=.lst []
def roD (b:B8):D:=.tup []
def kv {β:Type} (g:B8->β) (M:List B8):List (Key×β):=M.map λ b=>((.inl b.i:Key),g b)
def fd (M:List B8) (i:Int):Option B8:=M.find? λ b=>decide (b.i=i)
theorem gL {M:List B8} {i:Int} {b:B8} (h:fd M i=some b):b.i=i:=by simpa using List.find?_some h
theorem aS {M:List B8} {i:Int} {b:B8} (h:fd M i=some b):b ∈ M:=List.mem_of_find?_eq_some h
theorem qw (g:B8->D) (M:List B8) (i:Int):gr (kv g M) (.inl i)=(fd M i).map g:=by
 unfold gr kv fd
 induction M with
 | nil=>rfl
 | cons b M ih =>
  rw [Zg,List.find?_cons,List.find?_cons]
  by_cases h:b.i=i
  · simp [h]
  ·have:decide ((Sum.inl b.i:Key)=Sum.inl i)=false:=Zk λ z=>h (by injection z)
   rw [Zk h,this];exact ih
def hD:Option Int->D
 | none=>.non
 | some j=>.int j
def trF (gv:Int) (M:List B8):List (Str×D):=[("given",.int gv),("names",.dct (kv (λ b=>.str b.n) M)),("holders",.dct (kv (λ b=>hD b.h) M)),("boxes",.dct (kv (λ b=>.lst (b.r.map .int)) M)),("marks",.dct (kv mkD M)),("words",.dct (kv wdD M)),("rows",.dct (kv roD M))]
def trD (C:Addr) (gv:Int) (M:List B8):D:=.obj C (trF gv M)
def faD (M:List B8):D:=.dct (kv (λ b=>.tup [hD b.h,.str b.n]) M)
theorem bX {g:B8->D} {M:List B8} {i:Int} {b:B8} (h:fd M i=some b):eE (.dct (kv g M)) (.int i)=some (g b):=by
 show gr (kv g M) (.inl i)=_;rw [qw,h];rfl
theorem oT {g:B8->D} {M:List B8} {i:Int} {b:B8} (h:fd M i=some b):eW (.int i) (.dct (kv g M))=some (.bl false):=by
 show some (D.bl (!(gr (kv g M) (.inl i)).isSome))=_;rw [qw,h];rfl
theorem rg:∀ (l:List Str) ,om (l.map λ x=>((.inr x:Key),D.bl true))=some l
 | []=>rfl
 | x::l=>by
  show (om (l.map λ x=>((.inr x:Key),D.bl true))).map (x::·)=_;rw [rg l];rfl
section
variable {t:Adr} {gv:Int} {M:List B8} {i:Int} {b:B8} {z:Int}
theorem fN:(trF gv M).lookup (Str.ofString "names")=some (D.dct (kv (λ b=>.str b.n) M)):=rfl
theorem fH:(trF gv M).lookup (Str.ofString "holders")=some (D.dct (kv (λ b=>hD b.h) M)):=rfl
theorem fB:(trF gv M).lookup (Str.ofString "boxes")=some (D.dct (kv (λ b=>.lst (b.r.map .int)) M)):=rfl
theorem fK:(trF gv M).lookup (Str.ofString "marks")=some (D.dct (kv mkD M)):=rfl
theorem gh (h:fd M i=some b):dZ t [trD t.af gv M,.int i]=some (.shr .non):=by
 have e1:=oT (g:=λ b=>.str b.n) h;unfold dZ fU;exact Jb (sq (aF (az e_v (ft e_v fN) e1)) nofun λ _=>rfl)
theorem chk (h:fd M i=some b):uI (kH t.af "check" (dZ t) (aE 0) (aD (aE 1) cJ)) [.shr (trD t.af gv M),.shr (.int i)]=some (.next [.shr (trD t.af gv M),.shr (.int i)]) :=
 EG (cH e_v (ag e_v aA) rfl (gh h) rfl)
theorem kj (h:fd M i=some b):bT t [trD t.af gv M,.int i]=some (.shr (hD b.h)):=by
 unfold bT c5;exact cf (bh (chk h) (bW (az (ft e_v fH) e_v (bX h))))
theorem ng (h:fd M i=some b):cK t [trD t.af gv M,.int i]=some (.own (.lst (b.r.map .int))):=by
 unfold cK dH;exact cf (bh (chk h) (Aj (bL (ag (az (ft e_v fB) e_v (bX h)) aA) rfl)))
theorem ze (h:fd M i=some b) (h64:b.m.k.length < 64):dM t [trD t.af gv M,.int i]=some (.own (.lst ((D6 b.m.k).map .str))):=by
 unfold dM dG;refine cf (bh (chk h) (Aj ?_));unfold rO;rw [az (ft e_v fK) e_v (bX h)];show (om (b.m.k.map λ x=>((.inr x:Key),D.bl true))).bind _=_;rw [rg];show (if b.m.k.length < 64 then _ else none)=_;rw [if_pos h64]
inductive Ch (M:List B8):Int->Nat->Prop where
 | top {i:Int} {b:B8} (h:fd M i=some b) (e:b.h=none):Ch M i 0
 | up {i j:Int} {n:Nat} {b:B8} (h:fd M i=some b) (e:b.h=some j) (c:Ch M j n):Ch M i (n+1)
theorem Ch.get {n:Nat} (h:Ch M i n):∃ b,fd M i=some b:=by
 cases h with
 | top h _=>exact ⟨_,h⟩
 | up h _ _=>exact ⟨_,h⟩
theorem CJ (h:fd M i=some b):d9 t [trD t.af gv M,.int i]=some (.shr (.str b.n)):=by
 unfold d9 d6;exact cf (bh (chk h) (bW (az (ft e_v fN) e_v (bX h))))
inductive Hl (M:List B8):Int->List Int->Prop where
 | top {i:Int} {b:B8} (h:fd M i=some b) (e:b.h=none):Hl M i []
 | up {i j:Int} {l:List Int} {b:B8} (h:fd M i=some b) (e:b.h=some j) (c:Hl M j l):Hl M i (j::l)
theorem Hl.get {l:List Int} (h:Hl M i l):∃ b,fd M i=some b:=by
 cases h with
 | top h _=>exact ⟨_,h⟩
 | up h _ _=>exact ⟨_,h⟩
theorem Hl.of {n:Nat} (c:Ch M i n):∃ l,Hl M i l/\l.length=n:=by
 induction c with
 | top h e=>exact ⟨[],.top h e,rfl⟩
 | up h e c ih=>obtain ⟨l,h1,h2⟩:=ih; exact ⟨_::l,.up h e h1,Yn (·+1) h2⟩
theorem ou {l:List Int} (c:Hl M i l):∀ (ds:List D) (b:B8),fd M i=some b->ds.length+l.length < 100000->cv (dT (dOp sP (aE 3) (dC .non))) (i9 (An 2 (aE 3)) (Bo 3 (kH t.af "holder_of" (bT t) (aE 0) (aD (aE 3) cJ)))) (l.length+1) [.shr (trD t.af gv M),.shr (.int z),.own (.lst ds),.shr (hD b.h)]=some (.next [.shr (trD t.af gv M),.shr (.int z),.own (.lst (ds++l.map .int)),.shr .non]):=by
 induction c with
 | @top i b h e =>
  intro ds b' hb hz;rw [h] at hb;cases hb;rw [e];have t1:dT (dOp sP (aE 3) (dC .non)) [.shr (trD t.af gv M),.shr (.int z),.own (.lst ds),.shr (hD none)]=some false:=rfl;unfold cv;rw [t1,Xk,Zx];rfl
 | @up i j l b h e c ih =>
  intro ds b' hb hz;rw [h] at hb;cases hb;obtain ⟨bj,hj⟩:=c.get;have hx:=ih (ds++[.int j]) bj hj (by rw [Zz]; show ds.length+1+l.length < _; rw [Z0] at hz; omega);rw [e];have t1:dT (dOp sP (aE 3) (dC .non)) [.shr (trD t.af gv M),.shr (.int z),.own (.lst ds),.shr (hD (some j))]=some true:=rfl
  have t2:i9 (An 2 (aE 3)) (Bo 3 (kH t.af "holder_of" (bT t) (aE 0) (aD (aE 3) cJ))) [.shr (trD t.af gv M),.shr (.int z),.own (.lst ds),.shr (hD (some j))]=some (.next [.shr (trD t.af gv M),.shr (.int z),.own (.lst (ds++[.int j])),.shr (hD bj.h)]) :=
   bh ((EH e_v rfl (by omega)).trans rfl) ((bC (cH e_v (ag e_v aA) rfl (kj hj) rfl)).trans rfl)
  conv=>lhs; unfold cv
  rw [t1];simp only [t2];rw [List.append_assoc] at hx;exact hx
theorem s9 {l:List Int} (c:Hl M i l) (hn:l.length < 1000):fX t [trD t.af gv M,.int i]=some (.own (.lst (l.map .int))):=by
 obtain ⟨b,h⟩:=c.get;have w:=nH (ou (t:=t) (gv:=gv) (z:=i) c [] b h (by rw [Xx]; omega));unfold fX fP;dsimp only;exact cf (bh (uA (fG aA (Z7 _)) (Zb rfl)) (bh ((bC (cH e_v (ag e_v aA) rfl (kj h) rfl)).trans rfl) (bh w (Ai rfl))))
theorem jC {n:Nat} (c:Ch M i n) (hn:n < 1000):iW t [trD t.af gv M,.int i]=some (.shr (.int (n:Int))):=by
 obtain ⟨l,h,e⟩:=Hl.of c;unfold iW iS;refine cf (bW (bL (ag (dO (ag e_v (ag e_v aA)) (s9 h (by omega)) rfl) aA) ?_));show some (D.int ((l.map D.int).length:Int))=_;rw [Za,e]
end
end N14
end
section
namespace N14
open PySem L2
def trG (C:Addr) (g nm ho bx mk wd rw:Mt):Mt:=.n (.o C) [(.inr "given",g),(.inr "names",nm),(.inr "holders",ho),(.inr "boxes",bx),(.inr "marks",mk),(.inr "words",wd),(.inr "rows",rw)]
def kM (g:B8->Mt) (M:List B8):Mt:=.n .d (kv g M)
def mkM (b:B8):Mt:=.n .d (b.m.k.map λ x=>((.inr x:Key),.s (.bl true)))
def wdM (b:B8):Mt:=lM []
def roM (b:B8):Mt:=.s (.tup [])
def bxM (M:List B8):Mt:=kM (λ b=>lM (b.r.map .int)) M
def trM (C:Addr) (gv:Int) (M:List B8):Mt:=trG C (.s (.int gv)) (kM (λ b=>.s (.str b.n)) M) (kM (λ b=>.s (hD b.h)) M) (bxM M) (kM mkM M) (kM wdM M) (kM roM M)
def faM (M:List B8):Mt:=kM (λ b=>.s (.tup [hD b.h,.str b.n])) M
theorem zH (g:B8->Mt) (M:List B8):frz (kM g M)=.dct (kv (λ b=>frz (g b)) M):=by
 unfold kM kv;rw [frz,mV,Zv];rfl
theorem zG (d:D):frz (.s d)=d:=by rw [frz]
theorem gz (ns:List D):frz (lM ns)=.lst ns:=by
 unfold lM;rw [frz,rD,Zv];congr 1;exact (Zu (g:=id) λ d _=>by show frz (.s d)=id d; rw [frz]; rfl).trans (List.map_id _)
theorem GA (b:B8):frz (mkM b)=mkD b:=by
 unfold mkM mkD;rw [frz,mV,Zv];exact Yn D.dct (Zu λ x _=>by show (_,frz (.s _))=_; rw [zG])
theorem Gy (b:B8):frz (wdM b)=wdD b:=by
 unfold wdM wdD;rw [gz]
theorem Gz (b:B8):frz (roM b)=roD b:=by
 unfold roM roD;rw [zG]
theorem l5 (C:Addr) (gv:Int) (M:List B8):frz (trM C gv M)=trD C gv M:=by
 unfold trM trG bxM;rw [frz];simp only [rF,Zg,Xk,zH,zG,gz,GA,Gy,Gz,strOf];rfl
theorem ij (M:List B8):frz (bxM M)=.dct (kv (λ b=>.lst (b.r.map .int)) M):=by
 unfold bxM;rw [zH];simp only [gz]
theorem l6 (M:List B8):frz (faM M)=faD M:=by
 unfold faM faD;rw [zH];simp only [zG]
theorem sg {C:Addr} {g nm ho bx mk wd rw x:Mt}:(trG C g nm ho bx mk wd rw).put [.k (.inr "boxes")] x=trG C g nm ho x mk wd rw:=by
 show Mt.n (.o C) [(.inr "given",g),(.inr "names",nm),(.inr "holders",ho),(.inr "boxes",bx.put [] x),(.inr "marks",mk),(.inr "words",wd),(.inr "rows",rw)]=_;cases bx <;> rfl
theorem ui {C:Addr} {g nm ho bx mk wd rw:Mt} {k:Key}:(trG C g nm ho bx mk wd rw).get [.k (.inr "boxes"),.k k]=bx.get [.k k]:=rfl
theorem jG {C:Addr} {g nm ho bx mk wd rw x:Mt} {k:Key}:(trG C g nm ho bx mk wd rw).put [.k (.inr "boxes"),.k k] x=trG C g nm ho (bx.put [.k k] x) mk wd rw:=rfl
theorem kl (g:B8->Mt) (M:List B8) (i:Int):(kM g M).get [.k (.inl i)]=(fd M i).map g:=by
 unfold kM;rw [zQ];unfold kv fd
 induction M with
 | nil=>rfl
 | cons b M ih =>
  rw [Zg,List.find?_cons,List.find?_cons]
  by_cases h:b.i=i
  · simp [h]
  ·have:decide ((Sum.inl b.i:Key)=Sum.inl i)=false:=Zk λ z=>h (by injection z)
   rw [Zk h,this];exact ih
end N14
end
section
namespace N14
open PySem L2
theorem uQ {C:Addr} {g ho bx mk wd rw mv:Mt} {cs:List (Key×Mt)} {b:Bool} {r:List Sm} {gk:DE} {fv:DEm} {s:Sm} {d:D} {k:Key} (h1:fv (.mu b (trG C g (.n .d cs) ho bx mk wd rw)::r)=some (s,.mu b (trG C g (.n .d cs) ho bx mk wd rw)::r)) (h3:gk (bf (.mu b (trG C g (.n .d cs) ho bx mk wd rw)::r))=some d) (h4:iK d=some k) (h5:toM s=some mv) (h7:cs.length < 100000) :
  eD (iF C "names" (a6 0)) gk fv (.mu b (trG C g (.n .d cs) ho bx mk wd rw)::r)=some (.next (.mu b (trG C g (.n .d (gn cs k mv)) ho bx mk wd rw)::r)):=by
 refine (eI h1 (jF bK rfl) h3 h4 h5 rfl h7).trans ?_
 rfl
theorem jL {C:Addr} {g nm bx mk wd rw mv:Mt} {cs:List (Key×Mt)} {b:Bool} {r:List Sm} {gk:DE} {fv:DEm} {s:Sm} {d:D} {k:Key} (h1:fv (.mu b (trG C g nm (.n .d cs) bx mk wd rw)::r)=some (s,.mu b (trG C g nm (.n .d cs) bx mk wd rw)::r)) (h3:gk (bf (.mu b (trG C g nm (.n .d cs) bx mk wd rw)::r))=some d) (h4:iK d=some k) (h5:toM s=some mv) (h7:cs.length < 100000) :
  eD (iF C "holders" (a6 0)) gk fv (.mu b (trG C g nm (.n .d cs) bx mk wd rw)::r)=some (.next (.mu b (trG C g nm (.n .d (gn cs k mv)) bx mk wd rw)::r)):=by
 refine (eI h1 (jF bK rfl) h3 h4 h5 rfl h7).trans ?_
 rfl
theorem uU {C:Addr} {g nm ho mk wd rw mv:Mt} {cs:List (Key×Mt)} {b:Bool} {r:List Sm} {gk:DE} {fv:DEm} {s:Sm} {d:D} {k:Key} (h1:fv (.mu b (trG C g nm ho (.n .d cs) mk wd rw)::r)=some (s,.mu b (trG C g nm ho (.n .d cs) mk wd rw)::r)) (h3:gk (bf (.mu b (trG C g nm ho (.n .d cs) mk wd rw)::r))=some d) (h4:iK d=some k) (h5:toM s=some mv) (h7:cs.length < 100000) :
  eD (iF C "boxes" (a6 0)) gk fv (.mu b (trG C g nm ho (.n .d cs) mk wd rw)::r)=some (.next (.mu b (trG C g nm ho (.n .d (gn cs k mv)) mk wd rw)::r)):=by
 refine (eI h1 (jF bK rfl) h3 h4 h5 rfl h7).trans ?_
 rfl
theorem uR {C:Addr} {g nm ho bx wd rw mv:Mt} {cs:List (Key×Mt)} {b:Bool} {r:List Sm} {gk:DE} {fv:DEm} {s:Sm} {d:D} {k:Key} (h1:fv (.mu b (trG C g nm ho bx (.n .d cs) wd rw)::r)=some (s,.mu b (trG C g nm ho bx (.n .d cs) wd rw)::r)) (h3:gk (bf (.mu b (trG C g nm ho bx (.n .d cs) wd rw)::r))=some d) (h4:iK d=some k) (h5:toM s=some mv) (h7:cs.length < 100000) :
  eD (iF C "marks" (a6 0)) gk fv (.mu b (trG C g nm ho bx (.n .d cs) wd rw)::r)=some (.next (.mu b (trG C g nm ho bx (.n .d (gn cs k mv)) wd rw)::r)):=by
 refine (eI h1 (jF bK rfl) h3 h4 h5 rfl h7).trans ?_
 rfl
theorem uP {C:Addr} {g nm ho bx mk rw mv:Mt} {cs:List (Key×Mt)} {b:Bool} {r:List Sm} {gk:DE} {fv:DEm} {s:Sm} {d:D} {k:Key} (h1:fv (.mu b (trG C g nm ho bx mk (.n .d cs) rw)::r)=some (s,.mu b (trG C g nm ho bx mk (.n .d cs) rw)::r)) (h3:gk (bf (.mu b (trG C g nm ho bx mk (.n .d cs) rw)::r))=some d) (h4:iK d=some k) (h5:toM s=some mv) (h7:cs.length < 100000) :
  eD (iF C "words" (a6 0)) gk fv (.mu b (trG C g nm ho bx mk (.n .d cs) rw)::r)=some (.next (.mu b (trG C g nm ho bx mk (.n .d (gn cs k mv)) rw)::r)):=by
 refine (eI h1 (jF bK rfl) h3 h4 h5 rfl h7).trans ?_
 rfl
theorem yf {C:Addr} {g nm ho bx mk wd mv:Mt} {cs:List (Key×Mt)} {b:Bool} {r:List Sm} {gk:DE} {fv:DEm} {s:Sm} {d:D} {k:Key} (h1:fv (.mu b (trG C g nm ho bx mk wd (.n .d cs))::r)=some (s,.mu b (trG C g nm ho bx mk wd (.n .d cs))::r)) (h3:gk (bf (.mu b (trG C g nm ho bx mk wd (.n .d cs))::r))=some d) (h4:iK d=some k) (h5:toM s=some mv) (h7:cs.length < 100000) :
  eD (iF C "rows" (a6 0)) gk fv (.mu b (trG C g nm ho bx mk wd (.n .d cs))::r)=some (.next (.mu b (trG C g nm ho bx mk wd (.n .d (gn cs k mv)))::r)):=by
 refine (eI h1 (jF bK rfl) h3 h4 h5 rfl h7).trans ?_
 rfl
theorem wN {C:Addr} {g nm ho bx mk wd rw mv:Mt} {b:Bool} {r:List Sm} {fv:DEm} {s:Sm} (h1:fv (.mu b (trG C g nm ho bx mk wd rw)::r)=some (s,.mu b (trG C g nm ho bx mk wd rw)::r)) (h5:toM s=some mv) :
  su C "given" (a6 0) fv (.mu b (trG C g nm ho bx mk wd rw)::r)=some (.next (.mu b (trG C mv nm ho bx mk wd rw)::r)):=by
 refine (F6 h1 bK h5 rfl (Zb rfl)).trans ?_
 rfl
def Nd (M:List B8):Prop:=(M.map B8.i).Nodup
theorem fd_none {M:List B8} {i:Int}:fd M i=none↔∀ b ∈ M,b.i≠i:=by
 unfold fd;rw [List.find?_eq_none];exact ⟨λ h b hb e=>h b hb (by simp [e]),λ h b hb e=>h b hb (by simpa using e)⟩
theorem kA {M:List B8} (nd:Nd M) {b:B8} (hb:b ∈ M):fd M b.i=some b:=by
 unfold Nd at nd;unfold fd
 induction M with
 | nil=>cases hb
 | cons c M ih =>
  rw [Zg,Zw] at nd;rw [List.find?_cons];rcases Zl.mp hb with rfl | hb
  · simp
  ·have ne:c.i≠b.i:=λ e=>nd.1 (by rw [e]; exact Yk hb)
   rw [Zk ne];exact ih nd.2 hb
theorem A6 {β:Type} (g:B8->β) (M:List B8) (i:Int):((kv g M).any λ c=>decide (c.1=.inl i))=(fd M i).isSome:=by
 unfold kv fd;rw [List.any_map,<- List.isSome_find?];congr 2
 funext b
 show decide ((Sum.inl b.i:Key)=Sum.inl i)=decide (b.i=i);exact decide_eq_decide.mpr ⟨λ z=>by injection z,λ z=>by rw [z]⟩
theorem yh {g:B8->Mt} {M:List B8} {i:Int} {m:Mt} (h:fd M i=none):gn (kv g M) (.inl i) m=kv g M++[(.inl i,m)]:=by
 unfold gn;rw [A6,h];rfl
theorem Dm {β:Type} (g:B8->β) (M:List B8) (b:B8):kv g (M++[b])=kv g M++[(.inl b.i,g b)]:=by
 unfold kv;rw [Zi];rfl
theorem hW {g:B8->Mt} {M:List B8} {b:B8} (h:fd M b.i=none):gn (kv g M) (.inl b.i) (g b)=kv g (M++[b]):=by rw [yh h,Dm]
theorem dU {β:Type} (g:B8->β) (M:List B8):(kv g M).length=M.length:=Za _
def upR (M:List B8) (i:Int) (r:List Int):List B8:=M.map λ b=>if b.i=i then { b with r:=r } else b
theorem mz {β:Type} (g:B8->β) (M:List B8) (i:Int) (r:List Int) (hg:∀ b:B8,g { b with r:=r }=g b):kv g (upR M i r)=kv g M:=by
 unfold kv upR;rw [Zv];refine Zu λ b _=>?_
 show ((Sum.inl (if b.i=i then { b with r:=r } else b).i:Key),g (if b.i=i then { b with r:=r } else b))=_;split
 · rw [hg]
 · rfl
theorem nN {M:List B8} {i:Int} {b:B8} {r:List Int} (nd:Nd M) (h:fd M i=some b):(bxM M).put [.k (.inl i)] (lM (r.map .int))=bxM (upR M i r):=by
 have hb:=aS h;have hi:=gL h;obtain ⟨l1,l2,rfl⟩:=List.append_of_mem hb;have nd':=nd;unfold Nd at nd';rw [Zi,Zg,Yb,Zw] at nd';have n1:∀ c ∈ l1,c.i≠i:=λ c hc e=>nd'.2.2 c.i (Yk hc) b.i (Ze ..) (by rw [e,hi])
 have n2:∀ c ∈ l2,c.i≠i:=λ c hc e=>nd'.2.1.1 (by rw [hi,<- e]; exact Yk hc)
 have ix:((kv (λ b=>lM (b.r.map .int)) (l1++b::l2)).findIdx? λ c=>decide (c.1=.inl i))=some l1.length:=by
  unfold kv;rw [List.findIdx?_map,List.findIdx?_append]
  have e1:(l1.findIdx? ((λ c:Key×Mt=>decide (c.1=Sum.inl i)) ∘ λ b=>((.inl b.i:Key),lM (b.r.map .int))))=none:=by
   rw [List.findIdx?_eq_none_iff];intro c hc;exact Zk λ z=>n1 c hc (by injection z)
  rw [e1,List.findIdx?_cons];have e2:((λ c:Key×Mt=>decide (c.1=Sum.inl i)) ∘ λ b:B8=>((.inl b.i:Key),lM (b.r.map .int))) b=true:=Zq (by show (Sum.inl b.i:Key)=Sum.inl i; rw [hi]);rw [e2];simp
 have gx:(kv (λ b=>lM (b.r.map .int)) (l1++b::l2))[l1.length]?=some ((.inl b.i:Key),lM (b.r.map .int)):=by
  unfold kv;rw [List.getElem?_map,List.getElem?_append_right (Zn _),Y7];rfl
 show (match (kv (λ b=>lM (b.r.map .int)) (l1++b::l2)).findIdx? (λ c=>decide (c.1=.inl i)) with | none=>Mt.n .d (kv (λ b=>lM (b.r.map .int)) (l1++b::l2)) | some j=>match (kv (λ b=>lM (b.r.map .int)) (l1++b::l2))[j]? with | none=>Mt.n .d (kv (λ b=>lM (b.r.map .int)) (l1++b::l2)) | some c=>.n .d ((kv (λ b=>lM (b.r.map .int)) (l1++b::l2)).set j (c.1,Mt.put c.2 [] (lM (r.map .int)))))=_;simp only [ix,gx];congr 1;unfold kv upR;rw [Zi,Zg,Zi,Zg,Zi,Zg,List.set_append_right _ _ (by rw [Za]; exact Zn _),Za,Y7];congr 1
 ·rw [Zv]
  refine Zu λ c hc=>?_
  show _=((Sum.inl (if c.i=i then { c with r:=r } else c).i:Key),lM ((if c.i=i then { c with r:=r } else c).r.map .int));rw [if_neg (n1 c hc)]
 ·show (_,Mt.put (lM (b.r.map .int)) [] (lM (r.map .int)))::_=_
  rw [if_pos hi];congr 1;rw [Zv];refine Zu λ c hc=>?_
  show _=((Sum.inl (if c.i=i then { c with r:=r } else c).i:Key),lM ((if c.i=i then { c with r:=r } else c).r.map .int));rw [if_neg (n2 c hc)]
end N14
end
section
namespace N14
open PySem L2
section
variable {t:Adr} {gv:Int} {M:List B8} {nm:Str} {h:Option Int}
theorem iC {C:Addr} {b:Bool} {r:List Sm}:bf (.mu b (trM C gv M)::r)=.shr (trD C gv M)::bf r:=by
 show sk (.mu b (trM C gv M))::_=_;show Sl.shr (frz (trM C gv M))::_=_;rw [l5]
theorem rH (hl:M.length < 1000) (hf:fd M gv=none):fZ t [.mu true (trM t.af gv M),.shr (hD h),.shr (.str nm)]=some (.shr (.int gv),[.mu true (trM t.af (gv+1) (M++[⟨gv,h,nm,[],cc⟩])),.no,.no]):=by
 unfold fZ fT;dsimp only;refine (gF (s:=.shr (.int gv)) (τ:=[.mu true (trM t.af (gv+1) (M++[⟨gv,h,nm,[],cc⟩])),.shr (hD h),.shr (.str nm),.shr (.int gv)]) ?_).trans rfl;have hz:∀ g:B8->Mt,(kv g M).length < 100000:=λ g=>by rw [dU]; omega
 refine aH (τ':=[.mu true (trM t.af gv M),.shr (hD h),.shr (.str nm),.shr (.int gv)]) (cw (s:=.shr (.int gv)) (v_S ?_ rfl) (Zb rfl) rfl) ?_
 ·show dUn (vM t.af "given") (aE 0) (bf (.mu true (trM t.af gv M)::[.shr (hD h),.shr (.str nm),.no]))=_
  rw [iC];exact ft (ai rfl) rfl
 refine aH (wN (mv:=.s (.int (gv+1))) (v_N (az (ai rfl) e_c (a7 _ _))) rfl) ?_
 refine aH (uQ (v_N (ai rfl)) (ai rfl) rfl rfl (hz _)) ?_
 refine aH (jL (v_N (ai rfl)) (ai rfl) rfl rfl (hz _)) ?_
 refine aH (uU (v_O (fG aA (Z7 _)) rfl) (ai rfl) rfl rfl (hz _)) ?_
 refine aH (uR rfl (ai rfl) rfl rfl (hz _)) ?_
 refine aH (uP (v_O (fG aA (Z7 _)) rfl) (ai rfl) rfl rfl (hz _)) ?_
 refine aH (yf (v_N (il aA (Z7 _))) (ai rfl) rfl rfl (hz _)) ?_
 refine (mP (v_N (ai rfl))).trans ?_
 have sn:∀ g:B8->Mt,gn (kv g M) (.inl gv) (g ⟨gv,h,nm,[],cc⟩)=kv g (M++[⟨gv,h,nm,[],cc⟩]):=λ g=>hW (b:=⟨gv,h,nm,[],cc⟩) hf
 unfold trM bxM kM;rw [<- sn,<- sn,<- sn,<- sn,<- sn,<- sn];rfl
theorem gK {C:Addr} {x:Str} {cs:List (Key×Mt)} {mv:Mt} {b:Bool} {r:List Sm} {fv:DEm} {s:Sm} (h1:fv (.mu b (.n (.o C) cs)::r)=some (s,.mu b (.n (.o C) cs)::r)) (h5:toM s=some mv) (h7:cs.length < 1000) :
 su C x (a6 0) fv (.mu b (.n (.o C) cs)::r)=some (.next (.mu b (.n (.o C) (gn cs (.inr x) mv))::r)):=(F6 h1 bK h5 rfl h7).trans rfl
theorem Dv (hn:bR nm=true):cL t [.mu true (.n (.o t.af) []),.shr (.str nm)]=some (.shr .non,[.mu true (trM t.af 1 [⟨0,none,nm,[],cc⟩]),.no]):=by
 unfold cL dI;dsimp only;refine (qF (τ:=[.mu true (trM t.af 1 [⟨0,none,nm,[],cc⟩]),.shr (.str nm)]) ?_).trans rfl;refine aH (dw (dO (ag (ai rfl) aA) (c8 hn) rfl)) ?_
 refine aH (gK (v_N e_c) rfl (Zb rfl)) ?_
 refine aH (gK rfl rfl (Zb rfl)) ?_
 refine aH (gK rfl rfl (Zb rfl)) ?_
 refine aH (gK rfl rfl (Zb rfl)) ?_
 refine aH (gK rfl rfl (Zb rfl)) ?_
 refine aH (gK rfl rfl (Zb rfl)) ?_
 refine aH (gK rfl rfl (Zb rfl)) ?_
 have e:=rH (t:=t) (gv:=0) (M:=[]) (nm:=nm) (h:=none) (by decide) rfl;refine gy (s:=.shr (.int 0)) (v_M (C:=t.af) (i:=0) (q:=[]) (ss:=[.mu true (trM t.af 0 []),.shr (hD none),.shr (.str nm)]) bK rfl rfl (aO (q_N e_c) (aO (q_N (ai rfl)) rfl)) rfl e ?_);rfl
end
end N14
end
section
namespace N14
open PySem L2
def insI (r:List Int) (p x:Int):List Int:=r.take p.toNat++x::r.drop p.toNat
theorem rB (r:List Int) (p x:Int):Mt.n .l (Iy ((r.map D.int).map λ d=>((.inl 0:Key),Mt.s d)) p.toNat (.s (.int x)))=lM ((insI r p x).map .int):=by
 unfold lM insI Iy;rw [Zi,Zi,Zg,Zg,List.map_take,List.map_take,List.map_drop,List.map_drop]
theorem AV {M:List B8} {i:Int} {b c:B8} (h:fd M i=some b):fd (M++[c]) i=some b:=by
 unfold fd at *;rw [List.find?_append,h];rfl
theorem Az {M:List B8} {b:B8} (nd:Nd M) (h:fd M b.i=none):Nd (M++[b]):=by
 unfold Nd at *;rw [Zi,Yb];refine ⟨nd,by simp,λ x hx y hy e=>?_⟩;obtain ⟨c,hc,rfl⟩:=Z2.mp hx;have:y=b.i:=by simpa using hy
 exact fd_none.mp h c hc (by rw [e,this])
theorem DC {i j:Int} (h:i<=j):oGt (.int i) (.int j)=some (.bl false):=by
 show some (D.bl (decide _))=_;rw [Zk (by omega)]
theorem AO {g:B8->D} (M:List B8):jX [.dct (kv g M)]=some (.int (M.length:Int)):=by
 show some (D.int ((kv g M).length:Nat))=_;rw [dU]
def jA (M:List B8) (h:Int) (b:B8) (p gv:Int) (nm:Str):List B8:=upR (M++[⟨gv,some h,nm,[],cc⟩]) h (insI b.r p gv)
theorem ug {C:Addr} {gv:Int} {M:List B8} {i:Int} {r:List Int}:trM C gv (upR M i r)=trG C (.s (.int gv)) (kM (λ b=>.s (.str b.n)) M) (kM (λ b=>.s (hD b.h)) M) (bxM (upR M i r)) (kM mkM M) (kM wdM M) (kM roM M):=by
 unfold trM kM;rw [mz _ _ _ _ (λ _=>rfl),mz _ _ _ _ (λ _=>rfl),mz _ _ _ _ (λ _=>rfl),mz _ _ _ _ (λ _=>rfl),mz _ _ _ _ (λ _=>rfl)]
section
variable {t:Adr} {gv:Int} {M:List B8} {nm:Str} {h p:Int} {b:B8} {dp:Nat}
theorem EU (nd:Nd M) (hf:fd M gv=none) (hb:fd M h=some b) (p0:0<=p) (p1:p<=(b.r.length:Int)) (hz:b.r.length < 1000) (hn:bR nm=true) (h90:M.length < 90) (ch:Ch M h dp) (h12:dp < 12) :
  iX t [.mu true (trM t.af gv M),.shr (.int h),.shr (.int p),.shr (.str nm)]=some (.shr (.int gv),[.mu true (trM t.af (gv+1) (jA M h b p gv nm)),.no,.no,.no]):=by
 unfold iX iU;dsimp only;refine (gF (s:=.shr (.int gv)) (τ:=[.mu true (trM t.af (gv+1) (jA M h b p gv nm)),.shr (.int h),.shr (.int p),.shr (.str nm),.shr (.int gv)]) ?_).trans rfl;have sn:∀ {x:Sm},bf [.mu true (trM t.af gv M),.shr (.int h),.shr (.int p),.shr (.str nm),x]=.shr (trD t.af gv M)::bf [.shr (.int h),.shr (.int p),.shr (.str nm),x]:=iC
 refine aH (dw (τ:=[.mu true (trM t.af gv M),.shr (.int h),.shr (.int p),.shr (.str nm),.no]) (by rw [sn]; exact cH (ai rfl) (ag (ai rfl) aA) rfl (gh hb) rfl)) ?_
 refine aH (dw (by rw [sn]; exact dO (ag (ai rfl) (ag (az (ft (ai rfl) fB) (ai rfl) (bX hb)) aA)) (gB p0 p1) rfl)) ?_
 refine aH (dw (by rw [sn]; exact dO (ag (ai rfl) aA) (c8 hn) rfl)) ?_
 refine aH (d4 (t_S (by rw [sn]; exact aF (az (az (bL (ag (ft (ai rfl) fN) aA) (AO M)) e_c (a7 _ _)) e_c (DC (by omega))))) rfl) ?_
 refine aH (d4 (t_S (by rw [sn]; exact aF (az (az (dO (ag (ai rfl) (ag (ai rfl) aA)) (jC ch (by omega)) rfl) e_c (a7 _ _)) e_c (DC (by omega))))) rfl) ?_
 have e:=rH (t:=t) (nm:=nm) (h:=some h) (show M.length < 1000 by omega) hf;refine aH (τ':=[.mu true (trM t.af (gv+1) (M++[⟨gv,some h,nm,[],cc⟩])),.shr (.int h),.shr (.int p),.shr (.str nm),.shr (.int gv)]) (cw (s:=.shr (.int gv)) (v_M (C:=t.af) (i:=0) (q:=[]) (ss:=[.mu true (trM t.af gv M),.shr (hD (some h)),.shr (.str nm)]) (τ':=[.mu true (trM t.af (gv+1) (M++[⟨gv,some h,nm,[],cc⟩])),.shr (.int h),.shr (.int p),.shr (.str nm),.no]) bK rfl rfl (aO (q_N (ai rfl)) (aO (q_N (ai rfl)) rfl)) rfl e rfl) (Zb rfl) rfl) ?_
 have hb1:fd (M++[⟨gv,some h,nm,[],cc⟩]) h=some b:=AV hb;have nd1:Nd (M++[⟨gv,some h,nm,[],cc⟩]):=Az (b:=⟨gv,some h,nm,[],cc⟩) nd hf
 have hg:aZ [.mu true (trM t.af (gv+1) (M++[⟨gv,some h,nm,[],cc⟩])),.shr (.int h),.shr (.int p),.shr (.str nm),.shr (.int gv)] 0 [.k (.inr "boxes"),.k (.inl h)]=some (lM (b.r.map .int)):=by
  rw [jZ rfl];refine ui.trans ?_
  refine (kl _ _ _).trans ?_
  rw [hb1];rfl
 refine aH (zg (cs0:=_) (mw (jF bK rfl) (ai rfl) rfl rfl) hg (ai rfl) (v_N (ai rfl)) rfl hg ⟨p0,by rw [Za,Za]; exact p1,by rw [Za,Za]; omega⟩) ?_
 rw [c6 rfl,rB];refine (mP (v_N (ai rfl))).trans ?_
 have ep:(trM t.af (gv+1) (M++[⟨gv,some h,nm,[],cc⟩])).put [.k (.inr "boxes"),.k (.inl h)] (lM ((insI b.r p gv).map .int))=trM t.af (gv+1) (jA M h b p gv nm):=by
  refine jG.trans ?_
  rw [nN nd1 hb1];unfold jA;rw [ug]
 show some (tT.ret _ (List.set _ 0 (.mu true ((trM t.af (gv+1) (M++[⟨gv,some h,nm,[],cc⟩])).put [.k (.inr "boxes"),.k (.inl h)] (lM ((insI b.r p gv).map .int))))))=_;rw [ep];rfl
end
end N14
end
section
namespace N14
open PySem L2
structure MOk (gv:Int) (M:List B8):Prop where
 nd:Nd M
 lt:∀ b ∈ M,0<=b.i/\b.i < gv
 root:∃ b,fd M 0=some b/\b.h=none
 hol:∀ b ∈ M,b.i≠0->∃ j p,b.h=some j/\fd M j=some p/\b.i ∈ p.r
 kid:∀ b ∈ M,∀ c ∈ b.r,∃ d,fd M c=some d/\d.h=some b.i
 rnd:∀ b ∈ M,b.r.Nodup
 ch:∀ b ∈ M,∃ n,Ch M b.i n/\n<=12
inductive Anc (M:List B8) (a:Int):Int->Prop where
 | refl:Anc M a a
 | up {x j:Int} {b:B8} (h:fd M x=some b) (e:b.h=some j) (c:Anc M a j):Anc M a x
inductive Sub (M:List B8):List Int->List Int->Prop where
 | nil:Sub M [] []
 | cons {c:Int} {cs l1 l2:List Int} {b:B8} (h:fd M c=some b) (h1:Sub M b.r l1) (h2:Sub M cs l2):Sub M (c::cs) (c::(l1++l2))
section
variable {gv:Int} {M:List B8}
theorem MOk.h0 (m:MOk gv M) {i j:Int} {b:B8} (hb:fd M i=some b) (hj:b.h=some j):i≠0:=λ e=>by
 obtain ⟨r,r1,r2⟩:=m.root;rw [e,r1] at hb;cases hb;rw [r2] at hj;cases hj
theorem MOk.AQ (m:MOk gv M) {i c:Int} {b:B8} (hb:fd M i=some b) (hc:c ∈ b.r):∃ d,fd M c=some d/\d.h=some i:=by
 obtain ⟨d,h1,h2⟩:=m.kid b (aS hb) c hc;rw [gL hb] at h2;exact ⟨d,h1,h2⟩
theorem MOk.dp (m:MOk gv M) {i:Int} {b:B8} (hb:fd M i=some b):∃ n,Ch M i n/\n<=12:=by
 have:=m.ch b (aS hb);rw [gL hb] at this;exact this
theorem Ch.uniq {i:Int} {n:Nat} (h:Ch M i n):∀ {k:Nat},Ch M i k->n=k:=by
 induction h with
 | top h e =>
  intro k h'
  cases h' with
  | top _ _=>rfl
  | up h1 e1 _=>rw [h] at h1; cases h1; rw [e] at e1; cases e1
 | up h e c ih =>
  intro k h'
  cases h' with
  | top h1 e1=>rw [h] at h1; cases h1; rw [e] at e1; cases e1
  | up h1 e1 c1 =>
   rw [h] at h1;cases h1;rw [e] at e1;cases e1;rw [ih c1]
theorem Anc.deep {a x:Int} (h:Anc M a x):∀ {n:Nat},Ch M x n->∃ k,Ch M a k/\k<=n/\(k=n->a=x):=by
 induction h with
 | refl=>intro n c; exact ⟨n,c,Zn _,λ _=>rfl⟩
 | up h e c ih =>
  intro n cx
  cases cx with
  | top h1 e1=>rw [h] at h1; cases h1; rw [e] at e1; cases e1
  | up h1 e1 c1 =>
   rw [h] at h1;cases h1;rw [e] at e1;cases e1;obtain ⟨k,k1,k2,_⟩:=ih c1;exact ⟨k,k1,by omega,λ e=>by omega⟩
theorem Anc.trans {a b c:Int} (h1:Anc M a b) (h2:Anc M b c):Anc M a c:=by
 induction h2 with
 | refl=>exact h1
 | up h e _ ih=>exact .up h e ih
theorem Anc.lin {a b x:Int} (h1:Anc M a x) (h2:Anc M b x):Anc M a b\/Anc M b a:=by
 induction h1 with
 | refl=>exact .inr h2
 | @up x j c h e _ ih =>
  cases h2 with
  | refl=>exact .inl (.up h e ‹_›)
  | up h' e' c' =>
   rw [h] at h';cases h';rw [e] at e';cases e';exact ih c'
theorem Sub.app {a b la lb:List Int} (h1:Sub M a la) (h2:Sub M b lb):Sub M (a++b) (la++lb):=by
 induction h1 with
 | nil=>exact h2
 | cons h _ _ ih1 ih2 =>
  have:=Sub.cons h ‹_› ih2;rw [List.cons_append,List.cons_append,List.append_assoc];exact this
theorem Sub.inv {c:Int} {cs l:List Int} (h:Sub M (c::cs) l):∃ b l',fd M c=some b/\l=c::l'/\Sub M (b.r++cs) l':=by
 cases h with
 | cons h h1 h2=>exact ⟨_,_,h,rfl,h1.app h2⟩
theorem Sub.len {s l:List Int} (h:Sub M s l):s.length<=l.length:=by
 induction h with
 | nil=>exact Zn _
 | cons _ _ _ _ ih=>rw [Z0,Z0,Zz]; omega
theorem Sub.roots {s l:List Int} (h:Sub M s l):∀ x ∈ s,x ∈ l:=by
 induction h with
 | nil=>intro x h; cases h
 | cons _ _ _ _ ih =>
  intro x hx;rcases Zl.mp hx with rfl | hx
  · exact Ze ..
  · exact Zd _ (Zc _ (ih x hx))
theorem Sub.mem (m:MOk gv M) {s l:List Int} (h:Sub M s l):∀ x ∈ l,∃ c ∈ s,Anc M c x:=by
 induction h with
 | nil=>intro x h; cases h
 | @cons c cs l1 l2 b h h1 h2 ih1 ih2 =>
  intro x hx;rcases Zl.mp hx with rfl | hx
  · exact ⟨_,Ze ..,.refl⟩
  ·rcases Zh.mp hx with hx | hx
   ·obtain ⟨d,hd,a⟩:=ih1 x hx
    obtain ⟨e,e1,e2⟩:=m.AQ h hd;exact ⟨c,Ze ..,(Anc.up e1 e2 .refl).trans a⟩
   ·obtain ⟨d,hd,a⟩:=ih2 x hx
    exact ⟨d,Zd _ hd,a⟩
theorem Sub.in {s l:List Int} (h:Sub M s l):∀ x ∈ l,∃ b,fd M x=some b:=by
 induction h with
 | nil=>intro x h; cases h
 | cons h _ _ ih1 ih2 =>
  intro x hx;rcases Zl.mp hx with rfl | hx
  · exact ⟨_,h⟩
  · exact (Zh.mp hx).elim (ih1 x) (ih2 x)
theorem Sub.closed {s l:List Int} (h:Sub M s l):∀ j ∈ l,∀ p,fd M j=some p->∀ c ∈ p.r,c ∈ l:=by
 induction h with
 | nil=>intro j h; cases h
 | @cons c cs l1 l2 b h h1 h2 ih1 ih2 =>
  intro j hj p hp x hx;rcases Zl.mp hj with rfl | hj
  ·rw [h] at hp
   cases hp;exact Zd _ (Zp _ (h1.roots x hx))
  ·rcases Zh.mp hj with hj | hj
   · exact Zd _ (Zp _ (ih1 j hj p hp x hx))
   · exact Zd _ (Zc _ (ih2 j hj p hp x hx))
def Apart (M:List B8) (s:List Int):Prop:=s.Pairwise λ c d=>∀ x,¬(Anc M c x/\Anc M d x)
theorem sV (m:MOk gv M) {i:Int} {b:B8} (hb:fd M i=some b):Apart M b.r:=by
 have nd:=m.rnd b (aS hb)
 have:∀ s:List Int,(∀ c ∈ s,c ∈ b.r)->s.Nodup->Apart M s:=λ s=>by
  induction s with
  | nil=>intro _ _; exact .nil
  | cons c s ih =>
   intro hs nd;rw [Zw] at nd;refine .cons (λ d hd x ⟨a1,a2⟩=>?_) (ih (λ y hy=>hs y (Zd _ hy)) nd.2)
   have key:∀ {u v:Int},u ∈ b.r->v ∈ b.r->u≠v->Anc M u v->False:=λ {u v} hu hv ne a=>by
    obtain ⟨n,hn,_⟩:=m.dp hb;obtain ⟨e,e1,e2⟩:=m.AQ hb hv;obtain ⟨f,f1,f2⟩:=m.AQ hb hu;obtain ⟨k,k1,_,k3⟩:=a.deep (.up e1 e2 hn);exact ne (k3 (k1.uniq (.up f1 f2 hn)))
   have hc:=hs c (Ze ..);have hd':=hs d (Zd _ hd);have ne:c≠d:=λ e=>nd.1 (e ▸ hd)
   rcases a1.lin a2 with a | a
   · exact key hc hd' ne a
   · exact key hd' hc (Ne.symm ne) a
 exact this b.r (λ _ h=>h) nd
theorem Sub.nodup (m:MOk gv M) {s l:List Int} (h:Sub M s l):Apart M s->l.Nodup:=by
 induction h with
 | nil=>exact λ _=>.nil
 | @cons c cs l1 l2 b h h1 h2 ih1 ih2 =>
  intro ap;have ap':=List.pairwise_cons.mp ap;rw [Zw,Yb];refine ⟨λ hc=>?_,ih1 (sV m h),ih2 ap'.2,λ x hx y hy e=>?_⟩
  ·rcases Zh.mp hc with hc | hc
   ·obtain ⟨d,hd,a⟩:=h1.mem m c hc
    obtain ⟨e,e1,e2⟩:=m.AQ h hd;obtain ⟨n,hn,_⟩:=m.dp h;obtain ⟨k,k1,k2,_⟩:=a.deep hn;have:=k1.uniq (.up e1 e2 hn);omega
   ·obtain ⟨d,hd,a⟩:=h2.mem m c hc
    exact ap'.1 d hd c ⟨.refl,a⟩
  ·subst e
   obtain ⟨d,hd,a⟩:=h1.mem m x hx;obtain ⟨e,e1,e2⟩:=m.AQ h hd;obtain ⟨d',hd',a'⟩:=h2.mem m x hy;exact ap'.1 d' hd' x ⟨(Anc.up e1 e2 .refl).trans a,a'⟩
theorem Sub.ex (m:MOk gv M):∀ (k:Nat) (cs:List Int),(∀ c ∈ cs,∃ b n,fd M c=some b/\Ch M c n/\13<=k+n)->∃ l,Sub M cs l:=by
 intro k
 induction k with
 | zero =>
  intro cs h
  cases cs with
  | nil=>exact ⟨[],.nil⟩
  | cons c cs =>
   obtain ⟨b,n,hb,hn,hl⟩:=h c (Ze ..);obtain ⟨n',h1,h2⟩:=m.dp hb;have:=hn.uniq h1;omega
 | succ k ih =>
  intro cs
  induction cs with
  | nil=>exact λ _=>⟨[],.nil⟩
  | cons c cs ihc =>
   intro h;obtain ⟨b,n,hb,hn,hl⟩:=h c (Ze ..);obtain ⟨l2,h2⟩:=ihc λ d hd=>h d (Zd _ hd)
   obtain ⟨l1,h1⟩:=ih b.r λ d hd=>by
    obtain ⟨e,e1,e2⟩:=m.AQ hb hd;exact ⟨e,n+1,e1,.up e1 e2 hn,by omega⟩
   exact ⟨_,.cons hb h1 h2⟩
theorem Sub.of (m:MOk gv M) {i:Int} {b:B8} (hb:fd M i=some b):∃ l,Sub M [i] (i::l)/\Sub M b.r l:=by
 obtain ⟨n,hn,_⟩:=m.dp hb
 obtain ⟨l,h⟩:=Sub.ex m 13 [i] λ c hc=>by
  rw [Zt.mp hc];exact ⟨b,n,hb,hn,by omega⟩
 obtain ⟨b',l',e1,rfl,h'⟩:=h.inv;rw [hb] at e1;cases e1;rw [Zx] at h';exact ⟨l',h,h'⟩
theorem Sub.iff (m:MOk gv M) {i:Int} {l:List Int} (h:Sub M [i] l) {x:Int} {b:B8} (hx:fd M x=some b):x ∈ l↔Anc M i x:=by
 constructor
 ·intro hl
  obtain ⟨c,hc,a⟩:=h.mem m x hl;rw [Zt.mp hc] at a;exact a
 ·intro a
  have:∀ {x:Int},Anc M i x->∀ b,fd M x=some b->x ∈ l:=λ {x} a=>by
   induction a with
   | refl=>exact λ _ _=>h.roots i (Zt.mpr rfl)
   | @up x j b h' e c ih =>
    intro b' hb'
    have ne:b.i≠0:=λ e0=>by
     obtain ⟨r,r1,r2⟩:=m.root;have e1:=gL h';rw [e0] at e1;rw [<- e1,r1] at h';cases h';rw [r2] at e;cases e
    obtain ⟨j',p,q1,q2,q4⟩:=m.hol b (aS h') ne;rw [e] at q1;cases q1;have:=h.closed j (ih p q2) p q2 b.i q4;rw [gL h'] at this;exact this
  exact this a b hx
theorem wj:∀ (l k:List Int),l.Nodup->(∀ x ∈ l,x ∈ k)->l.length<=k.length
 | [],_,_,_=>Z7 _
 | x::l,k,nd,h=>by
  rw [Zw] at nd;have hx:=h x (Ze ..)
  have:=wj l (k.erase x) nd.2 λ y hy=>by
   have ne:y≠x:=λ e=>nd.1 (e ▸ hy)
   exact (List.mem_erase_of_ne ne).mpr (h y (Zd _ hy))
  rw [List.length_erase_of_mem hx] at this;have:0 < k.length:=List.length_pos_of_mem hx;rw [Z0];omega
theorem sub_len {l:List Int} (nd:l.Nodup) (h:∀ x ∈ l,∃ b,fd M x=some b):l.length<=M.length:=by
 have:=wj l (M.map B8.i) nd λ x hx=>by
  obtain ⟨b,hb⟩:=h x hx;rw [<- gL hb];exact Yk (aS hb)
 rw [Za] at this;exact this
end
end N14
end
section
namespace N14
open PySem L2
theorem I9 {τ:List Sl} {i:Nat} {f:DE} {ds es:List D} (h:f τ=some (.lst es)) (q:τ[i]?=some (.own (.lst ds))) (hl:ds.length+es.length<=100000):Bp i f τ=some (.next (τ.set i (.own (.lst (ds++es))))):=by
 unfold Bp;rw [h];show (match D.lst es,τ[i]? with | .lst es,some (.own (.lst ds))=>if ds.length+es.length<=100000 then some (Out.next (τ.set i (.own (.lst (ds++es))))) else none | _,_=>none)=_;rw [q];exact if_pos hl
theorem GJ {τ:List Sl} {f:DE} {ds:List D} (h:f τ=some (.lst ds)):DQ f τ=some (.lst ds.reverse):=by unfold DQ; rw [h]; rfl
theorem EF {τ:List Sl} {i j:Nat} {ds:List D} {d:D} (q:τ[j]?=some (.own (.lst (ds++[d])))):pF i j τ=some (.next ((τ.set j (.own (.lst ds))).set i (.shr d))):=by
 unfold pF;rw [q];show ((ds++[d])[(ds++[d]).length - 1]?).map _=_;rw [Zz,Xn,Nat.add_sub_cancel,List.getElem?_append_right (Zn _),Y7,List.dropLast_concat];rfl
section
variable {t:Adr} {gv:Int} {M:List B8} {c:DT} {gk:DE} {x0 x1:Sl}
theorem t8 (hT:∀ (a y:Sl) (ds:List D),ds≠[]->c [x0,x1,a,.own (.lst ds),y]=some true)
  (hF:∀ a y:Sl,c [x0,x1,a,.own (.lst []),y]=some false)
  (hk:∀ (a s:Sl) (k:Int) (b:B8),fd M k=some b->gk [x0,x1,a,s,.shr (.int k)]=some (.lst (b.r.map .int))) :
  ∀ (l S acc:List Int) (y:Sl),Sub M S l->acc.length+l.length<=1000->∃ y',cv c (i9 (pF 4 3) (i9 (An 2 (aE 4)) (Bp 3 (DQ gk)))) (l.length+1) [x0,x1,.own (.lst (acc.map .int)),.own (.lst (S.reverse.map .int)),y]=some (.next [x0,x1,.own (.lst ((acc++l).map .int)),.own (.lst []),y']):=by
 intro l
 induction l with
 | nil =>
  intro S acc y h hz;cases h;refine ⟨y,?_⟩;unfold cv;rw [show ([]:List Int).reverse.map D.int=[] from rfl,hF,Zx]
 | cons x l ih =>
  intro S acc y h hz
  cases S with
  | nil=>cases h
  | cons k S =>
   obtain ⟨b,l',hb,e,h'⟩:=h.inv;cases e;have hz':acc.length+(l.length+1)<=1000:=hz;have hl:=h'.len;rw [Zz] at hl;obtain ⟨y',w⟩:=ih (b.r++S) (acc++[x]) (.shr (.int x)) h' (by rw [Zz]; show acc.length+1+_<=_; omega);refine ⟨y',?_⟩;have e1:(x::S).reverse.map D.int=S.reverse.map D.int++[.int x]:=by rw [Y6,Zi]; rfl
   have t1:=hT (.own (.lst (acc.map .int))) y ((x::S).reverse.map .int) (by rw [e1]; simp)
   have t2:i9 (pF 4 3) (i9 (An 2 (aE 4)) (Bp 3 (DQ gk))) [x0,x1,.own (.lst (acc.map .int)),.own (.lst ((x::S).reverse.map .int)),y]=some (.next [x0,x1,.own (.lst ((acc++[x]).map .int)),.own (.lst ((b.r++S).reverse.map .int)),.shr (.int x)]):=by
    rw [e1];refine bh ((EF rfl).trans rfl) ?_
    refine bh ((EH (ai rfl) rfl (by rw [Za]; omega)).trans rfl) ?_
    refine (I9 (GJ (hk _ _ x b hb)) rfl (by rw [Za,Yr,Yr,Za]; omega)).trans ?_
    rw [List.reverse_append,Zi,Zi,<- List.map_reverse];rfl
   show cv c _ (l.length+1+1) _=_
   conv=>lhs; unfold cv
   rw [t1];simp only [t2];rw [w,List.append_assoc];rfl
theorem G4 {i:Int} {b:B8} {l:List Int} (hb:fd M i=some b) (h:Sub M b.r l) (hl:l.length<=1000):lr t [trD t.af gv M,.int i]=some (.own (.lst (l.map .int))):=by
 have hT:∀ (a y:Sl) (ds:List D),ds≠[]->zR 3 [.shr (trD t.af gv M),.shr (.int i),a,.own (.lst ds),y]=some true:=λ a y ds ne=>by
  cases ds with
  | nil=>exact absurd rfl ne
  | cons d ds=>rfl
 obtain ⟨y',w⟩:=t8 (x0:=.shr (trD t.af gv M)) (x1:=.shr (.int i)) hT (λ _ _=>rfl) (gk:=kH t.af "boxes_of" (cK t) (aE 0) (aD (aE 4) cJ)) (λ a s k b hb=>cH (ai rfl) (ag (ai rfl) aA) rfl (ng hb) rfl) l b.r [] .no h (by rw [Xx,Nat.zero_add]; exact hl);unfold lr lh;dsimp only;refine cf (bh ((uA (fG aA (Z7 _)) (Zb rfl)).trans rfl) (bh ((uA (GJ (cH (ai rfl) (ag (ai rfl) aA) rfl (ng hb) rfl)) (Zb rfl)).trans rfl) (bh (Eq.trans ?_ (nH w)) (Ai rfl))));rw [<- List.map_reverse];rfl
end
end N14
end
section
namespace N14
open PySem L2
theorem Ei (M:List B8) (j:Int) (r:List Int):(upR M j r).map B8.i=M.map B8.i:=by
 unfold upR;rw [Zv];refine Zu λ b _=>?_
 show (if b.i=j then { b with r:=r } else b).i=b.i;split <;> rfl
theorem qZ {M:List B8} (nd:Nd M) (j:Int) (r:List Int):Nd (upR M j r):=by
 unfold Nd;rw [Ei];exact nd
theorem fF (M:List B8) (j:Int) (r:List Int) (x:Int):fd (upR M j r) x=(fd M x).map λ b=>if b.i=j then { b with r:=r } else b:=by
 unfold fd upR;rw [List.find?_map];congr 2
 funext b
 show decide ((if b.i=j then { b with r:=r } else b).i=x)=_;split <;> rfl
theorem j9 (M:List B8) (j:Int) (r:List Int):(upR M j r).length=M.length:=Za _
theorem uN {β:Type} (f:Int->β) (x:Int):∀ r:List Int,(r.map f).eraseIdx (r.idxOf x)=(r.erase x).map f
 | []=>rfl
 | y::r=>by
  rw [Zg,List.idxOf_cons,List.erase_cons]
  by_cases h:(y == x)=true
  ·rw [if_pos h,h]
   rfl
  ·rw [if_neg h,(Bool.not_eq_true _).mp h]
   show (f y::r.map f).eraseIdx (r.idxOf x+1)=_;rw [List.eraseIdx_cons_succ,uN f x r,Zg]
theorem Ap (r:List Int) (x:Int):Mt.n .l (((r.map D.int).map λ d=>((.inl 0:Key),Mt.s d)).eraseIdx (r.idxOf x))=lM ((r.erase x).map .int):=by
 unfold lM;rw [Zv,uN,Zv]
theorem rE (r:List Int):cO (lu ((r.map D.int).map λ d=>((.inl 0:Key),Mt.s d)))=some r:=by
 have:lu ((r.map D.int).map λ d=>((.inl 0:Key),Mt.s d))=r.map .int:=by
  induction r with
  | nil=>rw [Xk,Xk,lu]
  | cons y r ih=>rw [Zg,Zg,lu,frz,ih]
 rw [this];exact rq r
theorem jz (r:List Int):(r.map D.int).all sca=true:=by
 rw [List.all_map];exact Yu.mpr λ _ _=>rfl
end N14
end
section
namespace N14
open PySem L2
section
variable {gv:Int} {M:List B8}
theorem mT (r:List Int) (p x:Int):(insI r p x).Perm (x::r):=by
 unfold insI;refine List.perm_middle.trans ?_
 rw [List.take_append_drop]
theorem ki {r:List Int} {p x y:Int}:y ∈ insI r p x↔y=x\/y ∈ r:=by
 rw [(mT r p x).mem_iff,Zl]
theorem MOk.new (m:MOk gv M):fd M gv=none:=fd_none.mpr λ b hb e=>by
 have:=(m.lt b hb).2;omega
theorem MOk.pos (m:MOk gv M):0 < gv:=by
 obtain ⟨r,r1,_⟩:=m.root;have:=m.lt r (aS r1);omega
theorem pX {M:List B8} {n:B8} (h:fd M n.i=none) (x:Int):fd (M++[n]) x=if x=n.i then some n else fd M x:=by
 unfold fd at *;rw [List.find?_append];split
 ·rename_i e
  rw [e,h,List.find?_cons,Zq rfl];rfl
 ·rename_i e
  rw [List.find?_cons,Zk (Ne.symm e)];cases List.find? (λ b=>decide (b.i=x)) M <;> rfl
theorem Ch.mono {M':List B8} (hm:∀ x d,fd M x=some d->∃ d',fd M' x=some d'/\d'.h=d.h) {x:Int} {n:Nat} (c:Ch M x n):Ch M' x n:=by
 induction c with
 | top h e =>
  obtain ⟨d',h1,h2⟩:=hm _ _ h;exact .top h1 (h2.trans e)
 | up h e c ih =>
  obtain ⟨d',h1,h2⟩:=hm _ _ h;exact .up h1 (h2.trans e) ih
theorem C5 (m:MOk gv M) {h p:Int} {b:B8} {nm:Str} {dp:Nat} (hb:fd M h=some b) (hc:Ch M h dp) (h12:dp < 12):MOk (gv+1) (jA M h b p gv nm):=by
 have hn:=m.new;have gp:=m.pos;have hl:0<=h/\h < gv:=by have:=m.lt b (aS hb); rw [gL hb] at this; exact this
 have nd':Nd (jA M h b p gv nm):=qZ (Az (b:=⟨gv,some h,nm,[],cc⟩) m.nd hn) _ _
 have fx:∀ x,fd (jA M h b p gv nm) x=(if x=gv then some ⟨gv,some h,nm,[],cc⟩ else fd M x).map λ c=>if c.i=h then { c with r:=insI b.r p gv } else c:=λ x=>by
  unfold jA;rw [fF,pX (n:=⟨gv,some h,nm,[],cc⟩) hn]
 have bn:=m.rnd b (aS hb)
 have gb:gv ∉ b.r:=λ e=>by
  obtain ⟨d,d1,_⟩:=m.kid b (aS hb) gv e;rw [hn] at d1;cases d1
 have un:∀ c ∈ jA M h b p gv nm,(c.i=gv/\c.h=some h/\c.r=[])\/∃ d,fd M c.i=some d/\d.i=c.i/\d.h=c.h/\((c.i=h/\d=b/\c.r=insI b.r p gv)\/(c.i≠h/\c.r=d.r)):=λ c hc=>by
  have e:=kA nd' hc;rw [fx] at e;split at e
  ·rename_i ei
   have e':(if gv=h then ({ i:=gv,h:=some h,n:=nm,r:=insI b.r p gv,m:=cc }:B8) else ⟨gv,some h,nm,[],cc⟩)=c:=Zj e;rw [if_neg (by omega)] at e';subst e';exact .inl ⟨rfl,rfl,rfl⟩
  ·cases hd:fd M c.i with
   | none=>rw [hd] at e; cases e
   | some d =>
    rw [hd] at e;have e':(if d.i=h then { d with r:=insI b.r p gv } else d)=c:=Zj e;have di:=gL hd;refine .inr ⟨d,rfl,di,?_⟩;split at e'
    ·rename_i hij
     have ep:d=b:=by
      rw [<- di,hij,hb] at hd;exact (Zj hd).symm
     subst e';subst ep;exact ⟨rfl,.inl ⟨hij,rfl,rfl⟩⟩
    ·rename_i hij
     subst e';exact ⟨rfl,.inr ⟨hij,rfl⟩⟩
 have old:∀ {x:Int} {d:B8},fd M x=some d->fd (jA M h b p gv nm) x=some (if d.i=h then { d with r:=insI b.r p gv } else d):=λ {x d} hd=>by
  have ne:x≠gv:=λ e=>by rw [e,hn] at hd; cases hd
  rw [fx,if_neg ne,hd];rfl
 have oh:∀ d:B8,(if d.i=h then { d with r:=insI b.r p gv } else d).h=d.h:=λ d=>by split <;> rfl
 refine ⟨nd',λ c hc=>?_,?_,λ c hc c0=>?_,λ c hc x hx=>?_,λ c hc=>?_,λ c hx=>?_⟩
 ·rcases un c hc with ⟨e,_⟩ | ⟨d,hd,di,_⟩
  · omega
  ·have:=m.lt d (aS hd)
   omega
 ·obtain ⟨r,r1,r2⟩:=m.root
  exact ⟨_,old r1,by rw [oh]; exact r2⟩
 ·rcases un c hc with ⟨e,e2,_⟩ | ⟨d,hd,di,dh,_⟩
  ·refine ⟨h,_,e2,old hb,?_⟩
   rw [if_pos (gL hb),e];exact ki.mpr (.inl rfl)
  ·obtain ⟨j',q,q1,q2,q4⟩:=m.hol d (aS hd) (by rw [di]; exact c0)
   refine ⟨j',_,by rw [<- dh]; exact q1,old q2,?_⟩;split
   ·rename_i hq
    have ep:q=b:=by
     rw [<- gL q2,hq,hb] at q2;exact (Zj q2).symm
    subst ep;rw [<- di];exact ki.mpr (.inr q4)
   ·rw [<- di]
    exact q4
 ·rcases un c hc with ⟨_,_,e⟩ | ⟨d,hd,di,dh,⟨e1,e2,e3⟩ | ⟨e1,e3⟩⟩
  ·rw [e] at hx
   cases hx
  ·rw [e3] at hx
   rcases ki.mp hx with rfl | hx
   ·refine ⟨⟨x,some h,nm,[],cc⟩,?_,by rw [e1]⟩
    rw [fx,if_pos rfl];show some (if x=h then ({ i:=x,h:=some h,n:=nm,r:=insI b.r p x,m:=cc }:B8) else ⟨x,some h,nm,[],cc⟩)=_;rw [if_neg (by omega)]
   ·obtain ⟨e,k1,k2⟩:=m.kid b (aS hb) x hx
    exact ⟨_,old k1,by rw [oh,k2,gL hb,e1]⟩
  ·rw [e3] at hx
   obtain ⟨e,k1,k2⟩:=m.kid d (aS hd) x hx;exact ⟨_,old k1,by rw [oh,k2,di]⟩
 ·rcases un c hc with ⟨_,_,e⟩ | ⟨d,hd,di,dh,⟨e1,e2,e3⟩ | ⟨e1,e3⟩⟩
  · rw [e]; exact .nil
  ·rw [e3,(mT _ _ _).nodup_iff,Zw]
   exact ⟨gb,bn⟩
  ·rw [e3]
   exact m.rnd d (aS hd)
 ·have cm:∀ {x:Int} {n:Nat},Ch M x n->Ch (jA M h b p gv nm) x n:=Ch.mono λ x d hd=>⟨_,old hd,oh d⟩
  have hf:=kA nd' hx;rcases un c hx with ⟨e,e2,_⟩ | ⟨d,hd,di,dh,_⟩
  · exact ⟨dp+1,.up hf e2 (cm hc),h12⟩
  ·obtain ⟨n,n1,n2⟩:=m.dp hd
   exact ⟨n,cm n1,n2⟩
end
end N14
end
section
namespace N14
open PySem L2
theorem AK {f g:DSm} {τ τ':List Sm} {s:Sm} (h:f τ=some (.ret s τ')):cY f g τ=some (.ret s τ'):=by unfold cY; rw [h]
theorem mW {b:D->DSm} {ds:List D} {τ:List Sm} (P:Nat->List Sm->Prop) (h0:P 0 τ) (hs:∀ j d τ,ds[j]?=some d->P j τ->∃ τ2,b d τ=some (.next τ2)/\P (j+1) τ2):∃ τ',forM b ds τ=some (.next τ')/\P ds.length τ':=by
 induction ds generalizing τ P with
 | nil=>exact ⟨τ,rfl,h0⟩
 | cons d ds ih =>
  obtain ⟨τ2,e,p⟩:=hs 0 d τ rfl h0;obtain ⟨τ',e',p'⟩:=ih (λ j=>P (j+1)) p λ j d τ hd hp=>hs (j+1) d τ hd hp
  refine ⟨τ',?_,p'⟩;show (match b d τ with | some (.next τ')=>forM b ds τ' | some (.cnt τ')=>forM b ds τ' | some (.brk τ')=>some (.next τ') | r=>r)=_;rw [e];exact e'
section
variable {t:Adr} {gv:Int} {M:List B8}
theorem G2 {x:Int} {r:List Int} {b:B8} (hx:b.i≠x) (h0:b.r=[]) (hn:fd M b.i=none):Mt.n .d (gn (kv (λ b=>lM (b.r.map .int)) (upR M x r)) (.inl b.i) (lM []))=bxM (upR (M++[b]) x r):=by
 have e:upR (M++[b]) x r=upR M x r++[b]:=by
  unfold upR;rw [Zi];show _++[if b.i=x then _ else _]=_;rw [if_neg hx]
 have:=hW (g:=λ b=>lM (b.r.map .int)) (M:=upR M x r) (by rw [fF,hn]; rfl);rw [h0] at this;rw [e];unfold bxM kM;rw [<- this];rfl
theorem GD {x:Int} {r:List Int} {b:B8} (hn:fd M b.i=none):Mt.n .d (gn (kv (λ b=>.s (.tup [hD b.h,.str b.n])) M) (.inl b.i) (.s (.tup [hD b.h,.str b.n])))=faM (upR (M++[b]) x r):=by
 unfold faM kM;rw [mz _ _ _ _ (λ _=>rfl),<- hW hn]
def stB (M:List B8) (i:Int) (p:Pl):List B8:=M.map λ b=>if b.i=i then { b with m:=p } else b
theorem DJ (M:List B8) (i x:Int) (p:Pl):fd (stB M i p) x=(fd M x).map λ b=>if b.i=i then { b with m:=p } else b:=by
 unfold fd stB;rw [List.find?_map];congr 2
 funext b
 show decide ((if b.i=i then { b with m:=p } else b).i=x)=_;split <;> rfl
theorem Ez (M:List B8) (i:Int) (p:Pl):(stB M i p).map B8.i=M.map B8.i:=by
 unfold stB;rw [Zv];refine Zu λ b _=>?_
 show (if b.i=i then { b with m:=p } else b).i=b.i;split <;> rfl
theorem F0 (m:MOk gv M) (i:Int) (p:Pl):MOk gv (stB M i p):=by
 have nd':Nd (stB M i p):=by unfold Nd; rw [Ez]; exact m.nd
 have old:∀ {x:Int} {d:B8},fd M x=some d->fd (stB M i p) x=some (if d.i=i then { d with m:=p } else d):=λ {x d} h=>by rw [DJ,h]; rfl
 have un:∀ c ∈ stB M i p,∃ d ∈ M,d.i=c.i/\d.h=c.h/\d.r=c.r:=λ c hc=>by
  obtain ⟨d,hd,rfl⟩:=Z2.mp hc;refine ⟨d,hd,?_⟩;split <;> exact ⟨rfl,rfl,rfl⟩
 have oh:∀ d:B8,(if d.i=i then { d with m:=p } else d).h=d.h:=λ d=>by split <;> rfl
 have or:∀ d:B8,(if d.i=i then { d with m:=p } else d).r=d.r:=λ d=>by split <;> rfl
 refine ⟨nd',λ c hc=>?_,?_,λ c hc c0=>?_,λ c hc x hx=>?_,λ c hc=>?_,λ c hc=>?_⟩
 ·obtain ⟨d,hd,e1,_⟩:=un c hc
  rw [<- e1]; exact m.lt d hd
 ·obtain ⟨r,r1,r2⟩:=m.root
  exact ⟨_,old r1,(oh r).trans r2⟩
 ·obtain ⟨d,hd,e1,e2,_⟩:=un c hc
  obtain ⟨j,p,h1,h2,h3⟩:=m.hol d hd (by rw [e1]; exact c0);exact ⟨j,_,by rw [<- e2]; exact h1,old h2,by rw [or,<- e1]; exact h3⟩
 ·obtain ⟨d,hd,e1,_,e3⟩:=un c hc
  obtain ⟨e,h1,h2⟩:=m.kid d hd x (by rw [e3]; exact hx);exact ⟨_,old h1,by rw [oh,h2,e1]⟩
 ·obtain ⟨d,hd,_,_,e3⟩:=un c hc
  rw [<- e3]; exact m.rnd d hd
 ·obtain ⟨d,hd,e1,_⟩:=un c hc
  obtain ⟨n,h1,h2⟩:=m.ch d hd;rw [e1] at h1;exact ⟨n,Ch.mono (λ x e he=>⟨_,old he,oh e⟩) h1,h2⟩
theorem uT {g:B8->Mt} {m2:Mt} {M:List B8} {i:Int} {b:B8} (nd:Nd M) (h:fd M i=some b) (eg:∀ c:B8,(g c).put [] m2=m2):(kM g M).put [.k (.inl i)] m2=.n .d (M.map λ c=>((.inl c.i:Key),if c.i=i then m2 else g c)):=by
 have hb:=aS h;have hi:=gL h;obtain ⟨l1,l2,rfl⟩:=List.append_of_mem hb;have nd':=nd;unfold Nd at nd';rw [Zi,Zg,Yb,Zw] at nd';have n1:∀ c ∈ l1,c.i≠i:=λ c hc e=>nd'.2.2 c.i (Yk hc) b.i (Ze ..) (by rw [e,hi])
 have n2:∀ c ∈ l2,c.i≠i:=λ c hc e=>nd'.2.1.1 (by rw [hi,<- e]; exact Yk hc)
 have ix:((kv g (l1++b::l2)).findIdx? λ c=>decide (c.1=.inl i))=some l1.length:=by
  unfold kv;rw [List.findIdx?_map,List.findIdx?_append]
  have e1:(l1.findIdx? ((λ c:Key×Mt=>decide (c.1=Sum.inl i)) ∘ λ b=>((.inl b.i:Key),g b)))=none:=by
   rw [List.findIdx?_eq_none_iff];intro c hc;exact Zk λ z=>n1 c hc (by injection z)
  rw [e1,List.findIdx?_cons];have e2:((λ c:Key×Mt=>decide (c.1=Sum.inl i)) ∘ λ b:B8=>((.inl b.i:Key),g b)) b=true:=Zq (by show (Sum.inl b.i:Key)=Sum.inl i; rw [hi]);rw [e2];simp
 have gx:(kv g (l1++b::l2))[l1.length]?=some ((.inl b.i:Key),g b):=by
  unfold kv;rw [List.getElem?_map,List.getElem?_append_right (Zn _),Y7];rfl
 show (match (kv g (l1++b::l2)).findIdx? (λ c=>decide (c.1=.inl i)) with | none=>Mt.n .d (kv g (l1++b::l2)) | some j=>match (kv g (l1++b::l2))[j]? with | none=>Mt.n .d (kv g (l1++b::l2)) | some c=>.n .d ((kv g (l1++b::l2)).set j (c.1,Mt.put c.2 [] m2)))=_;simp only [ix,gx];congr 1;unfold kv;rw [Zi,Zg,Zi,Zg,List.set_append_right _ _ (by rw [Za]; exact Zn _),Za,Y7];congr 1
 ·refine Zu λ c hc=>?_
  rw [if_neg (n1 c hc)]
 ·show (_,Mt.put (g b) [] m2)::_=_
  rw [if_pos hi,eg];congr 1;refine Zu λ c hc=>?_
  rw [if_neg (n2 c hc)]
theorem kst {β:Type} {g:B8->β} {p:Pl} {i:Int} {b:B8} (nd:Nd M) (hb:fd M i=some b):(M.map λ c=>((.inl c.i:Key),if c.i=i then g { b with m:=p } else g c))=kv g (stB M i p):=by
 unfold kv stB;rw [Zv];refine Zu λ c hc=>?_
 show _=((Sum.inl (if c.i=i then { c with m:=p } else c).i:Key),g (if c.i=i then { c with m:=p } else c))
 by_cases e:c.i=i
 ·have hf:=kA nd hc
  rw [e,hb] at hf;cases hf;rw [if_pos e,if_pos e]
 · rw [if_neg e,if_neg e]
theorem ur {β:Type} {g:B8->β} {p:Pl} {i:Int} {b:B8} (nd:Nd M) (hb:fd M i=some b) (hg:g { b with m:=p }=g b):kv g (stB M i p)=kv g M:=by
 rw [<- kst nd hb];refine Zu λ c hc=>?_
 by_cases e:c.i=i
 ·have hf:=kA nd hc
  rw [e,hb] at hf;cases hf;rw [if_pos e,hg]
 · rw [if_neg e]
theorem qB {i:Int} {b:B8} (nd:Nd M) (hb:fd M i=some b):stB M i b.m=M:=by
 refine (Zu λ c hc=>?_).trans (List.map_id _)
 by_cases e:c.i=i
 ·have hf:=kA nd hc
  rw [e,hb] at hf;cases hf;rw [if_pos e];rfl
 ·rw [if_neg e]
  rfl
theorem Eo {C:Addr} {p:Pl} {i:Int} {b:B8} (nd:Nd M) (hb:fd M i=some b):(trM C gv M).put ([]++[.k (.inr "marks")]++[.k (.inl i)]) (mkM { b with m:=p })=trM C gv (stB M i p):=by
 refine (show _=trG C (.s (.int gv)) (kM (λ b=>.s (.str b.n)) M) (kM (λ b=>.s (hD b.h)) M) (bxM M) ((kM mkM M).put [.k (.inl i)] (mkM { b with m:=p })) (kM wdM M) (kM roM M) from rfl).trans ?_
 rw [uT nd hb (λ c=>by unfold mkM; rfl),kst nd hb];unfold trM bxM kM;rw [ur (p:=p) (g:=λ b=>Mt.s (.str b.n)) nd hb rfl,ur (p:=p) (g:=λ b=>Mt.s (hD b.h)) nd hb rfl,ur (p:=p) (g:=λ b=>lM (b.r.map .int)) nd hb rfl,ur (p:=p) (g:=wdM) nd hb rfl,ur (p:=p) (g:=roM) nd hb rfl]
theorem BA {g:B8->Mt} {x:Mt} {i:Int} {b:B8} (hb:fd M i=some b):gn (kv g M) (.inl i) x=M.map λ c=>((.inl c.i:Key),if c.i=i then x else g c):=by
 unfold gn
 rw [if_pos (by
  rw [Xv];refine ⟨((.inl b.i:Key),g b),?_,Zq (by rw [gL hb])⟩
  exact Z2.mpr ⟨b,aS hb,rfl⟩)]
 unfold kv;rw [Zv];refine Zu λ c hc=>?_
 show (if (Sum.inl c.i:Key)=Sum.inl i then ((Sum.inl c.i:Key),x) else (Sum.inl c.i,g c))=_
 by_cases e:c.i=i
 · rw [if_pos (by rw [e]),if_pos e]
 · rw [if_neg (λ z=>e (by injection z)),if_neg e]
theorem Lg:∀ (l:List Str) (w:Str),(gr (l.map λ x=>((.inr x:Key),D.bl true)) (.inr w)).isSome=decide (w ∈ l)
 | [],w=>rfl
 | x::l,w=>by
  have ih:=Lg l w;unfold gr at ih ⊢;rw [Zg,List.find?_cons]
  by_cases e:x=w
  ·rw [Zq (show (Sum.inr x:Key)=Sum.inr w by rw [e]),Zq (show w ∈ x::l by rw [e]; exact Ze ..)]
   rfl
  ·rw [Zk (show ¬ (Sum.inr x:Key)=Sum.inr w from λ z=>e (by injection z))]
   refine ih.trans ?_
   by_cases h:w ∈ l
   · rw [Zq h,Zq (Zd _ h)]
   · rw [Zk h,Zk (λ z=>(Zl.mp z).elim (λ z=>e z.symm) h)]
theorem kin (b:B8) (w:Str):CF (.str w) (mkD b)=some (.bl (decide (w ∈ b.m.k))):=by
 show some (D.bl (gr (b.m.k.map λ x=>((.inr x:Key),D.bl true)) (.inr w)).isSome)=_;rw [Lg]
theorem N5 (b:B8) (w:Str):eW (.str w) (mkD b)=some (.bl (!decide (w ∈ b.m.k))):=by
 show some (D.bl (!(gr (b.m.k.map λ x=>((.inr x:Key),D.bl true)) (.inr w)).isSome))=_;rw [Lg]
theorem MG (l:List Str) (w:Str):((l.map λ x=>((.inr x:Key),Mt.s (.bl true))).any λ c=>decide (c.1=.inr w))=decide (w ∈ l):=by
 rw [Y5,decide_eq_true_iff,Xv];constructor
 ·rintro ⟨c,hc,e⟩
  obtain ⟨x,hx,rfl⟩:=Z2.mp hc;have:=of_decide_eq_true e;injection this with this
  rw [<- this]; exact hx
 · exact λ h=>⟨_,Z2.mpr ⟨w,h,rfl⟩,Zq rfl⟩
def pJ (p:Pl) (w:Str):Pl:=if w ∈ p.k then p else { p with k:=p.k++[w] }
theorem AG {C:Addr} {r:List Sm} {i:Int} {b:B8} (hb:fd M i=some b):aZ (.mu true (trM C gv M)::r) 0 ([]++[.k (.inr "marks")]++[.k (.inl i)])=some (mkM b):=by
 rw [jZ rfl];refine (show _=(kM mkM M).get [.k (.inl i)] from rfl).trans ?_
 rw [kl,hb];rfl
def mH (p:Pl) (w:Str):Pl:={ p with k:=p.k.filter λ x=>!decide (x=w) }
theorem vX {i:Int} {b:B8} {w:Str} (nd:Nd M) (hb:fd M i=some b) (hn:bR w=true) (hk:b.m.k.length < 1000):cD t [.mu true (trM t.af gv M),.shr (.int i),.shr (.str w)]=some (.shr (.bl (!decide (w ∈ b.m.k))),[.mu true (trM t.af gv (stB M i (pJ b.m w))),.no,.no]):=by
 unfold cD gW;have sn:∀ {r:List Sm},bf (.mu true (trM t.af gv M)::r)=.shr (trD t.af gv M)::bf r:=iC
 refine (gF (τ:=[.mu true (trM t.af gv (stB M i (pJ b.m w))),.shr (.int i),.shr (.str w)]) ?_).trans rfl;refine aH (dw (τ:=[.mu true (trM t.af gv M),.shr (.int i),.shr (.str w)]) (by rw [sn]; exact cH e_v (ag e_v aA) rfl (gh hb) rfl)) ?_
 refine aH (dw (dO (ag e_v aA) (c8 hn) rfl)) ?_
 have et:=t_S (τ:=[.mu true (trM t.af gv M),.shr (.int i),.shr (.str w)]) (g:=dT (dOp CF (aE 2) (dOp eE (dUn (vM t.af "marks") (aE 0)) (aE 1)))) (by rw [sn]; exact aF (az e_v (az (ft e_v fK) e_v (bX hb)) (kin b w)));unfold pJ
 by_cases h:w ∈ b.m.k
 ·rw [Zq h] at et
  rw [Zq h,if_pos h,qB nd hb];exact AK (j5 et (mP (v_N e_c)))
 ·rw [Zk h] at et
  rw [Zk h,if_neg h];refine aH (d4 et rfl) ?_
  refine aH ((eI (v_N e_c) (mw (jF bK rfl) e_v rfl rfl) e_v rfl rfl (AG hb) (by rw [Za]; omega)).trans ?_) (mP (v_N e_c));rw [c6 rfl]
  have e2:gn (b.m.k.map λ x=>((.inr x:Key),Mt.s (.bl true))) (.inr w) (.s (.bl true))=(b.m.k++[w]).map λ x=>((.inr x:Key),Mt.s (.bl true)):=by
   unfold gn;rw [MG,Zk h,if_neg Zf,Zi];rfl
  rw [e2];have e3:=Eo (C:=t.af) (gv:=gv) (p:={ b.m with k:=b.m.k++[w] }) nd hb;rw [show (Mt.n .d ((b.m.k++[w]).map λ x=>((.inr x:Key),Mt.s (.bl true))))=mkM { b with m:={ b.m with k:=b.m.k++[w] } } from rfl,e3];rfl
theorem D0 {i:Int} {b:B8} {w:Str} (nd:Nd M) (hb:fd M i=some b) (hn:bR w=true):fk t [.mu true (trM t.af gv M),.shr (.int i),.shr (.str w)]=some (.shr (.bl (decide (w ∈ b.m.k))),[.mu true (trM t.af gv (stB M i (mH b.m w))),.no,.no]):=by
 unfold fk gX;dsimp only;have sn:∀ {r:List Sm},bf (.mu true (trM t.af gv M)::r)=.shr (trD t.af gv M)::bf r:=iC
 refine (gF (τ:=[.mu true (trM t.af gv (stB M i (mH b.m w))),.shr (.int i),.shr (.str w)]) ?_).trans rfl;refine aH (dw (τ:=[.mu true (trM t.af gv M),.shr (.int i),.shr (.str w)]) (by rw [sn]; exact cH e_v (ag e_v aA) rfl (gh hb) rfl)) ?_
 refine aH (dw (dO (ag e_v aA) (c8 hn) rfl)) ?_
 have et:=t_S (τ:=[.mu true (trM t.af gv M),.shr (.int i),.shr (.str w)]) (g:=dT (dOp eW (aE 2) (dOp eE (dUn (vM t.af "marks") (aE 0)) (aE 1)))) (by rw [sn]; exact aF (az e_v (az (ft e_v fK) e_v (bX hb)) (N5 b w)))
 by_cases h:w ∈ b.m.k
 ·rw [Zq h] at et
  rw [Zq h];refine aH (d4 et rfl) ?_
  refine aH ((Lc (mw (jF bK rfl) e_v rfl rfl) e_v rfl (AG hb) (by rw [MG,Zq h])).trans ?_) (mP (v_N e_c));rw [c6 rfl]
  have e2:tE (b.m.k.map λ x=>((.inr x:Key),Mt.s (.bl true))) (.inr w)=(b.m.k.filter λ x=>!decide (x=w)).map λ x=>((.inr x:Key),Mt.s (.bl true)):=by
   unfold tE;rw [List.filter_map];congr 1;refine List.filter_congr λ x _=>?_
   by_cases e:x=w
   · subst e; simp
   · simp [e]
  rw [e2];have e3:=Eo (C:=t.af) (gv:=gv) (p:=mH b.m w) nd hb;rw [show (Mt.n .d ((b.m.k.filter λ x=>!decide (x=w)).map λ x=>((.inr x:Key),Mt.s (.bl true))))=mkM { b with m:=mH b.m w } from rfl,e3];rfl
 ·rw [Zk h] at et
  have e4:mH b.m w=b.m:=by
   unfold mH;rw [List.filter_eq_self.mpr λ x hx=>by rw [Zk (λ e=>h (by rw [<- e]; exact hx))]; rfl]
  rw [Zk h,e4,qB nd hb];exact AK (j5 et (mP (v_N e_c)))
end
end N14
end
section
namespace N14
open PySem L2
def upH (M:List B8) (i:Int) (h:Int):List B8:=M.map λ b=>if b.i=i then { b with h:=some h } else b
theorem IJ (M:List B8) (j h:Int):(upH M j h).map B8.i=M.map B8.i:=by
 unfold upH;rw [Zv];refine Zu λ b _=>?_
 show (if b.i=j then { b with h:=some h } else b).i=b.i;split <;> rfl
theorem GC (M:List B8) (j h x:Int):fd (upH M j h) x=(fd M x).map λ b=>if b.i=j then { b with h:=some h } else b:=by
 unfold fd upH;rw [List.find?_map];congr 2
 funext b
 show decide ((if b.i=j then { b with h:=some h } else b).i=x)=_;split <;> rfl
def mvB (M:List B8) (i j h:Int) (rj rh:List Int):List B8:=upH (upR (upR M j rj) h rh) i h
def mvF (i j h:Int) (rj rh:List Int) (c:B8):B8:={ c with h:=if c.i=i then some h else c.h,r:=if c.i=h then rh else if c.i=j then rj else c.r }
theorem Ls (M:List B8) (i j h:Int) (rj rh:List Int) (x:Int):fd (mvB M i j h rj rh) x=(fd M x).map (mvF i j h rj rh):=by
 unfold mvB;rw [GC,fF,fF,Option.map_map,Option.map_map];congr 1
 funext c
 obtain ⟨ci,ch,cn,cr,cm⟩:=c;simp only [Function.comp,mvF]
 by_cases h1:ci=j <;> by_cases h2:ci=h <;> by_cases h3:ci=i <;> simp [h1,h2,h3] <;> (try (split <;> simp_all)) <;> (try (split <;> simp_all))
theorem K0 {M:List B8} (nd:Nd M) (i j h:Int) (rj rh:List Int):Nd (mvB M i j h rj rh):=by
 unfold Nd mvB;rw [IJ];exact qZ (qZ nd _ _) _ _
section
variable {gv:Int} {M:List B8} {i j h:Int} {b p q:B8} {rj rh:List Int}
theorem F1 (m:MOk gv M) (hb:fd M i=some b) (hj:b.h=some j) (hp:fd M j=some p) (hq:fd M h=some q) (na:¬ Anc M i h)
  {ni nh:Nat} (ci:Ch M i ni) (ch:Ch M h nh) (dp:∀ x n,Anc M i x->Ch M x n->n+nh+1<=12+ni)
  (ej:rj=p.r.erase i) {pl:Int} (eh:rh=insI (q.r.filter λ y=>decide (y≠i)) pl i):MOk gv (mvB M i j h rj rh):=by
 have i0:=m.h0 hb hj;have nd':=K0 m.nd i j h rj rh;have fx:=Ls M i j h rj rh;have bi:=gL hb;have pi:=gL hp;have qi:=gL hq;have pn:=m.rnd p (aS hp);have qn:=m.rnd q (aS hq);have ih:i≠h:=λ e=>na (by rw [<- e]; exact .refl)
 have un:∀ c ∈ mvB M i j h rj rh,∃ d,fd M c.i=some d/\d.i=c.i/\c=mvF i j h rj rh d:=λ c hc=>by
  have e:=kA nd' hc;rw [fx] at e
  cases hd:fd M c.i with
  | none=>rw [hd] at e; cases e
  | some d =>
   rw [hd] at e;exact ⟨d,rfl,gL hd,(Zj e).symm⟩
 have old:∀ {x:Int} {d:B8},fd M x=some d->fd (mvB M i j h rj rh) x=some (mvF i j h rj rh d):=λ {x d} hd=>by rw [fx,hd]; rfl
 have hh:∀ d:B8,d.i≠i->(mvF i j h rj rh d).h=d.h:=λ d ne=>if_neg ne
 have hi:∀ d:B8,d.i=i->(mvF i j h rj rh d).h=some h:=λ d e=>if_pos e
 have rmem:∀ y,y ∈ rh↔y=i\/(y ∈ q.r/\y≠i):=λ y=>by
  rw [eh,ki,Yw,decide_eq_true_iff]
 have c1:∀ {x:Int} {n:Nat},Ch M x n->¬ Anc M i x->Ch (mvB M i j h rj rh) x n:=λ {x n} c=>by
  induction c with
  | @top x d h1 e1 =>
   intro nx;have ne:d.i≠i:=λ e=>nx (by rw [gL h1] at e; rw [e]; exact .refl)
   exact .top (old h1) ((hh d ne).trans e1)
  | @up x y n d h1 e1 c ihc =>
   intro nx;have ne:d.i≠i:=λ e=>nx (by rw [gL h1] at e; rw [e]; exact .refl)
   exact .up (old h1) ((hh d ne).trans e1) (ihc λ a=>nx (.up h1 e1 a))
 have chh:=c1 ch na
 have c2:∀ {x:Int},Anc M i x->∀ d,fd M x=some d->∃ n n',Ch M x n/\Ch (mvB M i j h rj rh) x n'/\n'+ni=n+nh+1:=λ {x} a=>by
  induction a with
  | refl=>intro d hd; exact ⟨ni,nh+1,ci,.up (old hb) (hi b bi) chh,by omega⟩
  | @up x y d h1 e1 c ihc =>
   intro d' _;obtain ⟨nx,x1,_⟩:=m.dp h1
   cases x1 with
   | top h2 e2=>rw [h1] at h2; cases h2; rw [e1] at e2; cases e2
   | up h2 e2 cy =>
    rw [h1] at h2;cases h2;rw [e1] at e2;cases e2;obtain ⟨by',hy⟩:=cy.get;obtain ⟨n,n',k1,k2,k3⟩:=ihc by' hy
    have ne:d.i≠i:=λ e=>by
     rw [gL h1] at e;obtain ⟨k,g1,g2,_⟩:=c.deep cy;have:=g1.uniq ci;rw [e] at h1;have:=ci.uniq (.up h1 e1 cy);omega
    exact ⟨_,n'+1,.up h1 e1 k1,.up (old h1) ((hh d ne).trans e1) k2,by omega⟩
 refine ⟨nd',λ c hc=>?_,?_,λ c hc c0=>?_,λ c hc x hx=>?_,λ c hc=>?_,λ c hc=>?_⟩
 ·obtain ⟨d,hd,di,_⟩:=un c hc
  rw [<- di];exact m.lt d (aS hd)
 ·obtain ⟨r,r1,r2⟩:=m.root
  exact ⟨_,old r1,(hh r (by rw [gL r1]; exact Ne.symm i0)).trans r2⟩
 ·obtain ⟨d,hd,di,ec⟩:=un c hc
  by_cases e:d.i=i
  ·refine ⟨h,_,by rw [ec]; exact hi d e,old hq,?_⟩
   show c.i ∈ (if q.i=h then rh else if q.i=j then rj else q.r);rw [if_pos qi,<- di,e];exact (rmem i).mpr (.inl rfl)
  ·obtain ⟨j',u,u1,u2,u3⟩:=m.hol d (aS hd) (by rw [di]; exact c0)
   refine ⟨j',_,by rw [ec]; exact (hh d e).trans u1,old u2,?_⟩;show c.i ∈ (if u.i=h then rh else if u.i=j then rj else u.r);rw [<- di];split
   ·rename_i e2
    have:u=q:=by rw [<- gL u2,e2,hq] at u2; exact (Zj u2).symm
    subst this;exact (rmem d.i).mpr (.inr ⟨u3,e⟩)
   ·split
    ·rename_i e2
     have:u=p:=by rw [<- gL u2,e2,hp] at u2; exact (Zj u2).symm
     subst this;rw [ej];exact (List.mem_erase_of_ne e).mpr u3
    · exact u3
 ·obtain ⟨d,hd,di,ec⟩:=un c hc
  have key:∀ y ∈ d.r,y≠i->∃ e,fd (mvB M i j h rj rh) y=some e/\e.h=some c.i:=λ y hy ne=>by
   obtain ⟨e,e1,e2⟩:=m.kid d (aS hd) y hy;exact ⟨_,old e1,by rw [hh e (by rw [gL e1]; exact ne),e2,di]⟩
  rw [ec] at hx;have hx':x ∈ (if d.i=h then rh else if d.i=j then rj else d.r):=hx;split at hx'
  ·rename_i e2
   rcases (rmem x).mp hx' with rfl | ⟨h1,h2⟩
   · exact ⟨_,old hb,by rw [hi b bi,<- di,e2]⟩
   ·have:d=q:=by rw [<- di,e2,hq] at hd; exact (Zj hd).symm
    subst this;exact key x h1 h2
  ·split at hx'
   ·rename_i e2
    have:d=p:=by rw [<- di,e2,hp] at hd; exact (Zj hd).symm
    subst this;rw [ej] at hx';have:=pn.mem_erase_iff.mp hx';exact key x this.2 this.1
   ·rename_i e3
    refine key x hx' λ e=>?_
    subst e;obtain ⟨e,e1,e2⟩:=m.kid d (aS hd) x hx';rw [hb] at e1;cases e1;rw [hj] at e2;exact e3 (Zj e2).symm
 ·obtain ⟨d,hd,di,ec⟩:=un c hc
  rw [ec];show (if d.i=h then rh else if d.i=j then rj else d.r).Nodup;split
  ·rw [eh,(mT _ _ _).nodup_iff,Zw]
   exact ⟨λ e=>by rw [Yw] at e; exact of_decide_eq_true e.2 rfl,qn.sublist List.filter_sublist⟩
  ·split
   · rw [ej]; exact pn.erase _
   · exact m.rnd d (aS hd)
 ·obtain ⟨d,hd,di,ec⟩:=un c hc
  by_cases a:Anc M i c.i
  ·obtain ⟨n,n',k1,k2,k3⟩:=c2 a d hd
   exact ⟨n',k2,by have:=dp _ _ a k1; omega⟩
  ·obtain ⟨n,n1,n2⟩:=m.dp hd
   exact ⟨n,c1 n1 a,n2⟩
end
end N14
end
section
namespace N14
open PySem L2
theorem mD:∀ l:List Int,Ah (l.map .int)=some (l.map V.int)
 | []=>rfl
 | i::l=>by
  show (scD (.int i)).bind (λ v=>(Ah (l.map .int)).map (v::·))=_;rw [mD l];rfl
theorem pV (j:Int):∀ l:List Int,inV (.int j) (l.map V.int)=decide (j ∈ l)
 | []=>by simp [inV]
 | k::l=>by
  have ih:=pV j l;unfold inV at *;simp only [Zg,Yz,ih,Zl,Bool.decide_or];congr 1;show decide (k=j)=decide (j=k);rw [decide_eq_decide];omega
theorem Gp (j:Int) (l:List Int):vL (.int j) (.lst (l.map .int))=some (.bl (decide (j ∈ l))):=by
 show (inS (.int j) (l.map .int)).map D.bl=_;unfold inS;rw [mD];show some (D.bl (inV (.int j) _))=_;rw [pV]
theorem CH (j:Int) (l:List Int):iH (.int j) (.lst (l.map .int))=some (.bl (!decide (j ∈ l))):=by
 show (inS (.int j) (l.map .int)).map (λ b=>D.bl !b)=_;unfold inS;rw [mD];show some (D.bl (!inV (.int j) _))=_;rw [pV]
theorem qT (n:Nat):∀ l:List Int,sF n (l.map .int)=true
 | []=>by rw [Xk,sF]
 | i::l=>by rw [Zg,sF,qT n l,okD]; rfl
theorem rn:∀ {a c:List Int},a.map D.int=c.map D.int->a=c
 | [],[],_=>rfl
 | [],_::_,h=>by cases h
 | _::_,[],h=>by cases h
 | x::a,y::c,h=>by
  rw [Zg,Zg] at h;injection h with h1 h2
  injection h1 with h1
  rw [h1,rn h2]
theorem zM (a c:List Int):eqO (.lst (a.map .int)) (.lst (c.map .int))=some (decide (a=c)):=by
 unfold eqO;show (if okD 9 (.lst (a.map .int))=true/\okD 9 (.lst (c.map .int))=true then some (eqB (.lst (a.map .int)) (.lst (c.map .int))) else none)=_;have o:∀ l:List Int,okD 9 (.lst (l.map .int))=true:=λ l=>by rw [okD]; exact qT 8 l
 rw [if_pos ⟨o a,o c⟩]
 by_cases h:a=c
 · rw [h,mY,Zq rfl]
 · rw [AZ (λ e=>h (rn (by injection e))),Zk h]
theorem DL (a c:List Int):oEq (.lst (a.map .int)) (.lst (c.map .int))=some (.bl (decide (a=c))):=by
 unfold oEq;rw [zM];rfl
theorem wX {τ:List Sl} {it:DI} {c:DT} {g:DE} {cs:List (Str×Nat)} {ds es:List D} (h1:it τ=some ds) (hl:ds.length<=100000) (h2:pW (λ d=>c (.shr d::cV τ cs)) (λ d=>g (.shr d::cV τ cs)) ds=some es):iq it c g cs τ=some (.lst es):=by
 unfold iq;rw [h1];show (if ds.length<=100000 then _ else none)=_;rw [if_pos hl,h2];rfl
theorem wM {c:D->Option Bool} {f:Int->Bool}:∀ {l:List Int},(∀ x ∈ l,c (.int x)=some (f x))->pW c (λ d=>some d) (l.map .int)=some ((l.filter f).map .int)
 | [],_=>rfl
 | x::l,h=>by
  rw [Zg,pW,h x (Ze ..),List.filter_cons];have ih:=wM (l:=l) λ y hy=>h y (Zd _ hy)
  show (if f x=true then (some (D.int x)).bind (λ y=>(pW c (λ d=>some d) (l.map .int)).bind λ xs=>some (y::xs)) else pW c (λ d=>some d) (l.map .int))=_;rw [ih]
  by_cases hx:f x=true
  · rw [if_pos hx,if_pos hx]; rfl
  · rw [if_neg hx,if_neg hx]
inductive Dps (M:List B8):List Int->List Nat->Prop where
 | nil:Dps M [] []
 | cons {x:Int} {n:Nat} {l:List Int} {ns:List Nat} (h:Ch M x n) (r:Dps M l ns):Dps M (x::l) (n::ns)
section
variable {t:Adr} {gv:Int} {M:List B8}
theorem Dps.ex (m:MOk gv M):∀ {l:List Int},(∀ x ∈ l,∃ b,fd M x=some b)->∃ ns,Dps M l ns
 | [],_=>⟨[],.nil⟩
 | x::l,h=>by
  obtain ⟨b,hb⟩:=h x (Ze ..);obtain ⟨n,hn,_⟩:=m.dp hb;obtain ⟨ns,r⟩:=Dps.ex m (l:=l) λ y hy=>h y (Zd _ hy)
  exact ⟨_,.cons hn r⟩
theorem Dps.back {l:List Int} {ns:List Nat} (h:Dps M l ns):∀ n ∈ ns,∃ x ∈ l,Ch M x n:=by
 induction h with
 | nil=>intro x h; cases h
 | cons h r ih =>
  intro n hn;rcases Zl.mp hn with rfl | hn
  · exact ⟨_,Ze ..,h⟩
  ·obtain ⟨x,hx,h'⟩:=ih n hn
   exact ⟨x,Zd _ hx,h'⟩
theorem Dps.map {l:List Int} {ns:List Nat} (h:Dps M l ns) {g:D->Option D} (hg:∀ x n,Ch M x n->n<=12->g (.int x)=some (.int (n:Int))) (h12:∀ n ∈ ns,n<=12):tW g (l.map .int)=some ((ns.map λ n:Nat=>(n:Int)).map .int):=by
 induction h with
 | nil=>rfl
 | @cons x n l ns h r ih =>
  show (g (.int x)).bind (λ y=>(tW g (l.map .int)).bind λ xs=>some (y::xs))=_;rw [hg x n h (h12 n (Ze ..)),ih λ k hk=>h12 k (Zd _ hk)];rfl
theorem Dps.len {l:List Int} {ns:List Nat} (h:Dps M l ns):ns.length=l.length:=by
 induction h with
 | nil=>rfl
 | cons _ _ ih=>rw [Z0,Z0,ih]
def tpI (ns:List Nat):Int:=mxI (ns.map λ n:Nat=>(n:Int))
theorem Ep {ns:List Nat} (h:0 < ns.length):∃ n ∈ ns,tpI ns=(n:Int):=by
 have:=C1 (ns:=ns.map λ n:Nat=>(n:Int)) (by rw [Za]; exact h);obtain ⟨n,hn,e⟩:=Z2.mp this;exact ⟨n,hn,e.symm⟩
theorem F3 {ns:List Nat} (h:0 < ns.length):yX [.lst ((ns.map λ n:Nat=>(n:Int)).map .int)]=some (.int (tpI ns)):=by
 show (cO ((ns.map λ n:Nat=>(n:Int)).map .int)).bind _=_;rw [rq];show (if 0 < (ns.map λ n:Nat=>(n:Int)).length then _ else _)=_;rw [Za,if_pos h];rfl
end
end N14
end
section
namespace N14
open PySem L2
theorem iD {τ:List Sm} {i:Nat} {b:Bool} {m:Mt} {d:D} (h:τ[i]?=some (.mu b m)) (hf:frz m=d):aE i (bf τ)=some d:=by
 refine ai ?_
 rw [List.getElem?_map,h];show some (Sl.shr (frz m))=_;rw [hf]
theorem uS {g:B8->Mt} {M:List B8} {i:Int} {m:Mt} {b:B8} (h:fd M i=some b):gn (kv g M) (.inl i) m=M.map λ c=>((.inl c.i:Key),if c.i=i then m else g c):=by
 unfold gn;rw [A6,h];unfold kv;rw [Zv];refine Zu λ c _=>?_
 show (if (Sum.inl c.i:Key)=Sum.inl i then ((Sum.inl c.i:Key),m) else (Sum.inl c.i,g c))=_
 by_cases e:c.i=i
 · rw [if_pos (by rw [e]),if_pos e]
 · rw [if_neg (λ z=>e (by injection z)),if_neg e]
theorem By {M:List B8} {i:Int} {r:List Int} {b:B8} (h:fd M i=some b):gn (kv (λ b=>lM (b.r.map .int)) M) (.inl i) (lM (r.map .int))=kv (λ b=>lM (b.r.map .int)) (upR M i r):=by
 rw [uS h];unfold kv upR;rw [Zv];refine Zu λ c _=>?_
 show _=((Sum.inl (if c.i=i then { c with r:=r } else c).i:Key),lM ((if c.i=i then { c with r:=r } else c).r.map .int));split <;> rfl
theorem Bz {M:List B8} {i h:Int} {b:B8} (hb:fd M i=some b):gn (kv (λ b=>.s (hD b.h)) M) (.inl i) (.s (.int h))=kv (λ b=>.s (hD b.h)) (upH M i h):=by
 rw [uS hb];unfold kv upH;rw [Zv];refine Zu λ c _=>?_
 show _=((Sum.inl (if c.i=i then { c with h:=some h } else c).i:Key),Mt.s (hD (if c.i=i then { c with h:=some h } else c).h));split <;> rfl
theorem yg {M:List B8} {i h:Int} {b:B8} (nd:Nd M) (hb:fd M i=some b):gn (kv (λ b=>.s (.tup [hD b.h,.str b.n])) M) (.inl i) (.s (.tup [.int h,.str b.n]))=kv (λ b=>.s (.tup [hD b.h,.str b.n])) (upH M i h):=by
 rw [uS hb];unfold kv upH;rw [Zv];refine Zu λ c hc=>?_
 show _=((Sum.inl (if c.i=i then { c with h:=some h } else c).i:Key),Mt.s (.tup [hD (if c.i=i then { c with h:=some h } else c).h,.str (if c.i=i then { c with h:=some h } else c).n]))
 by_cases e:c.i=i
 ·have hf:=kA nd hc
  rw [e,hb] at hf;cases hf;rw [if_pos e,if_pos e];rfl
 · rw [if_neg e,if_neg e]
theorem pC {β:Type} (g:B8->β) (M:List B8) (i h:Int) (hg:∀ b:B8,g { b with h:=some h }=g b):kv g (upH M i h)=kv g M:=by
 unfold kv upH;rw [Zv];refine Zu λ b _=>?_
 show ((Sum.inl (if b.i=i then { b with h:=some h } else b).i:Key),g (if b.i=i then { b with h:=some h } else b))=_;split
 · rw [hg]
 · rfl
theorem En {C:Addr} {gv:Int} {M:List B8} {i h:Int}:trM C gv (upH M i h)=trG C (.s (.int gv)) (kM (λ b=>.s (.str b.n)) M) (kM (λ b=>.s (hD b.h)) (upH M i h)) (bxM M) (kM mkM M) (kM wdM M) (kM roM M):=by
 unfold trM bxM kM;rw [pC (λ b=>Mt.s (.str b.n)) _ _ _ (λ _=>rfl),pC (λ b=>lM (b.r.map .int)) _ _ _ (λ _=>rfl),pC mkM _ _ _ (λ _=>rfl),pC wdM _ _ _ (λ _=>rfl),pC roM _ _ _ (λ _=>rfl)]
theorem C2 {M:List B8} (nd:Nd M) {i h:Int} {b q:B8} {rj:List Int} (hb:fd M i=some b) (hj:b.h=some h) (hq:fd M h=some q):mvB M i h h rj q.r=M:=by
 unfold mvB upH upR;rw [Zv,Zv]
 conv=>rhs; rw [<- List.map_id M]
 refine Zu λ c hc=>?_
 have hf:=kA nd hc
 have e1:(if (if c.i=h then { c with r:=rj } else c).i=h then { (if c.i=h then { c with r:=rj } else c) with r:=q.r } else (if c.i=h then { c with r:=rj } else c))=c:=by
  by_cases e:c.i=h
  ·rw [e,hq] at hf
   cases hf;rw [if_pos e];rw [if_pos e]
  · rw [if_neg e,if_neg e]
 show (if (if (if c.i=h then { c with r:=rj } else c).i=h then { (if c.i=h then { c with r:=rj } else c) with r:=q.r } else (if c.i=h then { c with r:=rj } else c)).i=i then { (if (if c.i=h then { c with r:=rj } else c).i=h then { (if c.i=h then { c with r:=rj } else c) with r:=q.r } else (if c.i=h then { c with r:=rj } else c)) with h:=some h } else (if (if c.i=h then { c with r:=rj } else c).i=h then { (if c.i=h then { c with r:=rj } else c) with r:=q.r } else (if c.i=h then { c with r:=rj } else c)))=id c;rw [e1]
 by_cases e:c.i=i
 ·rw [e,hb] at hf
  cases hf;rw [if_pos e,<- hj];rfl
 ·rw [if_neg e]
  rfl
section
variable {t:Adr} {gv:Int} {M:List B8} {i j h pl:Int} {b p q:B8} {l:List Int} {ni nh:Nat} {ns:List Nat}
theorem C4 (m:MOk gv M) (h90:M.length < 90) (hb:fd M i=some b) (hj:b.h=some j) (hp:fd M j=some p) (hi:i ∈ p.r) (hq:fd M h=some q) (hs:Sub M b.r l) (hn:h ∉ i::l) (hl:l.length < 90)
  (ci:Ch M i ni) (ch:Ch M h nh) (n12:ni<=12/\nh<=12) (ds:Dps M (i::l) ns) (d12:∀ n ∈ ns,n<=12) (hd:(nh:Int)+1+tpI ns - ni<=12) {row:List Int} (er:row=insI (q.r.filter λ y=>decide (y≠i)) pl i)
  (p0:0<=pl) (p1:pl<=((q.r.filter λ y=>decide (y≠i)).length:Int)) :
  g8 t [.mu true (trM t.af gv M),.shr (.int i),.shr (.int h),.shr (.int pl)]=some (.shr (.bl (!decide (row=q.r))),[.mu true (trM t.af gv (mvB M i j h (p.r.erase i) row)),.no,.no,.no]):=by
 have i0:=m.h0 hb hj
 have hp2:=sub_len (m.rnd p (aS hp)) λ y hy=>by
  obtain ⟨d,d1,_⟩:=m.kid p (aS hp) y hy;exact ⟨d,d1⟩
 have hq2:=sub_len (m.rnd q (aS hq)) λ y hy=>by
  obtain ⟨d,d1,_⟩:=m.kid q (aS hq) y hy;exact ⟨d,d1⟩
 have hf2:(q.r.filter λ y=>decide (y≠i)).length<=q.r.length:=Y2 _ _;have hih:h≠i:=λ e=>hn (by rw [e]; exact Ze ..)
 have hnl:h ∉ l:=λ e=>hn (Zd _ e)
 have sn:∀ {r:List Sm},bf (.mu true (trM t.af gv M)::r)=.shr (trD t.af gv M)::bf r:=iC
 unfold g8 dF
 have go:∀ {o:tT},(cY (nJ (tS (dT (dOp oEq (aE 5) (dOp eE (dUn (vM t.af "boxes") (aE 0)) (aE 2)))))
  (nI (eN (dC (.bl false))))
  gs)
  (cY (uF (mF (iF t.af "boxes" (a6 0)) (dOp eE (dUn (vM t.af "holders") (aE 0)) (aE 1))) (aE 1))
  (cY (eD (iF t.af "boxes" (a6 0)) (aE 2) (eV 5))
  (cY (eD (iF t.af "holders" (a6 0)) (aE 1) (eN (aE 2)))
  (nI (eN (dC (.bl true)))))))) [.mu true (trM t.af gv M),.shr (.int i),.shr (.int h),.shr (.int pl),.shr (.lst (l.map .int)),.mu false (lM (row.map .int)),.shr (.int (tpI ns))]=some o ->
  (dF t).1 [.mu true (trM t.af gv M),.shr (.int i),.shr (.int h),.shr (.int pl),.no,.no,.no]=some o:=λ {o} ho=>by
  unfold dF;refine aH (dw (by rw [sn]; exact cH e_v (ag e_v aA) rfl (gh hb) rfl)) ?_
  refine aH (dw (by rw [sn]; exact cH e_v (ag e_v aA) rfl (gh hq) rfl)) ?_
  refine aH (τ':=[.mu true (trM t.af gv M),.shr (.int i),.shr (.int h),.shr (.int pl),.shr (.lst (l.map .int)),.no,.no]) (cw (v_F (by rw [sn]; exact Lw (ag e_v (ag e_v aA)) (G4 hb hs (by omega)) rfl) (jz _)) (Zb rfl) rfl) ?_
  refine aH (d4 (t_S (IL (b:=false) (aF (az e_v e_c ((b8 _ _).trans (by rw [Zk i0])))) (λ _=>IL (b:=false) (aF (az e_v e_v ((b8 _ _).trans (by rw [Zk hih])))) (λ _=>aF (az e_v e_v ((Gp h l).trans (by rw [Zk hnl])))) nofun) nofun)) rfl) ?_
  refine aH (τ':=[.mu true (trM t.af gv M),.shr (.int i),.shr (.int h),.shr (.int pl),.shr (.lst (l.map .int)),.mu false (lM ((q.r.filter λ y=>decide (y≠i)).map .int)),.no]) (cw (v_O (by rw [sn]; exact wX (Dx (az (ft e_v fB) e_v (bX hq))) (by rw [Za]; omega) (wM λ x _=>aF (az e_v e_v ((mK _ _).trans (by rw [decide_not]))))) (jz _)) (Zb rfl) rfl) ?_
  refine aH (dw (dO (ag e_v (ag (iD (b:=false) rfl (gz _)) aA)) (gB p0 p1) rfl)) ?_
  refine aH (τ':=[.mu true (trM t.af gv M),.shr (.int i),.shr (.int h),.shr (.int pl),.shr (.lst (l.map .int)),.mu false (lM ((q.r.filter λ y=>decide (y≠i)).map .int)),.shr (.int (tpI ns))]) (cw (v_S (by
   rw [sn];refine bL (ag (rL (Dx (az (fG (ag e_v aA) (Zb rfl)) e_v ?_)) (by rw [Za]; show l.length+1<=_; omega) (ds.map (λ x n hx hx12=>dO (ag e_v (ag e_v aA)) (jC hx (by omega)) rfl) d12)) aA) (F3 (by rw [ds.len]; exact Nat.succ_pos _));show (if [D.int i].length+(l.map D.int).length<=100000 then some (D.lst ([D.int i]++l.map .int)) else none)=_;rw [if_pos (by rw [Za]; show 1+l.length<=_; omega)]
   rfl) rfl) (Zb rfl) rfl) ?_
  refine aH (d4 (t_S (by
   rw [sn]
   exact aF (az (az (az (az (dO (ag e_v (ag e_v aA)) (jC ch (by omega)) rfl) e_c (a7 _ _)) e_v (a7 _ _)) (dO (ag e_v (ag e_v aA)) (jC ci (by omega)) rfl) (c7 _ _)) e_c (DC hd)))) rfl) ?_
  refine aH ((zg bK rfl e_v (v_N e_v) rfl rfl ⟨p0,by rw [Za,Za]; exact p1,by rw [Za,Za]; omega⟩).trans ?_) ho;rw [c6 rfl,rB,er];rfl
 have eb:eE (.dct (kv (λ b=>.lst (b.r.map .int)) M)) (.int h)=some (.lst (q.r.map .int)):=bX hq
 have et:tS (dT (dOp oEq (aE 5) (dOp eE (dUn (vM t.af "boxes") (aE 0)) (aE 2)))) [.mu true (trM t.af gv M),.shr (.int i),.shr (.int h),.shr (.int pl),.shr (.lst (l.map .int)),.mu false (lM (row.map .int)),.shr (.int (tpI ns))]=some (decide (row=q.r),[.mu true (trM t.af gv M),.shr (.int i),.shr (.int h),.shr (.int pl),.shr (.lst (l.map .int)),.mu false (lM (row.map .int)),.shr (.int (tpI ns))]) :=
  t_S (aF (az (iD (b:=false) rfl (gz _)) (az (ft (iD rfl (l5 _ _ _)) fB) e_v eb) (DL _ _)))
 by_cases hr:row=q.r
 ·have hjh:j=h:=by
   have:i ∈ q.r:=by rw [<- hr,er]; exact ki.mpr (.inl rfl)
   obtain ⟨d,d1,d2⟩:=m.AQ hq this;rw [hb] at d1;cases d1;rw [hj] at d2;exact Zj d2
  rw [Zq hr] at et ⊢;refine (gF (s:=.shr (.bl false)) (τ:=[.mu true (trM t.af gv M),.shr (.int i),.shr (.int h),.shr (.int pl),.shr (.lst (l.map .int)),.mu false (lM (row.map .int)),.shr (.int (tpI ns))]) (go ?_)).trans ?_
  ·have:(nJ (tS (dT (dOp oEq (aE 5) (dOp eE (dUn (vM t.af "boxes") (aE 0)) (aE 2))))) (nI (eN (dC (.bl false)))) gs) [.mu true (trM t.af gv M),.shr (.int i),.shr (.int h),.shr (.int pl),.shr (.lst (l.map .int)),.mu false (lM (row.map .int)),.shr (.int (tpI ns))]=some (.ret (.shr (.bl false)) [.mu true (trM t.af gv M),.shr (.int i),.shr (.int h),.shr (.int pl),.shr (.lst (l.map .int)),.mu false (lM (row.map .int)),.shr (.int (tpI ns))]):=j5 et (mP (v_N e_c))
   unfold cY;rw [this]
  ·rw [hjh,hr,C2 m.nd hb (hjh ▸ hj) hq]
   rfl
 ·rw [Zk hr] at et ⊢
  refine (gF (τ:=[.mu true (trM t.af gv (mvB M i j h (p.r.erase i) row)),.shr (.int i),.shr (.int h),.shr (.int pl),.shr (.lst (l.map .int)),.no,.shr (.int (tpI ns))]) (go ?_)).trans rfl;refine aH (d4 et rfl) ?_
  have hg:aZ [.mu true (trM t.af gv M),.shr (.int i),.shr (.int h),.shr (.int pl),.shr (.lst (l.map .int)),.mu false (lM (row.map .int)),.shr (.int (tpI ns))] 0 [.k (.inr "boxes"),.k (.inl j)]=some (lM (p.r.map .int)):=by
   rw [jZ rfl];refine ui.trans ?_
   refine (kl _ _ _).trans ?_
   rw [hp];rfl
  have eh:eE (.dct (kv (λ b=>hD b.h) M)) (.int i)=some (.int j):=by
   rw [bX hb,hj];rfl
  refine aH (τ':=[.mu true (trM t.af gv (upR M j (p.r.erase i))),.shr (.int i),.shr (.int h),.shr (.int pl),.shr (.lst (l.map .int)),.mu false (lM (row.map .int)),.shr (.int (tpI ns))]) ((F5 (mw (jF bK rfl) (by rw [sn]; exact az (ft e_v fH) e_v eh) rfl rfl) e_v hg (rE _) ⟨by omega,hi⟩).trans ?_) ?_
  ·rw [c6 rfl,Ap]
   have ep:(trM t.af gv M).put ([]++[.k (.inr "boxes")]++[.k (.inl j)]) (lM ((p.r.erase i).map .int))=trM t.af gv (upR M j (p.r.erase i)):=by
    refine jG.trans ?_
    rw [nN m.nd hp,ug]
   rw [ep];rfl
  have hq3:∃ q',fd (upR M j (p.r.erase i)) h=some q':=by rw [fF,hq]; exact ⟨_,rfl⟩
  obtain ⟨q',hq'⟩:=hq3;have hb3:∃ b',fd (upR (upR M j (p.r.erase i)) h row) i=some b':=by rw [fF,fF,hb]; exact ⟨_,rfl⟩
  obtain ⟨b',hb'⟩:=hb3;refine aH (τ':=[.mu true (trM t.af gv (upR (upR M j (p.r.erase i)) h row)),.shr (.int i),.shr (.int h),.shr (.int pl),.shr (.lst (l.map .int)),.no,.shr (.int (tpI ns))]) ?_ ?_
  ·refine (eI (v_V rfl) (jF bK rfl) e_v rfl rfl rfl (by rw [dU,j9]; omega)).trans ?_
   rw [c6 rfl,By hq']
   have:trM t.af gv (upR (upR M j (p.r.erase i)) h row)=(trM t.af gv (upR M j (p.r.erase i))).put ([]++[.k (.inr "boxes")]) (.n .d (kv (λ b=>lM (b.r.map .int)) (upR (upR M j (p.r.erase i)) h row))):=by
    rw [ug];exact sg.symm
   rw [this];rfl
  refine aH ?_ (mP (v_N e_c))
  refine (jL (v_N e_v) e_v rfl rfl (by rw [dU,j9,j9]; omega)).trans ?_
  rw [Bz hb'];unfold mvB;rw [En];rfl
end
end N14
end
section
namespace N14
open PySem L2
theorem mL {x y:Str} (h:x.length+y.length<=100000):jB (.str x) (.str y)=some (.str (x++y)):=if_pos h
theorem len_app (x y:Str):(x++y).length=x.length+y.length:=by
 show (x.cps++y.cps).size=_;rw [Array.size_append];rfl
theorem DM {τ:List Sl} {f:DE} {l u:DO} {z:Str} {lo hi:Option Int} (h1:f τ=some (.str z)) (h2:l τ=some lo) (h3:u τ=some hi) (h4:z.length<=100000):IB f l u τ=some (.str (Txt.slice z lo hi)):=by
 unfold IB;rw [h1];rw [h2];rw [h3];exact if_pos h4
theorem jJ (z:Str) {a b:Nat} {l u:Option Int} (hab:a<=b) (hb:b<=z.length) (e:Builtin.Str.strSliceIndices l u 1 z.length=Builtin.Str.strSliceIndices (some (a:Int)) (some (b:Int)) 1 z.length):(Txt.slice z l u).cps.toList=(z.cps.toList.drop a).take (b - a):=by
 have hl:z.cps.toList.length=z.length:=Xb;unfold Txt.slice;rw [e];split
 ·rename_i h
  rw [StrLaws.strSliceIndices_plain hab hb,Za,List.length_range] at h;have h':b - a=z.length:=by simpa using h
  have ha:a=0:=by omega
  subst ha;rw [List.drop_zero,h',<- hl,List.take_length]
 ·show (List.filterMap _ _)=_
  exact StrLaws.sliced_plain z hab hb
theorem iI {x:Str}:bR x=true↔1<=x.length/\x.length<=8/\∀ c ∈ x.cps.toList,lower c=true:=by
 unfold bR;rw [Yp,Yp,decide_eq_true_eq,decide_eq_true_eq,Yu];constructor
 ·rintro ⟨⟨h1,h2⟩,h3⟩
  exact ⟨by omega,by omega,h3⟩
 ·rintro ⟨h1,h2,h3⟩
  exact ⟨⟨by omega,by omega⟩,h3⟩
theorem iJ (x:Str):x.length=x.cps.toList.length:=by rfl
theorem qt (x y:Str):(x++y).cps.toList=x.cps.toList++y.cps.toList:=by
 show (x.cps++y.cps).toList=_;rw [Array.toList_append]
theorem CB {z:Str} (h:One z):∀ c ∈ z.cps.toList,lower c=true:=by
 have h2:=h.2;unfold okS at h2;rw [Array.all_eq_true_iff_forall_mem] at h2;intro c hc;exact h2 c (by simpa using hc)
theorem E1 (ns:List Int):∃ a b c d:Str,gZ [scr ns,.int 1]=some (.shr (.lst [.str a,.str b,.str c,.str d]))/\bR a=true/\bR b=true/\bR c=true/\bR d=true:=by
 obtain ⟨c1,e1⟩:=jg ns (k:=1) (by decide);obtain ⟨c2,e2⟩:=jg ns (k:=1+1) (by decide);obtain ⟨z,ez,nz⟩:=AA c1 (w:=1) (by decide) (by decide);obtain ⟨y,ey,ny⟩:=AA c2 (w:=4) (by decide) (by decide);obtain ⟨z1,z8,zl⟩:=iI.mp nz;obtain ⟨r,er,r0,r1⟩:=mO c2 (w:=2) (by decide) (by decide)
 have hl:tV [.str z]=some (.int (z.length:Int)):=by
  show (if z.length<=100000 then _ else _)=_;rw [if_pos (by omega)]
 have em:=aR (i:=r) (j:=(z.length:Int)) (by omega);obtain ⟨s,es,os⟩:=AN (Yc _ (by decide)) (Z8 _ (by decide));have ls:=os.1;have sl:=CB os;have a1:=Txt.slice_le z none (some (r % (z.length:Int)));have a2:=Txt.slice_le z (some (r % (z.length:Int)+1)) none;have f1:=mL (x:=Txt.slice z none (some (r % (z.length:Int)))) (y:=s) (by omega);have f2:=mL (x:=Txt.slice z none (some (r % (z.length:Int)))++s) (y:=Txt.slice z (some (r % (z.length:Int)+1)) none) (by rw [len_app]; omega);have f3:=mL (x:=z) (y:=s) (by omega);have p0:=Yc r (b:=(z.length:Int)) (by omega);have p1:=Z8 r (b:=(z.length:Int)) (by omega);obtain ⟨p,hp⟩:∃ p:Nat,r % (z.length:Int)=(p:Int):=⟨(r % (z.length:Int)).toNat,by omega⟩
 rw [hp] at p1;have s1:(Txt.slice z none (some (p:Int))).cps.toList=(z.cps.toList.drop 0).take (p - 0):=jJ z (Z7 _) (by omega) (StrLaws.sliceIdx_none_lo _ _);have s2:(Txt.slice z (some ((p:Int)+1)) none).cps.toList=(z.cps.toList.drop (p+1)).take (z.length - (p+1)):=jJ z (by omega) (Zn _) (StrLaws.sliceIdx_none_hi _ _)
 have zs:∀ c ∈ (z++s).cps.toList,lower c=true:=by
  intro c hc;rw [qt] at hc;rcases Zh.mp hc with h | h
  · exact zl c h
  · exact sl c h
 have lzs:=len_app z s
 have s3:(Txt.slice (z++s) (some (-8)) none).cps.toList=((z++s).cps.toList.drop ((z++s).length - 8)).take ((z++s).length - ((z++s).length - 8)):=by
  refine jJ (z++s) (by omega) (Zn _) ?_
  rw [PyProof.Rows.sliceIdx_lo_neg _ (by decide),StrLaws.sliceIdx_none_hi];congr 2;omega
 refine ⟨z,Txt.slice z none (some (r % (z.length:Int)))++s++Txt.slice z (some (r % (z.length:Int)+1)) none,Txt.slice (z++s) (some (-8)) none,y,?_,nz,?_,?_,ny⟩
 ·unfold gZ gR
  dsimp only;refine cf ?_
  refine bh (bC (d:=.str LET) e_c) ?_
  refine bh (bC (by walk_at "ee")) ?_
  refine bh (bC (by walk_at "ee")) ?_
  refine bh (bC (by walk_at "ee")) ?_
  refine bh (bC (by walk_at "ee")) ?_
  refine bh (bC (az (az (DM e_v D7 (lW e_v) (by omega)) e_v f1) (DM e_v (lW (az e_v e_c (a7 _ _))) D7 (by omega)) f2)) ?_
  refine bh (bC (DM (az e_v e_v f3) (lW (GI e_c rfl)) D7 (by rw [len_app]; omega))) ?_
  exact bW (by walk_at "ee")
 ·rw [hp]
  refine iI.mpr ⟨by rw [len_app,len_app]; omega,?_,λ c hc=>?_⟩
  ·rw [len_app,len_app,iJ (Txt.slice z none _),iJ (Txt.slice z (some _) none),s1,s2,Y0,Y0,Xu,Xu]
   omega
  ·rw [qt,qt,s1,s2] at hc
   rcases Zh.mp hc with h | h
   ·rcases Zh.mp h with h | h
    · exact zl c (List.mem_of_mem_drop (List.mem_of_mem_take h))
    · exact sl c h
   · exact zl c (List.mem_of_mem_drop (List.mem_of_mem_take h))
 ·refine iI.mpr ⟨?_,?_,λ c hc=>?_⟩
  ·rw [iJ,s3,Y0,Xu,<- iJ]
   omega
  ·rw [iJ,s3,Y0,Xu,<- iJ]
   omega
  ·rw [s3] at hc
   exact zs c (List.mem_of_mem_drop (List.mem_of_mem_take hc))
end N14
end
section
namespace N14
open PySem L2
def PL (a b c d:Str):D:=.lst [.str a,.str b,.str c,.str d]
structure PlN (a b c d:Str):Prop where
 a:bR a=true
 b:bR b=true
 c:bR c=true
 d:bR d=true
theorem vn {a b c d:Str} (h:PlN a b c d) {k:Int} (k0:0<=k) (k1:k < 4):∃ x:Str,oIx (PL a b c d) (.int k)=some (.str x)/\bR x=true:=by
 have:k=0\/k=1\/k=2\/k=3:=by omega
 rcases this with rfl | rfl | rfl | rfl
 · exact ⟨a,rfl,h.a⟩
 · exact ⟨b,rfl,h.b⟩
 · exact ⟨c,rfl,h.c⟩
 · exact ⟨d,rfl,h.d⟩
theorem A2:Ed 10 30:=⟨by decide,by decide,by decide⟩
def fA (k:Bool):Str:=if k=true then "back" else "front"
inductive Tr:Nat->D->Prop where
 | any (n:Nat):Tr n (.tup [.str "any"])
 | name (n:Nat) (x:Str):Tr n (.tup [.str "name",.str x])
 | mark (n:Nat) (x:Str):Tr n (.tup [.str "mark",.str x])
 | EB (n:Nat) (k:Bool) (f e:Int) (h:0<=e):Tr n (.tup [.str (fA k),.int f,.int e])
 | neg (n:Nat) (d:D) (h:Tr n d):Tr (n+1) (.tup [.str "not",d])
 | one (n:Nat) (ds:List D) (h3:ds.length<=100) (h:∀ d ∈ ds,Tr n d):Tr (n+1) (.tup [.str "one",.tup ds])
section
variable {pa pb pc pd:Str}
theorem Ca (hP:PlN pa pb pc pd) (c:Int) {w:Int} (w0:0<=w) (w1:w<=10000):∃ d,jn [.int c,.int w,PL pa pb pc pd]=some (.shr d)/\∀ n,Tr n d:=by
 obtain ⟨r,er,r0,r1⟩:=mO c w0 w1;have p30:=vJ A2;have m30:=aR (i:=c) (j:=10 ^ (Int.toNat 30)) (by decide +kernel);have t0:=b8 (r % 6) 0;have t5:=b8 (r % 6) 5;obtain ⟨x,ex,_⟩:=vn hP (k:=r / 6 % 4) (Yc _ (by decide)) (Z8 _ (by decide))
 have fb:∃ k:Bool,oIx (.lst [.str "front",.str "back"]) (.int (r % 6 % 2))=some (.str (fA k)):=by
  have:r % 6 % 2=0\/r % 6 % 2=1:=by omega
  rcases this with h | h
  · rw [h]; exact ⟨false,rfl⟩
  · rw [h]; exact ⟨true,rfl⟩
 obtain ⟨k,ek⟩:=fb
 have key:Ret (λ d=>∀ n,Tr n d) ((dW).1 (hU 7 [.int c,.int w,PL pa pb pc pd])):=by
  unfold dW;dsimp only;show Ret _ (i9 _ _ [.shr (.int c),.shr (.int w),.shr (PL pa pb pc pd),.no,.no,.no,.no]);refine sy (bC (d:=.int r) (by walk_at "ee")) ?_
  refine sy (bC (d:=.int (r % 6)) (by walk_at "ee")) ?_
  refine Hc (b:=decide (r % 6=0)||decide (r % 6=5)) (by walk_at "ee") (λ _=>qH (d:=.tup [.str "any"]) (by walk_at "ee") λ n=>.any n) (λ _=>?_);refine Hc (b:=decide (r % 6=1)) (by walk_at "ee") (λ _=>qH (d:=.tup [.str "name",.str x]) (by walk_at "ee") λ n=>.name n _) (λ _=>?_);refine Hc (b:=decide (r % 6=2)) (by walk_at "ee") (λ _=>qH (d:=.tup [.str "mark",.str x]) (by walk_at "ee") λ n=>.mark n x) (λ _=>?_);refine sy (bC (d:=.int (r / 6 % 6)) (by walk_at "ee")) ?_
  refine sy (bC (d:=.int (r / 36 % 4)) (by walk_at "ee")) ?_
  refine LU (R:=λ τ=>∃ f e:Int,0<=e/\τ=[.shr (.int c),.shr (.int w),.shr (PL pa pb pc pd),.shr (.int r),.shr (.int (r % 6)),.shr (.int f),.shr (.int e)]) (Mx (b:=decide (r / 144 % 8=5)) (by walk_at "ee") (λ _=>Mw (bh (bC (d:=.int (c % 10 ^ (Int.toNat 30))) (by walk_at "ee")) (bC (d:=.int (r / 1152)) (by walk_at "ee"))) ⟨_,_,by omega,rfl⟩) (λ _=>AB ⟨_,_,by omega,rfl⟩)) ?_
  rintro _ ⟨f,e,he,rfl⟩
  refine LU (R:=λ τ=>∃ f e:Int,0<=e/\τ=[.shr (.int c),.shr (.int w),.shr (PL pa pb pc pd),.shr (.int r),.shr (.int (r % 6)),.shr (.int f),.shr (.int e)]) (Mx (b:=decide (r / 144 % 8=6)) (by walk_at "ee") (λ _=>Mw (bC (d:=.int (c % 10 ^ (Int.toNat 30))) (by walk_at "ee")) ⟨_,_,Yc _ (by decide +kernel),rfl⟩) (λ _=>AB ⟨_,_,he,rfl⟩)) ?_
  rintro _ ⟨f,e,he,rfl⟩
  exact EN (d:=.tup [.str (fA k),.int f,.int e]) (by walk_at "ee") λ n=>.EB n k f e he
 exact GF key
end
end N14
end
section
namespace N14
open PySem L2
theorem zI {b:D->DS} {d:D} {ds:List D} {τ τ':List Sl} {r:Option Out} (h:b d τ=some (.next τ')) (h2:wK b ds τ'=r):wK b (d::ds) τ=r:=by
 rw [wK,h]; exact h2
theorem eqs {a b:Str} (h:a=b):oEq (.str a) (.str b)=some (.bl true):=by rw [gH,Zq h]
theorem nes {a b:Str} (h:a≠b):oEq (.str a) (.str b)=some (.bl false):=by rw [gH,Zk h]
theorem nG:∀ l:List Str,Ah (l.map .str)=some (l.map V.str)
 | []=>rfl
 | x::l=>by
  show (scD (.str x)).bind (λ v=>(Ah (l.map .str)).map (v::·))=_;rw [nG l];rfl
theorem rC (p:Str):∀ l:List Str,inV (.str p) (l.map V.str)=decide (p ∈ l)
 | []=>by simp [inV]
 | x::l=>by
  have ih:=rC p l;unfold inV at *;rw [Zg,Yz,ih]
  by_cases h:p=x
  ·subst h
   simp [eqV]
  ·have h':¬ x=p:=λ z=>h z.symm
   simp [eqV,h,h']
theorem wB (p:Str) (l:List Str):vL (.str p) (.lst (l.map .str))=some (.bl (decide (p ∈ l))):=by
 show (inS (.str p) (l.map .str)).map D.bl=_;unfold inS;rw [nG];show some (D.bl (inV (.str p) _))=_;rw [rC]
theorem rA:∀ ns:List Int,cO (ns.map .int)=some ns
 | []=>rfl
 | n::ns=>by
  show (cO (ns.map .int)).map _=_;rw [rA ns];rfl
theorem wC {ns:List Int} {k:Int} (hl:ns.length<=1000) (hk:k ∈ ns):FL (.lst (ns.map .int)) (.int k)=some (.int (ns.idxOf k:Nat)):=by
 show (cO (ns.map .int)).bind _=_;rw [rA];exact if_pos ⟨hl,hk⟩
theorem nY {ns:List Int} (h:ns.Nodup):ns.reverse.Nodup:=List.pairwise_reverse.mpr (h.imp λ z=>z.symm)
theorem Dw {ns:List Int} {k:Int} (h:ns.Nodup) (hk:k ∈ ns):ns.reverse.idxOf k=ns.length - 1 - ns.idxOf k:=by
 have hi:ns.idxOf k < ns.length:=Y9.mpr hk;have hr:ns.length - 1 - ns.idxOf k < ns.reverse.length:=by rw [Yr]; omega
 have e:=(nY h).idxOf_getElem _ hr;rw [List.getElem_reverse] at e;simp only [show ns.length - 1 - (ns.length - 1 - ns.idxOf k)=ns.idxOf k by omega,List.getElem_idxOf hi] at e;exact e
structure jw (M:List B8) (i:Int) (b:B8) (rw:List Int):Prop where
 at_:fd M i=some b
 ro:(b.h=none/\rw=[i])\/∃ j bj,b.h=some j/\fd M j=some bj/\rw=bj.r
 mem:i ∈ rw
 nd:rw.Nodup
 len:rw.length<=1000
 ms:b.m.k.length < 64
 mm:∀ x,x ∈ b.m.l↔x ∈ b.m.k
def plc (k:Bool) (rw:List Int) (i:Int):Int:=if k=true then (rw.length:Int) - (rw.idxOf i:Nat) else (rw.idxOf i:Nat)+1
def GR (p f e:Int):Bool:=if e=0 then decide (p=f) else decide (p % e=f % e)
structure RdR (M:List B8) (R:D):Prop where
 at_:∀ i b,fd M i=some b->eE R (.int i)=some (.lst (b.r.map .int))
 nin:∀ i b,fd M i=some b->eW (.int i) R=some (.bl false)
def mlD (M:List B8):D:=.dct (kv (λ b=>.lst (b.m.l.map .str)) M)
section
variable {t:Adr} {gv:Int} {M:List B8} {i:Int} {b:B8} {rw:List Int}
theorem uM (S:jw M i b rw):nv t [trD t.af gv M,.int i]=some (.shr (.lst (rw.map .int))):=by
 unfold nv nu;dsimp only;refine cf (bh ((bC (cH (ai rfl) (ag (ai rfl) aA) rfl (kj S.at_) rfl)).trans rfl) (bW ?_));rcases S.ro with ⟨h,rfl⟩ | ⟨j,bj,h,hj,rfl⟩
 ·rw [h]
  exact Lv (b:=true) (aF (az (ai rfl) e_c rfl)) (λ _=>fG (ag (ai rfl) aA) (Zb rfl)) nofun
 ·rw [h]
  exact Lv (b:=false) (aF (az (ai rfl) e_c rfl)) nofun λ _=>cH (ai rfl) (ag (ai rfl) aA) rfl (ng hj) rfl
theorem sj (S:jw M i b rw):lj t [trD t.af gv M,.int i]=some (.shr (.tup [.int ((rw.idxOf i:Nat)+1),.int (rw.length:Int)])):=by
 unfold lj kY;dsimp only;exact cf (bh ((bC (dO (ag (ai rfl) (ag (ai rfl) aA)) (uM S) rfl)).trans rfl) (bW (il (ag (az (az (ai rfl) (ai rfl) (wC S.len S.mem)) e_c (a7 _ _)) (ag (bL (ag (ai rfl) aA) (Di rw)) aA)) (Zb rfl))))
theorem tF (p f:Int) {e:Int} (he:0<=e):fW [.int p,.int f,.int e]=some (.shr (.bl (GR p f e))):=by
 unfold fW fO GR;dsimp only;have t0:=b8 e 0;refine cf ?_
 by_cases h:e=0
 ·rw [Zq h] at t0
  rw [if_pos h];exact dQ (aF (az (ai rfl) e_c t0)) (bW (az (ai rfl) (ai rfl) (b8 _ _)))
 ·rw [Zk h] at t0
  rw [if_neg h];exact aY (aF (az (ai rfl) e_c t0)) (bW (az (az (ai rfl) (ai rfl) (aR (by omega))) (az (ai rfl) (ai rfl) (aR (by omega))) (b8 _ _)))
theorem G5 (vs:List Bool):L0 [.lst (vs.map .bl)]=some (.bl (vs.any id)):=by
 have e:∀ vs:List Bool,t6 (vs.map .bl)=some vs:=λ vs=>by
  induction vs with
  | nil=>rfl
  | cons v vs ih =>
   show (t6 (vs.map .bl)).map _=_;rw [ih];rfl
 show (t6 (vs.map .bl)).map _=_;rw [e];rfl
theorem wg {P:D->Bool->Prop}:∀ {ds:List D},(∀ (j:Nat) (d:D),ds[j]?=some d->∃ v,P d v)->∃ vs:List Bool,vs.length=ds.length/\∀ (j:Nat) (d:D) (v:Bool),ds[j]?=some d->vs[j]?=some v->P d v
 | [],_=>⟨[],rfl,λ j d v h=>by simp at h⟩
 | d::ds,h=>by
  obtain ⟨v,p⟩:=h 0 d rfl;obtain ⟨vs,l,q⟩:=wg (P:=P) (ds:=ds) λ j d e=>h (j+1) d (by simpa using e)
  refine ⟨v::vs,by simp [l],λ j d' v' h1 h2=>?_⟩
  cases j with
  | zero=>simp at h1 h2; subst h1 h2; exact p
  | succ j=>exact q j d' v' (by simpa using h1) (by simpa using h2)
theorem AJ {g:D->Option D}:∀ {ds:List D} {vs:List Bool},vs.length=ds.length->(∀ (j:Nat) (d:D) (v:Bool),ds[j]?=some d->vs[j]?=some v->g d=some (.bl v))->tW g ds=some (vs.map .bl)
 | [],[],_,_=>rfl
 | [],_::_,h,_=>by cases h
 | _::_,[],h,_=>by cases h
 | d::ds,v::vs,h,hh=>by
  have e:=AJ (g:=g) (ds:=ds) (vs:=vs) (by simpa using h) λ j d v h1 h2=>hh (j+1) d v (by simpa using h1) (by simpa using h2)
  simp only [tW,hh 0 d v rfl rfl,e];rfl
theorem AU {G:List D->Option Sl} {a0 a1 a2 a3 a4:D} {s5 s7 s8:Sl}:∀ {ds:List D} {vs:List Bool} (s6:Sl),vs.length=ds.length->(∀ (j:Nat) (d:D) (v:Bool),ds[j]?=some d->vs[j]?=some v->G [a0,a1,a2,d,a4]=some (.shr (.bl v))) ->
    ∃ s6',wK (λ d τ=>(gN 6 d τ).bind (sIf (dT (dFn G (aD (aE 0) (aD (aE 1) (aD (aE 2) (aD (aE 6) (aD (aE 4) cJ))))))) (Ak (dC (.bl true))) lD)) ds [.shr a0,.shr a1,.shr a2,.shr a3,.shr a4,s5,s6,s7,s8] =
      if vs.any id=true then some (.ret (.shr (.bl true))) else some (.next [.shr a0,.shr a1,.shr a2,.shr a3,.shr a4,s5,s6',s7,s8])
  | [],[],s6,_,_=>⟨s6,rfl⟩
  | [],_::_,_,h,_=>by cases h
  | _::_,[],_,h,_=>by cases h
  | d :: ds,v::vs,s6,h,hh=>by
    have h0:=hh 0 d v rfl rfl;have t:dT (dFn G (aD (aE 0) (aD (aE 1) (aD (aE 2) (aD (aE 6) (aD (aE 4) cJ)))))) [.shr a0,.shr a1,.shr a2,.shr a3,.shr a4,s5,.shr d,s7,s8]=some v:=aF (dO (ag (ai rfl) (ag (ai rfl) (ag (ai rfl) (ag (ai rfl) (ag (ai rfl) aA))))) h0 rfl)
    cases v with
    | true =>
      refine ⟨s6,?_⟩;show (match (sIf _ _ _ [.shr a0,.shr a1,.shr a2,.shr a3,.shr a4,s5,.shr d,s7,s8]:Option Out) with | some (.next τ')=>_ | some (.cnt τ')=>_ | some (.brk τ')=>_ | r=>r)=_;rw [sq (b:=true) (r:=some (.ret (.shr (.bl true)))) t (λ _=>bW e_c) nofun];rfl
    | false =>
      obtain ⟨s6',e⟩:=AU (a3:=a3) (s5:=s5) (s7:=s7) (s8:=s8) (.shr d) (by simpa using h) λ j d v h1 h2=>hh (j+1) d v (by simpa using h1) (by simpa using h2)
      refine ⟨s6',?_⟩;rw [show ((false::vs).any id)=vs.any id from rfl,<- e];exact zI (τ':=[.shr a0,.shr a1,.shr a2,.shr a3,.shr a4,s5,.shr d,s7,s8]) (sq (b:=false) t nofun λ _=>rfl) rfl
end
theorem d3 {k:Bool} {x:Str} (h:("back":Str)≠x/\("front":Str)≠x):oEq (.str (fA k)) (.str x)=some (.bl false):=by
 cases k
 · exact nes h.2
 · exact nes h.1
theorem C7 (x:Str) (ss:List Str):x ∈ D6 ss↔x ∈ ss:=(List.mergeSort_perm ss leS).mem_iff
section
variable {t:Adr} {gv:Int} {M:List B8} {i:Int} {b:B8} {rw:List Int} {R:D} {F G:List D->Option Sl}
theorem has_any:cN 6 3 (aW t F).1 [trD t.af gv M,.int i,.tup [.str "any"]]=some (.shr (.bl true)):=by
 unfold aW;dsimp only;refine cf (bh (bC (d:=.str "any") (az (ai rfl) e_c (bE _ _))) ?_);exact dQ (aF (az (ai rfl) e_c (eqs rfl))) (bW e_c)
theorem zC (S:jw M i b rw) (x:Str):cN 6 3 (aW t F).1 [trD t.af gv M,.int i,.tup [.str "name",.str x]]=some (.shr (.bl (decide (b.n=x)))):=by
 unfold aW;dsimp only;refine cf (bh (bC (d:=.str "name") (az (ai rfl) e_c (bE _ _))) ?_);refine aY (aF (az (ai rfl) e_c (nes (by decide)))) ?_
 exact dQ (aF (az (ai rfl) e_c (eqs rfl))) (bW (az (cH (ai rfl) (ag (ai rfl) aA) rfl (CJ S.at_) rfl) (az (ai rfl) e_c (cP _ _ _)) (gH _ _)))
theorem zD (S:jw M i b rw) (x:Str):cN 6 3 (aW t F).1 [trD t.af gv M,.int i,.tup [.str "mark",.str x]]=some (.shr (.bl (decide (x ∈ b.m.k)))):=by
 unfold aW;dsimp only;refine cf (bh (bC (d:=.str "mark") (az (ai rfl) e_c (bE _ _))) ?_);refine aY (aF (az (ai rfl) e_c (nes (by decide)))) ?_
 refine aY (aF (az (ai rfl) e_c (nes (by decide)))) ?_
 refine dQ (aF (az (ai rfl) e_c (eqs rfl))) (bW (az (az (ai rfl) e_c (cP _ _ _)) (cH (ai rfl) (ag (ai rfl) aA) rfl (ze S.at_ S.ms) rfl) ?_));rw [wB];congr 3;exact propext (C7 x b.m.k)
theorem Dz {d:D} {v:Bool} (h:F [trD t.af gv M,.int i,d]=some (.shr (.bl v))):cN 6 3 (aW t F).1 [trD t.af gv M,.int i,.tup [.str "not",d]]=some (.shr (.bl (!v))):=by
 unfold aW;dsimp only;refine cf (bh (bC (d:=.str "not") (az (ai rfl) e_c (bE _ _))) ?_);refine aY (aF (az (ai rfl) e_c (nes (by decide)))) ?_
 refine aY (aF (az (ai rfl) e_c (nes (by decide)))) ?_
 refine aY (aF (az (ai rfl) e_c (nes (by decide)))) ?_
 exact dQ (aF (az (ai rfl) e_c (eqs rfl))) (bW (GK (dO (ag (ai rfl) (ag (ai rfl) (ag (az (ai rfl) e_c (cP _ _ _)) aA))) h rfl)))
theorem Dy {ds:List D} {vs:List Bool} (hl:vs.length=ds.length) (h3:ds.length<=100) (h:∀ (j:Nat) (d:D) (v:Bool),ds[j]?=some d->vs[j]?=some v->F [trD t.af gv M,.int i,d]=some (.shr (.bl v))) :
  cN 6 3 (aW t F).1 [trD t.af gv M,.int i,.tup [.str "one",.tup ds]]=some (.shr (.bl (vs.any id))):=by
 unfold aW;dsimp only;refine cf (bh (bC (d:=.str "one") (az (ai rfl) e_c (bE _ _))) ?_);refine aY (aF (az (ai rfl) e_c (nes (by decide)))) ?_
 refine aY (aF (az (ai rfl) e_c (nes (by decide)))) ?_
 refine aY (aF (az (ai rfl) e_c (nes (by decide)))) ?_
 refine aY (aF (az (ai rfl) e_c (nes (by decide)))) ?_
 refine dQ (aF (az (ai rfl) e_c (eqs rfl))) (bW (bL (ag (rL (Gq (az (ai rfl) e_c (cP _ _ _))) (by omega) (AJ hl λ j d v h1 h2=>?_)) aA) (G5 vs)));exact dO (ag (ai rfl) (ag (ai rfl) (ag (ai rfl) aA))) (h j d v h1 h2) rfl
theorem zB (S:jw M i b rw) (k:Bool) (f:Int) {e:Int} (he:0<=e):cN 6 3 (aW t F).1 [trD t.af gv M,.int i,.tup [.str (fA k),.int f,.int e]]=some (.shr (.bl (GR (plc k rw i) f e))):=by
 unfold aW;dsimp only;refine cf (bh (bC (d:=.str (fA k)) (az (ai rfl) e_c (bE _ _))) ?_);refine aY (aF (az (ai rfl) e_c (d3 (by decide)))) ?_
 refine aY (aF (az (ai rfl) e_c (d3 (by decide)))) ?_
 refine aY (aF (az (ai rfl) e_c (d3 (by decide)))) ?_
 refine aY (aF (az (ai rfl) e_c (d3 (by decide)))) ?_
 refine aY (aF (az (ai rfl) e_c (d3 (by decide)))) ?_
 refine bh (bC (dO (ag (ai rfl) (ag (ai rfl) aA)) (sj S) rfl)) ?_
 have ef:oEq (.str (fA k)) (.str "front")=some (.bl (!k)):=by
  cases k
  · exact eqs rfl
  · exact nes (by decide)
 refine bh (bC (d:=.int (plc k rw i)) (Lv (b:=!k) (aF (az (ai rfl) e_c ef)) (λ h=>?_) (λ h=>?_))) ?_
 ·have hk:k=false:=by simpa using h
  subst hk;exact az (ai rfl) e_c (bE _ _)
 ·have hk:k=true:=by simpa using h
  subst hk;refine az (az (az (ai rfl) e_c (cP _ _ _)) (az (ai rfl) e_c (bE _ _)) (c7 _ _)) e_c ((a7 _ _).trans ?_);congr 2;show (rw.length:Int) - ((rw.idxOf i:Nat)+1)+1=(rw.length:Int) - (rw.idxOf i:Nat);omega
 · exact bW (dO (ag (ai rfl) (ag (az (ai rfl) e_c (cP _ _ _)) (ag (az (ai rfl) e_c (jY _ _ _ _)) aA))) (tF _ _ he) rfl)
theorem pY (S:jw M i b rw):eE (faD M) (.int i)=some (.tup [hD b.h,.str b.n]):=bX S.at_
theorem Dl:cN 9 5 (a9 G).1 [R,faD M,mlD M,.tup [.str "any"],.int i]=some (.shr (.bl true)):=by
 unfold a9;dsimp only;refine cf (bh (bC (d:=.str "any") (az (ai rfl) e_c (bE _ _))) ?_);refine aY (aF (az (ai rfl) e_c (nes (by decide)))) ?_
 refine aY (aF (az (ai rfl) e_c (nes (by decide)))) ?_
 refine aY (aF (az (ai rfl) e_c (nes (by decide)))) ?_
 refine aY (aF (az (ai rfl) e_c (nes (by decide)))) ?_
 exact dQ (aF (az (ai rfl) e_c (eqs rfl))) (bW e_c)
theorem zt (S:jw M i b rw) (x:Str):cN 9 5 (a9 G).1 [R,faD M,mlD M,.tup [.str "name",.str x],.int i]=some (.shr (.bl (decide (b.n=x)))):=by
 unfold a9;dsimp only;refine cf (bh (bC (d:=.str "name") (az (ai rfl) e_c (bE _ _))) ?_);exact dQ (aF (az (ai rfl) e_c (eqs rfl))) (bW (az (az (az (ai rfl) (ai rfl) (pY S)) e_c (cP _ _ _)) (az (ai rfl) e_c (cP _ _ _)) (gH _ _)))
theorem zu (S:jw M i b rw) (x:Str):cN 9 5 (a9 G).1 [R,faD M,mlD M,.tup [.str "mark",.str x],.int i]=some (.shr (.bl (decide (x ∈ b.m.k)))):=by
 unfold a9;dsimp only;refine cf (bh (bC (d:=.str "mark") (az (ai rfl) e_c (bE _ _))) ?_);refine aY (aF (az (ai rfl) e_c (nes (by decide)))) ?_
 refine dQ (aF (az (ai rfl) e_c (eqs rfl))) (bW (az (az (ai rfl) e_c (cP _ _ _)) (az (ai rfl) (ai rfl) (bX S.at_)) ?_));rw [wB];congr 3;exact propext (S.mm x)
theorem Dk {d:D} {v:Bool} (h:G [R,faD M,mlD M,d,.int i]=some (.shr (.bl v))):cN 9 5 (a9 G).1 [R,faD M,mlD M,.tup [.str "not",d],.int i]=some (.shr (.bl (!v))):=by
 unfold a9;dsimp only;refine cf (bh (bC (d:=.str "not") (az (ai rfl) e_c (bE _ _))) ?_);refine aY (aF (az (ai rfl) e_c (nes (by decide)))) ?_
 refine aY (aF (az (ai rfl) e_c (nes (by decide)))) ?_
 exact dQ (aF (az (ai rfl) e_c (eqs rfl))) (bW (GK (dO (ag (ai rfl) (ag (ai rfl) (ag (ai rfl) (ag (az (ai rfl) e_c (cP _ _ _)) (ag (ai rfl) aA))))) h rfl)))
theorem Dj {ds:List D} {vs:List Bool} (hl:vs.length=ds.length) (h:∀ (j:Nat) (d:D) (v:Bool),ds[j]?=some d->vs[j]?=some v->G [R,faD M,mlD M,d,.int i]=some (.shr (.bl v))) :
  cN 9 5 (a9 G).1 [R,faD M,mlD M,.tup [.str "one",.tup ds],.int i]=some (.shr (.bl (vs.any id))):=by
 unfold a9;dsimp only;refine cf (bh (bC (d:=.str "one") (az (ai rfl) e_c (bE _ _))) ?_);refine aY (aF (az (ai rfl) e_c (nes (by decide)))) ?_
 refine aY (aF (az (ai rfl) e_c (nes (by decide)))) ?_
 refine aY (aF (az (ai rfl) e_c (nes (by decide)))) ?_
 refine dQ (aF (az (ai rfl) e_c (eqs rfl))) ?_
 obtain ⟨s6,e⟩:=AU (a3:=.tup [.str "one",.tup ds]) (s5:=.shr (.str "one")) (s7:=.no) (s8:=.no) .no hl h
 have ef:Hb (wD (dOp oIx (aE 3) (dC (.int 1)))) (gN 6) (sIf (dT (dFn G (aD (aE 0) (aD (aE 1) (aD (aE 2) (aD (aE 6) (aD (aE 4) cJ))))))) (Ak (dC (.bl true))) lD) [.shr (R),.shr (faD M),.shr (mlD M),.shr (.tup [.str "one",.tup ds]),.shr (.int i),.shr (.str "one"),.no,.no,.no]=(if vs.any id=true then some (.ret (.shr (.bl true))) else some (.next [.shr (R),.shr (faD M),.shr (mlD M),.shr (.tup [.str "one",.tup ds]),.shr (.int i),.shr (.str "one"),s6,.no,.no])):=by
  unfold Hb;rw [Gq (az (ai rfl) e_c (cP _ _ _))];exact e
 cases hv:vs.any id with
 | true =>
  rw [hv] at ef;exact qD ef
 | false =>
  rw [hv] at ef;exact bh ef (bW e_c)
theorem zq (hR:RdR M R) (S:jw M i b rw) (k:Bool) (f:Int) {e:Int} (he:0<=e):cN 9 5 (a9 G).1 [R,faD M,mlD M,.tup [.str (fA k),.int f,.int e],.int i]=some (.shr (.bl (GR (plc k rw i) f e))):=by
 unfold a9;dsimp only;refine cf (bh (bC (d:=.str (fA k)) (az (ai rfl) e_c (bE _ _))) ?_);refine aY (aF (az (ai rfl) e_c (d3 (by decide)))) ?_
 refine aY (aF (az (ai rfl) e_c (d3 (by decide)))) ?_
 refine aY (aF (az (ai rfl) e_c (d3 (by decide)))) ?_
 refine aY (aF (az (ai rfl) e_c (d3 (by decide)))) ?_
 refine aY (aF (az (ai rfl) e_c (d3 (by decide)))) ?_
 refine bh (bC (fG (ag (ai rfl) aA) (Zb rfl))) ?_
 refine bh (τ':=[.shr (R),.shr (faD M),.shr (mlD M),.shr (.tup [.str (fA k),.int f,.int e]),.shr (.int i),.shr (.str (fA k)),.no,.shr (.lst (rw.map .int)),.no]) ?_ ?_
 ·rcases S.ro with ⟨h,rfl⟩ | ⟨j,bj,h,hj,rfl⟩
  ·have fi:=pY S
   rw [h] at fi;exact sq (b:=false) (aF (az (az (az (ai rfl) (ai rfl) fi) e_c (bE _ _)) e_c rfl)) nofun λ _=>rfl
  ·have fi:=pY S
   rw [h] at fi;exact sq (b:=true) (aF (az (az (az (ai rfl) (ai rfl) fi) e_c (bE _ _)) e_c rfl)) (λ _=>(bC (d:=.lst (bj.r.map .int)) (bL (ag (az (ai rfl) (az (az (ai rfl) (ai rfl) fi) e_c (bE _ _)) (hR.at_ _ _ hj)) aA) rfl)).trans rfl) nofun
 have hr:i ∈ rw.reverse:=List.mem_reverse.mpr S.mem;have hi:rw.idxOf i < rw.length:=Y9.mpr S.mem;refine bh (τ':=[.shr (R),.shr (faD M),.shr (mlD M),.shr (.tup [.str (fA k),.int f,.int e]),.shr (.int i),.shr (.str (fA k)),.no,.shr (.lst ((if k=true then rw.reverse else rw).map .int)),.no]) ?_ ?_
 ·cases k
  · exact sq (b:=false) (aF (az (ai rfl) e_c (nes (by decide)))) nofun λ _=>rfl
  ·refine sq (b:=true) (aF (az (ai rfl) e_c (eqs rfl))) (λ _=>(bC (d:=.lst (rw.reverse.map .int)) ?_).trans rfl) nofun
   unfold DQ;rw [ai (d:=.lst (rw.map .int)) rfl];show some (D.lst (rw.map D.int).reverse)=_;rw [List.map_reverse]
 have ex:FL (.lst ((if k=true then rw.reverse else rw).map .int)) (.int i)=some (.int (plc k rw i - 1)):=by
  cases k
  ·refine (wC S.len S.mem).trans ?_
   congr 2;show _=((rw.idxOf i:Nat):Int)+1 - 1;omega
  ·refine (wC (ns:=rw.reverse) (by rw [Yr]; exact S.len) hr).trans ?_
   rw [Dw S.nd S.mem];congr 2;show _=(rw.length:Int) - (rw.idxOf i:Nat) - 1;omega
 refine bh (bC (d:=.int (plc k rw i)) (az (az (ai rfl) (ai rfl) ex) e_c ((a7 _ _).trans (by congr 2; omega)))) ?_
 have t0:=b8 e 0;unfold GR
 by_cases h:e=0
 ·rw [Zq h] at t0
  rw [if_pos h];exact dQ (aF (az (az (ai rfl) e_c (jY _ _ _ _)) e_c t0)) (bW (az (ai rfl) (az (ai rfl) e_c (cP _ _ _)) (b8 _ _)))
 ·rw [Zk h] at t0
  rw [if_neg h];refine aY (aF (az (az (ai rfl) e_c (jY _ _ _ _)) e_c t0)) (bW (az (az (az (ai rfl) (az (ai rfl) e_c (cP _ _ _)) (c7 _ _)) (az (ai rfl) e_c (jY _ _ _ _)) (aR (by omega))) e_c ((b8 _ _).trans ?_)));congr 2;exact decide_eq_decide.mpr Int.emod_eq_emod_iff_emod_sub_eq_zero.symm
theorem zA {n:Nat} {d:D} (hR:RdR M R) (S:jw M i b rw) (h:Tr n d) (hF:∀ m,n=m+1->∀ d,Tr m d->∃ v,F [trD t.af gv M,.int i,d]=some (.shr (.bl v))/\G [R,faD M,mlD M,d,.int i]=some (.shr (.bl v))) :
  ∃ v,cN 6 3 (aW t F).1 [trD t.af gv M,.int i,d]=some (.shr (.bl v))/\cN 9 5 (a9 G).1 [R,faD M,mlD M,d,.int i]=some (.shr (.bl v)):=by
 cases h with
 | any=>exact ⟨_,has_any,Dl⟩
 | name _ x=>exact ⟨_,zC S x,zt S x⟩
 | mark _ x=>exact ⟨_,zD S x,zu S x⟩
 | EB _ k f e he=>exact ⟨_,zB S k f he,zq hR S k f he⟩
 | neg m d' h' =>
  obtain ⟨v,e1,e2⟩:=hF m rfl d' h';exact ⟨_,Dz e1,Dk e2⟩
 | one m ds h3 h' =>
  obtain ⟨vs,lv,hv⟩:=wg (ds:=ds) (P:=λ d v=>F [trD t.af gv M,.int i,d]=some (.shr (.bl v))/\G [R,faD M,mlD M,d,.int i]=some (.shr (.bl v))) λ j d hd=>hF m rfl d (h' d (List.mem_of_getElem? hd))
  exact ⟨_,Dy lv h3 λ j d v a c=>(hv j d v a c).1,Dj lv λ j d v a c=>(hv j d v a c).2⟩
theorem Gr (hR:RdR M R) (S:jw M i b rw) {d:D} (h:Tr 0 d):∃ v,lq t [trD t.af gv M,.int i,d]=some (.shr (.bl v))/\mr [R,faD M,mlD M,d,.int i]=some (.shr (.bl v)):=zA hR S h λ m e=>by cases e
end
end N14
end
section
namespace N14
open PySem L2
theorem v7 {px:DPx} {fv:DEm} {τ τ1:List Sm} {s:Sm} {i:Nat} {q:List Stp} {mv:Mt} {cs cs0:List (Key×Mt)} (h1:px τ=some (i,q)) (h2:aZ τ i q=some (.n .l cs0)) (h3:fv τ=some (s,τ1)) (h4:toM s=some mv) (h5:aZ τ1 i q=some (.n .l cs)) (h6:cs.length < 100000):gE px fv τ=some (.next (c4 τ1 i q (.n .l (cs++[(.inl 0,mv)])))):=by
 unfold gE;rw [h1];show (match aZ τ i q with | some (.n .l _)=>(fv τ).bind _ | _=>none)=_;rw [h2];rw [h3];show (toM s).bind _=_;rw [h4];rw [h5];exact if_pos h6
def mlM (M:List B8):Mt:=kM (λ b=>lM (b.m.l.map .str)) M
theorem oy (M:List B8):frz (mlM M)=mlD M:=by
 unfold mlM mlD;rw [zH];congr 2
 funext b
 exact gz _
structure LOk (c:Nat) (M:List B8):Prop where
 m:MOk (M.length:Int) M
 ix:M.map B8.i=(List.range M.length).map λ (n:Nat)=>(n:Int)
 dp:∀ b ∈ M,∃ n,Ch M b.i n/\n < M.length
 mq:∀ b ∈ M,(b.m.k.length<=c/\b.m.l.length<=c)/\∀ x,x ∈ b.m.l↔x ∈ b.m.k
section
variable {t:Adr} {gv:Int} {M:List B8} {i:Int} {b:B8}
theorem LOk.at_ {c:Nat} (L:LOk c M) {x:Int} (x0:0<=x) (x1:x < M.length):∃ b,fd M x=some b:=by
 have:x ∈ M.map B8.i:=by
  rw [L.ix];exact Z2.mpr ⟨x.toNat,Xd.mpr (by omega),by omega⟩
 obtain ⟨b,hb,rfl⟩:=Z2.mp this;exact ⟨b,kA L.m.nd hb⟩
theorem eU (M:List B8) (i:Int) (p:Pl):(stB M i p).length=M.length:=Za _
theorem lZ {β:Type} {g:B8->β} {p p':Pl} (M:List B8) (i:Int) (hg:∀ b:B8,g { b with m:=p }=g { b with m:=p' }):kv g (stB M i p)=kv g (stB M i p'):=by
 unfold kv stB;rw [Zv,Zv];refine Zu λ c _=>?_
 show ((Sum.inl (if c.i=i then { c with m:=p } else c).i:Key),g (if c.i=i then { c with m:=p } else c))=((Sum.inl (if c.i=i then { c with m:=p' } else c).i:Key),g (if c.i=i then { c with m:=p' } else c));split
 · rw [hg]
 · rfl
theorem Gc {β:Type} {g:B8->β} {p:Pl} (M:List B8) (i:Int) (hg:∀ b:B8,g { b with m:=p }=g b):kv g (stB M i p)=kv g M:=by
 unfold kv stB;rw [Zv];refine Zu λ c _=>?_
 show ((Sum.inl (if c.i=i then { c with m:=p } else c).i:Key),g (if c.i=i then { c with m:=p } else c))=_;split
 · rw [hg]
 · rfl
theorem uh {C:Addr} {p p':Pl} (M:List B8) (i:Int) (h:p.k=p'.k):trM C gv (stB M i p)=trM C gv (stB M i p'):=by
 unfold trM bxM kM;rw [lZ (g:=λ b=>Mt.s (.str b.n)) (p:=p) (p':=p') M i λ _=>rfl,lZ (g:=λ b=>Mt.s (hD b.h)) (p:=p) (p':=p') M i λ _=>rfl,lZ (g:=λ b=>lM (b.r.map .int)) (p:=p) (p':=p') M i λ _=>rfl,lZ (g:=mkM) (p:=p) (p':=p') M i λ _=>by unfold mkM; rw [h],lZ (g:=wdM) (p:=p) (p':=p') M i λ _=>rfl,lZ (g:=roM) (p:=p) (p':=p') M i λ _=>rfl]
theorem DY (M:List B8) (i:Int) (p:Pl):bxM (stB M i p)=bxM M:=by unfold bxM kM; rw [Gc (g:=λ b=>lM (b.r.map .int)) M i λ _=>rfl]
theorem DK (M:List B8) (i:Int) (p:Pl):faM (stB M i p)=faM M:=by unfold faM kM; rw [Gc (g:=λ b=>Mt.s (.tup [hD b.h,.str b.n])) M i λ _=>rfl]
theorem C9 {c:Nat} (L:LOk c M) {h p:Int} {nm:Str} (hb:fd M h=some b) (h12:M.length<=12):LOk c (jA M h b p M.length nm)/\(jA M h b p M.length nm).length=M.length+1:=by
 have el:(jA M h b p M.length nm).length=M.length+1:=by
  unfold jA;rw [j9,Zz];rfl
 have hbm:=aS hb;obtain ⟨n,hn,hn2⟩:=L.dp b hbm;rw [gL hb] at hn;have m':=C5 (p:=p) (nm:=nm) L.m hb hn (by omega)
 have fdp:∀ x,fd (jA M h b p M.length nm) x=(fd (M++[⟨M.length,some h,nm,[],cc⟩]) x).map λ c=>if c.i=h then { c with r:=insI b.r p M.length } else c:=λ x=>by
  unfold jA;rw [fF]
 have old:∀ x d,fd M x=some d->∃ d',fd (jA M h b p M.length nm) x=some d'/\d'.h=d.h:=λ x d hd=>by
  rw [fdp,AV hd];refine ⟨_,rfl,?_⟩;show (if d.i=h then { d with r:=insI b.r p M.length } else d).h=d.h;split <;> rfl
 refine ⟨⟨by rw [el]; exact m',?_,λ c hc=>?_,λ c hc=>?_⟩,el⟩
 ·rw [el,List.range_succ,Zi,<- L.ix]
  unfold jA;rw [Ei,Zi];rfl
 ·rw [el]
  obtain ⟨d,hd,rfl⟩:=Z2.mp hc;have ei:(if d.i=h then { d with r:=insI b.r p M.length } else d).i=d.i:=by split <;> rfl
  rw [ei];rcases Zh.mp hd with hd | hd
  ·obtain ⟨k,h1,h2⟩:=L.dp d hd
   exact ⟨k,Ch.mono old h1,by omega⟩
  ·rw [Zt.mp hd]
   refine ⟨n+1,?_,by omega⟩
   have hnew:fd (jA M h b p M.length nm) (M.length:Int)=some (if (M.length:Int)=h then { (⟨M.length,some h,nm,[],cc⟩:B8) with r:=insI b.r p M.length } else ⟨M.length,some h,nm,[],cc⟩):=by
    rw [fdp,pX L.m.new,if_pos rfl];rfl
   refine Ch.up hnew ?_ (Ch.mono old hn)
   split <;> rfl
 ·obtain ⟨d,hd,rfl⟩:=Z2.mp hc
  have em:(if d.i=h then { d with r:=insI b.r p M.length } else d).m=d.m:=by split <;> rfl
  rw [em];rcases Zh.mp hd with hd | hd
  · exact L.mq d hd
  ·rw [Zt.mp hd]
   exact ⟨⟨Z7 _,Z7 _⟩,λ x=>Iff.rfl⟩
theorem we {c:Nat} (L:LOk c M) {i:Int} {p:Pl} (h:(p.k.length<=c/\p.l.length<=c)/\∀ x,x ∈ p.l↔x ∈ p.k):LOk c (stB M i p):=by
 refine ⟨by rw [eU]; exact F0 L.m i p,by rw [Ez,eU]; exact L.ix,λ c hc=>?_,λ c hc=>?_⟩
 ·rw [eU]
  obtain ⟨d,hd,rfl⟩:=Z2.mp hc;have ei:(if d.i=i then { d with m:=p } else d).i=d.i:=by split <;> rfl
  rw [ei];obtain ⟨k,h1,h2⟩:=L.dp d hd;refine ⟨k,Ch.mono (λ x e he=>?_) h1,h2⟩;rw [DJ,he];refine ⟨_,rfl,?_⟩;show (if e.i=i then { e with m:=p } else e).h=e.h;split <;> rfl
 ·obtain ⟨d,hd,rfl⟩:=Z2.mp hc
  split
  · exact h
  · exact L.mq d hd
def mkP (p:Pl) (w:Str):Pl:=⟨(pJ p w).k,p.l++[w]⟩
theorem AH {p:Pl} {w:Str} {n:Nat} (h:p.k.length<=n/\∀ x,x ∈ p.l↔x ∈ p.k):(mkP p w).k.length<=n+1/\∀ x,x ∈ (mkP p w).l↔x ∈ (mkP p w).k:=by
 unfold mkP pJ
 by_cases hw:w ∈ p.k
 ·rw [if_pos hw]
  refine ⟨by have:=h.1; show p.k.length<=_; omega,λ x=>?_⟩;rw [Zh,h.2,Zt];exact ⟨λ z=>z.elim id λ e=>e ▸ hw,.inl⟩
 ·rw [if_neg hw]
  refine ⟨by have:=h.1; rw [Zz]; show p.k.length+1<=_; omega,λ x=>?_⟩;rw [Zh,Zh,h.2]
theorem AF {A B C:Mt} {r:List Sm} (hb:fd M i=some b):aZ (.mu true A::.mu true B::.mu true C::.mu true (mlM M)::r) 3 [.k (.inl i)]=some (lM (b.m.l.map .str)):=by
 rw [jZ rfl];refine (kl _ _ _).trans ?_
 rw [hb];rfl
theorem AE (nd:Nd M) {w:Str} (hb:fd M i=some b):(mlM M).put ([]++[.k (.inl i)]) (.n .l (((b.m.l.map D.str).map λ d=>((.inl 0:Key),Mt.s d))++[(.inl 0,.s (.str w))]))=mlM (stB M i (mkP b.m w)):=by
 have e:Mt.n .l (((b.m.l.map D.str).map λ d=>((.inl 0:Key),Mt.s d))++[(.inl 0,.s (.str w))])=lM (((mkP b.m w).l).map .str):=by
  unfold lM mkP;rw [Zi,Zi];rfl
 rw [e];refine (uT nd hb (λ c=>by unfold lM; rfl)).trans ?_
 unfold mlM kM;rw [<- kst (g:=λ b=>lM (b.m.l.map .str)) nd hb]
end
end N14
end
section
namespace N14
open PySem L2
abbrev sY (A B C K:Mt) (pl:D) (c w:Int) (x7 x8 x9 x10 x11 x12:Sm):List Sm:=[.mu true A,.mu true B,.mu true C,.mu true K,.shr pl,.shr (.int c),.shr (.int w),x7,x8,x9,x10,x11,x12]
section
variable {t:Adr} {gv:Int} {M:List B8} {i:Int} {b:B8} {pa pb pc pd:Str}
theorem F2 {x:Int} {r:List Int} {b:B8} (h0:b.m.l=[]) (hn:fd M b.i=none):Mt.n .d (gn (kv (λ b=>lM (b.m.l.map .str)) M) (.inl b.i) (lM []))=mlM (upR (M++[b]) x r):=by
 unfold mlM kM;rw [mz _ _ _ _ (λ _=>rfl),<- hW (g:=λ b=>lM (b.m.l.map .str)) hn,h0];rfl
theorem vW {N:List B8} {n:Int} {bg:B8} {x:Str} {c w:Int} {pl:D} {x7 x9 x10 x11 x12:Sm} (nd:Nd N) (hb:fd N n=some bg) (hn:bR x=true) (hk:bg.m.k.length<=8) (hl:bg.m.l.length < 1000) {gi:DE} (hi:gi (er (sY (trM t.af gv N) (bxM N) (faM N) (mlM N) pl c w x7 (.shr (.int n)) x9 x10 x11 x12))=some (.str x)) (hi2:gi (er (sY (trM t.af gv (stB N n (mkP bg.m x))) (bxM N) (faM N) (mlM N) pl c w x7 (.shr (.int n)) x9 x10 x11 x12))=some (.str x)) :
  cY (dR (eM t.af "mark" (cD t) (a6 0) (aQ (qN (aE 8)) (aQ (qN gi) iP)))) (gE (mF (a6 3) (aE 8)) (eN gi)) (sY (trM t.af gv N) (bxM N) (faM N) (mlM N) pl c w x7 (.shr (.int n)) x9 x10 x11 x12)=some (.next (sY (trM t.af gv (stB N n (mkP bg.m x))) (bxM (stB N n (mkP bg.m x))) (faM (stB N n (mkP bg.m x))) (mlM (stB N n (mkP bg.m x))) pl c w x7 (.shr (.int n)) x9 x10 x11 x12)):=by
 have em:=vX (t:=t) (gv:=gv) nd hb hn (by omega);rw [uh (p:=pJ bg.m x) (p':=mkP bg.m x) N n rfl] at em;refine aH (τ':=sY (trM t.af gv (stB N n (mkP bg.m x))) (bxM N) (faM N) (mlM N) pl c w x7 (.shr (.int n)) x9 x10 x11 x12) (gy (v_M bK rfl rfl (aO (q_N e_v) (aO (q_N hi) rfl)) rfl em rfl)) ?_
 have hg:=AF (A:=trM t.af gv (stB N n (mkP bg.m x))) (B:=bxM N) (C:=faM N) (r:=[.shr pl,.shr (.int c),.shr (.int w),x7,.shr (.int n),x9,x10,x11,x12]) hb;refine (v7 (mw bK e_v rfl rfl) hg (v_N hi2) rfl hg (by rw [Za,Za]; omega)).trans ?_
 rw [c6 rfl,AE nd hb,DY,DK];rfl
theorem wH (L:LOk 7 M) (hl:M.length<=12) (hP:PlN pa pb pc pd) {c w:Int} (w0:0<=w) (w1:w<=1000) :
  ∃ N,LOk 7 N/\N.length=M.length+1/\cC t [.mu true (trM t.af M.length M),.mu true (bxM M),.mu true (faM M),.mu true (mlM M),.shr (PL pa pb pc pd),.shr (.int c),.shr (.int w)]=some (.shr .non,[.mu true (trM t.af N.length N),.mu true (bxM N),.mu true (faM N),.mu true (mlM N),.no,.no,.no]):=by
 have m:=L.m;obtain ⟨q1,e1,q10,q11⟩:=mO c w0 (by omega);obtain ⟨q2,e2,q20,q21⟩:=mO c (by omega) (show w+1<=10000 by omega);have n0:(0:Int) < M.length:=m.pos;obtain ⟨nm,en,hn⟩:=vn hP (k:=q1 / 40 % 4) (Yc _ (by decide)) (Z8 _ (by decide));obtain ⟨h1,eh1⟩:∃ h:Int,h=if q1 % 4=1 then 0 else (M.length:Int) - 1:=⟨_,rfl⟩
 obtain ⟨x,ex⟩:∃ h:Int,h=if 1 < q1 % 4 then q1 / 4 % (M.length:Int) else h1:=⟨_,rfl⟩
 have hx:0<=x/\x < M.length:=by
  rw [ex];split
  · exact ⟨Yc _ (by omega),Z8 _ n0⟩
  ·rw [eh1]
   split <;> omega
 obtain ⟨b,hb⟩:=L.at_ hx.1 hx.2;obtain ⟨dp,ch,hdp⟩:=L.dp b (aS hb);rw [gL hb] at ch
 have hr:=sub_len (m.rnd b (aS hb)) λ y hy=>by
  obtain ⟨d,d1,_⟩:=m.kid b (aS hb) y hy;exact ⟨d,d1⟩
 have p0:0<=q2 % ((b.r.length:Int)+1):=Yc _ (by omega);have p1:q2 % ((b.r.length:Int)+1)<=b.r.length:=by have:=Z8 q2 (show 0 < (b.r.length:Int)+1 by omega); omega
 generalize hpp:q2 % ((b.r.length:Int)+1)=p at p0 p1;obtain ⟨L1,l1⟩:=C9 (p:=p) (nm:=nm) L hb hl;have xg:(M.length:Int)≠x:=by omega
 have hg1:∃ bg,fd (jA M x b p M.length nm) (M.length:Int)=some bg/\bg.m=cc:=by
  unfold jA;rw [fF,pX m.new,if_pos rfl];refine ⟨_,rfl,?_⟩;show (if (M.length:Int)=x then _ else _:B8).m=_;rw [if_neg xg]
 have ep:=EU (t:=t) m.nd m.new hb p0 p1 (by omega) hn (by omega) ch (by omega);have eb:=G2 (r:=insI b.r p M.length) (b:=⟨M.length,some x,nm,[],cc⟩) xg rfl m.new;have ef:=GD (M:=M) (x:=x) (r:=insI b.r p M.length) (b:=⟨M.length,some x,nm,[],cc⟩) m.new;have el:=F2 (M:=M) (x:=x) (r:=insI b.r p M.length) (b:=⟨M.length,some x,nm,[],cc⟩) rfl m.new;have eP:jA M x b p M.length nm=upR (M++[⟨M.length,some x,nm,[],cc⟩]) x (insI b.r p M.length):=rfl;rw [<- eP] at eb ef el;generalize hN:jA M x b p M.length nm=N at L1 l1 hg1 ep eb ef el;obtain ⟨bg,hbg,hm0⟩:=hg1;have lN:((M.length:Int)+1)=(N.length:Int):=by rw [l1]; rfl
 rw [lN] at ep
 have key:∀ (x12:Sm),∃ τ',jK (ig (aD (dC (.int 4)) cJ)) (gNm 12) (nJ (tS (dT (dOp oEq (dOp oMod (dFn cS (aD (aE 5) (aD (dOp jB (dOp jB (aE 6) (dC (.int 2))) (aE 12)) cJ))) (dC (.int 3))) (dC (.int 0))))) (cY (dR (eM t.af "mark" (cD t) (a6 0) (aQ (qN (aE 8)) (aQ (qN (dOp oIx (aE 4) (aE 12))) iP)))) (gE (mF (a6 3) (aE 8)) (eN (dOp oIx (aE 4) (aE 12))))) gs) (sY (trM t.af N.length N) (bxM N) (faM N) (mlM N) (PL pa pb pc pd) c w (.shr (.int q1)) (.shr (.int M.length)) (.shr (.int x)) (.shr (.int p)) (.shr (.str nm)) x12)=some (.next τ')/\∃ N' y,LOk 7 N'/\N'.length=N.length/\τ'=sY (trM t.af N'.length N') (bxM N') (faM N') (mlM N') (PL pa pb pc pd) c w (.shr (.int q1)) (.shr (.int M.length)) (.shr (.int x)) (.shr (.int p)) (.shr (.str nm)) y:=λ x12=>by
  have ei:ig (aD (dC (.int 4)) cJ) (er (sY (trM t.af N.length N) (bxM N) (faM N) (mlM N) (PL pa pb pc pd) c w (.shr (.int q1)) (.shr (.int M.length)) (.shr (.int x)) (.shr (.int p)) (.shr (.str nm)) x12))=some (nK 0 4):=sZ (j:=4) (ag e_c aA) (by decide)
  obtain ⟨τ',e,N',bg',y,h1,h2,h3,h4,h5,h6⟩:=mW (b:=λ d τ=>(gNm 12 d τ).bind (nJ (tS (dT (dOp oEq (dOp oMod (dFn cS (aD (aE 5) (aD (dOp jB (dOp jB (aE 6) (dC (.int 2))) (aE 12)) cJ))) (dC (.int 3))) (dC (.int 0))))) (cY (dR (eM t.af "mark" (cD t) (a6 0) (aQ (qN (aE 8)) (aQ (qN (dOp oIx (aE 4) (aE 12))) iP)))) (gE (mF (a6 3) (aE 8)) (eN (dOp oIx (aE 4) (aE 12))))) gs)) (ds:=nK 0 4) (τ:=sY (trM t.af N.length N) (bxM N) (faM N) (mlM N) (PL pa pb pc pd) c w (.shr (.int q1)) (.shr (.int M.length)) (.shr (.int x)) (.shr (.int p)) (.shr (.str nm)) x12)
   (λ j τ=>∃ N' bg' y,LOk 7 N'/\N'.length=N.length/\fd N' (M.length:Int)=some bg'/\bg'.m.k.length<=j/\bg'.m.l.length<=j/\τ=sY (trM t.af N'.length N') (bxM N') (faM N') (mlM N') (PL pa pb pc pd) c w (.shr (.int q1)) (.shr (.int M.length)) (.shr (.int x)) (.shr (.int p)) (.shr (.str nm)) y)
   ⟨N, bg,x12,L1,rfl,hbg,by rw [hm0]; exact Zn _,by rw [hm0]; exact Zn _,rfl⟩ (by
     rintro j d τ hd ⟨N',bg',y,h1,h2,h3,h4,h5,rfl⟩
     obtain ⟨rfl,jl⟩:=mE hd;rw [Int.zero_add];obtain ⟨r,er,_,_⟩:=mO c (w:=w+2+(j:Int)) (by omega) (by omega);obtain ⟨z,ez,hz⟩:=vn hP (k:=(j:Int)) (by omega) (by omega);have et:tS (dT (dOp oEq (dOp oMod (dFn cS (aD (aE 5) (aD (dOp jB (dOp jB (aE 6) (dC (.int 2))) (aE 12)) cJ))) (dC (.int 3))) (dC (.int 0)))) (sY (trM t.af N'.length N') (bxM N') (faM N') (mlM N') (PL pa pb pc pd) c w (.shr (.int q1)) (.shr (.int M.length)) (.shr (.int x)) (.shr (.int p)) (.shr (.str nm)) (.shr (.int (j:Int))))=some (decide (r % 3=0),_):=t_S (aF (az (az (dO (ag e_v (ag (az (az e_v e_c (a7 _ _)) e_v (a7 _ _)) aA)) er rfl) e_c (aR (by decide))) e_c (b8 _ _)))
     by_cases hr3:r % 3=0
     ·rw [Zq hr3] at et
      have ms:=vW (t:=t) (gv:=(N'.length:Int)) (c:=c) (w:=w) (pl:=PL pa pb pc pd) (x7:=.shr (.int q1)) (x9:=.shr (.int x)) (x10:=.shr (.int p)) (x11:=.shr (.str nm)) (x12:=.shr (.int (j:Int))) h1.m.nd h3 hz (by omega) (by omega) (gi:=dOp oIx (aE 4) (aE 12)) (az e_v e_v ez) (az e_v e_v ez);have hk:=AH (w:=z) (p:=bg'.m) (n:=j) ⟨h4,(h1.mq bg' (aS h3)).2⟩;refine ⟨_,j5 et ms,stB N' M.length (mkP bg'.m z),{ bg' with m:=mkP bg'.m z },_,we h1 ⟨⟨by omega,by show (bg'.m.l++[z]).length<=7; rw [Zz]; show bg'.m.l.length+1<=7; omega⟩,hk.2⟩,by rw [eU]; exact h2,?_,hk.1,?_,by rw [eU]⟩
      ·rw [DJ,h3]
       show some (if bg'.i=(M.length:Int) then _ else _)=_;rw [if_pos (gL h3)]
      ·show (bg'.m.l++[z]).length<=_
       rw [Zz];show bg'.m.l.length+1<=_;omega
     ·rw [Zk hr3] at et
      exact ⟨_,d4 et rfl,N',bg',_,h1,h2,h3,by omega,by omega,rfl⟩)
  refine ⟨τ',?_,N',y,h1,h2,h6⟩;unfold jK;rw [ei];exact e
 obtain ⟨τ',e,N',y,LN,lN',rfl⟩:=key .no;refine ⟨N',LN,by rw [lN',l1],?_⟩;unfold cC gT;refine (qF (τ:=sY (trM t.af N'.length N') (bxM N') (faM N') (mlM N') (PL pa pb pc pd) c w (.shr (.int q1)) (.shr (.int M.length)) (.shr (.int x)) (.shr (.int p)) (.shr (.str nm)) y) ?_).trans rfl
 have sn:∀ {r:List Sm},bf (.mu true (trM t.af M.length M)::.mu true (bxM M)::r)=.shr (trD t.af M.length M)::.shr (.dct (kv (λ b=>.lst (b.r.map .int)) M))::bf r:=λ {r}=>by
  rw [iC];show _::Sl.shr (frz (bxM M))::_=_;rw [ij]
 refine aH (τ':=sY (trM t.af M.length M) (bxM M) (faM M) (mlM M) (PL pa pb pc pd) c w (.shr (.int q1)) .no .no .no .no .no) ((cw (v_N (dO (ag e_v (ag e_v aA)) e1 rfl)) (Zb rfl) rfl).trans rfl) ?_
 refine aH (cw (v_S (by rw [sn]; exact bL (ag e_v aA) (AO M)) rfl) (Zb rfl) rfl) ?_
 refine aH (cw (v_N (az e_v e_c (c7 _ _))) (Zb rfl) rfl) ?_
 refine aH (τ':=sY (trM t.af M.length M) (bxM M) (faM M) (mlM M) (PL pa pb pc pd) c w (.shr (.int q1)) (.shr (.int M.length)) (.shr (.int h1)) .no .no .no) ?_ ?_
 ·have et:tS (dT (dOp oEq (dOp oMod (aE 7) (dC (.int 4))) (dC (.int 1)))) (sY (trM t.af M.length M) (bxM M) (faM M) (mlM M) (PL pa pb pc pd) c w (.shr (.int q1)) (.shr (.int M.length)) (.shr (.int ((M.length:Int) - 1))) .no .no .no)=some (decide (q1 % 4=1),_):=t_S (aF (az (az e_v e_c (aR (by decide))) e_c (b8 _ _)))
  by_cases h2:q1 % 4=1
  ·rw [if_pos h2] at eh1
   rw [Zq h2] at et;rw [eh1];exact j5 et ((cw (v_N e_c) (Zb rfl) rfl).trans rfl)
  ·rw [if_neg h2] at eh1
   rw [Zk h2] at et;rw [eh1];exact d4 et rfl
 refine aH (τ':=sY (trM t.af M.length M) (bxM M) (faM M) (mlM M) (PL pa pb pc pd) c w (.shr (.int q1)) (.shr (.int M.length)) (.shr (.int x)) .no .no .no) ?_ ?_
 ·have et:tS (dT (dOp oGt (dOp oMod (aE 7) (dC (.int 4))) (dC (.int 1)))) (sY (trM t.af M.length M) (bxM M) (faM M) (mlM M) (PL pa pb pc pd) c w (.shr (.int q1)) (.shr (.int M.length)) (.shr (.int h1)) .no .no .no)=some (decide (1 < q1 % 4),_):=t_S (aF (az (az e_v e_c (aR (by decide))) e_c rfl))
  by_cases h2:1 < q1 % 4
  ·rw [if_pos h2] at ex
   rw [Zq h2] at et;rw [ex];exact j5 et ((cw (v_N (az (az e_v e_c (ck (by decide) (by decide +kernel))) e_v (aR n0))) (Zb rfl) rfl).trans rfl)
  ·rw [if_neg h2] at ex
   rw [Zk h2] at et;rw [ex];exact d4 et rfl
 refine aH (cw (v_S (by rw [sn]; exact az (dO (ag e_v (ag (az e_v e_c (a7 _ _)) aA)) e2 rfl) (az (bL (ag (az e_v e_v (bX hb)) aA) (Di _)) e_c (a7 _ _)) ((aR (by omega)).trans (by rw [hpp]))) rfl) (Zb rfl) rfl) ?_
 refine aH (cw (v_N (az e_v (az (az e_v e_c (ck (by decide) (by decide +kernel))) e_c (aR (by decide))) en)) (Zb rfl) rfl) ?_
 refine aH (gy (v_M bK rfl rfl (aO (q_N e_v) (aO (q_N e_v) (aO (q_N e_v) rfl))) rfl ep rfl)) ?_
 have hg:aZ (sY (trM t.af N.length N) (bxM M) (faM M) (mlM M) (PL pa pb pc pd) c w (.shr (.int q1)) (.shr (.int M.length)) (.shr (.int x)) (.shr (.int p)) (.shr (.str nm)) .no) 1 [.k (.inl x)]=some (lM (b.r.map .int)):=by
  rw [jZ rfl];refine (kl _ _ _).trans ?_
  rw [hb];rfl
 refine aH (zg (mw bK e_v rfl rfl) hg e_v (v_N e_v) rfl hg ⟨p0,by rw [Za,Za]; exact p1,by rw [Za,Za]; omega⟩) ?_
 rw [c6 rfl,rB];have e4:(bxM M).put ([]++[.k (.inl x)]) (lM ((insI b.r p M.length).map .int))=bxM (upR M x (insI b.r p M.length)):=nN m.nd hb;rw [e4];refine aH (τ':=sY (trM t.af N.length N) (bxM N) (faM M) (mlM M) (PL pa pb pc pd) c w (.shr (.int q1)) (.shr (.int M.length)) (.shr (.int x)) (.shr (.int p)) (.shr (.str nm)) .no) ((eI (v_O (fG aA (Z7 _)) rfl) bK e_v rfl rfl rfl (by rw [dU,j9]; omega)).trans ?_) ?_
 ·rw [<- eb]
  rfl
 refine aH (τ':=sY (trM t.af N.length N) (bxM N) (faM N) (mlM M) (PL pa pb pc pd) c w (.shr (.int q1)) (.shr (.int M.length)) (.shr (.int x)) (.shr (.int p)) (.shr (.str nm)) .no) ((eI (v_N (il (ag e_v (ag e_v aA)) (Zb rfl))) bK e_v rfl rfl rfl (by rw [dU]; omega)).trans ?_) ?_
 ·rw [<- ef]
  rfl
 refine aH (τ':=sY (trM t.af N.length N) (bxM N) (faM N) (mlM N) (PL pa pb pc pd) c w (.shr (.int q1)) (.shr (.int M.length)) (.shr (.int x)) (.shr (.int p)) (.shr (.str nm)) .no) ((eI (v_O (fG aA (Z7 _)) rfl) bK e_v rfl rfl rfl (by rw [dU]; omega)).trans ?_) ?_
 ·rw [<- el]
  rfl
 exact e
end
end N14
end
section
namespace N14
open PySem L2
def rvF (b:B8):B8:={ b with r:=b.r.reverse }
def rvB (M:List B8):List B8:=M.map rvF
theorem lK (M:List B8) (x:Int):fd (rvB M) x=(fd M x).map rvF:=by
 unfold fd rvB;rw [List.find?_map];rfl
section
variable {gv:Int} {M:List B8} {i j h:Int} {b p q:B8}
theorem vU (m:MOk gv M):MOk gv (rvB M):=by
 have im:(rvB M).map B8.i=M.map B8.i:=by unfold rvB; rw [Zv]; rfl
 refine ⟨by unfold Nd; rw [im]; exact m.nd,λ b hb=>?_,?_,λ b hb n0=>?_,λ b hb c hc=>?_,λ b hb=>?_,λ b hb=>?_⟩
 ·obtain ⟨d,hd,rfl⟩:=Z2.mp hb
  exact m.lt d hd
 ·obtain ⟨r,r1,r2⟩:=m.root
  exact ⟨rvF r,by rw [lK,r1]; rfl,r2⟩
 ·obtain ⟨d,hd,rfl⟩:=Z2.mp hb
  obtain ⟨j,p,h1,h2,h3⟩:=m.hol d hd n0;exact ⟨j,rvF p,h1,by rw [lK,h2]; rfl,List.mem_reverse.mpr h3⟩
 ·obtain ⟨d,hd,rfl⟩:=Z2.mp hb
  obtain ⟨e,h1,h2⟩:=m.kid d hd c (List.mem_reverse.mp hc);exact ⟨rvF e,by rw [lK,h1]; rfl,h2⟩
 ·obtain ⟨d,hd,rfl⟩:=Z2.mp hb
  exact nY (m.rnd d hd)
 ·obtain ⟨d,hd,rfl⟩:=Z2.mp hb
  obtain ⟨n,h1,h2⟩:=m.ch d hd;exact ⟨n,h1.mono λ x d hd=>⟨rvF d,by rw [lK,hd]; rfl,rfl⟩,h2⟩
theorem G6 {x:Int} (h:Anc (rvB M) i x):Anc M i x:=by
 induction h with
 | refl=>exact .refl
 | @up x j b h e _ ih =>
  rw [lK] at h;obtain ⟨d,hd,rfl⟩:=Zm h;exact .up hd e ih
theorem EI {x:Int} (h:Anc M i x):Anc (rvB M) i x:=by
 induction h with
 | refl=>exact .refl
 | @up x j b h e _ ih=>exact .up (b:=rvF b) (by rw [lK,h]; rfl) e ih
theorem Eg {x:Int} {n:Nat} (c:Ch M x n):∃ L:List Int,L.length=n+1/\L.Nodup/\∀ y ∈ L,Anc M y x/\∃ k,Ch M y k/\k<=n:=by
 induction c with
 | @top x b h e=>exact ⟨[x],rfl,by simp,λ y hy=>by rw [Zt.mp hy]; exact ⟨.refl,0,.top h e,Zn _⟩⟩
 | @up x j n b h e c ih =>
  obtain ⟨L,h1,h2,h3⟩:=ih;refine ⟨x::L,Yn (·+1) h1,Zw.mpr ⟨λ hx=>?_,h2⟩,λ y hy=>?_⟩
  ·obtain ⟨_,k,k1,k2⟩:=h3 x hx
   have:=k1.uniq (.up h e c);omega
  ·rcases Zl.mp hy with rfl | hy
   · exact ⟨.refl,n+1,.up h e c,Zn _⟩
   ·obtain ⟨a,k,k1,k2⟩:=h3 y hy
    exact ⟨.up h e a,k,k1,by omega⟩
theorem Eh {x:Int} (a:Anc M i x) {ni:Nat} (ci:Ch M i ni):∀ {n:Nat},Ch M x n->∃ L:List Int,L.length+ni=n+1/\L.Nodup/\∀ y ∈ L,Anc M i y/\∃ k,Ch M y k/\k<=n:=by
 induction a with
 | refl =>
  intro n c;have:=c.uniq ci;exact ⟨[i],by show 1+ni=_; omega,by simp,λ y hy=>by rw [Zt.mp hy]; exact ⟨.refl,n,c,Zn _⟩⟩
 | @up x j b h e a ih =>
  intro n c
  cases c with
  | top h1 e1=>rw [h] at h1; cases h1; rw [e] at e1; cases e1
  | @up _ j' n' b' h1 e1 c =>
   rw [h] at h1;cases h1;rw [e] at e1;cases e1;obtain ⟨L,h1,h2,h3⟩:=ih c;refine ⟨x::L,by rw [Z0]; omega,Zw.mpr ⟨λ hx=>?_,h2⟩,λ y hy=>?_⟩
   ·obtain ⟨_,k,k1,k2⟩:=h3 x hx
    have:=k1.uniq (.up h e c);omega
   ·rcases Zl.mp hy with rfl | hy
    · exact ⟨.up h e a,n'+1,.up h e c,Zn _⟩
    ·obtain ⟨a,k,k1,k2⟩:=h3 y hy
     exact ⟨a,k,k1,by omega⟩
theorem xT (m:MOk gv M) {x:Int} {ni nh n:Nat} (a:Anc M i x) (na:¬ Anc M i h) (ci:Ch M i ni) (ch:Ch M h nh) (c:Ch M x n):nh+1+(n+1)<=M.length+ni:=by
 obtain ⟨L1,a1,a2,a3⟩:=Eg ch;obtain ⟨L2,b1,b2,b3⟩:=Eh a ci c;have nd:(L1++L2).Nodup:=Yb.mpr ⟨a2,b2,λ y hy z hz e=>na (by subst e; exact (b3 y hz).1.trans (a3 y hy).1)⟩
 have:=sub_len nd λ y hy=>by
  rcases Zh.mp hy with hy | hy
  · obtain ⟨_,k,k1,_⟩:=a3 y hy; exact k1.get
  · obtain ⟨_,k,k1,_⟩:=b3 y hy; exact k1.get
 rw [Zz] at this;omega
end
end N14
end
section
namespace N14
open PySem L2
theorem Gm {ys:List Int} {j:Int} (h0:0<=j) (h1:j < ys.length):∃ n ∈ ys,oIx (.lst (ys.map .int)) (.int j)=some (.int n):=by
 obtain ⟨k,rfl⟩:=Int.eq_ofNat_of_zero_le h0;have hk:k < ys.length:=by omega
 exact ⟨ys[k],Xr hk,xI (by rw [List.getElem?_map,List.getElem?_eq_getElem hk]; rfl)⟩
theorem Dq (cs:List Int) (c:Int):oIx (.lst ((cs++[c]).map .int)) (.int (-1))=some (.int c):=by
 show atI ((cs++[c]).map D.int) (-1)=_;unfold atI ixN;have h:((cs++[c]).map D.int).length=cs.length+1:=by simp
 rw [if_neg (by decide),if_pos (by rw [h]; omega),h];show ((cs++[c]).map D.int)[(((cs.length+1:Nat):Int)+-1).toNat]?=_;rw [show (((cs.length+1:Nat):Int)+-1).toNat=cs.length by omega,List.getElem?_map,List.getElem?_append_right (Zn _),Y7];rfl
theorem EZ {τ:List Sm} {j:Nat} {ys:List Int} {c:Int} (h:aZ τ j []=some (lM ((ys++[c]).map .int))):qc j τ=some (.shr (.int c),c4 τ j [] (lM (ys.map .int))):=by
 unfold qc;rw [h];have e:(((ys++[c]).map D.int).map λ d=>((.inl 0:Key),Mt.s d))=((ys.map D.int).map λ d=>((.inl 0:Key),Mt.s d))++[(.inl 0,.s (.int c))]:=by rw [Zi,Zi]; rfl
 unfold lM;rw [e];simp only [Zz,Xn,Nat.add_sub_cancel,List.getElem?_append_right (Zn _),Y7,List.dropLast_concat];rfl
theorem AW (a c:List Int):Mt.n .l ((((a.map D.int).map λ d=>((.inl 0:Key),Mt.s d)))++(c.map D.int).map λ d=>((.inl 0:Key),Mt.s d))=lM ((a++c).map .int):=by
 unfold lM;rw [Zi,Zi]
abbrev sM (A B C:Mt) (d i:Int) (x5 x6 x7 x8 x9:Sm):List Sm:=[.mu true A,.mu true B,.mu true C,.shr (.int d),.shr (.int i),x5,x6,x7,x8,x9]
section
variable {t:Adr} {M:List B8} {A C:Mt} {d i:Int}
theorem Bb:∀ (l S acc:List Int) (k:Nat),Sub (rvB M) S l->acc.length+l.length<=50->l.length < k->gq (tS (dT (dOp oGt (fI tV (aD (aE 6) cJ)) (dC (.int 0))))) (cY (gE (a6 5) (qc 6)) (sv (a6 6) (dOp eE (aE 1) (dOp oIx (aE 5) (dUn D8 (dC (.int 1))))))) k (sM A (bxM M) C d i (.mu false (lM (acc.map .int))) (.mu false (lM (S.reverse.map .int))) .no .no .no)=some (.next (sM A (bxM M) C d i (.mu false (lM ((acc++l).map .int))) (.mu false (lM [])) .no .no .no)):=by
 intro l
 induction l with
 | nil =>
  intro S acc k h hz hk;cases h
  match k,hk with
  | k+1,_ =>
  unfold gq;have et:=t_S (τ:=sM A (bxM M) C d i (.mu false (lM (acc.map .int))) (.mu false (lM [])) .no .no .no) (g:=dT (dOp oGt (fI tV (aD (aE 6) cJ)) (dC (.int 0)))) (b:=false) (aF (az (bL (ag (iD (b:=false) rfl (gz [])) aA) rfl) e_c rfl));rw [show ([]:List Int).reverse.map D.int=[] from rfl,et,Zx]
 | cons x l ih =>
  intro S acc k h hz hk
  cases S with
  | nil=>cases h
  | cons c S =>
   obtain ⟨b',l',hb',e,h'⟩:=h.inv;cases e;rw [lK] at hb';obtain ⟨b,hb,rfl⟩:=Zm hb'
   match k,hk with
   | k+1,hk =>
   have hz':acc.length+(l.length+1)<=50:=hz;have hl:=h'.len;rw [Zz] at hl;have hr:(rvF b).r=b.r.reverse:=rfl;rw [hr,Yr] at hl;have ih':=ih (b.r.reverse++S) (acc++[x]) k h' (by rw [Zz]; show acc.length+1+_<=_; omega) (Nat.lt_of_succ_lt_succ hk);have e1:(x::S).reverse.map D.int=(S.reverse++[x]).map D.int:=by rw [Y6]
   rw [e1]
   have et:=t_S (τ:=sM A (bxM M) C d i (.mu false (lM (acc.map .int))) (.mu false (lM ((S.reverse++[x]).map .int))) .no .no .no) (g:=dT (dOp oGt (fI tV (aD (aE 6) cJ)) (dC (.int 0)))) (b:=true) (aF (az (bL (ag (iD (b:=false) rfl (gz _)) aA) rfl) e_c (by
    show some (D.bl (decide _))=_
    rw [Zq (by rw [Za,Zz]; show (0:Int) < _; rw [Xn]; omega)])))
   have es:cY (gE (a6 5) (qc 6)) (sv (a6 6) (dOp eE (aE 1) (dOp oIx (aE 5) (dUn D8 (dC (.int 1)))))) (sM A (bxM M) C d i (.mu false (lM (acc.map .int))) (.mu false (lM ((S.reverse++[x]).map .int))) .no .no .no)=some (.next (sM A (bxM M) C d i (.mu false (lM ((acc++[x]).map .int))) (.mu false (lM ((b.r.reverse++S).reverse.map .int))) .no .no .no)):=by
    refine aH (τ':=sM A (bxM M) C d i (.mu false (lM ((acc++[x]).map .int))) (.mu false (lM (S.reverse.map .int))) .no .no .no) ((v7 bK rfl (EZ rfl) rfl rfl (by rw [Za,Za]; omega)).trans ?_) ?_
    ·have:=AW acc [x]
     rw [<- this];rfl
    ·refine (Ld (ds:=b.r.map .int) bK (az (iD (b:=true) rfl (ij M)) (az (iD (b:=false) rfl (gz _)) (GI e_c rfl) (Dq acc x)) (bX hb)) rfl ⟨jz _,by rw [Za,Za,Za,Yr]; omega⟩).trans ?_
     rw [c6 rfl];have:=AW S.reverse b.r;rw [this,List.reverse_append,List.reverse_reverse];rfl
   unfold gq;rw [et];simp only [es];rw [ih',List.append_assoc];rfl
end
end N14
end
section
namespace N14
open PySem L2
theorem LK {β:Type} (g:B8->β) (M:List B8) (j:Int) (r:List Int) (i h:Int) (hg:∀ (b:B8) (r:List Int),g { b with r:=r }=g b):kv g (upH (upR M j r) i h)=kv g (upH M i h):=by
 unfold kv upH upR;rw [Zv,Zv,Zv];refine Zu λ b _=>?_
 simp only [Function.comp]
 by_cases e:b.i=j
 ·rw [if_pos e]
  by_cases e2:b.i=i
  ·rw [if_pos e2,if_pos (show ({ b with r:=r }:B8).i=i from e2)]
   exact Prod.ext rfl (hg { b with h:=some h } r)
  ·rw [if_neg e2,if_neg (show ¬ ({ b with r:=r }:B8).i=i from e2)]
   exact Prod.ext rfl (hg b r)
 · rw [if_neg e]
section
variable {t:Adr} {M:List B8} {c:Nat} {i j h:Int} {b p q:B8}
theorem wU {r:List Int} {i:Int} (nd:r.Nodup):r.erase i=r.filter λ y=>decide (y≠i):=by
 rw [nd.erase_eq_filter];refine List.filter_congr λ x _=>?_
 by_cases e:x=i <;> simp [e]
theorem zK {r:List Int} {i:Int} (h:i ∉ r):(r.filter λ y=>decide (y≠i))=r:=List.filter_eq_self.mpr λ x hx=>Zq λ e=>h (e ▸ hx)
theorem La {rj rh:List Int}:mlM (mvB M i j h rj rh)=mlM M:=by
 unfold mvB mlM kM;rw [pC _ _ _ _ (λ _=>rfl),mz _ _ _ _ (λ _=>rfl),mz _ _ _ _ (λ _=>rfl)]
theorem N3 {rj rh:List Int}:∀ d ∈ mvB M i j h rj rh,∃ e ∈ M,d.m=e.m:=λ d hd=>by
 unfold mvB upH upR at hd;rw [Zv,Zv] at hd;obtain ⟨e,he,rfl⟩:=Z2.mp hd;refine ⟨e,he,?_⟩;simp only [Function.comp]
 by_cases e1:e.i=j <;> by_cases e2:e.i=h <;> by_cases e3:e.i=i <;> simp [e1,e2,e3] <;> (repeat' split) <;> rfl
theorem zc (L:LOk c M) (h2:2<=M.length) (h12:M.length<=12) {d:Int} (d0:0<=d):∃ M',MOk (M.length:Int) M'/\mlM M'=mlM M/\(∀ e ∈ M',∃ f ∈ M,e.m=f.m) /\
  dY t [.mu true (trM t.af M.length M),.mu true (bxM M),.mu true (faM M),.shr (.int d)]=some (.shr .non,[.mu true (trM t.af M.length M'),.mu true (bxM M'),.mu true (faM M'),.no]):=by
 have m:=L.m;have n1:(0:Int) < (M.length:Int) - 1:=by omega
 have hi0:=Yc d (show (M.length:Int) - 1≠0 by omega);have hi1:=Z8 d n1;obtain ⟨b,hb⟩:=L.at_ (x:=1+d % ((M.length:Int) - 1)) (by omega) (by omega);generalize hi:1+d % ((M.length:Int) - 1)=i at hb;have i0:i≠0:=by omega
 have bi:=gL hb;obtain ⟨j,p,hj,hp,pi⟩:=m.hol b (aS hb) (by rw [bi]; exact i0);rw [bi] at pi;have hbr:fd (rvB M) i=some (rvF b):=by rw [lK,hb]; rfl
 obtain ⟨ul,hu,_⟩:=Sub.of (vU m) hbr;have und:=hu.nodup (vU m) (List.pairwise_singleton _ _)
 have uin:∀ {x:Int} {e:B8},fd M x=some e->(x ∈ i::ul↔Anc M i x):=λ {x e} he=>by
  rw [Sub.iff (vU m) hu (show fd (rvB M) x=some (rvF e) by rw [lK,he]; rfl)];exact ⟨G6,EI⟩
 have ulen:(i::ul).length<=M.length:=sub_len und λ x hx=>by
  obtain ⟨e,he⟩:=hu.in x hx;rw [lK] at he;obtain ⟨f,hf,_⟩:=Zm he;exact ⟨f,hf⟩
 have r0:(0:Int) ∈ (M.map B8.i).filter λ x=>!decide (x ∈ i::ul):=by
  obtain ⟨r,r1,r2⟩:=m.root;refine Yw.mpr ⟨Z2.mpr ⟨r,aS r1,gL r1⟩,?_⟩;rw [Zk]
  · rfl
  ·intro z
   cases (uin r1).mp z with
   | refl=>exact i0 rfl
   | up h1 e1 _=>rw [r1] at h1; cases h1; rw [r2] at e1; cases e1
 generalize hrs:((M.map B8.i).filter λ x=>!decide (x ∈ i::ul))=rs at r0;have rl:0 < rs.length:=List.length_pos_of_mem r0;obtain ⟨h,hh,eh⟩:=Gm (ys:=rs) (j:=d / 12 % (rs.length:Int)) (Yc _ (by omega)) (Z8 _ (by omega));rw [<- hrs] at hh;obtain ⟨hhm,hhn⟩:=Yw.mp hh;obtain ⟨q,hqm,qi⟩:=Z2.mp hhm;have hq:fd M h=some q:=by rw [<- qi]; exact kA m.nd hqm
 have na:¬ Anc M i h:=λ z=>by
  have:=(uin hq).mpr z;rw [Zq this] at hhn;cases hhn
 have pn:=m.rnd p (aS hp)
 have eqf:∀ {e:B8},fd (upR M j (p.r.erase i)) h=some e->e.r=q.r.filter λ y=>decide (y≠i):=λ {e} he=>by
  rw [fF,hq] at he;cases he;show (if q.i=j then { q with r:=p.r.erase i } else q).r=_
  by_cases e1:q.i=j
  ·rw [if_pos e1]
   have:q=p:=by rw [<- qi,e1,hp] at hq; exact (Zj hq).symm
   rw [this];exact wU pn
  ·rw [if_neg e1]
   refine (zK λ z=>e1 ?_).symm;obtain ⟨f,f1,f2⟩:=m.AQ hq z;rw [hb] at f1;cases f1;rw [hj] at f2;rw [qi];exact (Zj f2).symm
 have hq2:=sub_len (m.rnd q (aS hq)) λ y hy=>by
  obtain ⟨d,d1,_⟩:=m.kid q (aS hq) y hy;exact ⟨d,d1⟩
 have hp2:=sub_len pn λ y hy=>by
  obtain ⟨d,d1,_⟩:=m.kid p (aS hp) y hy;exact ⟨d,d1⟩
 have hf2:(q.r.filter λ y=>decide (y≠i)).length<=q.r.length:=Y2 _ _;have pl0:=Yc (d / 144) (show ((q.r.filter λ y=>decide (y≠i)).length:Int)+1≠0 by omega);have pl1:=Z8 (d / 144) (show 0 < ((q.r.filter λ y=>decide (y≠i)).length:Int)+1 by omega);generalize hpl:d / 144 % (((q.r.filter λ y=>decide (y≠i)).length:Int)+1)=pl at pl0 pl1;obtain ⟨ni,ci,ni12⟩:=m.dp hb;obtain ⟨nh,ch,nh12⟩:=m.dp hq;obtain ⟨l,hl1,hl⟩:=Sub.of m hb;have lin:∀ x ∈ i::l,∃ e,fd M x=some e:=hl1.in
 have lnd:=hl1.nodup m (List.pairwise_singleton _ _);have llen:=sub_len lnd lin;rw [Z0] at llen;obtain ⟨ns,ds⟩:=Dps.ex m lin
 have anl:∀ x ∈ i::l,Anc M i x:=λ x hx=>by
  obtain ⟨e,he⟩:=lin x hx;exact (Sub.iff m hl1 he).mp hx
 have deep:∀ x n,Anc M i x->Ch M x n->n+nh+1<=12+ni:=λ x n a cx=>by
  have:=xT m a na ci ch cx;omega
 have n12:∀ n ∈ ns,n<=12:=λ n hn=>by
  obtain ⟨x,hx,cx⟩:=ds.back n hn;obtain ⟨e,he⟩:=lin x hx;obtain ⟨n',c',h'⟩:=m.dp he;have:=cx.uniq c';omega
 have hd:(nh:Int)+1+tpI ns - ni<=12:=by
  obtain ⟨n,hn,en⟩:=Ep (ns:=ns) (by rw [ds.len]; exact Nat.succ_pos _);obtain ⟨x,hx,cx⟩:=ds.back n hn;have:=deep x n (anl x hx) cx;omega
 have hn:h ∉ i::l:=λ z=>na (anl h z)
 have mv:=C4 (t:=t) m (by omega) hb hj hp pi hq hl hn (by omega) ci ch ⟨ni12,nh12⟩ ds n12 hd (pl:=pl) rfl pl0 (by omega);have mk:=F1 (rj:=p.r.erase i) (rh:=insI (q.r.filter λ y=>decide (y≠i)) pl i) m hb hj hp hq na ci ch deep rfl rfl;generalize hrow:insI (q.r.filter λ y=>decide (y≠i)) pl i=row at mv mk;refine ⟨mvB M i j h (p.r.erase i) row,mk,La,N3,?_⟩;obtain ⟨q',hq'⟩:∃ q',fd (upR M j (p.r.erase i)) h=some q':=by rw [fF,hq]; exact ⟨_,rfl⟩
 have eq':=eqf hq'
 have bm:bxM (upR (upR M j (p.r.erase i)) h row)=bxM (mvB M i j h (p.r.erase i) row):=by
  unfold mvB bxM kM;rw [pC _ _ _ _ (λ _=>rfl)]
 have fm:Mt.n .d (gn (kv (λ b=>.s (.tup [hD b.h,.str b.n])) M) (.inl i) (.s (.tup [.int h,.str b.n])))=faM (mvB M i j h (p.r.erase i) row):=by
  rw [yg m.nd hb];unfold mvB faM kM;rw [LK _ _ _ _ _ _ (λ _ _=>rfl),LK _ _ _ _ _ _ (λ _ _=>rfl)]
 have ef:eE (faD M) (.int i)=some (.tup [.int j,.str b.n]):=by
  refine (bX hb).trans ?_
  rw [hj];rfl
 unfold dY fS;dsimp only;refine (qF (τ:=sM (trM t.af M.length (mvB M i j h (p.r.erase i) row)) (bxM (mvB M i j h (p.r.erase i) row)) (faM (mvB M i j h (p.r.erase i) row)) d i (.mu false (lM ((i::ul).map .int))) (.mu false (lM [])) (.shr (.lst (rs.map .int))) (.shr (.int h)) (.shr (.int pl))) ?_).trans rfl
 have lenD:∀ {x4 x5 x6 x7 x8 x9:Sm},fI jX (aD (aE 1) cJ) (bf [.mu true (trM t.af M.length M),.mu true (bxM M),.mu true (faM M),.shr (.int d),x4,x5,x6,x7,x8,x9])=some (.int (M.length:Int)):=by
  intro x4 x5 x6 x7 x8 x9;refine bL (ag (iD (b:=true) rfl (ij M)) aA) ?_
  show some (D.int ((kv (λ b=>D.lst (b.r.map .int)) M).length:Int))=_;rw [dU]
 refine aH (τ':=sM (trM t.af M.length M) (bxM M) (faM M) d i .no .no .no .no .no) ((cw (v_S (az e_c (az (ai rfl) (az lenD e_c (c7 _ _)) (aR n1)) (a7 _ _)) rfl) (Zb rfl) rfl).trans ?_) ?_
 ·rw [hi]
  rfl
 refine aH ((cw (v_O (fG aA (Z7 _)) rfl) (Zb rfl) rfl).trans rfl) ?_
 refine aH ((cw (v_O (fG (ag (ai rfl) aA) (Zb rfl)) rfl) (Zb rfl) rfl).trans rfl) ?_
 refine aH (Bb (A:=trM t.af M.length M) (C:=faM M) (d:=d) (i:=i) (i::ul) [i] [] 100 hu (by rw [Xx]; omega) (by omega)) ?_
 rw [List.nil_append];refine aH (τ':=sM (trM t.af M.length M) (bxM M) (faM M) d i (.mu false (lM ((i::ul).map .int))) (.mu false (lM [])) (.shr (.lst (rs.map .int))) .no .no) ?_ ?_
 ·have ec:cV (bf ((sM (trM t.af M.length M) (bxM M) (faM M) d i (.mu false (lM ((i::ul).map .int))) (.mu false (lM [])) .no .no .no).set 1 .no)) [("_law_under",5)]=[.shr (.lst ((i::ul).map .int))]:=by
   show [Sl.shr (frz (lM ((i::ul).map .int)))]=_;rw [gz]
  have ek:((kv (λ b=>lM (b.r.map .int)) M).map λ p=>kD p.1)=(M.map B8.i).map .int:=by
   unfold kv;rw [Zv,Zv];rfl
  have e2:pW (λ d'=>dT (dOp iH (aE 0) (aE 1)) (.shr d'::cV (bf ((sM (trM t.af M.length M) (bxM M) (faM M) d i (.mu false (lM ((i::ul).map .int))) (.mu false (lM [])) .no .no .no).set 1 .no)) [("_law_under",5)])) (λ d'=>aE 0 (.shr d'::cV (bf ((sM (trM t.af M.length M) (bxM M) (faM M) d i (.mu false (lM ((i::ul).map .int))) (.mu false (lM [])) .no .no .no).set 1 .no)) [("_law_under",5)])) ((kv (λ b=>lM (b.r.map .int)) M).map λ p=>kD p.1)=some (rs.map .int):=by
   rw [ek,<- hrs]
   exact wM (f:=λ x=>!decide (x ∈ i::ul)) λ x _=>by
    rw [ec];exact aF (az (ai rfl) (ai rfl) (CH x (i::ul)))
  show (if (kv (λ b=>lM (b.r.map .int)) M).length<=100000/\7 < 10 then (pW (λ d'=>dT (dOp iH (aE 0) (aE 1)) (.shr d'::cV (bf ((sM (trM t.af M.length M) (bxM M) (faM M) d i (.mu false (lM ((i::ul).map .int))) (.mu false (lM [])) .no .no .no).set 1 .no)) [("_law_under",5)])) (λ d'=>aE 0 (.shr d'::cV (bf ((sM (trM t.af M.length M) (bxM M) (faM M) d i (.mu false (lM ((i::ul).map .int))) (.mu false (lM [])) .no .no .no).set 1 .no)) [("_law_under",5)])) ((kv (λ b=>lM (b.r.map .int)) M).map λ p=>kD p.1)).bind (λ es=>if es.all sca=true then some (tT.next ((sM (trM t.af M.length M) (bxM M) (faM M) d i (.mu false (lM ((i::ul).map .int))) (.mu false (lM [])) .no .no .no).set 7 (.shr (.lst es)))) else none) else none)=_;rw [if_pos ⟨by rw [dU]; omega,by decide⟩,e2];show (if (rs.map D.int).all sca=true then _ else none)=_;rw [if_pos (jz _)];rfl
 refine aH ((cw (v_S (az (ai rfl) (az (az (ai rfl) e_c (ck (by decide) (by decide +kernel))) (bL (ag (ai rfl) aA) (show _=some (D.int (rs.length:Int)) from by show some (D.int ((rs.map D.int).length:Int))=_; rw [Za])) (aR (by omega))) eh) rfl) (Zb rfl) rfl).trans rfl) ?_
 have hg:aZ (sM (trM t.af M.length M) (bxM M) (faM M) d i (.mu false (lM ((i::ul).map .int))) (.mu false (lM [])) (.shr (.lst (rs.map .int))) (.shr (.int h)) .no) 1 [.k (.inl j)]=some (lM (p.r.map .int)):=by
  rw [jZ rfl];refine (kl _ _ _).trans ?_
  rw [hp];rfl
 refine aH (τ':=sM (trM t.af M.length M) (bxM (upR M j (p.r.erase i))) (faM M) d i (.mu false (lM ((i::ul).map .int))) (.mu false (lM [])) (.shr (.lst (rs.map .int))) (.shr (.int h)) .no) ((F5 (n:=i) (ns:=p.r) (mw bK (az (az (iD (b:=true) rfl (l6 M)) (ai rfl) ef) e_c (bE _ _)) rfl rfl) (ai rfl) hg (rE _) ⟨by omega,pi⟩).trans ?_) ?_
 ·rw [c6 rfl,Ap]
  have e4:(bxM M).put ([]++[.k (.inl j)]) (lM ((p.r.erase i).map .int))=bxM (upR M j (p.r.erase i)):=nN m.nd hp;rw [e4];rfl
 refine aH (τ':=sM (trM t.af M.length M) (bxM (upR M j (p.r.erase i))) (faM M) d i (.mu false (lM ((i::ul).map .int))) (.mu false (lM [])) (.shr (.lst (rs.map .int))) (.shr (.int h)) (.shr (.int pl))) ((cw (v_S (az (az (ai rfl) e_c (ck (by decide) (by decide +kernel))) (az (bL (ag (az (iD (b:=true) rfl (ij _)) (ai rfl) (bX hq')) aA) (show _=some (D.int ((q.r.filter λ y=>decide (y≠i)).length:Int)) from by show some (D.int ((q'.r.map D.int).length:Int))=_; rw [Za,eq'])) e_c (a7 _ _)) (aR (by omega))) rfl) (Zb rfl) rfl).trans ?_) ?_
 ·rw [hpl]
  rfl
 refine aH (τ':=sM (trM t.af M.length (mvB M i j h (p.r.erase i) row)) (bxM (upR M j (p.r.erase i))) (faM M) d i (.mu false (lM ((i::ul).map .int))) (.mu false (lM [])) (.shr (.lst (rs.map .int))) (.shr (.int h)) (.shr (.int pl))) (gy (v_M (as:=[.v (.int i),.v (.int h),.v (.int pl)]) bK rfl rfl (aO (q_N e_v) (aO (q_N e_v) (aO (q_N e_v) rfl))) rfl mv rfl)) ?_
 have hg2:aZ (sM (trM t.af M.length (mvB M i j h (p.r.erase i) row)) (bxM (upR M j (p.r.erase i))) (faM M) d i (.mu false (lM ((i::ul).map .int))) (.mu false (lM [])) (.shr (.lst (rs.map .int))) (.shr (.int h)) (.shr (.int pl))) 1 [.k (.inl h)]=some (lM (q'.r.map .int)):=by
  rw [jZ rfl];refine (kl _ _ _).trans ?_
  rw [hq'];rfl
 refine aH (τ':=sM (trM t.af M.length (mvB M i j h (p.r.erase i) row)) (bxM (mvB M i j h (p.r.erase i) row)) (faM M) d i (.mu false (lM ((i::ul).map .int))) (.mu false (lM [])) (.shr (.lst (rs.map .int))) (.shr (.int h)) (.shr (.int pl))) ((zg (mw bK (ai rfl) rfl rfl) hg2 (ai rfl) (v_N e_v) rfl hg2 ⟨pl0,by rw [Za,Za,eq']; omega,by rw [Za,Za,eq']; omega⟩).trans ?_) ?_
 ·rw [c6 rfl,rB,eq',hrow]
  have e5:(bxM (upR M j (p.r.erase i))).put ([]++[.k (.inl h)]) (lM (row.map .int))=bxM (upR (upR M j (p.r.erase i)) h row):=nN (qZ m.nd _ _) hq';rw [e5,bm];rfl
 have et:eT (aD (aE 8) (aD (dOp oIx (dOp eE (aE 2) (aE 4)) (dC (.int 1))) cJ)) (sM (trM t.af M.length (mvB M i j h (p.r.erase i) row)) (bxM (mvB M i j h (p.r.erase i) row)) (faM M) d i (.mu false (lM ((i::ul).map .int))) (.mu false (lM [])) (.shr (.lst (rs.map .int))) (.shr (.int h)) (.shr (.int pl)))=some (.shr (.tup [.int h,.str b.n]),sM (trM t.af M.length (mvB M i j h (p.r.erase i) row)) (bxM (mvB M i j h (p.r.erase i) row)) (faM M) d i (.mu false (lM ((i::ul).map .int))) (.mu false (lM [])) (.shr (.lst (rs.map .int))) (.shr (.int h)) (.shr (.int pl))):=by
  unfold eT;rw [ag (ai rfl) (ag (az (az (iD (b:=true) rfl (l6 M)) (ai rfl) ef) e_c (cP _ _ _)) aA)];rfl
 refine (eI et bK (ai rfl) rfl rfl rfl (by rw [dU]; omega)).trans ?_
 rw [c6 rfl];show some (tT.next (sM _ _ (Mt.n .d (gn (kv (λ b=>.s (.tup [hD b.h,.str b.n])) M) (.inl i) (.s (.tup [.int h,.str b.n])))) _ _ _ _ _ _ _))=_;rw [fm]
end
end N14
end
section
namespace N14
open PySem L2
section
variable {t:Adr} {gv:Int} {M:List B8} {i:Int} {b:B8} {R d:D}
def ID (M:List B8):Prop:=∀ b ∈ M,b.m.k.length < 64/\∀ x,x ∈ b.m.l↔x ∈ b.m.k
theorem xV (m:MOk gv M) (hl:M.length<=90) (mq:ID M) (hb:fd M i=some b):∃ rw,jw M i b rw:=by
 have hbm:=aS hb;obtain ⟨k1,k2⟩:=mq b hbm
 by_cases z:b.i=0
 ·have hh:b.h=none:=by
   cases q:b.h with
   | none=>rfl
   | some j=>exact absurd (gL hb ▸ z) (m.h0 hb q)
  exact ⟨[i],hb,.inl ⟨hh,rfl⟩,Zt.mpr rfl,Zw.mpr ⟨Xg,List.nodup_nil⟩,by show 1<=1000; decide,k1,k2⟩
 ·obtain ⟨j,p,g1,g2,g3⟩:=m.hol b hbm z
  have hr:=sub_len (m.rnd p (aS g2)) λ y hy=>by
   obtain ⟨d,d1,_⟩:=m.kid p (aS g2) y hy;exact ⟨d,d1⟩
  rw [gL hb] at g3;exact ⟨p.r,hb,.inr ⟨j,p,g1,g2,rfl⟩,g3,m.rnd p (aS g2),by omega,k1,k2⟩
theorem pD:iV t [d]=some (.shr (.obj t.aP [("told",d)])):=by
 unfold iV iR;dsimp only;exact cf (bW (rJ (ag e_v aA) rfl))
theorem uf (m:MOk gv M) (hl:M.length<=90) (mq:ID M) (hR:RdR M R) (hb:fd M i=some b) (hd:Tr 0 d):cT t [.obj t.aP [("told",d)],trD t.af gv M,R,faD M,mlD M,d,.int i]=some (.shr (.bl true)):=by
 obtain ⟨rw,S⟩:=xV m hl mq hb;obtain ⟨v,h1,h2⟩:=Gr (t:=t) (gv:=gv) hR S hd
 have e2:f6 t [.obj t.aP [("told",d)],trD t.af gv M,.int i]=some (.shr (.bl v)):=by
  unfold f6 fV;dsimp only;exact cf (bW (dO (ag e_v (ag e_v (ag (ft e_v rfl) aA))) h1 rfl))
 unfold cT d5;dsimp only;refine cf (bh ((bC (cH e_v (ag e_v (ag e_v aA)) rfl e2 rfl)).trans rfl) (bW (DN (b:=true) (bL (ag (ai rfl) (ag e_c aA)) rfl) (λ _=>?_) nofun)));exact az (ai rfl) (dO (ag (ai rfl) (ag (ai rfl) (ag (ai rfl) (ag (ai rfl) (ag (ai rfl) aA))))) h2 rfl) (by cases v <;> rfl)
theorem t7 (hd:Tr 0 d):∃ (k:Str) (r:List D) (a b:Int),d=.tup (.str k::r)/\d8 [d]=some (.shr (.tup [.int a,.int b]))/\(gr [((.inr "any":Key),.tup [.int 0,.int 0]),(.inr "name",.tup [.int 0,.int 1])] (.inr k)).getD (.tup [.int 1,.int 0])=.tup [.int a,.int b]:=by
 have key:∀ {k:Str} {r:List D} {a b:Int},(br (bV 0)).1 [.shr (.tup (.str k::r)),.no]=some (.ret (.shr (.tup [.int a,.int b])))->d8 [.tup (.str k::r)]=some (.shr (.tup [.int a,.int b])):=λ {k r a b} h=>by
  show cN 2 1 (br (bV 0)).1 [.tup (.str k::r)]=_;exact cf h
 have tail:∀ {k:Str} {r:List D},k≠"any"->k≠"name"->k≠"not"->k≠"one"->(br (bV 0)).1 [.shr (.tup (.str k::r)),.no]=some (.ret (.shr (.tup [.int 1,.int 0]))):=λ {k r} h1 h2 h3 h4=>by
  unfold br;dsimp only;exact bh ((bC (az (ai rfl) e_c (bE _ _))).trans rfl) (aY (aF (az (ai rfl) e_c (nes h1))) (aY (aF (az (ai rfl) e_c (nes h2))) (aY (aF (az (ai rfl) e_c (nes h3))) (aY (aF (az (ai rfl) e_c (nes h4))) (bW (il (ag e_c (ag e_c aA)) (Zb rfl)))))))
 cases hd with
 | any=>exact ⟨_,_,0,0,rfl,key (by
   unfold br;dsimp only
   exact bh ((bC (az (ai rfl) e_c (bE _ _))).trans rfl) (qD (sq (b:=true) (aF (az (ai rfl) e_c (eqs rfl))) (λ _=>bW (il (ag e_c (ag e_c aA)) (Zb rfl))) nofun))),rfl⟩
 | name _ x=>exact ⟨_,_,0,1,rfl,key (by
   unfold br;dsimp only
   exact bh ((bC (az (ai rfl) e_c (bE _ _))).trans rfl) (aY (aF (az (ai rfl) e_c (nes (by decide)))) (qD (sq (b:=true) (aF (az (ai rfl) e_c (eqs rfl))) (λ _=>bW (il (ag e_c (ag e_c aA)) (Zb rfl))) nofun)))),rfl⟩
 | mark _ x=>exact ⟨_,_,1,0,rfl,key (tail (by decide) (by decide) (by decide) (by decide)),rfl⟩
 | EB _ k f e he=>exact ⟨_,_,1,0,rfl,key (tail (by cases k <;> decide) (by cases k <;> decide) (by cases k <;> decide) (by cases k <;> decide)),by cases k <;> rfl⟩
end
end N14
end
section
namespace N14
open PySem L2
def brP (p:Pl) (w:Str):Pl:=⟨(mH p w).k,p.l.filter λ x=>!decide (x=w)⟩
section
variable {t:Adr} {M:List B8} {i:Int} {b:B8}
theorem zk {c d:Nat} (L:LOk c M) (h:c<=d):LOk d M:=⟨L.m,L.ix,L.dp,λ b hb=>by obtain ⟨h1,h2⟩:=L.mq b hb; exact ⟨⟨by omega,by omega⟩,h2⟩⟩
theorem G3 {p:Pl} {w:Str} {n:Nat} (h:(p.k.length<=n/\p.l.length<=n)/\∀ x,x ∈ p.l↔x ∈ p.k):((brP p w).k.length<=n/\(brP p w).l.length<=n)/\∀ x,x ∈ (brP p w).l↔x ∈ (brP p w).k:=by
 refine ⟨⟨Z6 (Y2 ..) h.1.1,Z6 (Y2 ..) h.1.2⟩,λ x=>?_⟩;unfold brP mH;rw [Yw,Yw,h.2]
theorem C6 {w:Str} (nd:Nd M) (hb:fd M i=some b):Mt.n .d (gn (kv (λ b=>lM (b.m.l.map .str)) M) (.inl i) (lM ((brP b.m w).l.map .str)))=mlM (stB M i (brP b.m w)):=by
 unfold mlM kM;rw [BA hb,<- kst (g:=λ b=>lM (b.m.l.map .str)) nd hb]
theorem qC:∀ l:List Str,(l.map D.str).all sca=true
 | []=>rfl
 | x::l=>by rw [Zg,Xw,qC l]; rfl
theorem vT {c:Nat} (L:LOk c M) (h:c<=8):ID M:=λ b hb=>by
 obtain ⟨h1,h2⟩:=L.mq b hb;exact ⟨by omega,h2⟩
end
abbrev sO (A B C K:Mt) (pl:D) (c:Int) (x6 x7 x8:Sm):List Sm:=[.mu true A,.mu true B,.mu true C,.mu true K,.shr pl,.shr (.int c),x6,x7,x8]
section
variable {t:Adr} {M:List B8} {pa pb pc pd:Str}
theorem yT (L:LOk 7 M) (h12:M.length<=12) (hP:PlN pa pb pc pd) (c:Int):∃ (gv:Int) (N:List B8),MOk gv N/\N.length<=13/\ID N /\
  dX t [.mu true (trM t.af M.length M),.mu true (bxM M),.mu true (faM M),.mu true (mlM M),.shr (PL pa pb pc pd),.shr (.int c)]=some (.shr .non,[.mu true (trM t.af gv N),.mu true (bxM N),.mu true (faM N),.mu true (mlM N),.no,.no]):=by
 obtain ⟨q,eq,q0,q1⟩:=mO c (w:=77) (by decide) (by decide);have N0:(0:Int) < M.length:=L.m.pos;obtain ⟨bx,hbx⟩:=L.at_ (x:=q / 4 % (M.length:Int)) (Yc _ (by omega)) (Z8 _ N0);generalize hi:q / 4 % (M.length:Int)=i at hbx;obtain ⟨w,ewd,hwd⟩:=vn hP (k:=q / 50 % 4) (Yc _ (by decide)) (Z8 _ (by decide));obtain ⟨hq1,hq2⟩:=L.mq bx (aS hbx)
 have lenD:∀ {x6 x7 x8:Sm},fI jX (aD (aE 1) cJ) (bf (sO (trM t.af M.length M) (bxM M) (faM M) (mlM M) (PL pa pb pc pd) c x6 x7 x8))=some (.int (M.length:Int)):=by
  intro x6 x7 x8;refine bL (ag (iD (b:=true) rfl (ij M)) aA) ?_
  show some (D.int ((kv (λ b=>D.lst (b.r.map .int)) M).length:Int))=_;rw [dU]
 have start:∀ {τ:List Sm},nJ (tS (xi (dT (dOp oEq (dOp oMod (aE 6) (dC (.int 4))) (dC (.int 3)))) (dT (dOp oGt (fI jX (aD (aE 1) cJ)) (dC (.int 1)))))) (dR (eC (dY t) (aQ (qX (a6 0)) (aQ (qX (a6 1)) (aQ (qX (a6 2)) (aQ (qN (dOp oDiv (aE 6) (dC (.int 4)))) iP))))))
   (nJ (tS (dT (dOp oEq (dOp oMod (aE 6) (dC (.int 4))) (dC (.int 0))))) (dR (eC (cC t) (aQ (qX (a6 0)) (aQ (qX (a6 1)) (aQ (qX (a6 2)) (aQ (qX (a6 3)) (aQ (qN (aE 4)) (aQ (qN (aE 5)) (aQ (qN (dC (.int 78))) iP)))))))))
   (nJ (tS (dT (dOp oEq (dOp oMod (aE 6) (dC (.int 4))) (dC (.int 1))))) (cY (dR (eM t.af "mark" (cD t) (a6 0) (aQ (qN (aE 7)) (aQ (qN (aE 8)) iP)))) (gE (mF (a6 3) (aE 7)) (eN (aE 8))))
   (cY (dR (eM t.af "bare" (fk t) (a6 0) (aQ (qN (aE 7)) (aQ (qN (aE 8)) iP)))) (eD (a6 3) (aE 7) (eO (iq (D9 (dOp eE (aE 3) (aE 7))) (dT (dOp oNe (aE 0) (aE 1))) (aE 0) [("_law_word",8)])))))) (sO (trM t.af M.length M) (bxM M) (faM M) (mlM M) (PL pa pb pc pd) c (.shr (.int q)) (.shr (.int i)) (.shr (.str w)))=some (.next τ) ->
   dX t [.mu true (trM t.af M.length M),.mu true (bxM M),.mu true (faM M),.mu true (mlM M),.shr (PL pa pb pc pd),.shr (.int c)]=some (.shr .non,(τ.take 6).map sW):=λ {τ} h=>by
  unfold dX fR;dsimp only;refine qF ?_
  refine aH ((cw (v_N (dO (ag e_v (ag e_c aA)) eq rfl)) (Zb rfl) rfl).trans rfl) ?_
  refine aH (τ':=sO (trM t.af M.length M) (bxM M) (faM M) (mlM M) (PL pa pb pc pd) c (.shr (.int q)) (.shr (.int i)) .no) ((cw (v_S (az (az (ai rfl) e_c (ck (by decide) (by decide +kernel))) lenD (aR N0)) rfl) (Zb rfl) rfl).trans (by rw [hi]; rfl)) ?_
  exact aH ((cw (v_N (az e_v (az (az e_v e_c (ck (by decide) (by decide +kernel))) e_c (aR (by decide))) ewd)) (Zb rfl) rfl).trans rfl) h
 have tm:∀ (k:Int),dT (dOp oEq (dOp oMod (aE 6) (dC (.int 4))) (dC (.int k))) (bf (sO (trM t.af M.length M) (bxM M) (faM M) (mlM M) (PL pa pb pc pd) c (.shr (.int q)) (.shr (.int i)) (.shr (.str w))))=some (decide (q % 4=k)):=λ k=>aF (az (az (ai rfl) e_c (aR (by decide))) e_c (b8 _ _))
 have tg:dT (dOp oGt (fI jX (aD (aE 1) cJ)) (dC (.int 1))) (bf (sO (trM t.af M.length M) (bxM M) (faM M) (mlM M) (PL pa pb pc pd) c (.shr (.int q)) (.shr (.int i)) (.shr (.str w))))=some (decide ((1:Int) < M.length)):=aF (az lenD e_c rfl)
 by_cases hm:q % 4=3/\(1:Int) < M.length
 ·obtain ⟨M',mk,eml,hmm,em⟩:=zc (t:=t) L (by omega) h12 (d:=q / 4) (by omega)
  have hlen:M'.length<=13:=by
   have:=em;have hN:∀ b ∈ M',0<=b.i/\b.i < M.length:=mk.lt
   have nd:=mk.nd
   have:=wj (M'.map B8.i) ((List.range M.length).map λ (n:Nat)=>(n:Int)) nd λ x hx=>by
    obtain ⟨b,hb,rfl⟩:=Z2.mp hx;obtain ⟨h1,h2⟩:=hN b hb;exact Z2.mpr ⟨b.i.toNat,Xd.mpr (by omega),by omega⟩
   rw [Za,Za,List.length_range] at this;omega
  refine ⟨M.length,M',mk,hlen,λ e he=>?_,?_⟩
  ·obtain ⟨f,hf,ef⟩:=hmm e he
   rw [ef];exact vT L (by decide) f hf
  ·refine (start (τ:=sO (trM t.af M.length M') (bxM M') (faM M') (mlM M) (PL pa pb pc pd) c (.shr (.int q)) (.shr (.int i)) (.shr (.str w))) (j5 (t_S (lT (b:=true) (c:=true) ((tm 3).trans (by rw [Zq hm.1])) (tg.trans (by rw [Zq hm.2])))) (gy (v_C (as:=[.p 0 [],.p 1 [],.p 2 [],.v (.int (q / 4))]) (aO (q_X bK rfl) (aO (q_X bK rfl) (aO (q_X bK rfl) (aO (q_N (az e_v e_c (ck (by decide) (by decide +kernel)))) rfl)))) rfl em rfl)))).trans ?_
   rw [eml];rfl
 have t1:tS (xi (dT (dOp oEq (dOp oMod (aE 6) (dC (.int 4))) (dC (.int 3)))) (dT (dOp oGt (fI jX (aD (aE 1) cJ)) (dC (.int 1))))) (sO (trM t.af M.length M) (bxM M) (faM M) (mlM M) (PL pa pb pc pd) c (.shr (.int q)) (.shr (.int i)) (.shr (.str w)))=some (false,sO (trM t.af M.length M) (bxM M) (faM M) (mlM M) (PL pa pb pc pd) c (.shr (.int q)) (.shr (.int i)) (.shr (.str w))):=by
  have:=t_S (lT (tm 3) tg);have e:(decide (q % 4=3)&&decide ((1:Int) < M.length))=false:=by rw [<- Bool.decide_and]; exact Zk hm
  rw [e] at this;exact this
 by_cases h0:q % 4=0
 ·obtain ⟨N,LN,lN,eg⟩:=wH (t:=t) L h12 hP (c:=c) (w:=78) (by decide) (by decide)
  refine ⟨N.length,N,LN.m,by omega,vT LN (by decide),?_⟩;exact (start (τ:=sO (trM t.af N.length N) (bxM N) (faM N) (mlM N) (PL pa pb pc pd) c (.shr (.int q)) (.shr (.int i)) (.shr (.str w))) (d4 t1 (j5 (t_S ((tm 0).trans (by rw [Zq h0]))) (gy (v_C (as:=[.p 0 [],.p 1 [],.p 2 [],.p 3 [],.v (PL pa pb pc pd),.v (.int c),.v (.int 78)]) (aO (q_X bK rfl) (aO (q_X bK rfl) (aO (q_X bK rfl) (aO (q_X bK rfl) (aO (q_N e_v) (aO (q_N e_v) (aO (q_N e_c) rfl))))))) rfl eg rfl))))).trans rfl
 have t2:=t_S ((tm 0).trans (by rw [Zk h0]))
 by_cases h1:q % 4=1
 ·have em:=vX (t:=t) (gv:=M.length) L.m.nd hbx hwd (by omega)
  rw [uh (p:=pJ bx.m w) (p':=mkP bx.m w) M i rfl] at em;have hk:=AH (w:=w) (p:=bx.m) (n:=7) ⟨hq1.1,hq2⟩;have LN:LOk 8 (stB M i (mkP bx.m w)):=we (zk L (by decide)) ⟨⟨hk.1,by show (bx.m.l++[w]).length<=8; rw [Zz]; show bx.m.l.length+1<=8; omega⟩,hk.2⟩;refine ⟨M.length,stB M i (mkP bx.m w),by have:=LN.m; rw [eU] at this; exact this,by rw [eU]; omega,vT LN (by decide),?_⟩;refine (start (τ:=sO (trM t.af M.length (stB M i (mkP bx.m w))) (bxM (stB M i (mkP bx.m w))) (faM (stB M i (mkP bx.m w))) (mlM (stB M i (mkP bx.m w))) (PL pa pb pc pd) c (.shr (.int q)) (.shr (.int i)) (.shr (.str w))) (d4 t1 (d4 t2 (j5 (t_S ((tm 1).trans (by rw [Zq h1]))) ?_)))).trans rfl;refine aH (τ':=sO (trM t.af M.length (stB M i (mkP bx.m w))) (bxM M) (faM M) (mlM M) (PL pa pb pc pd) c (.shr (.int q)) (.shr (.int i)) (.shr (.str w))) (gy (v_M (as:=[.v (.int i),.v (.str w)]) bK rfl rfl (aO (q_N e_v) (aO (q_N e_v) rfl)) rfl em rfl)) ?_
  have hg:=AF (A:=trM t.af M.length (stB M i (mkP bx.m w))) (B:=bxM M) (C:=faM M) (r:=[.shr (PL pa pb pc pd),.shr (.int c),.shr (.int q),.shr (.int i),.shr (.str w)]) hbx;refine (v7 (mw bK e_v rfl rfl) hg (v_N e_v) rfl hg (by rw [Za,Za]; omega)).trans ?_
  rw [c6 rfl,AE L.m.nd hbx,DY,DK];rfl
 have t3:=t_S ((tm 1).trans (by rw [Zk h1]));have eb:=D0 (t:=t) (gv:=M.length) L.m.nd hbx hwd;rw [uh (p:=mH bx.m w) (p':=brP bx.m w) M i rfl] at eb;have LN:LOk 7 (stB M i (brP bx.m w)):=we L (G3 ⟨hq1,hq2⟩);refine ⟨M.length,stB M i (brP bx.m w),by have:=LN.m; rw [eU] at this; exact this,by rw [eU]; omega,vT LN (by decide),?_⟩;refine (start (τ:=sO (trM t.af M.length (stB M i (brP bx.m w))) (bxM (stB M i (brP bx.m w))) (faM (stB M i (brP bx.m w))) (mlM (stB M i (brP bx.m w))) (PL pa pb pc pd) c (.shr (.int q)) (.shr (.int i)) (.shr (.str w))) (d4 t1 (d4 t2 (d4 t3 ?_)))).trans rfl;refine aH (τ':=sO (trM t.af M.length (stB M i (brP bx.m w))) (bxM M) (faM M) (mlM M) (PL pa pb pc pd) c (.shr (.int q)) (.shr (.int i)) (.shr (.str w))) (gy (v_M (as:=[.v (.int i),.v (.str w)]) bK rfl rfl (aO (q_N e_v) (aO (q_N e_v) rfl)) rfl eb rfl)) ?_
 have ec:iq (D9 (dOp eE (aE 3) (aE 7))) (dT (dOp oNe (aE 0) (aE 1))) (aE 0) [("_law_word",8)] (bf (sO (trM t.af M.length (stB M i (brP bx.m w))) (bxM M) (faM M) (mlM M) (PL pa pb pc pd) c (.shr (.int q)) (.shr (.int i)) (.shr (.str w))))=some (.lst ((brP bx.m w).l.map .str)):=by
  refine wX (Dx (az (iD (b:=true) rfl (oy M)) (ai rfl) (bX hbx))) (by rw [Za]; omega) ?_
  rw [kr (t:=λ d=>match d with | .str x=>!decide (x=w) | _=>false)]
  ·rw [List.filter_map]
   rfl
  ·intro d hd
   obtain ⟨x,hx,rfl⟩:=Z2.mp hd;exact ⟨aF (az (ai rfl) (ai rfl) (mJ _ _)),rfl⟩
 refine (eI (v_O ec (qC _)) bK (ai rfl) rfl rfl rfl (by rw [dU]; omega)).trans ?_
 rw [c6 rfl];unfold sO;rw [DY,DK,<- C6 L.m.nd hbx];rfl
end
end N14
end
section
namespace N14
open PySem L2
theorem F4 (c:Int):∃ n:Int,g6 [.int c,.int 6,.int 11]=some (.shr (.int n))/\0<=n/\n<=11:=by
 obtain ⟨r,er,r0,r1⟩:=mO c (w:=6) (by decide) (by decide)
 have key:Ret (λ d=>∃ n:Int,d=.int n/\0<=n/\n<=11) ((ff).1 (hU 4 [.int c,.int 6,.int 11])):=by
  unfold ff;dsimp only;refine sy (bC (dO (ag (ai rfl) (ag (ai rfl) aA)) er rfl)) ?_
  refine Hc (b:=decide (0 < r % 3)) (aF (az (az (ai rfl) e_c (aR (by decide))) e_c rfl)) (λ _=>qH (az (ai rfl) (az (az (ai rfl) e_c (ck (by decide) (by decide +kernel))) e_c (aR (by decide))) (c7 _ _)) ⟨_,rfl,by omega,by omega⟩) (λ _=>?_);exact EN (az (az (ai rfl) e_c (ck (by decide) (by decide +kernel))) (az (ai rfl) e_c (a7 _ _)) (aR (by decide))) ⟨_,rfl,by omega,by omega⟩
 obtain ⟨d,e,n,rfl,h⟩:=GF key;exact ⟨n,e,h⟩
def rt (nm:Str):List B8:=[⟨0,none,nm,[],cc⟩]
theorem zj {nm:Str}:LOk 7 (rt nm):=by
 have f0:fd (rt nm) 0=some ⟨0,none,nm,[],cc⟩:=rfl;have all:∀ b ∈ rt nm,b=⟨0,none,nm,[],cc⟩:=λ b hb=>Zt.mp hb
 refine ⟨⟨Zw.mpr ⟨Xg,List.nodup_nil⟩,λ b hb=>?_,⟨_,f0,rfl⟩,λ b hb h=>?_,λ b hb c hc=>?_,λ b hb=>?_,λ b hb=>?_⟩,rfl,λ b hb=>?_,λ b hb=>?_⟩ <;> rw [all b hb] at *
 · exact ⟨Int.le_refl _,by show (0:Int) < 1; decide⟩
 · exact absurd rfl h
 · cases hc
 · exact List.nodup_nil
 · exact ⟨0,.top f0 rfl,by decide⟩
 · exact ⟨0,.top f0 rfl,by show 0 < 1; decide⟩
 · exact ⟨⟨by show 0<=7; decide,by show 0<=7; decide⟩,λ x=>Iff.rfl⟩
def grL (s:Bool) (A X:Mt):Mt:=.n .l (if s=true then [(.inl 0,A),(.inl 0,X)] else [(.inl 0,X)])
def roL (s:Bool) (A X Y:Mt):Mt:=.n .l (if s=true then [(.inl 0,A),(.inl 0,X)] else [(.inl 0,X),(.inl 0,Y)])
def sdI (s:Bool):Int:=if s=true then 1 else 0
abbrev d0:Mt:=.n .d [(.inl 0,lM [])]
abbrev sG (t:Adr) (ns:List Int) (pl:D) (s:Bool) (A M:List B8) (x6 x7 x8 x9 x10 x11 x12 x13:Sm):List Sm:=[.shr (scr ns),.shr pl,.mu false (grL s (trM t.af A.length A) (trM t.af M.length M)),.mu false (roL s (bxM A) (bxM M) d0),.mu false (grL s (faM A) (faM M)),.mu false (roL s (mlM A) (mlM M) d0),x6,x7,x8,x9,x10,x11,x12,x13]
section
variable {t:Adr} {pa pb pc pd:Str}
theorem uw (ns:List Int) (hP:PlN pa pb pc pd) (s:Bool) (A:List B8) (nm:Str) (n:Int) (n0:0<=n) (n1:n<=11) (x8 x9:Sm):∃ (M:List B8) (y8 y9:Sm),LOk 7 M/\M.length<=12 /\
  forM (λ d τ=>(gNm 8 d τ).bind (cY (jq 9 (eN (dFn aX (aD (aE 0) (aD (dOp jB (dOp jB (dC (.int 5)) (aE 8)) (dOp vK (dC (.int 11)) (aE 6))) cJ))))) (dR (eC (cC t) (aQ (qX (nL (a6 2) (aE 6))) (aQ (qX (nL (a6 3) (aE 6))) (aQ (qX (nL (a6 4) (aE 6))) (aQ (qX (nL (a6 5) (aE 6))) (aQ (qN (aE 1)) (aQ (qN (aE 9)) (aQ (qN (aE 8)) iP)))))))))))
    (nK 0 n.toNat) (sG t ns (PL pa pb pc pd) s A (rt nm) (.shr (.int (sdI s))) (.shr (.str nm)) x8 x9 .no .no .no .no)=some (.next (sG t ns (PL pa pb pc pd) s A M (.shr (.int (sdI s))) (.shr (.str nm)) y8 y9 .no .no .no .no)):=by
 obtain ⟨τ1,f1,M,y8,y9,LM,lM1,rfl⟩:=mW (b:=λ d τ=>(gNm 8 d τ).bind (cY (jq 9 (eN (dFn aX (aD (aE 0) (aD (dOp jB (dOp jB (dC (.int 5)) (aE 8)) (dOp vK (dC (.int 11)) (aE 6))) cJ))))) (dR (eC (cC t) (aQ (qX (nL (a6 2) (aE 6))) (aQ (qX (nL (a6 3) (aE 6))) (aQ (qX (nL (a6 4) (aE 6))) (aQ (qX (nL (a6 5) (aE 6))) (aQ (qN (aE 1)) (aQ (qN (aE 9)) (aQ (qN (aE 8)) iP)))))))))))
  (ds:=nK 0 n.toNat) (τ:=sG t ns (PL pa pb pc pd) s A (rt nm) (.shr (.int (sdI s))) (.shr (.str nm)) x8 x9 .no .no .no .no) (λ j τ=>∃ M y8 y9,LOk 7 M/\M.length=j+1/\τ=sG t ns (PL pa pb pc pd) s A M (.shr (.int (sdI s))) (.shr (.str nm)) y8 y9 .no .no .no .no) ⟨_,_,_,zj,rfl,rfl⟩ (by
    rintro j d τ hd ⟨M,y8,y9,LM,lM,rfl⟩
    obtain ⟨rfl,jl⟩:=mE hd;rw [Int.zero_add];obtain ⟨cj,ej⟩:=jg ns (k:=5+(j:Int)+11 * sdI s) (by cases s <;> (show (0:Int)<=_+_; unfold sdI; omega));obtain ⟨N,LN,lN,eg⟩:=wH (t:=t) LM (by omega) hP (c:=cj) (w:=(j:Int)) (by omega) (by omega);refine ⟨sG t ns (PL pa pb pc pd) s A N (.shr (.int (sdI s))) (.shr (.str nm)) (.shr (.int (j:Int))) (.shr (.int cj)) .no .no .no .no,?_,N,_,_,LN,by omega,rfl⟩;refine aH (τ':=sG t ns (PL pa pb pc pd) s A M (.shr (.int (sdI s))) (.shr (.str nm)) (.shr (.int (j:Int))) (.shr (.int cj)) .no .no .no .no) ((cw (v_N (dO (ag (ai rfl) (ag (az (az e_c (ai rfl) (a7 _ _)) (az e_c (ai rfl) (qV (by decide) (by decide))) (a7 _ _)) aA)) ej rfl)) (Zb rfl) rfl).trans rfl) ?_
    refine gy (s:=.shr .non) ?_
    cases s with
    | false=>exact v_C (as:=[.p 2 [.i 0],.p 3 [.i 0],.p 4 [.i 0],.p 5 [.i 0],.v (PL pa pb pc pd),.v (.int cj),.v (.int (j:Int))]) (aO (q_X rfl rfl) (aO (q_X rfl rfl) (aO (q_X rfl rfl) (aO (q_X rfl rfl) (aO (q_N e_v) (aO (q_N e_v) (aO (q_N e_v) rfl))))))) rfl eg rfl
    | true=>exact v_C (as:=[.p 2 [.i 1],.p 3 [.i 1],.p 4 [.i 1],.p 5 [.i 1],.v (PL pa pb pc pd),.v (.int cj),.v (.int (j:Int))]) (aO (q_X rfl rfl) (aO (q_X rfl rfl) (aO (q_X rfl rfl) (aO (q_X rfl rfl) (aO (q_N e_v) (aO (q_N e_v) (aO (q_N e_v) rfl))))))) rfl eg rfl)
 rw [pG] at lM1;exact ⟨M,y8,y9,LM,by omega,f1⟩
end
end N14
end
section
namespace N14
open PySem L2
theorem forM_cons {b:D->DSm} {d:D} {ds:List D} {τ τ':List Sm} {r:Option tT} (h:b d τ=some (.next τ')) (h2:forM b ds τ'=r):forM b (d::ds) τ=r:=by
 unfold L2.forM; rw [h]; exact h2
section
variable {t:Adr} {pa pb pc pd:Str}
noncomputable abbrev gIn (t:Adr):DSm:=jK (ig (aD (dFn g6 (aD (dFn aX (aD (aE 0) (aD (dOp jB (dC (.int 3)) (aE 6)) cJ))) (aD (dC (.int 6)) (aD (dC (.int 11)) cJ)))) cJ)) (gNm 8) (cY (jq 9 (eN (dFn aX (aD (aE 0) (aD (dOp jB (dOp jB (dC (.int 5)) (aE 8)) (dOp vK (dC (.int 11)) (aE 6))) cJ))))) (dR (eC (cC t) (aQ (qX (nL (a6 2) (aE 6))) (aQ (qX (nL (a6 3) (aE 6))) (aQ (qX (nL (a6 4) (aE 6))) (aQ (qX (nL (a6 5) (aE 6))) (aQ (qN (aE 1)) (aQ (qN (aE 9)) (aQ (qN (aE 8)) iP))))))))))
noncomputable abbrev Og (t:Adr):DSm:=cY (jq 7 (eN (dOp oIx (aE 1) (dOp oMod (dFn aX (aD (aE 0) (aD (dOp jB (dC (.int 3)) (aE 6)) cJ))) (dC (.int 4)))))) (cY (gE (a6 2) (eK t.af (cL t) (aQ (qN (aE 7)) iP))) (cY (gE (a6 4) (eD1 (.inl 0) (eN (xO (aD (dC .non) (aD (aE 7) cJ)))))) (gIn t)))
theorem uv (ns:List Int) (hP:PlN pa pb pc pd) (s:Bool) (A:List B8) {lg lf:List (Key×Mt)} (x7 x8 x9:Sm) (hg:∀ X,Mt.n .l (lg++[(.inl 0,X)])=grL s (trM t.af A.length A) X) (hf:∀ X,Mt.n .l (lf++[(.inl 0,X)])=grL s (faM A) X) (l1:lg.length < 100000) (l2:lf.length < 100000):∃ (M:List B8) (nm:Str) (y8 y9:Sm),LOk 7 M/\M.length<=12 /\
  Og t [.shr (scr ns),.shr (PL pa pb pc pd),.mu false (.n .l lg),.mu false (roL s (bxM A) d0 d0),.mu false (.n .l lf),.mu false (roL s (mlM A) d0 d0),.shr (.int (sdI s)),x7,x8,x9,.no,.no,.no,.no]=some (.next (sG t ns (PL pa pb pc pd) s A M (.shr (.int (sdI s))) (.shr (.str nm)) y8 y9 .no .no .no .no)):=by
 have hs:0<=sdI s:=by cases s <;> decide
 obtain ⟨c,e⟩:=jg ns (k:=3+sdI s) (by omega);obtain ⟨nm,en,hn⟩:=vn hP (k:=c % 4) (Yc _ (by decide)) (Z8 _ (by decide));obtain ⟨n,em,n0,n1⟩:=F4 c;obtain ⟨M,y8,y9,LM,lM1,f1⟩:=uw (t:=t) ns hP s A nm n n0 n1 x8 x9;refine ⟨M,nm,y8,y9,LM,lM1,?_⟩;refine aH ((cw (v_N (az (ai rfl) (az (dO (ag (ai rfl) (ag (az e_c (ai rfl) (a7 _ _)) aA)) e rfl) e_c (aR (by decide))) en)) (Zb rfl) rfl).trans rfl) ?_
 refine aH (τ':=[.shr (scr ns),.shr (PL pa pb pc pd),.mu false (grL s (trM t.af A.length A) (trM t.af 1 (rt nm))),.mu false (roL s (bxM A) d0 d0),.mu false (.n .l lf),.mu false (roL s (mlM A) d0 d0),.shr (.int (sdI s)),.shr (.str nm),x8,x9,.no,.no,.no,.no]) ((v7 bK rfl (v_K (as:=[.v (.str nm)]) (aO (q_N (ai rfl)) rfl) rfl (Dv hn) rfl) rfl rfl l1).trans ?_) ?_
 ·rw [c6 rfl]
  show some (tT.next [_,_,.mu false (Mt.n .l (lg++[(.inl 0,trM t.af 1 (rt nm))])),_,_,_,_,_,_,_,_,_,_,_])=_;rw [hg]
 refine aH (τ':=[.shr (scr ns),.shr (PL pa pb pc pd),.mu false (grL s (trM t.af A.length A) (trM t.af 1 (rt nm))),.mu false (roL s (bxM A) d0 d0),.mu false (grL s (faM A) (faM (rt nm))),.mu false (roL s (mlM A) d0 d0),.shr (.int (sdI s)),.shr (.str nm),x8,x9,.no,.no,.no,.no]) ((v7 bK rfl (LJ (v_N (il (ag e_c (ag (ai rfl) aA)) (Zb rfl))) rfl) rfl rfl l2).trans ?_) ?_
 ·rw [c6 rfl]
  show some (tT.next [_,_,_,_,.mu false (Mt.n .l (lf++[(.inl 0,faM (rt nm))])),_,_,_,_,_,_,_,_,_])=_;rw [hf]
 show jK _ _ _ _=_;unfold jK;rw [sZ (j:=n) (ag (dO (ag (dO (ag (ai rfl) (ag (az e_c (ai rfl) (a7 _ _)) aA)) e rfl) (ag e_c (ag e_c aA))) em rfl) aA) (by omega)];exact f1
section
variable {M:List B8}
theorem EL (nd:Nd M):RdR M (.dct (kv (λ b=>.lst (b.r.map .int)) M)):=⟨λ i b h=>bX h,λ i b h=>oT h⟩
theorem EK:RdR M (.dfz (kv (λ b=>.lst (b.r.map .int)) M)):=by
 refine ⟨λ i b h=>?_,λ i b h=>?_⟩
 ·show gr _ (.inl i)=_
  rw [qw,h];rfl
 ·show some (D.bl (!(gr _ (.inl i)).isSome))=_
  rw [qw,h];rfl
end
theorem ko (a b:Mt):frz (.n .l [(.inl 0,a),(.inl 0,b)])=.lst [frz a,frz b]:=by
 rw [frz,lu,lu,lu]
abbrev sH (t:Adr) (ns:List Int) (pl:D) (g:Int) (A M:List B8) (x6 x7 x8 x9 x10 x11 x12 x13:Sm):List Sm:=[.shr (scr ns),.shr pl,.mu false (.n .l [(.inl 0,trM t.af g A),(.inl 0,trM t.af M.length M)]),.mu false (.n .l [(.inl 0,bxM A),(.inl 0,bxM M)]),.mu false (.n .l [(.inl 0,faM A),(.inl 0,faM M)]),.mu false (.n .l [(.inl 0,mlM A),(.inl 0,mlM M)]),x6,x7,x8,x9,x10,x11,x12,x13]
theorem LQ {ns:List Int} {pl:D} {g:Int} {A M:List B8} {x6 x7 x8 x9 x10 x11 x12 x13:Sm}:bf (sH t ns pl g A M x6 x7 x8 x9 x10 x11 x12 x13)=.shr (scr ns)::.shr pl::.shr (.lst [trD t.af g A,trD t.af M.length M])::.shr (.lst [.dct (kv (λ b=>.lst (b.r.map .int)) A),.dct (kv (λ b=>.lst (b.r.map .int)) M)])::.shr (.lst [faD A,faD M])::.shr (.lst [mlD A,mlD M])::bf [x6,x7,x8,x9,x10,x11,x12,x13]:=by
 show Sl.shr (scr ns)::.shr pl::.shr (frz _)::.shr (frz _)::.shr (frz _)::.shr (frz _)::_=_;rw [ko,ko,ko,ko,l5,l5,ij,ij,l6,l6,oy,oy]
noncomputable abbrev Iz (t:Adr):DSm:=nJ (tS (dT (dOp oLt (aE 8) (fI jX (aD (dOp oIx (aE 3) (aE 6)) cJ))))) (nJ (tS (Eb (dT (dFn (cT t) (aD (aE 11) (aD (dOp oIx (aE 2) (aE 6)) (aD (dOp oIx (aE 3) (aE 6)) (aD (dOp oIx (aE 4) (aE 6)) (aD (dOp oIx (aE 5) (aE 6)) (aD (aE 10) (aD (aE 8) cJ))))))))))) (nI (eN (dC (.bl false)))) gs) gs
theorem Ae (ns:List Int) {pl d:D} {A M:List B8} (LA:LOk 7 A) (LM:LOk 7 M) (la:A.length<=12) (lm:M.length<=12) (hd:Tr 0 d) (s:Bool) (k:Int) (k0:0<=k) (x7 x9:Sm):Iz t (sH t ns pl A.length A M (.shr (.int (sdI s))) x7 (.shr (.int k)) x9 (.shr d) (.shr (.obj t.aP [("told",d)])) .no .no)=some (.next (sH t ns pl A.length A M (.shr (.int (sdI s))) x7 (.shr (.int k)) x9 (.shr d) (.shr (.obj t.aP [("told",d)])) .no .no)):=by
 have go:∀ (B:List B8),LOk 7 B->B.length<=12->(∀ a c:D,oIx (.lst [a,c]) (.int (sdI s))=some (if s=true then c else a))->B=(if s=true then M else A)->Iz t (sH t ns pl A.length A M (.shr (.int (sdI s))) x7 (.shr (.int k)) x9 (.shr d) (.shr (.obj t.aP [("told",d)])) .no .no)=some (.next (sH t ns pl A.length A M (.shr (.int (sdI s))) x7 (.shr (.int k)) x9 (.shr d) (.shr (.obj t.aP [("told",d)])) .no .no)):=λ B LB lB ix eB=>by
  have e3:oIx (.lst [.dct (kv (λ b=>.lst (b.r.map .int)) A),.dct (kv (λ b=>.lst (b.r.map .int)) M)]) (.int (sdI s))=some (.dct (kv (λ b=>.lst (b.r.map .int)) B)):=by rw [ix,eB]; cases s <;> rfl
  have e2:oIx (.lst [trD t.af A.length A,trD t.af M.length M]) (.int (sdI s))=some (trD t.af B.length B):=by rw [ix,eB]; cases s <;> rfl
  have e4:oIx (.lst [faD A,faD M]) (.int (sdI s))=some (faD B):=by rw [ix,eB]; cases s <;> rfl
  have e5:oIx (.lst [mlD A,mlD M]) (.int (sdI s))=some (mlD B):=by rw [ix,eB]; cases s <;> rfl
  have et:=t_S (τ:=sH t ns pl A.length A M (.shr (.int (sdI s))) x7 (.shr (.int k)) x9 (.shr d) (.shr (.obj t.aP [("told",d)])) .no .no) (g:=dT (dOp oLt (aE 8) (fI jX (aD (dOp oIx (aE 3) (aE 6)) cJ)))) (b:=decide (k < B.length)) (by
   rw [LQ];refine aF (az (ai rfl) (bL (ag (az (ai rfl) (ai rfl) e3) aA) (show _=some (D.int (B.length:Int)) from ?_)) (jW _ _));show some (D.int ((kv (λ b=>D.lst (b.r.map .int)) B).length:Int))=_
   rw [dU])
  by_cases h:k < B.length
  ·rw [Zq h] at et
   obtain ⟨b,hb⟩:=LB.at_ k0 h;refine j5 et (d4 (t_S (b:=false) ?_) rfl);rw [LQ];exact lC (b:=true) (aF (dO (ag (ai rfl) (ag (az (ai rfl) (ai rfl) e2) (ag (az (ai rfl) (ai rfl) e3) (ag (az (ai rfl) (ai rfl) e4) (ag (az (ai rfl) (ai rfl) e5) (ag (ai rfl) (ag (ai rfl) aA))))))) (uf LB.m (by omega) (vT LB (by decide)) (EL LB.m.nd) hb hd) rfl))
  ·rw [Zk h] at et
   exact d4 et rfl
 cases s with
 | false=>exact go A LA la (λ _ _=>rfl) rfl
 | true=>exact go M LM lm (λ _ _=>rfl) rfl
end
end N14
end
section
namespace N14
open PySem L2
theorem C8 {it:DI} {g:DGm} {b:DSm} {τ:List Sm} {ds:List D} {r:Option tT} (h1:it (er τ)=some ds) (h2:L2.forM (λ d τ=>(g d τ).bind b) ds τ=r):jK it g b τ=r:=by unfold jK; rw [h1]; exact h2
theorem LR:nK 0 (Int.toNat 2)=[.int 0,.int 1]:=rfl
section
variable {t:Adr} {pa pb pc pd:Str}
theorem Be (ns:List Int) {pl d:D} (hd:∀ n,Tr n d) {A M:List B8} (x6 x7 x8 x9:Sm):∃ d',Tr 0 d'/\nJ (tS (xi (dT (dOp vL (dOp oIx (aE 10) (dC (.int 0))) (xO (aD (dC (.str "front")) (aD (dC (.str "back")) cJ))))) (dT (dOp oEq (dOp oMod (dFn aX (aD (aE 0) (aD (dC (.int 1)) cJ))) (dC (.int 4))) (dC (.int 1))))))
  (jq 10 (eN (xO (aD (dOp oIx (aE 10) (dC (.int 0))) (aD (dOp oMod (dFn aX (aD (aE 0) (aD (dC (.int 2)) cJ))) (dOp Ax (dC (.int 10)) (dC (.int 30)))) (aD (dOp oMod (dOp oDiv (dFn aX (aD (aE 0) (aD (dC (.int 1)) cJ))) (dC (.int 4))) (dOp Ax (dC (.int 10)) (dC (.int 30)))) cJ)))))) gs
  (sH t ns pl A.length A M x6 x7 x8 x9 (.shr d) .no .no .no)=some (.next (sH t ns pl A.length A M x6 x7 x8 x9 (.shr d') .no .no .no)):=by
 obtain ⟨c1,e1⟩:=jg ns (k:=1) (by decide);obtain ⟨c2,e2⟩:=jg ns (k:=2) (by decide);have p30:=vJ A2
 have no:∀ {k:Str} {r:List D},d=.tup (.str k::r)->vL (.str k) (.tup [.str "front",.str "back"])=some (.bl false)->∃ d',Tr 0 d'/\nJ (tS (xi (dT (dOp vL (dOp oIx (aE 10) (dC (.int 0))) (xO (aD (dC (.str "front")) (aD (dC (.str "back")) cJ))))) (dT (dOp oEq (dOp oMod (dFn aX (aD (aE 0) (aD (dC (.int 1)) cJ))) (dC (.int 4))) (dC (.int 1))))))
   (jq 10 (eN (xO (aD (dOp oIx (aE 10) (dC (.int 0))) (aD (dOp oMod (dFn aX (aD (aE 0) (aD (dC (.int 2)) cJ))) (dOp Ax (dC (.int 10)) (dC (.int 30)))) (aD (dOp oMod (dOp oDiv (dFn aX (aD (aE 0) (aD (dC (.int 1)) cJ))) (dC (.int 4))) (dOp Ax (dC (.int 10)) (dC (.int 30)))) cJ)))))) gs
   (sH t ns pl A.length A M x6 x7 x8 x9 (.shr d) .no .no .no)=some (.next (sH t ns pl A.length A M x6 x7 x8 x9 (.shr d') .no .no .no)):=λ {k r} ek h=>by
  refine ⟨d,hd 0,d4 (t_S ?_) rfl⟩;rw [ek];exact IM (b:=false) (aF (az (az (ai rfl) e_c (bE _ _)) (il (ag e_c (ag e_c aA)) (Zb rfl)) h)) nofun λ _=>rfl
 cases hd 0 with
 | any=>exact no rfl rfl
 | name _ x=>exact no rfl rfl
 | mark _ x=>exact no rfl rfl
 | EB _ k f e he =>
  have et:tS (xi (dT (dOp vL (dOp oIx (aE 10) (dC (.int 0))) (xO (aD (dC (.str "front")) (aD (dC (.str "back")) cJ))))) (dT (dOp oEq (dOp oMod (dFn aX (aD (aE 0) (aD (dC (.int 1)) cJ))) (dC (.int 4))) (dC (.int 1))))) (sH t ns pl A.length A M x6 x7 x8 x9 (.shr (.tup [.str (fA k),.int f,.int e])) .no .no .no)=some (true&&decide (c1 % 4=1),sH t ns pl A.length A M x6 x7 x8 x9 (.shr (.tup [.str (fA k),.int f,.int e])) .no .no .no):=t_S (lT (aF (az (az (ai rfl) e_c (bE _ _)) (il (ag e_c (ag e_c aA)) (Zb rfl)) (show vL (.str (fA k)) (.tup [.str "front",.str "back"])=some (.bl true) by cases k <;> rfl))) (aF (az (az (dO (ag (ai rfl) (ag e_c aA)) e1 rfl) e_c (aR (by decide))) e_c (b8 _ _))));rw [Bool.true_and] at et
  by_cases h:c1 % 4=1
  ·rw [Zq h] at et
   exact ⟨.tup [.str (fA k),.int (c2 % (10 ^ 30)),.int (c1 / 4 % (10 ^ 30))],.EB 0 k _ _ (Yc _ (by decide)),j5 et ((cw (v_N (il (ag (az (ai rfl) e_c (bE _ _)) (ag (az (dO (ag (ai rfl) (ag e_c aA)) e2 rfl) (az e_c e_c p30) (aR (by decide))) (ag (az (az (dO (ag (ai rfl) (ag e_c aA)) e1 rfl) e_c (ck (by decide) (by decide +kernel))) (az e_c e_c p30) (aR (by decide))) aA))) (Zb rfl))) (Zb rfl) rfl).trans rfl)⟩
  ·rw [Zk h] at et
   exact ⟨_,hd 0,d4 et rfl⟩
theorem Gb (ns:List Int):G8 t [.shr (scr ns)]=some (.shr (.bl true),[.no]):=by
 obtain ⟨a,b,c,d,ep,na,nb,nc,nd⟩:=E1 ns;have hP:PlN a b c d:=⟨na,nb,nc,nd⟩
 obtain ⟨c0,e0⟩:=jg ns (k:=0) (Int.le_refl _);obtain ⟨c27,e27⟩:=jg ns (k:=27) (by decide);obtain ⟨A,nmA,y8,y9,LA,la,s0⟩:=uv (t:=t) ns hP false [] (lg:=[]) (lf:=[]) .no .no .no (λ X=>rfl) (λ X=>rfl) (Zb rfl) (Zb rfl);obtain ⟨M,nmM,z8,z9,LM,lm,s1⟩:=uv (t:=t) ns hP true A (lg:=[(.inl 0,trM t.af A.length A)]) (lf:=[(.inl 0,faM A)]) (.shr (.str nmA)) y8 y9 (λ X=>rfl) (λ X=>rfl) (Zb rfl) (Zb rfl);obtain ⟨dt,edt,hdt⟩:=Ca hP c0 (w:=1) (by decide) (by decide);obtain ⟨d',hd',etl⟩:=Be (t:=t) ns (pl:=PL a b c d) hdt (A:=A) (M:=M) (.shr (.int 1)) (.shr (.str nmM)) z8 z9
 obtain ⟨τ1,f1,x6,x8,rfl⟩:=mW (b:=λ dd τ=>(gNm 8 dd τ).bind (jK (ig (aD (dC (.int 2)) cJ)) (gNm 6) (Iz t))) (ds:=nK 0 12) (τ:=sH t ns (PL a b c d) A.length A M (.shr (.int 1)) (.shr (.str nmM)) z8 z9 (.shr d') (.shr (.obj t.aP [("told",d')])) .no .no) (λ j τ=>∃ x6 x8,τ=sH t ns (PL a b c d) A.length A M x6 (.shr (.str nmM)) x8 z9 (.shr d') (.shr (.obj t.aP [("told",d')])) .no .no) ⟨_,_,rfl⟩ (by
   rintro j dd τ hd ⟨x6,x8,rfl⟩
   obtain ⟨rfl,jl⟩:=mE hd;rw [Int.zero_add];refine ⟨sH t ns (PL a b c d) A.length A M (.shr (.int 1)) (.shr (.str nmM)) (.shr (.int (j:Int))) z9 (.shr d') (.shr (.obj t.aP [("told",d')])) .no .no,?_,_,_,rfl⟩;have e8:gNm 8 (.int (j:Int)) (sH t ns (PL a b c d) A.length A M x6 (.shr (.str nmM)) x8 z9 (.shr d') (.shr (.obj t.aP [("told",d')])) .no .no)=some (sH t ns (PL a b c d) A.length A M x6 (.shr (.str nmM)) (.shr (.int (j:Int))) z9 (.shr d') (.shr (.obj t.aP [("told",d')])) .no .no):=rfl;show (gNm 8 (.int (j:Int)) _).bind _=_;rw [e8];show jK (ig (aD (dC (.int 2)) cJ)) (gNm 6) (Iz t) _=_;refine C8 (sZ (j:=2) (ag e_c aA) (by decide)) ?_
   rw [LR];refine forM_cons (Ae (t:=t) ns LA LM la lm hd' false (j:Int) (by omega) _ _) ?_
   refine forM_cons (Ae (t:=t) ns LA LM la lm hd' true (j:Int) (by omega) _ _) ?_
   rfl)
 obtain ⟨g,N,mN,lN,qN',eo⟩:=yT (t:=t) LA la hP c27;obtain ⟨k,r,wa,wb,ek,ew,eg⟩:=t7 hd'
 have ewt:eA t [.obj t.aP [("told",d')]]=some (.shr (.tup [.int wa,.int wb])):=by
  unfold eA d7;dsimp only;exact cf (bW (dO (ag (ft e_v rfl) aA) ew rfl))
 unfold G8 D4;dsimp only;refine (gF (s:=.shr (.bl true)) (τ:=sH t ns (PL a b c d) g N M x6 (.shr (.str nmM)) .no z9 (.shr d') (.shr (.obj t.aP [("told",d')])) (.shr (.tup [.int wa,.int wb])) (.shr (.tup [.int wa,.int wb]))) ?_).trans rfl;refine aH (τ':=[.shr (scr ns),.shr (PL a b c d),.no,.no,.no,.no,.no,.no,.no,.no,.no,.no,.no,.no]) (cw (v_N (dO (ag (ai rfl) (ag e_c aA)) ep rfl)) (Zb rfl) rfl) ?_
 refine aH ((cw (v_O (fG aA (Z7 _)) rfl) (Zb rfl) rfl).trans rfl) ?_
 have ed0:∀ τ:List Sm,eL2 (eD1 (.inl 0) (eO (A1 cJ))) (eD1 (.inl 0) (eO (A1 cJ))) τ=some (.mu false (roL false (bxM []) d0 d0),τ):=λ τ=>by
  have e1:eD1 (.inl 0) (eO (A1 cJ)) τ=some (.mu false d0,τ):=LJ (v_O (fG aA (Z7 _)) rfl) rfl;unfold eL2;rw [e1];show ((eD1 (.inl 0) (eO (A1 cJ)) τ).bind λ y=>(toM y.1).map λ m2=>(Sm.mu false (Mt.n .l [(.inl 0,d0),(.inl 0,m2)]),y.2))=_;rw [e1];rfl
 refine aH ((cw (ed0 _) (Zb rfl) rfl).trans rfl) ?_
 refine aH ((cw (v_O (fG aA (Z7 _)) rfl) (Zb rfl) rfl).trans rfl) ?_
 refine aH ((cw (ed0 _) (Zb rfl) rfl).trans rfl) ?_
 refine aH (τ':=sH t ns (PL a b c d) A.length A M (.shr (.int 1)) (.shr (.str nmM)) z8 z9 .no .no .no .no) ?_ ?_
 ·refine C8 (sZ (j:=2) (ag e_c aA) (by decide)) ?_
  rw [LR];refine forM_cons s0 ?_
  refine forM_cons s1 ?_
  rfl
 refine aH (τ':=sH t ns (PL a b c d) A.length A M (.shr (.int 1)) (.shr (.str nmM)) z8 z9 (.shr dt) .no .no .no) ((cw (v_N (dO (ag (dO (ag (ai rfl) (ag e_c aA)) e0 rfl) (ag e_c (ag (ai rfl) aA))) edt rfl)) (Zb rfl) rfl).trans rfl) ?_
 refine aH etl ?_
 refine aH ((cw (v_N (dO (ag (ai rfl) aA) pD rfl)) (Zb rfl) rfl).trans rfl) ?_
 refine aH (τ':=sH t ns (PL a b c d) A.length A M x6 (.shr (.str nmM)) x8 z9 (.shr d') (.shr (.obj t.aP [("told",d')])) .no .no) ?_ ?_
 · exact C8 (sZ (j:=12) (ag e_c aA) (by decide)) f1
 refine aH (τ':=sH t ns (PL a b c d) g N M x6 (.shr (.str nmM)) x8 z9 (.shr d') (.shr (.obj t.aP [("told",d')])) .no .no) (gy (v_C (as:=[.p 2 [.i 0],.p 3 [.i 0],.p 4 [.i 0],.p 5 [.i 0],.v (PL a b c d),.v (.int c27)]) (aO (q_X rfl rfl) (aO (q_X rfl rfl) (aO (q_X rfl rfl) (aO (q_X rfl rfl) (aO (q_N (ai rfl)) (aO (q_N (dO (ag (ai rfl) (ag e_c aA)) e27 rfl)) rfl)))))) rfl eo rfl)) ?_
 refine aH (τ':=sH t ns (PL a b c d) g N M x6 (.shr (.str nmM)) .no z9 (.shr d') (.shr (.obj t.aP [("told",d')])) .no .no) ?_ ?_
 ·show (if (kv (λ b=>lM (b.r.map .int)) N).length<=100000/\_ then _ else none)=_
  rw [if_pos]
  · rfl
  refine ⟨by rw [dU]; omega,λ p hp=>?_⟩;unfold kv at hp;obtain ⟨bb,hbb,rfl⟩:=Z2.mp hp;have hfd:=kA mN.nd hbb
  have es:((DZ 3 8 (sH t ns (PL a b c d) g N M x6 (.shr (.str nmM)) x8 z9 (.shr d') (.shr (.obj t.aP [("told",d')])) .no .no)).set 3 (.shr (.lst (.dfz (wJ (kv (λ b=>lM (b.r.map .int)) N))::lu [(.inl 0,bxM M)])))).set 8 (.shr (kD (.inl bb.i)))=[.shr (scr ns),.shr (PL a b c d),.shr (.lst [trD t.af g N,trD t.af M.length M]),.shr (.lst [.dfz (kv (λ b=>.lst (b.r.map .int)) N),.dct (kv (λ b=>.lst (b.r.map .int)) M)]),.shr (.lst [faD N,faD M]),.shr (.lst [mlD N,mlD M]),sk x6,.shr (.str nmM),.shr (.int bb.i),sk z9,.shr d',.shr (.obj t.aP [("told",d')]),.no,.no]:=by
   have efk:wJ (kv (λ b=>lM (b.r.map .int)) N)=kv (λ b=>.lst (b.r.map .int)) N:=by
    have:=ij N;unfold bxM kM at this;rw [frz] at this;injection this
   have efl:lu [((.inl 0:Key),bxM M)]=[.dct (kv (λ b=>.lst (b.r.map .int)) M)]:=by rw [lu,lu,ij]
   rw [efk,efl];show [Sl.shr (scr ns),.shr (PL a b c d),.shr (frz _),_,.shr (frz _),.shr (frz _),sk x6,.shr (.str nmM),.shr (.int bb.i),sk z9,.shr d',.shr (.obj t.aP [("told",d')]),.no,.no]=_;rw [ko,ko,ko,l5,l5,l6,l6,oy,oy]
  show Eb _ (((DZ 3 8 (sH t ns (PL a b c d) g N M x6 (.shr (.str nmM)) x8 z9 (.shr d') (.shr (.obj t.aP [("told",d')])) .no .no)).set 3 (.shr (.lst (.dfz (wJ (kv (λ b=>lM (b.r.map .int)) N))::lu [(.inl 0,bxM M)])))).set 8 (.shr (kD (.inl bb.i))))=_;rw [es];exact lC (b:=true) (aF (dO (ag (ai rfl) (ag (az (ai rfl) e_c (pw _ _)) (ag (az (ai rfl) e_c (pw _ _)) (ag (az (ai rfl) e_c (pw _ _)) (ag (az (ai rfl) e_c (pw _ _)) (ag (ai rfl) (ag (ai rfl) aA))))))) (uf mN (by omega) qN' EK hfd hd') rfl))
 refine aH (τ':=sH t ns (PL a b c d) g N M x6 (.shr (.str nmM)) .no z9 (.shr d') (.shr (.obj t.aP [("told",d')])) (.shr (.tup [.int wa,.int wb])) .no) ((cw (v_N (d:=.tup [.int wa,.int wb]) ?_) (Zb rfl) rfl).trans rfl) ?_
 ·rw [<- eg]
  refine rK (k:=.inr k) (kvs:=[((.inr "any":Key),.tup [.int 0,.int 0]),(.inr "name",.tup [.int 0,.int 1])]) ((GN (kvs:=[((.inr "any":Key),.tup [.int 0,.int 0]),(.inr "name",.tup [.int 0,.int 1])]) rfl (Zb rfl)).trans rfl) (az (ai rfl) e_c (by rw [ek]; exact bE _ _)) (il (ag e_c (ag e_c aA)) (Zb rfl)) rfl
 refine aH ((cw (v_N (cH (ai rfl) aA rfl ewt rfl)) (Zb rfl) rfl).trans rfl) ?_
 refine aH (d4 (t_S (IL (b:=false) (lC (b:=true) (aF (bL (ag (ai rfl) (ag e_c aA)) rfl))) (λ _=>aF (az (bL (ag (ai rfl) aA) rfl) e_c rfl)) nofun)) rfl) ?_
 refine mP (v_N (DN (b:=true) (dO (ag (az (ai rfl) e_c (bE _ _)) aA) (qv _) rfl) (λ _=>DN (b:=true) (dO (ag (az (ai rfl) e_c (cP _ _ _)) aA) (qv _) rfl) (λ _=>az (ai rfl) (ai rfl) ?_) nofun) nofun));unfold oEq eqO;rw [if_pos ⟨rfl,rfl⟩,mY];rfl
end
section
variable {P:Program} {w:World} {K:W.Frag} {mg:Str->Option Value} {base:Heap} {t:Adr}
def Af (K:W.Frag):Sp:=λ vs H Q _=>∃ (a:Addr) (ns:List Int),vs=[.ref a]/\SqL K H a (ns.map V.int)/\ns.length<=63/\∀ H',Q (.bl true) H'
theorem CC {a d} (T:Txt K mg t) (F:Fun K "law" "law" (top 43) a d):gY P w K mg base CX0 8 a d ["_law_script"] (Af K):=by
 refine ((D4 t).2 T F).imp λ vs H Q E h=>?_
 obtain ⟨a,ns,rfl,hS,h63,k⟩:=h;refine ⟨H,[],[.shr (scr ns)],.shr (.bl true),[.no],(λ _ _ h=>h),?_,Gb ns,λ v Hs' H' fp' g st=>?_⟩
 · exact .shr (.fz hS (Rps.ints ns)) .nil
 ·cases st with
  | shr r _ =>
   cases r;exact k _
end
end N14
end
namespace N14
open PySem L2
theorem u1 {P:List Value->Prop} (k:∀ x0,P [x0]):∀ us,us.length=1->P us
 | [x0],_=>k x0
theorem u2 {P:List Value->Prop} (k:∀ x0 x1,P [x0,x1]):∀ us,us.length=2->P us
 | [x0,x1],_=>k x0 x1
theorem u3 {P:List Value->Prop} (k:∀ x0 x1 x2,P [x0,x1,x2]):∀ us,us.length=3->P us
 | [x0,x1,x2],_=>k x0 x1 x2
theorem u4 {P:List Value->Prop} (k:∀ x0 x1 x2 x3,P [x0,x1,x2,x3]):∀ us,us.length=4->P us
 | [x0,x1,x2,x3],_=>k x0 x1 x2 x3
theorem u5 {P:List Value->Prop} (k:∀ x0 x1 x2 x3 x4,P [x0,x1,x2,x3,x4]):∀ us,us.length=5->P us
 | [x0,x1,x2,x3,x4],_=>k x0 x1 x2 x3 x4
theorem u6 {P:List Value->Prop} (k:∀ x0 x1 x2 x3 x4 x5,P [x0,x1,x2,x3,x4,x5]):∀ us,us.length=6->P us
 | [x0,x1,x2,x3,x4,x5],_=>k x0 x1 x2 x3 x4 x5
theorem u7 {P:List Value->Prop} (k:∀ x0 x1 x2 x3 x4 x5 x6,P [x0,x1,x2,x3,x4,x5,x6]):∀ us,us.length=7->P us
 | [x0,x1,x2,x3,x4,x5,x6],_=>k x0 x1 x2 x3 x4 x5 x6
theorem El {K:W.Frag} {mg:Str->Option Value} {c0 c1:Addr} (h:Txt K mg ⟨c0,c1⟩):∃ t,Txt K mg t:=⟨_,h⟩
end N14
open PySem PySem.W PyProof.Rows
set_option maxRecDepth 100000 in
set_option maxHeartbeats 0 in
theorem PySem.Challenge.cw_stylehouse_k14_plain_traits_holds : PySem.Challenge.rw_stylehouse_k14_plain_traits.Holds := by
 refine PySem.W.holds_law HD14.Gu fun said=>?_
 refine HD14.Gx said ?hw (by rfl) (by rfl) (by rfl) ?hc
 case hw=>w_witness2
 k_fill
 refine L2.xR (fun P=>rfl) ?_
 refine L2.xQ (l:=PySem.Challenge.rw_stylehouse_k14_plain_traits) (n:=63) (k:=8) (x:="_law_script") (CX:=L2.CX0) (sp:=N14.Af) rfl (by decide) rfl ⟨rfl,by decide,by decide⟩ (fun w h Y=>Y) ?F ?S ?C
 case F =>
  intro w mg fa h KX G hmg
  have T:∃ t,N14.Txt (L2.KOf KX) mg t:=by
   dsimp only [L2.KOf]
   refine' N14.El ?h
   case h =>
   constructor
   case v8=>exact PySem.W.mg_of KX G (by k_is)
   case AL=>exact PySem.W.mg_of KX G (by k_is)
   exact ⟨by k_is,by k_is,by k_is,by k_is⟩
   (show W.findIn _ _ _=_; k_is)
   exact ⟨by k_is,by k_is,by k_is,by k_is⟩
   iterate 7 ((show W.findIn _ _ _=_; k_is))
   iterate 5 (exact L2.Fn0.df ⟨_,_,_,_,_,_,_,_,_,by k_is,by k_is,by k_is,by k_is⟩ KX G fun _ _ _ _ _ _=>N14.u1 fun _=>rfl)
   exact L2.Le ⟨_,_,_,_,_,_,_,_,_,by k_is,by k_is,by k_is,by k_is⟩ KX G (fun _ _ _ _ _ _ s v=>.of_eq rfl)
   iterate 10 (exact L2.Fn0.df ⟨_,_,_,_,_,_,_,_,_,by k_is,by k_is,by k_is,by k_is⟩ KX G fun _ _ _ _ _ _=>N14.u2 fun _ _=>rfl)
   iterate 4 (exact L2.Fn0.df ⟨_,_,_,_,_,_,_,_,_,by k_is,by k_is,by k_is,by k_is⟩ KX G fun _ _ _ _ _ _=>N14.u3 fun _ _ _=>rfl)
   exact L2.Fn0.df ⟨_,_,_,_,_,_,_,_,_,by k_is,by k_is,by k_is,by k_is⟩ KX G fun _ _ _ _ _ _=>N14.u4 fun _ _ _ _=>rfl
   exact L2.Fn0.df ⟨_,_,_,_,_,_,_,_,_,by k_is,by k_is,by k_is,by k_is⟩ KX G fun _ _ _ _ _ _=>N14.u5 fun _ _ _ _ _=>rfl
   exact L2.Fn0.df ⟨_,_,_,_,_,_,_,_,_,by k_is,by k_is,by k_is,by k_is⟩ KX G fun _ _ _ _ _ _=>N14.u6 fun _ _ _ _ _ _=>rfl
   iterate 2 (exact L2.Fn0.df ⟨_,_,_,_,_,_,_,_,_,by k_is,by k_is,by k_is,by k_is⟩ KX G fun _ _ _ _ _ _=>N14.u7 fun _ _ _ _ _ _ _=>rfl)
   iterate 2 (exact L2.Li (by k_is) (by k_is) (by k_is) (by k_is) (by k_is) (by k_is) (by k_is) fun _ _ _ _ _ _=>N14.u2 fun _ _=>rfl)
   exact L2.zd (by k_is) (by k_is) (by k_is) (by k_is) (by k_is) fun _ _ _ _ _ _=>N14.u1 fun _=>rfl
   iterate 5 (exact L2.zd (by k_is) (by k_is) (by k_is) (by k_is) (by k_is) fun _ _ _ _ _ _=>N14.u2 fun _ _=>rfl)
   iterate 4 (exact L2.zd (by k_is) (by k_is) (by k_is) (by k_is) (by k_is) fun _ _ _ _ _ _=>N14.u3 fun _ _ _=>rfl)
   iterate 2 (exact L2.zd (by k_is) (by k_is) (by k_is) (by k_is) (by k_is) fun _ _ _ _ _ _=>N14.u4 fun _ _ _ _=>rfl)
   iterate 14 (exact PySem.W.mg_none_of KX G (by k_is))
   iterate 4 (exact ⟨_,PySem.W.mg_of KX G (by k_is)⟩)
  obtain ⟨t,T⟩:=T
  obtain ⟨a,d,Fl,ml,bl⟩:=T.Lu
  have e0:=hmg.symm.trans ml
  cases e0
  exact ⟨d,bl,fun base kb nb=>N14.CC T Fl⟩
 case S=>exact fun K H a ns hl hO hS=>⟨a,ns,rfl,hS,hl,fun _=>rfl⟩
 case C=>exact fun H s e s' z=>z
