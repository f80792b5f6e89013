import PyProof.Rows.All
import Wide.All
import OpenK.AllK
import Wide.FinOn
import Lean
import PyProof.EqAt
import PyProof.EqKinds
import PyProof.TupleCall
import PyProof.ZipIter
import PyProof.Rows.ZipGen
import PyProof.EnumIter
import PyProof.EnumFor
import PyProof.EnumMake
import PyProof.EnumStmt
import PyProof.SliceStr2
import PyProof.StrBlockI
import PyProof.MinMaxWalk
import PyProof.Rows.CallKwBuiltin
import PyProof.Rows.Range3
import KE.KRevIter
import PyProof.AttrMissHeap
import KE.KDictOf
import PyProof.FactsAll.range_2
import PyProof.P3Eq
import PyProof.DictWalks
import PyProof.Rows.SeqMore2
import PyProof.Rows.SortStr
import PySem.Challenge.RW_stylehouse_k16_ends
set_option Elab.async false
set_option linter.all false
set_option maxRecDepth 100000
theorem Zj {α:Type _} {a b:α} (h:some a=some b):a=b:=Option.some.inj h
theorem Zb {a b:Nat} (h:Nat.ble a b=true):a<=b:=Nat.le_of_ble_eq_true h
theorem Zf:false≠true:=Bool.false_ne_true
theorem Zm {α:Type _} {β:Type _} {f:α->β} {x:Option α} {b:β} (h:x.map f=some b):∃ a,x=some a/\f a=b:=Option.map_eq_some_iff.mp h
def Za:=@List.length_map
def Zc:=@List.mem_append_right
def Zd:=@List.mem_cons_of_mem
def Ze:=@List.mem_cons_self
def Zg:=@List.mem_append
def Zh:=@List.map_cons
def Zi:=@List.mem_cons
def Zk:=@List.map_append
def Zl:=@Nat.le_refl
def Zn:=@decide_eq_false
def Zo:=@PySem.wpAny_bind
def Zp:=@List.mem_append_left
def Zq:=@decide_eq_true
def Zr:=@List.mem_singleton
def Zs:=@PySem.Heap.lt_size
def Zt:=@List.size_toArray
def Zu:=@List.nodup_cons
def Zv:=@Nat.lt_of_lt_of_le
def Zw:=@List.map_congr_left
def Zx:=@Nat.ne_of_lt
def Zy:=@List.length_cons
def Zz:=@List.append_nil
def Z0:=@List.length_append
def Z1:=@List.length_take
def Z2:=@Nat.le_trans
def Z3:=@PySem.wpAny_pure
def Z4:=@Nat.zero_le
def Z5:=@PySem.W.Fast.te14364793385576792824
def Z6:=@List.mem_map
def Z7:=@List.map_map
def Z8:=@List.not_mem_nil
def Z9:=@congrArg
def Yb:=@Int.emod_lt_of_pos
def Yc:=@List.replicate_succ
def Yd:=@List.nodup_append
def Ye:=@Int.emod_nonneg
def Yg:=@PySem.mem_of_lookup
def Yh:=@List.flatMap_append
def Yi:=@List.mem_flatMap
def Yj:=@Option.bind_some
def Yk:=@PySem.wpAny_truthy_bool
def Yl:=@List.flatMap_cons
def Ym:=@Nat.lt_irrefl
def Yn:=@PySem.F.plainAttrs_list
def Yo:=@PySem.W.Fast.te10110043849684766642
def Yp:=@PySem.W.kia_one
def Yq:=@List.mem_map_of_mem
def Yr:=@PySem.wpAny_mono
def Ys:=@PyProof.Rows.callWith_type1
def Yt:=@List.mem_of_mem_take
def Yu:=@Option.isSome_iff_exists
def Yv:=@List.length_drop
def Yw:=@Bool.and_eq_true
def Yy:=@List.all_eq_true
def Yz:=@Nat.le_of_lt
def Y0:=@PySem.sizeLine_eq
def Y1:=@List.drop_eq_getElem_cons
def Y2:=@List.length_filter_le
def Y3:=@List.any_eq_true
def Y4:=@List.any_cons
def Y5:=@PySem.wpAny_comprehension_free
def Y6:=@List.idxOf_lt_length_iff
def Y7:=@PySem.Heap.size_push
def Y8:=@Bool.eq_iff_iff
def Y9:=@beq_eq_false_iff_ne
def Xa:=@Nat.lt_succ_self
def Xb:=@PySem.wpAny_Call_Name_kw
def Xc:=@List.nodup_nil
def Xd:=@PySem.F.slot_tuple_iterator_next
def Xe:=@Classical.choose_spec
def Xf:=@PySem.wpAny_passesOwn
def Xg:=@List.length_set
def Xh:=@List.flatten_cons
def Xi:=@List.mem_of_mem_drop
def Xj:=@Array.length_toList
def Xk:=@List.length_reverse
def Xm:=@List.mem_range
def Xn:=@List.getElem_mem
def Xo:=@PySem.wpAny_getItem_str_slice
def Xp:=@decide_eq_decide
def Xq:=@PySem.call_meets
def Xr:=@List.mem_filter
def Xs:=@Option.map_some
def Xu:=@List.take_append_drop
def Xv:=@List.reverse_cons
def Xw:=@PySem.wpAny_newObj_type
def Xx:=@of_decide_eq_true
def Xy:=@PySem.lookup_relabel_local
def Xz:=@List.drop_length
def X0:=@List.lookup_cons
def X1:=@Nat.sub_self
def X2:=@List.all_cons
def X3:=@List.map_take
def X4:=@List.map_drop
def X5:=@List.length_nil
def X6:=@List.filter_map
section
namespace L2
open PySem PySem.Spec PyProof.Rows
abbrev Key:=Sum Int Str
def p8:Key->Value->Bool
 | .inl k,v=>Value.isInt k v
 | .inr x,v=>Value.isStrOf x v
def Nq (w:World):Key->Int
 | .inl k=>hashInt k
 | .inr x=>hashStr w x
theorem br:∀ {k:Key} {v:Value},p8 k v=true->(∃ i t,k=Sum.inl i/\v=Value.int i t)\/(∃ x t,k=Sum.inr x/\v=Value.str x t)
 | .inl i,v,h=>by
  obtain ⟨t,e⟩:=Value.isInt_shape (k:=i) (v:=v) h;exact .inl ⟨i,t,rfl,e⟩
 | .inr x,v,h=>by
  obtain ⟨t,e⟩:=Value.isStrOf_shape (x:=x) (v:=v) h;exact .inr ⟨x,t,rfl,e⟩
theorem vL (i:Int) (t:Tok):p8 (.inl i) (.int i t)=true:=by simp [p8,Value.isInt]
theorem vK (x:Str) (t:Tok):p8 (.inr x) (.str x t)=true:=by simp [p8,Value.isStrOf]
theorem E6 (a b:Int):decide ((Sum.inl a:Key)=Sum.inl b)=(a == b):=by
 by_cases e:a=b
 · subst e; simp
 ·have h:¬ (Sum.inl a:Key)=Sum.inl b:=λ q=>e (Sum.inl.inj q)
  rw [Zn h];exact (Y9.mpr e).symm
theorem E3 (a b:Str):decide ((Sum.inr a:Key)=Sum.inr b)=decide (a=b):=by
 by_cases e:a=b
 · subst e; simp
 ·have h:¬ (Sum.inr a:Key)=Sum.inr b:=λ q=>e (Sum.inr.inj q)
  rw [Zn h,Zn e]
theorem E5 (a:Int) (b:Str):decide ((Sum.inl a:Key)=Sum.inr b)=false:=Zn (λ q=>nomatch q)
theorem E4 (a:Str) (b:Int):decide ((Sum.inr a:Key)=Sum.inl b)=false:=Zn (λ q=>nomatch q)
def bO (prog:Program) (w:World):PySem.KeyKind prog w Key where
 is:=p8
 hash:=Nq w
 inj:=λ v a b ha hb=>by
  rcases br ha with ⟨i,t,rfl,rfl⟩ | ⟨x,t,rfl,rfl⟩
  ·rcases br hb with ⟨j,u,rfl,e⟩ | ⟨y,u,rfl,e⟩
   · injection e with e1 _; rw [e1]
   · exact nomatch e
  ·rcases br hb with ⟨j,u,rfl,e⟩ | ⟨y,u,rfl,e⟩
   · exact nomatch e
   · injection e with e1 _; rw [e1]
 byValue:=λ k v h=>by
  rcases br h with ⟨i,t,rfl,rfl⟩ | ⟨x,t,rfl,rfl⟩ <;> rfl
 pyHash:=λ hv h=>by
  rcases br hv with ⟨i,t,rfl,rfl⟩ | ⟨x,t,rfl,rfl⟩
  · exact wpAny_pyHash_int h
  · exact wpAny_pyHash_str h
 eqBool:=λ hu hv h=>by
  rcases br hu with ⟨i,t,rfl,rfl⟩ | ⟨x,t,rfl,rfl⟩
  ·rcases br hv with ⟨j,u,rfl,rfl⟩ | ⟨y,u,rfl,rfl⟩
   · rw [E6] at h; exact wpAny_eqBool_int h
   · rw [E5] at h; exact SeqAt.EqAt.int_str i t y u _ _ _ _ h
  ·rcases br hv with ⟨j,u,rfl,rfl⟩ | ⟨y,u,rfl,rfl⟩
   · rw [E4] at h; exact SeqAt.EqAt.str_int x t j u _ _ _ _ h
   · rw [E3] at h; exact wpAny_eqBool_str h
 «strs»:=λ k x t v h=>by
  rcases br h with ⟨i,u,rfl,e⟩ | ⟨y,u,rfl,e⟩
  · exact nomatch e
  ·injection e with e1 _
   subst e1;cases v <;> rfl
theorem pW (prog:Program) (w:World) (i:Int) (t:Tok):(bO prog w).is (.inl i) (.int i t)=true:=vL i t
theorem pV (prog:Program) (w:World) (x:Str) (t:Tok):(bO prog w).is (.inr x) (.str x t)=true:=vK x t
end L2
namespace L2
open PySem PySem.Spec PyProof.Rows
inductive V where
 | non | bl (b:Bool) | int (i:Int) | str (x:Str) | byt (b:Array UInt8) | flt (b:UInt64) | ref (a:Addr) | ty (n:String)
 deriving DecidableEq
def RelV:V->Value->Prop
 | .non,u=>u=Value.none
 | .bl b,u=>u=Value.bool b
 | .int i,u=>∃ t,u=Value.int i t
 | .str x,u=>∃ t,u=Value.str x t
 | .byt b,u=>∃ t,u=Value.bytes b t
 | .flt b,u=>∃ t,u=Value.float b t
 | .ref a,u=>u=Value.ref a
 | .ty n,u=>u=Value.type n
abbrev bG:List V->List Value->Prop:=Paired RelV
theorem bG.length (r:bG xs us):xs.length=us.length:=Paired.length r
theorem bG.get:∀ {xs:List V} {us:List Value} {i:Nat} {x:V},bG xs us->xs[i]?=some x->∃ u,us[i]?=some u/\RelV x u
 | _,_,_,_,.nil,e=>by simp at e
 | _,_,0,_,.cons r _,e=>by simp at e; subst e; exact ⟨_,rfl,r⟩
 | _,_,i+1,x,.cons _ t,e=>by
  obtain ⟨u,h1,h2⟩:=bG.get (i:=i) (x:=x) t (by simpa using e);exact ⟨u,by simpa using h1,h2⟩
theorem bG.append:∀ {xs ys:List V} {us ws:List Value},bG xs us->bG ys ws->bG (xs++ys) (us++ws)
 | _,_,_,_,.nil,s=>s
 | _,_,_,_,.cons r t,s=>.cons r (bG.append t s)
theorem bG.take:∀ {xs:List V} {us:List Value} (n:Nat),bG xs us->bG (xs.take n) (us.take n)
 | _,_,0,_=>.nil
 | _,_,_+1,.nil=>.nil
 | _,_,n+1,.cons r t=>.cons r (bG.take n t)
theorem bG.drop:∀ {xs:List V} {us:List Value} (n:Nat),bG xs us->bG (xs.drop n) (us.drop n)
 | _,_,0,r=>r
 | _,_,_+1,.nil=>.nil
 | _,_,n+1,.cons _ t=>bG.drop n t
def pe:Option V->Option Value->Prop
 | some v,some u=>RelV v u
 | none,none=>True
 | _,_=>False
def KV {κ:Type}:List (κ×V)->List (κ×Value)->Prop:=Paired λ (p:κ×V) (q:κ×Value)=>p.1=q.1/\RelV p.2 q.2
def kV:Key->V
 | .inl i=>.int i
 | .inr x=>.str x
inductive HO where
 | lst (xs:List V)
 | tup (xs:List V)
 | dK (kvs:List (Key×V)) | dT (kvs:List (List Key×V))
 | set (S:Int->Bool) (n:Nat)
 | ins (C dx:Addr) (fs:List (Str×V))
 | own (x:Addr)
 | xd (fs:List (Str×V))
 | met (f x:Addr)
 | rng (lo hi:Int)
 | frz (o:Obj) (u:HO)
 | tbl (ps:Array Value)
 | ext (φ:Heap->Prop)
abbrev Hp:=Addr->Option HO
def upd (H:Hp) (a:Addr) (o:HO):Hp:=λ b=>if b=a then some o else H b
theorem aw:upd H a o a=some o:=by unfold upd; rw [if_pos rfl]
theorem ar (h:b≠a):upd H a o b=H b:=by unfold upd; rw [if_neg h]
theorem Ap:upd (upd H a o) a u=upd H a u:=by
 funext b; unfold upd; split <;> rfl
theorem J1 {H:Hp} {a b:Addr} {o u:HO} (h:H a=some o) (h':H b=some u) (d:o≠u):a≠b:=by
 intro e; subst e; rw [h] at h'; exact d (Zj h')
theorem du {H:Hp} {a b:Addr} {o:HO} (h:H a=some o) (h':H b=none):a≠b:=by
 intro e; subst e; rw [h] at h'; cases h'
section
variable (P:Program) (w:World)
def cw (H:Hp) (h:Heap) (a:Addr):HO->Prop
 | .lst xs=>xs.length<=sizeLine/\∃ (its:List Value) (n:Nat),bG xs its/\h.get? a=some { cls:=.type "list",data:=.seq its.toArray n }
 | .tup xs=>xs.length<=sizeLine/\∃ its:List Value,bG xs its/\IsTup h a its.toArray
 | .dK kvs=>kvs.length<=sizeLine/\(a == sysModules)=false/\∃ vs,KV kvs vs/\h.DictOf (bO P w) a vs
 | .dT kvs=>kvs.length<=sizeLine/\(a == sysModules)=false/\∃ xs:List (List Key×Addr×Value),
  Paired (λ (p:List Key×V) (q:List Key×Addr×Value)=>p.1=q.1/\H q.2.1=some (.tup (p.1.map kV))/\RelV p.2 q.2.2) kvs xs /\
  ∃ o es ep,h.get? a=some o/\o.ExactDict/\o.data=.dict es ep/\es.toList=xs.map (entryOfKey (tupleKind (bO P w)))/\(xs.map (·.1)).Nodup
 | .set S n=>h.SetOf (intKind P w) a S n
 | .ins C dx fs=>H dx=some (.own a)/\fs.length<=1000/\dx≠a/\h.get? a=some (PySem.W.instObj C dx) /\
  ∃ mA,h.Ns1 dx mA/\(∀ f,pe (fs.lookup f) (mA f))/\PySem.Within mA (fs.map (·.1))
 | .own _=>∃ o,h.get? a=some o
 | .xd fs=>∃ mA,h.Ns1 a mA/\∀ f,pe (fs.lookup f) (mA f)
 | .rng lo hi=>∃ t u v,h.get? a=some { cls:=.type "range",data:=.fields #[.int lo t,.int hi u,.int 1 v] }
 | .frz o u=>h.get? a=some o/\cw H h a u
 | .tbl ps=>h.get? a=some { cls:=.none,data:=.fields ps }
 | .met f x=>h.get? a=some (PySem.W.methodObj (.ref f) (.ref x))
 | .ext φ=>φ h/\(∃ o,h.get? a=some o)/\∀ h1 h2:Heap,φ h1->(∀ o,h1.get? a=some o->h2.get? a=some o)->φ h2
def HOk (H:Hp) (h:Heap):Prop:=∀ a o,H a=some o->cw P w H h a o
end
section
variable {P:Program} {w:World} {H H':Hp} {h h':Heap} {a:Addr} {o:HO}
theorem cw.lt (x:cw P w H h a o):a < h.objs.size:=by
 cases o with
 | lst xs=>obtain ⟨_,_,_,_,e⟩:=x; exact Zs e
 | tup xs=>obtain ⟨_,_,_,p⟩:=x; exact p.lt
 | dK kvs=>obtain ⟨_,_,_,_,o,_,_,e,_⟩:=x; exact Zs e
 | dT kvs=>obtain ⟨_,_,_,_,o,_,_,e,_⟩:=x; exact Zs e
 | set S n=>obtain ⟨o,_,_,_,e,_⟩:=x; exact Zs e
 | ins C dx fs=>obtain ⟨_,_,_,e,_⟩:=x; exact Zs e
 | own y=>obtain ⟨_,e⟩:=x; exact Zs e
 | xd fs=>obtain ⟨_,⟨_,_,_,e,_⟩,_⟩:=x; exact Zs e
 | rng lo hi=>obtain ⟨_,_,_,e⟩:=x; exact Zs e
 | frz ob u=>obtain ⟨e,_⟩:=x; exact Zs e
 | tbl ps=>exact Zs (show h.get? a=some _ from x)
 | met f y=>exact Zs (show h.get? a=some _ from x)
 | ext φ=>obtain ⟨_,⟨_,e⟩,_⟩:=x; exact Zs e
theorem Paired.Kg {α β:Type} {F G:α->β->Prop}:∀ {l₁:List α} {l₂:List β},Paired F l₁ l₂->(∀ a b,F a b->G a b)->Paired G l₁ l₂
 | _,_,.nil,_=>.nil
 | _,_,.cons r t,f=>.cons (f _ _ r) (Paired.Kg t f)
theorem cw.ux (x:cw P w H h a o) (k:∀ b u,(b=a\/H b=some (.own a))->h.get? b=some u->h'.get? b=some u)
  (ho:∀ b,H b=some (.own a)->H' b=some (.own a)) (ht:∀ b xs,H b=some (.tup xs)->H' b=some (.tup xs)):cw P w H' h' a o:=by
 induction o with
 | lst xs=>obtain ⟨z,its,n,r,e⟩:=x; exact ⟨z,its,n,r,k _ _ (.inl rfl) e⟩
 | tup xs=>obtain ⟨z,its,r,ob,e,c⟩:=x; exact ⟨z,its,r,ob,k _ _ (.inl rfl) e,c⟩
 | dK kvs=>obtain ⟨z,y,vs,r,ob,es,ep,e,c⟩:=x; exact ⟨z,y,vs,r,ob,es,ep,k _ _ (.inl rfl) e,c⟩
 | dT kvs =>
  obtain ⟨z,y,xs,r,ob,es,ep,e,c⟩:=x;exact ⟨z,y,xs,Paired.Kg r λ p q z=>⟨z.1,ht _ _ z.2.1,z.2.2⟩,ob,es,ep,k _ _ (.inl rfl) e,c⟩
 | set S n=>obtain ⟨ob,es,ep,t,e,c⟩:=x; exact ⟨ob,es,ep,t,k _ _ (.inl rfl) e,c⟩
 | ins C dx fs =>
  obtain ⟨d,z,ne,e,mA,⟨od,es,ep,e2,c⟩,r⟩:=x;exact ⟨ho _ d,z,ne,k _ _ (.inl rfl) e,mA,⟨od,es,ep,k _ _ (.inr d) e2,c⟩,r⟩
 | own y=>obtain ⟨ob,e⟩:=x; exact ⟨ob,k _ _ (.inl rfl) e⟩
 | xd fs=>obtain ⟨mA,⟨od,es,ep,e,c⟩,r⟩:=x; exact ⟨mA,⟨od,es,ep,k _ _ (.inl rfl) e,c⟩,r⟩
 | rng lo hi=>obtain ⟨t,u,v,e⟩:=x; exact ⟨t,u,v,k _ _ (.inl rfl) e⟩
 | frz ob u ih=>obtain ⟨e,q⟩:=x; exact ⟨k _ _ (.inl rfl) e,ih q⟩
 | tbl ps =>
  have e:h.get? a=some { cls:=.none,data:=.fields ps }:=x;show h'.get? a=some { cls:=.none,data:=.fields ps };exact k a _ (.inl rfl) e
 | met f y =>
  have e:h.get? a=some (PySem.W.methodObj (.ref f) (.ref y)):=x;show h'.get? a=some (PySem.W.methodObj (.ref f) (.ref y));exact k a _ (.inl rfl) e
 | ext φ=>obtain ⟨p,⟨o,e⟩,st⟩:=x; exact ⟨st _ _ p λ o q=>k _ _ (.inl rfl) q,⟨o,k _ _ (.inl rfl) e⟩,st⟩
theorem HOk.lt (x:HOk P w H h) (e:H a=some o):a < h.objs.size:=(x a o e).lt
theorem HOk.fresh (x:HOk P w H h) (e:h.objs.size<=a):H a=none:=by
 cases q:H a with
 | none=>rfl
 | some u=>exact absurd (Zv (x.lt q) e) (Ym _)
theorem HOk.kept (x:HOk P w H h) (k:∀ b u,h.get? b=some u->h'.get? b=some u):HOk P w H h':=λ a o e =>
 (x a o e).ux (λ b u _ q=>k b u q) (λ _ q=>q) λ _ _ q=>q
theorem HOk.laid (x:HOk P w H h) (k:∀ b u,h.get? b=some u->h'.get? b=some u) (hp:h.objs.size<=a) (new:cw P w (upd H a o) h' a o):HOk P w (upd H a o) h':=λ b u e=>by
 have hn:=x.fresh hp
 by_cases hb:b=a
 · subst hb; rw [aw] at e; cases e; exact new
 ·rw [ar hb] at e
  exact (x b u e).ux (λ c v _ q=>k c v q) (λ c q=>by rw [ar (du q hn)]; exact q) λ c xs q=>by rw [ar (du q hn)]; exact q
end
def Rd (H:Hp) (a:Addr) (u:HO):Prop:=H a=some u\/∃ o,H a=some (.frz o u)
theorem Rd.ok (r:Rd H a u) (x:HOk P w H h):cw P w H h a u:=by
 rcases r with r | ⟨o,r⟩
 · exact x a u r
 ·obtain ⟨_,q⟩:=x a _ r
  exact q
def Mut:Option HO->Prop
 | some (.lst _)=>True
 | some (.dK _)=>True
 | some (.dT _)=>True
 | some (.set _ _)=>True
 | some (.ins _ _ _)=>True
 | some (.ext _)=>True
 | _=>False
section
variable {P:Program} {w:World} {H:Hp} {h h':Heap} {x e:Addr} {o':HO}
theorem HOk.write (ok:HOk P w H h) (mu:Mut (H x)) (he:e=x\/H e=some (.own x)) (k:∀ b u,b≠e->h.get? b=some u->h'.get? b=some u) (heo:∃ u,h'.get? e=some u)
  (new:cw P w (upd H x o') h' x o'):HOk P w (upd H x o') h':=λ b u q=>by
 have nown:∀ c y,H c=some (.own y)->c≠x:=λ c y r z=>by subst z; rw [r] at mu; exact mu
 have ntup:∀ c xs,H c=some (.tup xs)->c≠x:=λ c xs r z=>by subst z; rw [r] at mu; exact mu
 by_cases hb:b=x
 · subst hb; rw [aw] at q; cases q; exact new
 ·rw [ar hb] at q
  by_cases hbe:b=e
  ·have q':H b=some (.own x):=by
    rcases he with z | z
    · exact absurd (hbe.trans z) hb
    · rw [hbe]; exact z
   rw [q] at q'; cases q'
   obtain ⟨v,hv⟩:=heo;exact ⟨v,by rw [hbe]; exact hv⟩
  ·refine (ok b u q).ux (λ c v hc r=>k c v ?_ r) (λ c r=>by rw [ar (nown c b r)]; exact r) λ c xs r=>by rw [ar (ntup c xs r)]; exact r
   rcases hc with rfl | hc
   · exact hbe
   ·rintro rfl
    rcases he with z | z
    · exact nown c b hc z
    · rw [hc] at z; cases z; exact hb rfl
end
structure Un (fs ex:List Addr) (H H':Hp) (h h':Heap):Prop where
 keep:∀ b o,h.get? b=some o->H b=none->b ∉ fs->b ∉ ex->h'.get? b=some o
 slot:∀ b o,h.get? b=some o->H b=none->b ∈ fs->b ∉ ex->∃ sl,h'.get? b=some { o with slots:=sl }
 free:∀ b o,h.get? b=some o->H b=none->b ∉ ex->H' b=none
 there:∀ b o,h.get? b=some o->b ∉ ex->∃ o',h'.get? b=some o'
 xr:∀ b xs,H b=some (.tup xs)->H' b=some (.tup xs)
 wc:∀ b o u,H b=some (.frz o u)->H' b=some (.frz o u)
 xt:∀ b ps,H b=some (.tbl ps)->∃ more,H' b=some (.tbl (ps++more))
section
variable {fs fs' ex ex':List Addr} {H H1 H2:Hp} {h h1 h2 h':Heap} {a x e:Addr} {o:HO}
theorem Un.any (u:Un fs ex H H1 h h1) (q:h.get? b=some ob) (n:H b=none) (hx:b ∉ ex):∃ sl,h1.get? b=some { ob with slots:=sl }:=by
 by_cases hb:b ∈ fs
 · exact u.slot b ob q n hb hx
 · exact ⟨ob.slots,u.keep b ob q n hb hx⟩
theorem Un.kept (k:∀ b u,h.get? b=some u->h'.get? b=some u):Un fs ex H H h h' :=
 ⟨λ b ob q _ _ _=>k b ob q,λ b ob q _ _ _=>⟨ob.slots,k b ob q⟩,λ _ _ _ n _=>n,λ b ob q _=>⟨ob,k b ob q⟩,λ _ _ q=>q,λ _ _ _ q=>q,λ _ ps q=>⟨#[],by rw [q]; simp⟩⟩
theorem Un.refl:Un fs ex H H h h:=Un.kept λ _ _ q=>q
theorem Un.laid (k:∀ b u,h.get? b=some u->h'.get? b=some u) (hp:h.objs.size<=a) (hn:H a=none):Un fs ex H (upd H a o) h h' where
 keep:=λ b u q _ _ _=>k b u q
 slot:=λ b u q _ _ _=>⟨u.slots,k b u q⟩
 free:=λ b u q n _=>by rw [ar (Zx (Zv (Zs q) hp))]; exact n
 there:=λ b u q _=>⟨u,k b u q⟩
 xr:=λ b xs q=>by rw [ar (du q hn)]; exact q
 wc:=λ b u xs q=>by rw [ar (du q hn)]; exact q
 xt:=λ b ps q=>⟨#[],by rw [ar (du q hn),q]; simp⟩
theorem Un.write (mu:Mut (H x)) (he:e=x\/H e=some (.own x)) (k:∀ b u,b≠e->h.get? b=some u->h'.get? b=some u) (heo:∃ u,h'.get? e=some u):Un fs ex H (upd H x o) h h':=by
 have hx:∀ b,H b=none->b≠x:=λ b n z=>by subst z; rw [n] at mu; exact mu
 have hb:∀ b,H b=none->b≠e:=λ b n z=>by
  subst z;rcases he with r | r
  · exact hx b n r
  · rw [n] at r; cases r
 have hm:∀ b u,H b=some u->¬ Mut (some u)->b≠x:=λ b u q nm z=>by subst z; rw [q] at mu; exact nm mu
 refine ⟨λ b u q n _ _=>k b u (hb b n) q,λ b u q n _ _=>⟨u.slots,k b u (hb b n) q⟩,λ b u q n _=>by rw [ar (hx b n)]; exact n,λ b u q _=>?_,
  λ b xs q=>by rw [ar (hm b _ q λ z=>z)]; exact q,λ b u xs q=>by rw [ar (hm b _ q λ z=>z)]; exact q,λ b ps q=>⟨#[],by rw [ar (hm b _ q λ z=>z),q]; simp⟩⟩
 by_cases hbe:b=e
 · subst hbe; exact heo
 · exact ⟨u,k b u hbe q⟩
end
def trk (h:Heap) (H:Hp):List Addr:=(List.range h.objs.size).filter λ a=>(H a).isSome
def yK (h:Heap) (H:Hp):Heap:=PySem.W.hideAll h (trk h H)
theorem v7 (h:Heap) (H:Hp):(yK h H).objs.size=h.objs.size:=PySem.W.hideAll_size _ _
theorem yJ (e:h.get? b=some o) (n:H b=none):(yK h H).get? b=some o :=
 PySem.W.hideAll_get _ e λ hm=>by
  have q:(H b).isSome=true:=(Xr.mp hm).2;rw [n] at q; simp at q
theorem Bo (e:(yK h H).get? b=some o):h.get? b=some o/\H b=none:=by
 have e':h.get? b=some o:=PySem.W.of_hideAll (trk h H) e;refine ⟨e',?_⟩
 cases q:H b with
 | none=>rfl
 | some x =>
  have hm:b ∈ trk h H:=Xr.mpr ⟨Xm.mpr (Zs e'),by simp [q]⟩;have z:(yK h H).get? b=none:=PySem.W.hideAll_none (trk h H) hm;rw [z] at e; cases e
end L2
namespace L2
open PySem PySem.Spec PyProof.Rows
structure Mod (K:W.Frag) (mg:Str->Option Value) (base:Heap):Prop where
 kin:K.In base
 glob:base.Ns mainGlobals mg
 blt:∃ mb,base.Ns builtinsNs mb/\∀ x:Str,x≠"__name__"->mb x=bootBuiltins x
 nolimit:base.NoLimit
structure Cx where
 prog:Program
 w:World
 K:W.Frag
 mg:Str->Option Value
 base:Heap
 A:Around
 N:List Str
 s₀:Shared
 H₀:Hp
 env:Env
 outer:List Env
 stack:List Env
 ex:List Addr
 fn:Str->Bool
 calm:Bool
 pn:List (Addr×Obj)
 xe:Value->Shared->Prop
def frs (l:List Env):List Addr:=l.filterMap (·.frame)
abbrev Cx.fs (X:Cx):List Addr:=frs X.outer
def Vis (sc:Scope) (x:Str):Prop:=sc.names.lookup x=some .local\/sc.names.lookup x=some .cell\/sc.names.lookup x=some .free
def Loc (sc:Scope) (x:Str):Prop:=sc.names.lookup x=some .local\/sc.names.lookup x=some .cell
def Look (env:Env) (h:Heap) (m:Str->Option Value) (x:Str) (u:Value):Prop :=
 (env.kindOf x=some .local/\m x=some u)\/((env.kindOf x=some .cell\/env.kindOf x=some .free)/\∃ c,env.cells.lookup x=some c/\h.IsCell c (some u))
structure Cx.Ok (X:Cx):Prop where
 mod:Mod X.K X.mg X.base
 kind:X.env.scope.kind=.function
 glob:X.env.globals=mainGlobals
 blt:X.env.builtins=builtinsNs
 above:X.s₀.heap.objs.size<=X.env.locals
 inj:∀ x y c,X.env.cells.lookup x=some c->X.env.cells.lookup y=some c->x=y
 has:∀ x,(X.env.kindOf x=some .cell\/X.env.kindOf x=some .free)->∃ c,X.env.cells.lookup x=some c
 cab:∀ x c,X.fn x=true->X.env.cells.lookup x=some c->X.s₀.heap.objs.size<=c
 hd:X.calm=true->X.A.handled=none
 frames:X.A.frames=some X.stack
 stk:X.stack=X.outer\/(X.stack=X.env::X.outer/\X.env.frame=some X.env.locals)
 exf:∀ b ∈ X.ex,b≠X.env.locals/\∀ x c,X.env.cells.lookup x=some c->c≠b
 bs:∀ b o,X.base.get? b=some o->X.s₀.heap.get? b=some o/\X.H₀ b=none
 bsz:X.base.objs.size<=X.s₀.heap.objs.size
 C8:∀ b o,X.base.get? b=some o->b ∉ X.ex
 He:∀ b ∈ X.ex,b ∉ X.fs
 uf:X.s₀.heap.FunFrames X.base X.outer
 frf:∀ b ∈ X.fs,X.H₀ b=none
structure Inv (X:Cx) (pins:List (Addr×Obj)) (σ:List (Option V)) (H:Hp) (s:Shared):Prop where
 ok:X.Ok
 os:s.os=X.s₀.os
 bare:AllBare s.gens
 base:Un X.fs X.ex X.H₀ H X.s₀.heap s.heap
 loc:∃ m,s.heap.Ns X.env.locals m/\∀ (i:Nat) (x:Str) (v:V),X.N[i]?=some x->σ[i]?=some (some v)->Vis X.env.scope x->∃ u,RelV v u/\Look X.env s.heap m x u
 cell:∀ x c,X.env.cells.lookup x=some c->∃ v,s.heap.IsCell c v
 free:H X.env.locals=none
 j9:∀ x c,X.env.cells.lookup x=some c->H c=none
 pin:∀ p ∈ X.pn++pins,s.heap.get? p.1=some p.2/\H p.1=none/\p.1≠X.env.locals/\p.1 ∉ X.fs/\∀ v,p.2.data≠.cell v
 hok:HOk X.prog X.w H s.heap
 len:σ.length=X.N.length
section
variable {X:Cx} {pins:List (Addr×Obj)} {σ:List (Option V)} {H H':Hp} {s:Shared} {h':Heap}
theorem Cx.Ok.MU (ok:X.Ok) (e:X.base.get? b=some o):b ∉ X.fs:=λ hb=>by
 have:=(ok.uf.mem hb).1;rw [e] at this; cases this
theorem Inv.bs (I:Inv X pins σ H s):∀ b o,X.base.get? b=some o->s.heap.get? b=some o/\H b=none:=λ b o e =>
 ⟨I.base.keep b o (I.ok.bs b o e).1 (I.ok.bs b o e).2 (I.ok.MU e) (I.ok.C8 b o e),I.base.free b o (I.ok.bs b o e).1 (I.ok.bs b o e).2 (I.ok.C8 b o e)⟩
theorem Inv.bk (I:Inv X pins σ H s):∀ b o,X.base.get? b=some o->s.heap.get? b=some o:=λ b o e=>(I.bs b o e).1
theorem Inv.mod (I:Inv X pins σ H s):Mod X.K X.mg X.base:=I.ok.mod
theorem Inv.kIn (I:Inv X pins σ H s):X.K.In s.heap:=I.ok.mod.kin.keeps I.bk
theorem Inv.lt (I:Inv X pins σ H s):X.env.locals < s.heap.objs.size:=let ⟨_,hn,_⟩:=I.loc; hn.lt
theorem Inv.sz (I:Inv X pins σ H s):X.s₀.heap.objs.size<=s.heap.objs.size:=Z2 I.ok.above (Yz I.lt)
theorem Inv.MT (I:Inv X pins σ H s) (h:s.heap.objs.size<=a):a ∉ X.fs:=λ hb=>by
 obtain ⟨_,o,ho,_⟩:=I.ok.uf.mem hb;exact absurd (Zv (Zs ho) (Z2 I.sz h)) (Ym _)
theorem Inv.cne (I:Inv X pins σ H s):∀ x c,X.env.cells.lookup x=some c->c≠X.env.locals:=λ x c e z=>by
 obtain ⟨v,o,ho,hd⟩:=I.cell x c e;obtain ⟨m,⟨o',es,ep,ho',hd',_⟩,_⟩:=I.loc;rw [z,ho'] at ho; cases ho; rw [hd'] at hd; cases hd
theorem Inv.uf (I:Inv X pins σ H s):s.heap.FunFrames X.base X.outer:=by
 have all:∀ (l:List Env),(∀ b ∈ frs l,b ∈ X.fs)->X.s₀.heap.FunFrames X.base l->s.heap.FunFrames X.base l:=by
  intro l
  induction l with
  | nil=>intro _ _; trivial
  | cons env r ih =>
   intro hs hl;obtain ⟨hk,⟨L,o,hf,hn,ho,hd⟩,hr⟩:=hl;have hL:L ∈ X.fs:=hs L (by unfold frs; rw [List.filterMap_cons,hf]; exact Ze);obtain ⟨sl,e⟩:=I.base.slot L o ho (I.ok.frf L hL) hL λ z=>I.ok.He L z hL
   exact ⟨hk,⟨L,_,hf,hn,e,hd⟩,ih (λ b hb=>hs b (by unfold frs; rw [List.filterMap_cons,hf]; exact Zd _ hb)) hr⟩
 exact all X.outer (λ _ hb=>hb) I.ok.uf
theorem Inv.stack (I:Inv X pins σ H s):s.heap.FunFrames X.base X.stack:=by
 rcases I.ok.stk with e | ⟨e,hf⟩
 · rw [e]; exact I.uf
 ·rw [e]
  obtain ⟨m,hn,_⟩:=I.loc;refine .cons (by rw [I.ok.kind]; decide) hf hn ?_ I.uf;exact Heap.get?_none_of_le (Z2 I.ok.bsz I.ok.above)
theorem Inv.lq (I:Inv X pins σ H s):∀ b ∈ frs X.stack,b ∈ X.env.locals::X.fs:=λ b hb=>by
 rcases I.ok.stk with e | ⟨e,hf⟩
 · rw [e] at hb; exact Zd _ hb
 ·rw [e] at hb
  unfold frs at hb;rw [List.filterMap_cons,hf] at hb;exact hb
theorem Inv.pA (I:Inv X pins σ H s):∀ b ∈ frs X.stack,H b=none:=λ b hb=>by
 rcases Zi.mp (I.lq b hb) with e | hb
 · rw [e]; exact I.free
 ·obtain ⟨_,o,ho,_⟩:=I.ok.uf.mem hb
  exact I.base.free b o ho (I.ok.frf b hb) λ z=>I.ok.He b z hb
theorem Inv.step {g':Array GenState} {t':Nat} {d':Drawn} {ch:List Addr} (I:Inv X pins σ H s)
  (hch:∀ b ∈ ch,(b ∈ X.ex\/X.s₀.heap.objs.size<=b)/\b≠X.env.locals/\(∀ x c,X.env.cells.lookup x=some c->c≠b)/\∀ p ∈ X.pn++pins,p.1≠b)
  (keep:∀ b o,b≠X.env.locals->b ∉ X.fs->b ∉ ch->s.heap.get? b=some o->H b=none->h'.get? b=some o)
  (slot:∀ b o,b≠X.env.locals->b ∈ X.fs->b ∉ ch->s.heap.get? b=some o->H b=none->∃ sl,h'.get? b=some { o with slots:=sl }) (free:∀ b o,b ∉ ch->s.heap.get? b=some o->H b=none->H' b=none)
  (there:∀ b o,b ∉ ch->s.heap.get? b=some o->∃ o',h'.get? b=some o')
  (xr:∀ b xs,H b=some (.tup xs)->H' b=some (.tup xs)) (wc:∀ b o u,H b=some (.frz o u)->H' b=some (.frz o u)) (xt:∀ b ps,H b=some (.tbl ps)->∃ more,H' b=some (.tbl (ps++more)))
  (ns:∀ m,s.heap.Ns X.env.locals m->h'.Ns X.env.locals m) (hok:HOk X.prog X.w H' h') (hg:AllBare g') :
  Inv X pins σ H' { s with heap:=h',gens:=g',drawn:=d',toks:=t' }:=by
 have neL:∀ b o,X.s₀.heap.get? b=some o->b≠X.env.locals:=λ b o e=>Zx (Zv (Zs e) I.ok.above)
 have neC:∀ b o,X.s₀.heap.get? b=some o->b ∉ X.ex->b ∉ ch:=λ b o e hx hb=>by
  rcases (hch b hb).1 with z | z
  · exact hx z
  · exact absurd (Zv (Zs e) z) (Ym _)
 have cellK:∀ x c,X.env.cells.lookup x=some c->∀ v,s.heap.IsCell c v->h'.IsCell c v:=λ x c e v ⟨o,ho,hd⟩=>by
  have nch:c ∉ ch:=λ z=>(hch c z).2.2.1 x c e rfl
  by_cases hc:c ∈ X.fs
  ·obtain ⟨sl,q⟩:=slot c o (I.cne x c e) hc nch ho (I.j9 x c e)
   exact ⟨_,q,hd⟩
  · exact ⟨o,keep c o (I.cne x c e) hc nch ho (I.j9 x c e),hd⟩
 refine ⟨I.ok,I.os,hg,⟨λ b o e n hb hx=>?_,λ b o e n hb hx=>?_,λ b o e n hx=>?_,λ b o e hx=>?_,λ b xs e=>xr b xs (I.base.xr b xs e),λ b o xs e=>wc b o xs (I.base.wc b o xs e),λ b ps e=>?_⟩,?_,λ x c e=>?_,?_,λ x c e=>?_,λ p hp=>?_,hok,I.len⟩
 · exact keep b o (neL b o e) hb (neC b o e hx) (I.base.keep b o e n hb hx) (I.base.free b o e n hx)
 ·obtain ⟨sl,e1⟩:=I.base.slot b o e n hb hx
  obtain ⟨sl',e2⟩:=slot b _ (neL b o e) hb (neC b o e hx) e1 (I.base.free b o e n hx);exact ⟨sl',e2⟩
 ·obtain ⟨o',e1⟩:=I.base.there b o e hx
  exact free b o' (neC b o e hx) e1 (I.base.free b o e n hx)
 ·obtain ⟨o',e1⟩:=I.base.there b o e hx
  exact there b o' (neC b o e hx) e1
 ·obtain ⟨m1,e1⟩:=I.base.xt b ps e
  obtain ⟨m2,e2⟩:=xt b _ e1;exact ⟨m1++m2,by rw [e2,Array.append_assoc]⟩
 ·obtain ⟨m,hn,hl⟩:=I.loc
  refine ⟨m,ns m hn,λ i x v e1 e2 e3=>?_⟩;obtain ⟨u,r,l⟩:=hl i x v e1 e2 e3;refine ⟨u,r,?_⟩;rcases l with l | ⟨k,c,e,z⟩
  · exact .inl l
  · exact .inr ⟨k,c,e,cellK x c e _ z⟩
 ·obtain ⟨v,z⟩:=I.cell x c e
  exact ⟨v,cellK x c e v z⟩
 ·obtain ⟨m,⟨o,_,_,ho,_⟩,_⟩:=I.loc
  exact free _ o (λ z=>(hch _ z).2.1 rfl) ho I.free
 ·obtain ⟨v,o,ho,hd⟩:=I.cell x c e
  exact free c o (λ z=>(hch c z).2.2.1 x c e rfl) ho (I.j9 x c e)
 ·obtain ⟨e,n,ne,nf,d⟩:=I.pin p hp
  have nch:p.1 ∉ ch:=λ z=>(hch p.1 z).2.2.2 p hp rfl
  exact ⟨keep p.1 p.2 ne nf nch e n,free p.1 p.2 nch e n,ne,nf,d⟩
theorem Inv.un {t':Nat} (I:Inv X pins σ H s) (u:Un X.fs [] H H' s.heap h') (hok:HOk X.prog X.w H' h'):Inv X pins σ H' { s with heap:=h',toks:=t' }:=by
 obtain ⟨m,⟨o,es,ep,ho,r⟩,_⟩:=id I.loc;obtain ⟨sl,hL⟩:=u.any ho I.free (by simp)
 exact I.step (g':=s.gens) (d':=s.drawn) (ch:=[]) (λ _ z=>nomatch z) (λ b o _ hb _ e n=>u.keep b o e n hb (by simp)) (λ b o _ hb _ e n=>u.slot b o e n hb (by simp)) (λ b o _ e n=>u.free b o e n (by simp)) (λ b o _ e=>u.there b o e (by simp)) u.xr u.wc u.xt (λ m' hm=>by
  obtain ⟨o',es',ep',ho',r'⟩:=hm;rw [ho] at ho'; cases ho'
  exact ⟨_,es',ep',hL,r'⟩) hok I.bare
theorem Inv.call {g':Array GenState} {t':Nat} {d':Drawn} {ch:List Addr} (I:Inv X pins σ H s) (u:Un (frs X.stack) ch H H' s.heap h') (hok:HOk X.prog X.w H' h') (hg:AllBare g')
  (hch:∀ b ∈ ch,(b ∈ X.ex\/X.s₀.heap.objs.size<=b)/\b≠X.env.locals/\(∀ x c,X.env.cells.lookup x=some c->c≠b)/\∀ p ∈ X.pn++pins,p.1≠b) :
  Inv X pins σ H' { s with heap:=h',gens:=g',drawn:=d',toks:=t' }:=by
 obtain ⟨m,⟨o,es,ep,ho,r⟩,_⟩:=id I.loc;obtain ⟨sl,hL⟩:=u.any ho I.free λ z=>(hch _ z).2.1 rfl
 exact I.step (ch:=ch) hch (λ b o hL hb hc e n=>u.keep b o e n (λ z=>(Zi.mp (I.lq b z)).elim hL hb) hc) (λ b o _ _ hc e n=>u.any e n hc) (λ b o hc e n=>u.free b o e n hc) (λ b o hc e=>u.there b o e hc) u.xr u.wc u.xt (λ m' hm=>by
  obtain ⟨o',es',ep',ho',r'⟩:=hm;rw [ho] at ho'; cases ho'
  exact ⟨_,es',ep',hL,r'⟩) hok hg
theorem Inv.turned {t':Nat} {it:Addr} (I:Inv X pins σ H s) (k:∀ b o,b≠it->s.heap.get? b=some o->h'.get? b=some o) (hn:H it=none) (hL:it≠X.env.locals)
  (h1:it ∈ X.ex\/X.s₀.heap.objs.size<=it) (h2:∀ x c,X.env.cells.lookup x=some c->c≠it) (h3:∀ p ∈ X.pn++pins,p.1≠it):Inv X pins σ H { s with heap:=h',toks:=t' }:=by
 have nit:∀ b u,H b=some u->b≠it:=λ b u e z=>by rw [z,hn] at e; cases e
 refine I.step (g':=s.gens) (d':=s.drawn) (ch:=[it]) (λ b hb=>?_) (λ b o _ _ hc e _=>k b o (λ z=>hc (by simp [z])) e) (λ b o _ _ hc e _=>⟨o.slots,k b o (λ z=>hc (by simp [z])) e⟩) (λ _ _ _ _ n=>n)
  (λ b o hc e=>⟨o,k b o (λ z=>hc (by simp [z])) e⟩) (λ _ _ e=>e) (λ _ _ _ e=>e) (λ b ps e=>⟨#[],by rw [e]; simp⟩) (λ m hm=>?_) (λ b u e=>?_) I.bare
 ·have e:b=it:=by simpa using hb
  subst e;exact ⟨h1,hL,h2,h3⟩
 ·obtain ⟨o,es,ep,ho,r⟩:=hm
  exact ⟨o,es,ep,k _ o (Ne.symm hL) ho,r⟩
 ·refine (I.hok b u e).ux (λ c v hc q=>k c v ?_ q) (λ _ q=>q) λ _ _ q=>q
  rcases hc with z | z
  · rw [z]; exact nit b u e
  · exact nit c _ z
theorem Inv.tok (I:Inv X pins σ H s) (t:Nat):Inv X pins σ H { s with toks:=t }:=I.un (h':=s.heap) (t':=t) Un.refl I.hok
theorem Inv.kept (I:Inv X pins σ H s) (k:∀ b u,s.heap.get? b=some u->h'.get? b=some u):Inv X pins σ H { s with heap:=h',toks:=t' }:=I.un (Un.kept k) (I.hok.kept k)
theorem Inv.laid (I:Inv X pins σ H s) (k:∀ b u,s.heap.get? b=some u->h'.get? b=some u) (hp:s.heap.objs.size<=a) (new:cw X.prog X.w (upd H a o) h' a o) :
 Inv X pins σ (upd H a o) { s with heap:=h',toks:=t' }:=I.un (Un.laid k hp (I.hok.fresh hp)) (I.hok.laid k hp new)
theorem Inv.write (I:Inv X pins σ H s) (mu:Mut (H x)) (he:e=x\/H e=some (.own x)) (k:∀ b u,b≠e->s.heap.get? b=some u->h'.get? b=some u) (heo:∃ u,h'.get? e=some u)
 (new:cw X.prog X.w (upd H x o) h' x o):Inv X pins σ (upd H x o) { s with heap:=h',toks:=t' }:=I.un (Un.write mu he k heo) (I.hok.write mu he k heo new)
theorem Inv.gK (I:Inv X pins σ H s) (h:∀ p ∈ pins',s.heap.get? p.1=some p.2/\H p.1=none/\p.1≠X.env.locals/\p.1 ∉ X.fs/\∀ v,p.2.data≠.cell v):Inv X pins' σ H s :=
 ⟨I.ok,I.os,I.bare,I.base,I.loc,I.cell,I.free,I.j9,λ p hp=>(Zg.mp hp).elim (λ z=>I.pin p (Zp _ z)) (h p),I.hok,I.len⟩
theorem rq {N:List Str} (hN:N.Nodup) {i j:Nat} {x:Str} (a:N[i]?=some x) (b:N[j]?=some x):i=j:=by
 obtain ⟨h1,e1⟩:=List.getElem?_eq_some_iff.mp a;obtain ⟨h2,e2⟩:=List.getElem?_eq_some_iff.mp b;exact (List.getElem_inj hN).mp (e1.trans e2.symm)
theorem jG {M:Model} {A:Around} {E:Value->Shared->Prop} {i:Nat} {x:Str} {v:V} {u:Value} {Q:Unit->Shared->Prop} (I:Inv X pins σ H s) (hN:X.N.Nodup) (hi:X.N[i]?=some x) (hx:Loc X.env.scope x) (r:RelV v u)
  (h:∀ s',Inv X pins (σ.set i (some v)) H s'->(∃ a,Heap.SameBut a s.heap s'.heap/\(a=X.env.locals\/X.env.cells.lookup x=some a))->Q () s') (hf:X.fn x=true\/X.env.scope.names.lookup x=some .local:=by first | exact .inl rfl | exact .inr rfl | assumption):wpAny M A (storeName X.env x u) Q E s:=by
 obtain ⟨m,hn,hl⟩:=id I.loc;have hcls:(X.env.scope.kind == .class||(X.env.scope.kind == .module&&X.env.locals != X.env.globals))=false:=by rw [I.ok.kind]; rfl
 have hiσ:i < σ.length:=by rw [I.len]; exact (List.getElem?_eq_some_iff.mp hi).1
 have cne:=I.cne
 have tracked:∀ {a:Addr} {h':Heap},(∃ o,s.heap.get? a=some o/\H a=none)->Heap.SameBut a s.heap h'->HOk X.prog X.w H h':=λ {a h'} ha hs b ob e=>by
  obtain ⟨_,_,hfree⟩:=ha;refine (I.hok b ob e).ux (λ c w' hc q=>(hs.2 c ?_).trans q) (λ _ q=>q) λ _ _ q=>q
  rintro rfl
  rcases hc with rfl | hc
  · rw [hfree] at e; cases e
  · rw [hfree] at hc; cases hc
 rcases hx with hk | hk
 ·refine wpAny_storeName_local hk hn (λ h' hn' hs=>?_) hcls
  obtain ⟨oL,_,_,hoL,_⟩:=id hn;refine h _ ⟨I.ok,I.os,I.bare,⟨λ b o e n hb hx=>?_,λ b o e n hb hx=>?_,I.base.free,λ b o e hx=>?_,I.base.xr,I.base.wc,I.base.xt⟩,⟨_,hn',λ j y v' e1 e2 e3=>?_⟩,λ y c e=>?_,I.free,I.j9,λ p hp=>?_,tracked ⟨oL,hoL,I.free⟩ hs,by simpa using I.len⟩ ⟨_,hs,.inl rfl⟩
  · exact (hs.2 b (Zx (Zv (Zs e) I.ok.above))).trans (I.base.keep b o e n hb hx)
  ·obtain ⟨sl,e1⟩:=I.base.slot b o e n hb hx
   exact ⟨sl,(hs.2 b (Zx (Zv (Zs e) I.ok.above))).trans e1⟩
  ·obtain ⟨o',e1⟩:=I.base.there b o e hx
   exact ⟨o',(hs.2 b (Zx (Zv (Zs e) I.ok.above))).trans e1⟩
  ·by_cases hj:j=i
   ·subst hj
    rw [hi] at e1; cases e1
    rw [List.getElem?_set_self hiσ] at e2;cases e2;exact ⟨u,r,.inl ⟨hk,by simp⟩⟩
   ·rw [List.getElem?_set_ne (Ne.symm hj)] at e2
    obtain ⟨u',r',q⟩:=hl j y v' e1 e2 e3;refine ⟨u',r',?_⟩;rcases q with ⟨k,e⟩ | ⟨k,c,e,z⟩
    ·refine .inl ⟨k,?_⟩
     have:y≠x:=λ e=>hj (rq hN e1 (e ▸ hi))
     simp [this,e]
    · exact .inr ⟨k,c,e,z.sameBut hs (cne y c e)⟩
  ·obtain ⟨w',z⟩:=I.cell y c e
   exact ⟨w',z.sameBut hs (cne y c e)⟩
  ·obtain ⟨e,n,ne,nf,d⟩:=I.pin p hp
   exact ⟨(hs.2 p.1 ne).trans e,n,ne,nf,d⟩
 ·have hfn:X.fn x=true:=by
   rcases hf with z | z
   · exact z
   · rw [z] at hk; cases hk
  obtain ⟨c,hc⟩:=I.ok.has x (.inl hk);obtain ⟨w',z⟩:=I.cell x c hc;refine wpAny_storeName_cell I.ok.kind hk hc z (λ h' hc' hs=>?_);obtain ⟨oc,hoc,hocd⟩:=id z;refine h { s with heap:=h' } ⟨I.ok,I.os,I.bare,⟨λ b o e n hb hx=>?_,λ b o e n hb hx=>?_,I.base.free,λ b o e hx=>?_,I.base.xr,I.base.wc,I.base.xt⟩,⟨m,hn.sameBut hs (Ne.symm (cne x c hc)),λ j y v' e1 e2 e3=>?_⟩,λ y c' e=>?_,I.free,I.j9,λ p hp=>?_,tracked ⟨oc,hoc,I.j9 x c hc⟩ hs,by simpa using I.len⟩ ⟨c,hs,.inr hc⟩
  · exact (hs.2 b (Zx (Zv (Zs e) (I.ok.cab x c hfn hc)))).trans (I.base.keep b o e n hb hx)
  ·obtain ⟨sl,e1⟩:=I.base.slot b o e n hb hx
   exact ⟨sl,(hs.2 b (Zx (Zv (Zs e) (I.ok.cab x c hfn hc)))).trans e1⟩
  ·obtain ⟨o',e1⟩:=I.base.there b o e hx
   exact ⟨o',(hs.2 b (Zx (Zv (Zs e) (I.ok.cab x c hfn hc)))).trans e1⟩
  ·by_cases hj:j=i
   ·subst hj
    rw [hi] at e1; cases e1
    rw [List.getElem?_set_self hiσ] at e2;cases e2;exact ⟨u,r,.inr ⟨.inl hk,c,hc,hc'⟩⟩
   ·rw [List.getElem?_set_ne (Ne.symm hj)] at e2
    obtain ⟨u',r',q⟩:=hl j y v' e1 e2 e3;refine ⟨u',r',?_⟩;rcases q with q | ⟨k,c',e,z'⟩
    · exact .inl q
    ·refine .inr ⟨k,c',e,z'.sameBut hs ?_⟩
     rintro rfl
     exact hj (rq hN e1 (I.ok.inj _ _ _ e hc ▸ hi))
  ·by_cases hcc:c'=c
   · subst hcc; exact ⟨_,hc'⟩
   ·obtain ⟨w2,z2⟩:=I.cell y c' e
    exact ⟨w2,z2.sameBut hs hcc⟩
  ·obtain ⟨e,n,ne,nf,d⟩:=I.pin p hp
   refine ⟨(hs.2 p.1 ?_).trans e,n,ne,nf,d⟩;intro q;rw [q,hoc] at e;have q':oc=p.2:=Zj e;exact d w' (by rw [<- q']; exact hocd)
theorem qO (I:Inv X pins σ H s) (hN:X.N.Nodup) (hi:X.N[i]?=some x) (hx:Loc X.env.scope x) (r:RelV v u)
  (h:∀ s',Inv X pins (σ.set i (some v)) H s'->Q () s') (hf:X.fn x=true\/X.env.scope.names.lookup x=some .local:=by first | exact .inl rfl | exact .inr rfl | assumption):wpAny M A (storeName X.env x u) Q E s :=
 jG I hN hi hx r (λ s' I' _=>h s' I') hf
theorem Inv.FT (I:Inv X pins σ H s) (ho:s'.os=s.os) (u:Un (frs X.stack) ch H H' s.heap s'.heap) (hok:HOk X.prog X.w H' s'.heap) (hg:AllBare s'.gens)
  (hch:∀ b ∈ ch,(b ∈ X.ex\/X.s₀.heap.objs.size<=b)/\b≠X.env.locals/\(∀ x c,X.env.cells.lookup x=some c->c≠b)/\∀ p ∈ X.pn++pins,p.1≠b):Inv X pins σ H' s':=by
 obtain ⟨h',g',d',t',o'⟩:=s';have e:o'=s.os:=ho;subst e;exact I.call (g':=g') (t':=t') (d':=d') u hok hg hch
end
abbrev XK:=Value->Option Addr->Hp->Prop
abbrev St:=List (Option V)
abbrev VK:=V->Hp->Prop
abbrev TE:=St->Hp->VK->Prop
abbrev TT:=St->Hp->(Bool->Hp->Prop)->Prop
abbrev TA:=St->Hp->(List V->Hp->Prop)->Prop
structure Ends where
 nx:St->Hp->Prop
 rt:VK
 bk:St->Hp->Prop:=λ _ _=>False
 ct:St->Hp->Prop:=λ _ _=>False
abbrev TS:=Ends->St->Hp->Prop
def EP (X:Cx) (pins:List (Addr×Obj)) (σ:St) (Q:VK) (u:Value) (s':Shared):Prop:=∃ v H',Inv X pins σ H' s'/\RelV v u/\Q v H'
def TP (X:Cx) (pins:List (Addr×Obj)) (σ:St) (Q:Bool->Hp->Prop) (b:Bool) (s':Shared):Prop:=∃ H',Inv X pins σ H' s'/\Q b H'
def AP (X:Cx) (pins:List (Addr×Obj)) (σ:St) (Q:List V->Hp->Prop) (us:List Value) (s':Shared):Prop:=∃ vs H',Inv X pins σ H' s'/\bG vs us/\Q vs H'
def SP (X:Cx) (pins:List (Addr×Obj)) (D:Ends) (f:Flow) (s':Shared):Prop :=
 match f with
 | .next=>∃ σ' H',Inv X pins σ' H' s'/\D.nx σ' H'
 | .brk=>∃ σ' H',Inv X pins σ' H' s'/\D.bk σ' H'
 | .cont=>∃ σ' H',Inv X pins σ' H' s'/\D.ct σ' H'
 | .ret u=>∃ v σ' H',Inv X pins σ' H' s'/\RelV v u/\D.rt v H'
def PE (X:Cx) (e:Expr) (t:TE):Prop :=
 ∀ (pins:List (Addr×Obj)) (s:Shared) (σ:St) (H:Hp) (Q:VK),Inv X pins σ H s->t σ H Q->wpAny (model X.prog X.w) X.A (eval e X.env) (EP X pins σ Q) X.xe s
def PT (X:Cx) (e:Expr) (t:TT):Prop :=
 ∀ (pins:List (Addr×Obj)) (s:Shared) (σ:St) (H:Hp) (Q:Bool->Hp->Prop),Inv X pins σ H s->t σ H Q->wpAny (model X.prog X.w) X.A (isTrue e X.env (eval e X.env)) (TP X pins σ Q) X.xe s
def PW (X:Cx) (e:Expr) (t:TT):Prop :=
 ∀ (whole:Sem Value) (pins:List (Addr×Obj)) (s:Shared) (σ:St) (H:Hp) (Q:Bool->Hp->Prop),Inv X pins σ H s->t σ H Q->wpAny (model X.prog X.w) X.A (isTrue e X.env whole) (TP X pins σ Q) X.xe s
theorem PW.pt (h:PW X e t):PT X e t:=h _
def PA (X:Cx) (es:List Expr) (t:TA):Prop :=
 ∀ (pos:Pos) (pins:List (Addr×Obj)) (s:Shared) (σ:St) (H:Hp) (Q:List V->Hp->Prop),Inv X pins σ H s->t σ H Q->wpAny (model X.prog X.w) X.A (spliced (backTo pos (starEach es X.env))) (AP X pins σ Q) X.xe s
def PS (X:Cx) (st:Stmt) (t:TS):Prop :=
 ∀ (pins:List (Addr×Obj)) (s:Shared) (σ:St) (H:Hp) (D:Ends),Inv X pins σ H s->t D σ H->wpAny (model X.prog X.w) X.A (exec st X.env) (SP X pins D) X.xe s
def PSs (X:Cx) (st:List Stmt) (t:TS):Prop :=
 ∀ (pins:List (Addr×Obj)) (s:Shared) (σ:St) (H:Hp) (D:Ends),Inv X pins σ H s->t D σ H->wpAny (model X.prog X.w) X.A (execs st X.env) (SP X pins D) X.xe s
theorem thn {α:Type} {t:Sem α} {Q Q':α->Shared->Prop} (h:wpAny M A t Q E s) (hQ:∀ a s,Q a s->Q' a s):wpAny M A t Q' E s:=Yr h hQ λ _ _ x=>x
end L2
namespace L2
open PySem PySem.Spec PyProof.Rows
section
variable {X:Cx}
def KZ (i:Nat):TE:=λ σ H Q=>∃ v,σ[i]?=some (some v)/\Q v H
def tC (v:V):TE:=λ _ H Q=>Q v H
theorem gG (hN:X.N[i]?=some x) (hv:Vis X.env.scope x) (hd:(x == ("__debug__":Str))=false:=by decide) (hcd:(x == ("__classdict__":Str))=false:=by decide):PE X (.Name x pos) (KZ i):=by
 intro pins s σ H Q I h;obtain ⟨v,e,h⟩:=h;obtain ⟨m,hn,hl⟩:=I.loc;obtain ⟨u,r,l⟩:=hl i x v hN e hv;have fin:EP X pins σ Q u s:=⟨v,H,I,r,h⟩
 rcases l with ⟨hk,hm⟩ | ⟨hk,c,hc,hcell⟩
 · exact wpAny_Name (wpAny_loadName_local I.ok.kind hk hn hm fin) hd
 ·rcases hk with hk | hk
  · exact wpAny_Name (wpAny_loadName_cell I.ok.kind hk hc hcell fin) hd
  · exact wpAny_Name (wpAny_loadName_free I.ok.kind hk hc hcell fin hcd) hd
theorem lB {i j pos}:PE X (.Constant (.int i) j pos) (tC (.int i)):=λ _ _ _ H _ I h=>wpAny_Constant_int ⟨.int i,H,I.tok _,⟨_,rfl⟩,h⟩
theorem HY {b j pos}:PE X (.Constant (.bool b) j pos) (tC (.bl b)):=λ _ _ _ H _ I h=>Constant_bool ⟨.bl b,H,I,rfl,h⟩
theorem zK {j pos}:PE X (.Constant .none j pos) (tC .non):=λ _ _ _ H _ I h=>Constant_none ⟨.non,H,I,rfl,h⟩
theorem D4 {x j pos}:PE X (.Constant (.str x) j pos) (tC (.str x)):=λ _ _ _ H _ I h=>Calls.Constant_str ⟨.str x,H,I.tok _,⟨_,rfl⟩,h⟩
def Gl (X:Cx) (x:Str):Prop:=X.env.kindOf x=some .globalImplicit
theorem p6 (I:Inv X pins σ H s) (hg:Gl X x) (hm:X.mg x=some u) (h:Q u s)
  (hd:(x == ("__debug__":Str))=false:=by decide):wpAny (model X.prog X.w) X.A (eval (.Name x pos) X.env) Q E s :=
 Calls.Name_function_global I.ok.kind hg (Calls.loadGlobal_global (by rw [I.ok.glob]; exact I.mod.glob.keeps I.bk) hm h) hd
theorem jc (I:Inv X pins σ H s) (hg:Gl X x) (hm:X.mg x=none) (hv:bootBuiltins x=some u) (h:Q u s)
  (hn:x≠"__name__":=by decide) (hd:(x == ("__debug__":Str))=false:=by decide):wpAny (model X.prog X.w) X.A (eval (.Name x pos) X.env) Q E s:=by
 obtain ⟨mb,h1,h2⟩:=I.mod.blt;exact Calls.Name_function_global I.ok.kind hg (Calls.loadGlobal_builtin (by rw [I.ok.glob]; exact I.mod.glob.keeps I.bk) hm (by rw [I.ok.blt]; exact h1.keeps I.bk) ((h2 x hn).trans hv) h) hd
theorem A6 (hg:Gl X x) (hm:X.mg x=some u) (r:RelV v u) (hd:(x == ("__debug__":Str))=false:=by decide):PE X (.Name x pos) (tC v) :=
 λ _ _ _ H _ I h=>p6 I hg hm ⟨v,H,I,r,h⟩ hd
theorem Ba (hg:Gl X x) (hm:X.mg x=none) (hv:bootBuiltins x=some u) (r:RelV v u) (hn:x≠"__name__":=by decide) (hd:(x == ("__debug__":Str))=false:=by decide):PE X (.Name x pos) (tC v) :=
 λ _ _ _ H _ I h=>jc I hg hm hv ⟨v,H,I,r,h⟩ hn hd
variable {a b:Expr} {ta tb:TE} {pos:Pos}
def PC (X:Cx) (op:CmpOp) (a b:Expr) (t:TE):Prop :=
  ∀ (pins:List (Addr×Obj)) (s:Shared) (σ:St) (H:Hp) (Q:VK),Inv X pins σ H s->t σ H Q ->
    wpAny (model X.prog X.w) X.A (eval a X.env) (λ v s₁=>wpAny (model X.prog X.w) X.A (eval b X.env) (λ u s₂=>wpAny (model X.prog X.w) X.A (compareOp op v u) (EP X pins σ Q) X.xe s₂) X.xe s₁) X.xe s
theorem rA (b:Expr) (h:op≠.In) (h2:op≠.NotIn):behindInMarks op b=false:=by
 have e1:(op == CmpOp.In)=false:=by cases op <;> first | rfl | exact absurd rfl h
 have e2:(op == CmpOp.NotIn)=false:=by cases op <;> first | rfl | exact absurd rfl h2
 cases b <;> simp [behindInMarks,e1,e2]
def HB (ta:TE):TE:=λ σ H Q=>ta σ H λ x H1=>Q (.bl (!decide (x=.non))) H1
theorem RelV.yo (r:RelV x v):(v == Value.none)=decide (x=.non):=by
 cases x with
 | non=>cases r; rfl
 | bl _=>cases r; rfl
 | int _=>obtain ⟨t,rfl⟩:=r; rfl
 | str _=>obtain ⟨t,rfl⟩:=r; rfl
 | byt _=>obtain ⟨t,rfl⟩:=r; rfl
 | flt _=>obtain ⟨t,rfl⟩:=r; rfl
 | ref _=>cases r; rfl
 | ty _=>cases r; rfl
theorem Bf {j pos'} (ha:PE X a ta):PC X .IsNot a (.Constant .none j pos') (HB ta):=by
 intro pins s σ H Q I h;refine thn (ha pins s σ H _ I h) λ v s1 ⟨x,H1,I1,r1,q1⟩=>?_
 exact Constant_none (isnot_none_gen ⟨.bl _,H1,I1,by rw [r1.yo]; rfl,q1⟩)
def tB (t:TE):TT:=λ σ H Q=>t σ H λ x H1=>∃ c,x=.bl c/\Q c H1
theorem Ea (h:PC X op a b t) (h1:behindInMarks op b=false:=by first | exact rA _ (by decide) (by decide) | rfl):PE X (.Compare a [op] [b] pos) t:=λ pins s σ H Q I hw=>wpAny_Compare1 (h pins s σ H Q I hw) h1
theorem uN (h:PC X op a b t) (h1:behindInMarks op b=false:=by first | exact rA _ (by decide) (by decide) | rfl):PT X (.Compare a [op] [b] pos) (tB t):=by
 intro pins s σ H Q I hw;refine wpAny_isTrue_Compare1 (thn (h pins s σ H _ I hw) λ v s1 h1=>thn h1 λ u s2 h2=>thn h2 λ c s3 ⟨x,H1,I1,r1,q1⟩=>?_) h1;obtain ⟨d,rfl,q⟩:=q1;cases r1;exact Yk ⟨H1,I1,q⟩
theorem qW (h:PE X e t) (he:∀ whole,isTrue e X.env whole=(do let v <- whole; standAt e.pos; holding [v] (truthy v)):=by intro _; rfl):PT X e (tB t):=by
 intro pins s σ H Q I hw;refine isTrue_plain (thn (h pins s σ H _ I hw) λ v s1 ⟨x,H1,I1,r1,q1⟩=>?_) (he _);obtain ⟨d,rfl,q⟩:=q1;cases r1;exact Yk ⟨H1,I1,q⟩
variable {tA tB':TT} {rest:List Expr}
def tOr (t u:TT):TT:=λ σ H Q=>t σ H λ c H1=>if c=true then Q true H1 else u σ H1 Q
def Mb (t:TT):TT:=λ σ H Q=>t σ H λ c H1=>Q (!c) H1
theorem pw_or1 (ha:PT X a tA):PW X (.BoolOp .Or [a] pos) tA:=by
 intro wh pins s σ H Q I h;refine isTrue_or (thn (ha pins s σ H Q I h) λ c s1 e=>?_)
 cases c with
 | false=>exact isTrue_or_nil e
 | true=>exact e
theorem pw_or (ha:PT X a tA) (hb:PW X (.BoolOp .Or (b::rest) pos) tB'):PW X (.BoolOp .Or (a::b::rest) pos) (tOr tA tB'):=by
 intro wh pins s σ H Q I h;refine isTrue_or (thn (ha pins s σ H _ I h) λ c s1 ⟨H1,I1,q1⟩=>?_)
 cases c with
 | true=>exact ⟨H1,I1,q1⟩
 | false=>exact hb wh pins s1 σ H1 Q I1 q1
theorem zH (ha:PT X a tA):PT X (.UnaryOp .Not a pos) (Mb tA):=by
 intro pins s σ H Q I h;exact isTrue_not (ha pins s σ H (λ c H1=>Q (!c) H1) I h)
def HI (ta tb:TE):TE:=λ σ H Q=>ta σ H λ x H1=>∃ c,x=.bl c/\if c=true then tb σ H1 Q else Q (.bl false) H1
def Ma (ta tb:TE):TE:=λ σ H Q=>ta σ H λ x H1=>∃ c,x=.bl c/\if c=true then Q (.bl true) H1 else tb σ H1 Q
def HA (ta:TE):TE:=λ σ H Q=>ta σ H λ x H1=>∃ c,x=.bl c/\Q (.bl (!c)) H1
theorem uT {op} (h:PE X a t):PE X (.BoolOp op [a] pos) t:=λ pins s σ H Q I hw=>BoolOp_one (h pins s σ H Q I hw)
theorem zN (ha:PE X a ta) (hb:PE X (.BoolOp .And (b::rest) pos) tb):PE X (.BoolOp .And (a::b::rest) pos) (HI ta tb):=by
 intro pins s σ H Q I h;refine BoolOp_and (thn (ha pins s σ H _ I h) λ v s1 ⟨x,H1,I1,r1,q1⟩=>?_);obtain ⟨c,rfl,q1⟩:=q1;cases r1;refine Yk ?_
 cases c with
 | true=>exact hb pins s1 σ H1 Q I1 q1
 | false=>exact ⟨.bl false,H1,I1,rfl,q1⟩
theorem D6 (ha:PE X a ta) (hb:PE X (.BoolOp .Or (b::rest) pos) tb):PE X (.BoolOp .Or (a::b::rest) pos) (Ma ta tb):=by
 intro pins s σ H Q I h;refine BoolOp_or (thn (ha pins s σ H _ I h) λ v s1 ⟨x,H1,I1,r1,q1⟩=>?_);obtain ⟨c,rfl,q1⟩:=q1;cases r1;refine Yk ?_
 cases c with
 | false=>exact hb pins s1 σ H1 Q I1 q1
 | true=>exact ⟨.bl true,H1,I1,rfl,q1⟩
theorem D7 (ha:PE X a ta):PE X (.UnaryOp .Not a pos) (HA ta):=by
 intro pins s σ H Q I h;refine UnaryOp_ (thn (ha pins s σ H _ I h) λ v s1 ⟨x,H1,I1,r1,q1⟩=>?_);obtain ⟨c,rfl,q1⟩:=q1;cases r1;exact not_of (Yk ⟨.bl (!c),H1,I1,rfl,q1⟩)
def tIf (t:TT) (ta tb:TE):TE:=λ σ H Q=>t σ H λ c H1=>if c=true then ta σ H1 Q else tb σ H1 Q
theorem yd (hc:PT X c tA) (ha:PE X a ta) (hb:PE X b tb):PE X (.IfExp c a b pos) (tIf tA ta tb):=by
 intro pins s σ H Q I h;refine wpAny_IfExp (thn (hc pins s σ H _ I h) λ d s1 ⟨H1,I1,q1⟩=>?_)
 cases d with
 | true=>exact ha pins s1 σ H1 Q I1 q1
 | false=>exact hb pins s1 σ H1 Q I1 q1
end
end L2
namespace L2
open PySem PySem.Spec PyProof.Rows
def SqL (K:W.Frag) (H:Hp) (a:Addr) (xs:List V):Prop :=
 Rd H a (.lst xs) \/
  ∃ (o:Obj) (its:Array Value) (n:Nat),K.lookup a=some o/\o.cls=.type "list"/\o.dict=none/\o.data=.seq its n/\its.size<=sizeLine/\bG xs its.toList
def SqT (K:W.Frag) (H:Hp) (a:Addr) (xs:List V):Prop :=
 Rd H a (.tup xs) \/
  ∃ (o:Obj) (its:Array Value) (n:Nat),K.lookup a=some o/\o.cls=.type "tuple"/\o.data=.seq its n/\its.size<=sizeLine/\bG xs its.toList
def NH:Value->Option V
 | .none=>some .non
 | .bool b=>some (.bl b)
 | .int i _=>some (.int i)
 | .str x _=>some (.str x)
 | .bytes b _=>some (.byt b)
 | .float b _=>some (.flt b)
 | .ref a=>some (.ref a)
 | .type n=>some (.ty n)
 | _=>none
theorem RelV.abs (r:RelV x u):NH u=some x:=by
 cases x with
 | non=>cases r; rfl
 | bl _=>cases r; rfl
 | int _=>obtain ⟨t,rfl⟩:=r; rfl
 | str _=>obtain ⟨t,rfl⟩:=r; rfl
 | byt _=>obtain ⟨t,rfl⟩:=r; rfl
 | flt _=>obtain ⟨t,rfl⟩:=r; rfl
 | ref _=>cases r; rfl
 | ty _=>cases r; rfl
theorem RelV.inj (r:RelV x u) (q:RelV y u):x=y:=Zj (r.abs.symm.trans q.abs)
theorem bG.inj:∀ {xs ys:List V} {us:List Value},bG xs us->bG ys us->xs=ys
 | _,_,_,.nil,.nil=>rfl
 | _,_,_,.cons r t,.cons r' t'=>by rw [r.inj r',bG.inj t t']
section
variable {X:Cx} {pins:List (Addr×Obj)} {σ:St} {H:Hp} {s:Shared} {a:Addr} {xs ys:List V}
theorem SqL.of {K:W.Frag} (h:H a=some (.lst xs)):SqL K H a xs:=.inl (.inl h)
theorem SqT.of {K:W.Frag} (h:H a=some (.tup xs)):SqT K H a xs:=.inl (.inl h)
theorem Inv.list (I:Inv X pins σ H s) (h:SqL X.K H a xs):∃ its:List Value,bG xs its/\PlainL s.heap a its.toArray/\xs.length<=sizeLine:=by
 rcases h with h | ⟨o,its,n,hk,hc,hd,hs,hz,r⟩
 ·obtain ⟨z,its,n,r,e⟩:=h.ok I.hok
  exact ⟨its,r,⟨_,n,e,rfl,rfl,rfl⟩,z⟩
 ·refine ⟨its.toList,r,⟨o,n,I.kIn a o hk,hc,hd,by simpa using hs⟩,?_⟩
  have e:=r.length;simp only [Xj] at e;omega
theorem Inv.tuple (I:Inv X pins σ H s) (h:SqT X.K H a xs):∃ its:List Value,bG xs its/\IsTup s.heap a its.toArray/\xs.length<=sizeLine:=by
 rcases h with h | ⟨o,its,n,hk,hc,hs,hz,r⟩
 ·obtain ⟨z,its,r,p⟩:=h.ok I.hok
  exact ⟨its,r,p,z⟩
 ·refine ⟨its.toList,r,⟨o,I.kIn a o hk,hc,n,by simpa using hs⟩,?_⟩
  have e:=r.length;simp only [Xj] at e;omega
theorem Inv.rC (I:Inv X pins σ H s) (h:SqL X.K H a xs) (h':SqL X.K H a ys):xs=ys:=by
 obtain ⟨its,r,⟨o,n,e,_,_,d⟩,_⟩:=I.list h;obtain ⟨its',r',⟨o',n',e',_,_,d'⟩,_⟩:=I.list h';rw [e] at e'; cases e'
 rw [d] at d';injection d' with d1 _
 have:its=its':=by simpa using Z9 Array.toList d1
 subst this;exact r.inj r'
theorem Inv.m4 (I:Inv X pins σ H s) (h:SqT X.K H a xs) (h':SqT X.K H a ys):xs=ys:=by
 obtain ⟨its,r,⟨o,e,_,n,d⟩,_⟩:=I.tuple h;obtain ⟨its',r',⟨o',e',_,n',d'⟩,_⟩:=I.tuple h';rw [e] at e'; cases e'
 rw [d] at d';injection d' with d1 _
 have:its=its':=by simpa using Z9 Array.toList d1
 subst this;exact r.inj r'
end
abbrev Cx.xq (X:Cx) (E:Value->Shared->Prop):Cx:={ X with xe:=E }
abbrev Cx.nox (X:Cx):Cx:=X.xq λ _ _=>False
theorem Cx.Ok.xq {X:Cx} (ok:X.Ok) (E:Value->Shared->Prop):(X.xq E).Ok :=
 ⟨ok.mod,ok.kind,ok.glob,ok.blt,ok.above,ok.inj,ok.has,ok.cab,ok.hd,ok.frames,ok.stk,ok.exf,ok.bs,ok.bsz,ok.C8,ok.He,ok.uf,ok.frf⟩
theorem Cx.Ok.iT {X:Cx} {E:Value->Shared->Prop} (ok:(X.xq E).Ok):X.Ok :=
 ⟨ok.mod,ok.kind,ok.glob,ok.blt,ok.above,ok.inj,ok.has,ok.cab,ok.hd,ok.frames,ok.stk,ok.exf,ok.bs,ok.bsz,ok.C8,ok.He,ok.uf,ok.frf⟩
section
variable {X:Cx} {pins:List (Addr×Obj)} {σ:St} {H:Hp} {s:Shared} {E:Value->Shared->Prop}
theorem Inv.xq (I:Inv X pins σ H s) (E:Value->Shared->Prop):Inv (X.xq E) pins σ H s:=⟨I.ok.xq E,I.os,I.bare,I.base,I.loc,I.cell,I.free,I.j9,I.pin,I.hok,I.len⟩
theorem Inv.iT (I:Inv (X.xq E) pins σ H s):Inv X pins σ H s:=⟨I.ok.iT,I.os,I.bare,I.base,I.loc,I.cell,I.free,I.j9,I.pin,I.hok,I.len⟩
theorem SP.iT (h:SP (X.xq E) pins D f s'):SP X pins D f s':=by
 cases f with
 | next=>obtain ⟨σ',H',I,q⟩:=h; exact ⟨σ',H',I.iT,q⟩
 | brk=>obtain ⟨σ',H',I,q⟩:=h; exact ⟨σ',H',I.iT,q⟩
 | cont=>obtain ⟨σ',H',I,q⟩:=h; exact ⟨σ',H',I.iT,q⟩
 | ret u=>obtain ⟨v,σ',H',I,r,q⟩:=h; exact ⟨v,σ',H',I.iT,r,q⟩
theorem PSs.nox {st:List Stmt} {t:TS} (h:PSs X.nox st t):PSs X st t:=λ pins s σ H D I hw =>
 Yr (h pins s σ H D (I.xq _) hw) (λ _ _ q=>q.iT) λ _ _ z=>False.elim z
end
section
variable {X:Cx} {st:Stmt} {rest:List Stmt} {t u:TS} {e:Expr} {te:TE} {pos:Pos}
def HC:TS:=λ D σ H=>D.nx σ H
def L7 (t u:TS):TS:=λ D σ H=>t { D with nx:=u D } σ H
theorem l6:PSs X [] HC:=λ _ _ σ H _ I h=>wpAny_execs_nil ⟨σ,H,I,h⟩
theorem ff (h1:PS X st t) (h2:PSs X rest u):PSs X (st::rest) (L7 t u):=by
 intro pins s σ H D I h;refine wpAny_execs_cons (thn (h1 pins s σ H { D with nx:=u D } I h) λ f s1 q=>?_)
 cases f with
 | next =>
  obtain ⟨σ',H',I',q⟩:=q;exact h2 pins s1 σ' H' D I' q
 | ret v=>exact q
 | brk=>exact q
 | cont=>exact q
theorem d9 (h1:PS X st t):PSs X [st] t:=by
 intro pins s σ H D I h;refine wpAny_execs_cons (thn (h1 pins s σ H D I h) λ f s1 q=>?_)
 cases f with
 | next=>exact wpAny_execs_nil q
 | ret v=>exact q
 | brk=>exact q
 | cont=>exact q
theorem Inv.quiet (I:Inv X pins σ H s):interactive X.env=false:=by simp [interactive,I.ok.kind]
def HE (te:TE):TS:=λ D σ H=>te σ H λ _ H1=>D.nx σ H1
theorem eh (he:PE X e te) (hs:swapsWith e none pos.line X.env=pure false:=by rfl):PS X (.Expr e pos) (HE te):=by
 intro pins s σ H D I h;exact wpAny_Expr_any (thn (he pins s σ H _ I h) λ v s1 ⟨x,H1,I1,r1,q1⟩=>⟨σ,H1,I1,q1⟩) I.quiet hs
def L9 (te:TE):TS:=λ D σ H=>te σ H D.rt
theorem iW (he:PE X e te):PS X (.Return (some e) pos) (L9 te):=by
 intro pins s σ H D I h;exact wpAny_Return_some (thn (he pins s σ H _ I h) λ v s1 ⟨x,H1,I1,r1,q1⟩=>⟨x,σ,H1,I1,r1,q1⟩)
def Md (c:TT) (t u:TS):TS:=λ D σ H=>c σ H λ b H1=>if b=true then t D σ H1 else u D σ H1
theorem xX (hc:PT X c tc) (ha:PSs X a t) (hb:PSs X b u):PS X (.If c a b pos) (Md tc t u):=by
 intro pins s σ H D I h;refine wpAny_If (thn (hc pins s σ H _ I h) λ d s1 ⟨H1,I1,q1⟩=>?_)
 cases d with
 | true=>exact ha pins s1 σ H1 D I1 q1
 | false=>exact hb pins s1 σ H1 D I1 q1
end
abbrev TG:=V->St->Hp->(St->Hp->Prop)->Prop
abbrev TGs:=List V->St->Hp->(St->Hp->Prop)->Prop
def PG (X:Cx) (target:Expr) (t:TG):Prop :=
  ∀ (pins:List (Addr×Obj)) (s:Shared) (σ:St) (H:Hp) (v:V) (u:Value) (Q:St->Hp->Prop),Inv X pins σ H s->RelV v u->t v σ H Q ->
    wpAny (model X.prog X.w) X.A (assign target X.env u) (λ _ s'=>∃ σ' H',Inv X pins σ' H' s'/\Q σ' H') X.xe s
def PGs (X:Cx) (ts:List Expr) (t:TGs):Prop :=
  ∀ (pins:List (Addr×Obj)) (s:Shared) (σ:St) (H:Hp) (vs:List V) (us:List Value) (Q:St->Hp->Prop),Inv X pins σ H s->bG vs us->t vs σ H Q ->
    wpAny (model X.prog X.w) X.A (assignInOrder ((assignEach ts X.env).map (·.2)) us) (λ _ s'=>∃ σ' H',Inv X pins σ' H' s'/\Q σ' H') X.xe s
section
variable {X:Cx} {pos:Pos}
def k6 (i:Nat):TG:=λ v σ H Q=>Q (σ.set i (some v)) H
theorem gL (hN:X.N.Nodup) (hi:X.N[i]?=some x) (hx:Loc X.env.scope x) (hf:X.fn x=true\/X.env.scope.names.lookup x=some .local:=by first | exact .inl rfl | exact .inr rfl | assumption):PG X (.Name x pos) (k6 i):=by
 intro pins s σ H v u Q I r h;exact wpAny_assign_Name (qO I hN hi hx r (λ s' I'=>⟨_,H,I',h⟩) hf)
def NB:TGs:=λ vs σ H Q=>vs=[]/\Q σ H
def Kx (t:TG) (u:TGs):TGs:=λ vs σ H Q=>∃ v r,vs=v::r/\t v σ H λ σ' H'=>u r σ' H' Q
theorem A5:PGs X [] NB:=by
 intro pins s σ H vs us Q I r h;obtain ⟨e,h⟩:=h;subst e;cases r;exact assignInOrder_nil ⟨σ,H,I,h⟩
theorem ya (h1:PG X e t) (h2:PGs X es u)
  (hs:(assignEach (e::es) X.env).map (·.2)=assign e X.env::(assignEach es X.env).map (·.2):=by rfl):PGs X (e::es) (Kx t u):=by
 intro pins s σ H vs us Q I r h;obtain ⟨v,vr,e1,h⟩:=h;subst e1
 cases r with
 | cons r rr =>
  rw [hs];refine assignInOrder_cons (thn (h1 pins s σ H _ _ _ I r h) λ _ s1 ⟨σ1,H1,I1,q1⟩=>?_);exact h2 pins s1 σ1 H1 _ _ Q I1 rr q1
def NA (K:W.Frag) (n:Nat) (t:TGs):TG:=λ v σ H Q=>∃ a xs,v=.ref a/\SqT K H a xs/\xs.length=n/\t xs σ H Q
theorem D3 (hc:X.calm=true) (h:PGs X es t)
  (hn:(assignEach es X.env).length=n:=by rfl) (hst:(assignEach es X.env).findIdx? (·.1)=none:=by rfl):PG X (.Tuple es k pos) (NA X.K n t):=by
 intro pins s σ H v u Q I r hw;obtain ⟨a,xs,e1,hq,hl,hw⟩:=hw;subst e1;cases r;obtain ⟨its,rv,ht,hz⟩:=I.tuple hq;refine assign_Tuple_tuple (I.ok.hd hc) ht (by simp [hn,<- hl,rv.length]) hst λ h' hx=>?_
 have I1:Inv X pins σ H { s with heap:=h' }:=I.kept (t':=s.toks) λ b o e=>hx b o (Zx (Zs e)) e
 exact h pins _ σ H xs _ Q I1 (by simpa using rv) hw
def HH (te:TE) (g:TG):TS:=λ D σ H=>te σ H λ x H1=>g x σ H1 D.nx
theorem jM {i:Nat} {x:Str} {e:Expr} {te:TE} {pos':Pos} (hN:X.N.Nodup) (hi:X.N[i]?=some x) (hx:Loc X.env.scope x) (he:PE X e te) (hs:swapsWith e (some (.Name x pos')) pos.line X.env=pure false:=by rfl) (hf:X.fn x=true\/X.env.scope.names.lookup x=some .local:=by first | exact .inl rfl | exact .inr rfl | assumption) :
  PS X (.Assign [.Name x pos'] e pos) (HH te (k6 i)):=by
 intro pins s σ H D I h;refine wpAny_Assign_Name (thn (he pins s σ H _ I h) λ v s1 ⟨y,H1,I1,r1,q1⟩=>?_) hs;exact qO I1 hN hi hx r1 (λ s2 I2=>⟨_,H1,I2,q1⟩) hf
end
section
variable {X:Cx} {pos:Pos}
def Dx (c:TT) (tb:TS):TS:=λ D σ H=>∃ W:Nat->St->Hp->Prop,(∃ m,W m σ H)/\∀ m σ H,W m σ H ->
 c σ H λ b H1=>if b=true then ∃ N:St->Hp->Prop,(∀ σ' H',N σ' H'->∃ m',m' < m/\W m' σ' H')/\tb { D with nx:=N,ct:=N,bk:=D.nx } σ H1 else D.nx σ H1
theorem xV (hp:PassesOwn (model X.prog X.w) X.A X.env X.xe) (hc:PT X c tc) (hb:PSs X body tb):PS X (.While c body [] pos) (Dx tc tb):=by
 intro pins s σ H D I h;obtain ⟨W,⟨m0,w0⟩,turn⟩:=h;refine wpAny_While (codeAny_whileLoop (λ n s'=>∃ σ' H',Inv X pins σ' H' s'/\W n σ' H') ?_ m0 ⟨σ,H,I,w0⟩)
 rintro n s1 ⟨σ1,H1,I1,w1⟩
 refine Xf hp (thn (hc pins s1 σ1 H1 _ I1 (turn n σ1 H1 w1)) λ b s2 ⟨H2,I2,q2⟩=>?_)
 cases b with
 | true =>
  obtain ⟨N,hN,q2⟩:=q2;rw [if_pos rfl];refine Xf hp (thn (hb pins s2 σ1 H2 _ I2 q2) λ f s3 q3=>?_)
  cases f with
  | next =>
   obtain ⟨σ3,H3,I3,n3⟩:=q3;obtain ⟨m',hm,w3⟩:=hN σ3 H3 n3;exact ⟨m',hm,σ3,H3,I3,w3⟩
  | cont =>
   obtain ⟨σ3,H3,I3,n3⟩:=q3;obtain ⟨m',hm,w3⟩:=hN σ3 H3 n3;exact ⟨m',hm,σ3,H3,I3,w3⟩
  | brk=>exact q3
  | ret v=>exact q3
 | false =>
  rw [if_neg Zf];exact wpAny_execs_nil ⟨σ1,H2,I2,q2⟩
end
structure It where
 go:Nat->Hp->Prop
 yld:Nat->Hp->V->Hp->Prop
 stop:Nat->Hp->Prop
def pj (X:Cx) (pins:List (Addr×Obj)) (H:Hp) (b:Addr):Prop :=
 H b=none/\b≠X.env.locals/\b ∉ X.fs/\(b ∈ X.ex\/X.s₀.heap.objs.size<=b)/\(∀ x c,X.env.cells.lookup x=some c->c≠b)/\∀ p ∈ X.pn++pins,p.1≠b
theorem Inv.tK (I:Inv X pins σ H s) (hb:s.heap.objs.size<=b) (hn:H' b=none):pj X pins H' b:=by
 refine ⟨hn,Nat.ne_of_gt (Zv I.lt hb),I.MT hb,.inr (Z2 I.sz hb),λ x c e z=>?_,λ p hp z=>?_⟩
 ·obtain ⟨v,q⟩:=I.cell x c e
  exact absurd (Zv q.lt (by rw [z]; exact hb)) (Ym _)
 · exact absurd (Zv (Zs (I.pin p hp).1) (by rw [z]; exact hb)) (Ym _)
structure Turn (P:Program) (w:World) (K:W.Frag) (tg:Expr) (J:It) (fp:List Addr) (it:Addr) (tn:Nat->Heap->Prop):Prop where
 mem:it ∈ fp
 obj:∀ i h,tn i h->∀ b ∈ fp,∃ o,h.get? b=some o/\∀ v,o.data≠.cell v
 keep:∀ i h h',tn i h->(∀ b ∈ fp,∀ o,h.get? b=some o->h'.get? b=some o)->tn i h'
 item:∀ (X:Cx),X.prog=P->X.w=w->X.K=K->X.calm=true->∀ (i:Nat) (pins:List (Addr×Obj)) (s:Shared) (σ:St) (H:Hp) (E:Value->Shared->Prop),Inv X pins σ H s->(∀ b ∈ fp,pj X pins H b)->tn i s.heap->J.go i H ->
  wpAny (model P w) X.A (pyNext (.ref it)) (λ r s1=>∃ u,r=some u /\
   wpAny (model P w) X.A (letOwnedTupleGo tg (.ref it) u) (λ _ s2=>∃ x H',Inv X pins σ H' s2/\RelV x u/\J.yld i H x H'/\tn (i+1) s2.heap/\∀ b ∈ fp,H' b=none) E s1) E s
 done:∀ (X:Cx),X.prog=P->X.w=w->X.K=K->X.calm=true->∀ (i:Nat) (pins:List (Addr×Obj)) (s:Shared) (σ:St) (H:Hp) (E:Value->Shared->Prop),Inv X pins σ H s->(∀ b ∈ fp,pj X pins H b)->tn i s.heap->J.stop i H ->
  wpAny (model P w) X.A (pyNext (.ref it)) (λ r s1=>r=none/\Inv X pins σ H s1) E s
 self:∀ (A:Around) (i:Nat) (s:Shared) (Q:Value->Shared->Prop) (E:Value->Shared->Prop),tn i s.heap->Q (.ref it) s->wpAny (model P w) A (pyIter (.ref it)) Q E s
abbrev TI:=St->Hp->(It->Hp->Prop)->Prop
def PIE (X:Cx) (pins:List (Addr×Obj)) (σ:St) (tg:Expr) (R:It->Hp->Prop) (itv:Value) (s2:Shared):Prop :=
 ∃ (it:Addr) (fp:List Addr) (tn:Nat->Heap->Prop) (J:It) (H':Hp),itv=.ref it/\Inv X pins σ H' s2/\Turn X.prog X.w X.K tg J fp it tn/\tn 0 s2.heap/\(∀ b ∈ fp,pj X pins H' b)/\R J H'
def PI (X:Cx) (tg iter:Expr) (wi:TI):Prop :=
  ∀ (pins:List (Addr×Obj)) (s:Shared) (σ:St) (H:Hp) (R:It->Hp->Prop),Inv X pins σ H s->wi σ H R ->
    wpAny (model X.prog X.w) X.A (eval iter X.env) (λ v s1=>wpAny (model X.prog X.w) X.A (pyIter v) (PIE X pins σ tg R) X.xe s1) X.xe s
theorem wa (ho:s.heap.get? it=some o) (hc:o.cls=.type n) (hd:o.data=.fields vs)
    (hn:["enumerate","zip","dict_itemiterator","dict_reverseitemiterator","odict_iterator","itertools.zip_longest","itertools.pairwise"].contains n=false) (hQ:Q () s):wpAny M A (letOwnedTupleGo tg (.ref it) u) Q E s:=by
  unfold letOwnedTupleGo
  cases tg <;> first
    | exact Z3 hQ
    | (cases u <;> first
        | exact Z3 hQ
        | (refine Zo (wpAny_load ho ?_)
           rw [hc,hd];show wpAny M A (if (["enumerate","zip","dict_itemiterator","dict_reverseitemiterator","odict_iterator","itertools.zip_longest","itertools.pairwise"].contains n&&vs[0]? == some (rawInt _))=true then _ else _) Q E s;rw [if_neg (by intro h; rw [hn,Bool.false_and] at h; cases h)]
           exact Z3 hQ))
def Itl (K:W.Frag) (a:Addr):It :=
 ⟨λ i H=>∃ xs x,SqL K H a xs/\xs[i]?=some x,λ i H x H'=>H'=H/\∀ xs,SqL K H a xs->xs[i]?=some x,λ i H=>∃ xs,SqL K H a xs/\xs.length<=i⟩
def Itt (K:W.Frag) (a:Addr):It :=
 ⟨λ i H=>∃ xs x,SqT K H a xs/\xs[i]?=some x,λ i H x H'=>H'=H/\∀ xs,SqT K H a xs->xs[i]?=some x,λ i H=>∃ xs,SqT K H a xs/\xs.length<=i⟩
def Itr (lo:Int) (n:Nat):It:=⟨λ i _=>i < n,λ i H x H'=>H'=H/\x=.int (lo+i),λ i _=>n<=i⟩
theorem uk {P:Program} {w:World} {K:W.Frag} {tg:Expr} (a it:Addr):Turn P w K tg (Itl K a) [it] it (λ i h=>h.IsListIter it a i) where
 mem:=by simp
 obj:=λ i h st b hb=>by
  have e:b=it:=by simpa using hb
  subst e;obtain ⟨o,e,c,d⟩:=st;exact ⟨o,e,λ v z=>by rw [d] at z; cases z⟩
 keep:=λ i h h' st k=>st.at λ o e=>k it (by simp) o e
 item:=by
  intro X hP hw hK hc i pins s σ H E I hf st hg;subst hP hw hK;obtain ⟨xs,x,hq,hx⟩:=hg;obtain ⟨its,rv,p,hz⟩:=I.list hq;obtain ⟨u,hu,ru⟩:=rv.get hx;obtain ⟨f0,f1,f2,f3,f4,f5⟩:=hf it (by simp);refine wpAny_pyNext_list_item st p.isList (x:=u) (by simpa using hu) λ h' st' sb=>?_
  have I1:Inv X pins σ H { s with heap:=h' }:=I.turned (t':=s.toks) (λ b o hb e=>(sb.2 b hb).trans e) f0 f1 f3 f4 f5;obtain ⟨o,e,c,d⟩:=id st';exact ⟨u,rfl,wa (s:={ s with heap:=h' }) e c d (by decide) ⟨x,H,I1,ru,⟨rfl,λ ys hy=>by rw [I.rC hy hq]; exact hx⟩,st',λ b hb=>(hf b hb).1⟩⟩
 done:=by
  intro X hP hw hK hc i pins s σ H E I hf st hg;subst hP hw hK;obtain ⟨xs,hq,hx⟩:=hg;obtain ⟨its,rv,p,hz⟩:=I.list hq;obtain ⟨f0,f1,f2,f3,f4,f5⟩:=hf it (by simp);have hl:=rv.length;exact wpAny_pyNext_list_end (I.ok.hd hc) st p.isList (by simp; omega) λ h' eb=>⟨rfl,I.turned (t':=s.toks) (λ b o hb e=>eb b o hb e) f0 f1 f3 f4 f5⟩
 self:=λ _ _ _ _ _ st h=>wpAny_pyIter_listiter st h
theorem sy {P:Program} {w:World} {K:W.Frag} {tg:Expr} (a it:Addr):Turn P w K tg (Itt K a) [it] it (λ i h=>h.IsTupleIter it a i) where
 mem:=by simp
 obj:=λ i h st b hb=>by
  have e:b=it:=by simpa using hb
  subst e;obtain ⟨o,e,c,d⟩:=st;exact ⟨o,e,λ v z=>by rw [d] at z; cases z⟩
 keep:=λ i h h' st k=>st.at λ o e=>k it (by simp) o e
 item:=by
  intro X hP hw hK hc i pins s σ H E I hf st hg;subst hP hw hK;obtain ⟨xs,x,hq,hx⟩:=hg;obtain ⟨its,rv,p,hz⟩:=I.tuple hq;obtain ⟨u,hu,ru⟩:=rv.get hx;obtain ⟨f0,f1,f2,f3,f4,f5⟩:=hf it (by simp);refine wpAny_pyNext_tuple_item st (show s.heap.IsTuple a its.toArray from p) (x:=u) (by simpa using hu) λ h' st' sb=>?_
  have I1:Inv X pins σ H { s with heap:=h' }:=I.turned (t':=s.toks) (λ b o hb e=>(sb.2 b hb).trans e) f0 f1 f3 f4 f5;obtain ⟨o,e,c,d⟩:=id st';exact ⟨u,rfl,wa (s:={ s with heap:=h' }) e c d (by decide) ⟨x,H,I1,ru,⟨rfl,λ ys hy=>by rw [I.m4 hy hq]; exact hx⟩,st',λ b hb=>(hf b hb).1⟩⟩
 done:=by
  intro X hP hw hK hc i pins s σ H E I hf st hg;subst hP hw hK;obtain ⟨xs,hq,hx⟩:=hg;obtain ⟨its,rv,p,hz⟩:=I.tuple hq;obtain ⟨f0,f1,f2,f3,f4,f5⟩:=hf it (by simp);have hl:=rv.length;exact wpAny_pyNext_tuple_end (I.ok.hd hc) st (show s.heap.IsTuple a its.toArray from p) (by simp; omega) λ h' eb=>⟨rfl,I.turned (t':=s.toks) (λ b o hb e=>eb b o hb e) f0 f1 f3 f4 f5⟩
 self:=λ _ _ _ _ _ st h=>wpAny_pyIter_tupleiter st h
theorem sD {P:Program} {w:World} {K:W.Frag} {tg:Expr} (it:Addr) (lo:Int) (n:Nat):Turn P w K tg (Itr lo n) [it] it (λ i h=>IsRangeIter h it (lo+(i:Nat) * 1) ((n:Int) - (i:Nat)) 1) where
 mem:=by simp
 obj:=λ i h st b hb=>by
  have e:b=it:=by simpa using hb
  subst e
  exact ⟨_,st,λ v z=>by
   have z':Data.fields _=Data.cell v:=z
   cases z'⟩
 keep:=λ i h h' st k=>k it (by simp) _ st
 item:=by
  intro X hP hw hK hc i pins s σ H E I hf st hg;subst hP hw hK;obtain ⟨f0,f1,f2,f3,f4,f5⟩:=hf it (by simp);have W:=Walks.range (prog:=X.prog) (w:=X.w) (I.ok.hd hc) it lo 1 n;refine W.item i s _ _ hg st λ v h' tk hv st' kk=>?_
  obtain ⟨t,rfl⟩:=hv;have I1:Inv X pins σ H { s with heap:=h',toks:=tk }:=I.turned (λ b o hb e=>kk b o (by simpa using hb) e) f0 f1 f3 f4 f5;refine ⟨_,rfl,wa (s:={ s with heap:=h',toks:=tk }) (n:="range_iterator") st' rfl rfl (by decide) ⟨.int (lo+i),H,I1,⟨t,?_⟩,⟨rfl,rfl⟩,st',λ b hb=>(hf b hb).1⟩⟩;rw [Int.mul_one]
 done:=by
  intro X hP hw hK hc i pins s σ H E I hf st hg;subst hP hw hK;obtain ⟨f0,f1,f2,f3,f4,f5⟩:=hf it (by simp);exact wpAny_pyNext_range_end (I.ok.hd hc) st (by have:n<=i:=hg; omega) λ h' eb=>⟨rfl,I.turned (t':=s.toks) (λ b o hb e=>eb b o hb e) f0 f1 f3 f4 f5⟩
 self:=λ _ _ _ _ _ st h=>wpAny_pyIter_rangeiter st h
end L2
namespace L2
open PySem PySem.Spec PyProof.Rows
section
variable {X:Cx} {tg:Expr}
def Fe (K:W.Frag) (tl:TE):TI:=λ σ H R=>tl σ H λ x H1=>∃ a,x=.ref a/\(∃ xs,SqL K H1 a xs)/\R (Itl K a) H1
def Nr (K:W.Frag) (tl:TE):TI:=λ σ H R=>tl σ H λ x H1=>∃ a,x=.ref a/\(∃ xs,SqT K H1 a xs)/\R (Itt K a) H1
theorem l7 {l:Expr} {tl:TE} (hl:PE X l tl):PI X tg l (Fe X.K tl):=by
 intro pins s σ H R I h;refine thn (hl pins s σ H _ I h) λ v s1 ⟨x,H1,I1,r1,q1⟩=>?_
 obtain ⟨a,e,⟨xs,hq⟩,q⟩:=q1;subst e;cases r1;obtain ⟨its,rv,p,hz⟩:=I1.list hq;refine wpAny_pyIter_list p.isList ?_
 refine ⟨s1.heap.objs.size,[s1.heap.objs.size],_,_,H1,rfl,I1.kept (t':=s1.toks) λ b o e=>Heap.get?_push_of_some _ e,uk a _,⟨_,Heap.get?_push_size _ rfl,rfl,rfl⟩,λ b hb=>?_,q⟩;have e:b=s1.heap.objs.size:=by simpa using hb
 subst e;exact I1.tK (Zl _) (I1.hok.fresh (Zl _))
theorem D1 {l:Expr} {tl:TE} (hl:PE X l tl):PI X tg l (Nr X.K tl):=by
 intro pins s σ H R I h;refine thn (hl pins s σ H _ I h) λ v s1 ⟨x,H1,I1,r1,q1⟩=>?_
 obtain ⟨a,e,⟨xs,hq⟩,q⟩:=q1;subst e;cases r1;obtain ⟨its,rv,p,hz⟩:=I1.tuple hq;refine wpAny_pyIter_tuple (show s1.heap.IsTuple a its.toArray from p) ?_
 refine ⟨s1.heap.objs.size,[s1.heap.objs.size],_,_,H1,rfl,I1.kept (t':=s1.toks) λ b o e=>Heap.get?_push_of_some _ e,sy a _,⟨_,Heap.get?_push_size _ rfl,rfl,rfl⟩,λ b hb=>?_,q⟩;have e:b=s1.heap.objs.size:=by simpa using hb
 subst e;exact I1.tK (Zl _) (I1.hok.fresh (Zl _))
theorem xQ {pins:List (Addr×Obj)} {σ:St} {H:Hp} {s:Shared} {R:It->Hp->Prop} {E:Value->Shared->Prop} {lo hi:Int} {t u v:Tok} {tk:Nat} (I:Inv X pins σ H s) (h1:-(2 ^ 62)<=lo) (h2:lo < 2 ^ 62) (h3:-(2 ^ 62)<=hi) (h4:hi < 2 ^ 62)
  (q:R (Itr lo (hi - lo).toNat) H):wpAny (model X.prog X.w) X.A (pyIter (.ref s.heap.objs.size)) (PIE X pins σ tg R) E { s with heap:=s.heap.push { cls:=.type "range",data:=.fields #[.int lo t,.int hi u,.int 1 v] },toks:=tk }:=by
 refine wpAny_pyIter_range (IsRange.new ..) (small_one h1 h2 h3 h4) ?_
 have I1:Inv X pins σ H { s with heap:=s.heap.push { cls:=.type "range",data:=.fields #[.int lo t,.int hi u,.int 1 v] },toks:=tk }:=I.kept λ b o e=>Heap.get?_push_of_some _ e
 refine ⟨(s.heap.push { cls:=.type "range",data:=.fields #[.int lo t,.int hi u,.int 1 v] }).objs.size,[(s.heap.push { cls:=.type "range",data:=.fields #[.int lo t,.int hi u,.int 1 v] }).objs.size],_,_,H,rfl,
  I1.kept (t':=tk) λ b o e=>Heap.get?_push_of_some _ e,sD _ lo (hi - lo).toNat,?_,λ b hb=>?_,q⟩
 ·have e1:lo+((0:Nat):Int) * 1=lo:=by simp
  have e2:(((hi - lo).toNat:Nat):Int) - ((0:Nat):Int)=Builtin.Range.rangeSize lo hi 1:=by rw [rangeSize_one]; split <;> omega
  show IsRangeIter _ _ (lo+((0:Nat):Int) * 1) ((((hi - lo).toNat:Nat):Int) - ((0:Nat):Int)) 1;rw [e1,e2];exact Heap.get?_push_size _ rfl
 ·have e:b=(s.heap.push { cls:=.type "range",data:=.fields #[.int lo t,.int hi u,.int 1 v] }).objs.size:=by simpa using hb
  subst e;exact I1.tK (Zl _) (I1.hok.fresh (Zl _))
def Kr (ta:TA):TI:=λ σ H R=>ta σ H λ vs H1=>∃ j:Int,vs=[.int j]/\-(2 ^ 62)<=j/\j < 2 ^ 62/\R (Itr 0 j.toNat) H1
theorem nr {a:Expr} {ta:TA} {p pos:Pos} (hg:Gl X "range") (hm:X.mg "range"=none) (ha:PA X [a] ta) (hs:starEach [a] X.env=[(false,eval a X.env)]:=by rfl):PI X tg (.Call (.Name "range" p) [a] [] pos) (Kr ta):=by
 intro pins s σ H R I h;refine Call_ (jc I hg hm boot_range (Ys (thn (ha pos pins s σ H _ I h) λ us s1 ⟨vs,H1,I1,r1,q1⟩=>?_) hs rfl));obtain ⟨j,e,q1,q2,q⟩:=q1;subst e
 cases r1 with
 | cons r rr =>
  cases rr;obtain ⟨t,rfl⟩:=r;exact call_range_1 (xQ I1 (by omega) (by omega) q1 q2 (by simpa using q))
def Me (wi:TI) (g:TG) (tb:TS):TS:=λ D σ H=>wi σ H λ J H1=>∃ W:Nat->Nat->St->Hp->Prop,(∃ m,W 0 m σ H1)/\∀ i m σ H,W i m σ H ->
 (J.stop i H/\D.nx σ H)\/(J.go i H/\∃ N:St->Hp->Prop,(∀ σ' H',N σ' H'->∃ m',m' < m/\W (i+1) m' σ' H')/\∀ x H',J.yld i H x H'->g x σ H' λ σ2 H2=>tb { D with nx:=N,ct:=N,bk:=D.nx } σ2 H2)
def q8 (fp:List Addr) (h:Heap):List (Addr×Obj):=fp.filterMap λ b=>(h.get? b).map λ o=>(b,o)
theorem eL (hb:b ∈ fp) (e:h.get? b=some o):(b,o) ∈ q8 fp h:=List.mem_filterMap.mpr ⟨b,hb,by rw [e]; rfl⟩
theorem va (hp:p ∈ q8 fp h):p.1 ∈ fp/\h.get? p.1=some p.2:=by
 obtain ⟨b,hb,e⟩:=List.mem_filterMap.mp hp
 cases q:h.get? b with
 | none=>rw [q] at e; cases e
 | some o =>
  rw [q] at e;have e':(b,o)=p:=Zj e;subst e';exact ⟨hb,q⟩
theorem Inv.pinned (I:Inv X pins σ H s) (hf:∀ b ∈ fp,pj X pins H b) (ho:∀ b ∈ fp,∃ o,s.heap.get? b=some o/\∀ v,o.data≠.cell v):Inv X (pins++q8 fp s.heap) σ H s :=
 I.gK λ p hp=>(Zg.mp hp).elim (λ z=>I.pin p (Zc _ z)) λ z=>by
  obtain ⟨hb,e⟩:=va z;obtain ⟨f0,f1,f2,_⟩:=hf p.1 hb;obtain ⟨o,e',d⟩:=ho p.1 hb;rw [e] at e'; cases e'
  exact ⟨e,f0,f1,f2,d⟩
theorem Inv.lX (I:Inv X (pins++pl) σ H s):Inv X pins σ H s:=I.gK λ p hp=>I.pin p (Zc _ (Zp _ hp))
theorem qZ (hp:PassesOwn (model X.prog X.w) X.A X.env X.xe) (hc:X.calm=true) (hi:PI X tg iter wi) (hg:PG X tg g) (hb:PSs X body tb)
  (hs:∀ x,foldedSetIterable iter X.env x=pure x:=by intro _; rfl):PS X (.For tg iter body [] pos) (Me wi g tb):=by
 intro pins s σ H D I h;refine wpAny_For (thn (hi pins s σ H _ I h) λ v s1 h1=>thn h1 λ itv s2 h2=>?_) hs;obtain ⟨it,fp,tn,J,H2,e,I2,T,st2,f2,W,⟨m0,w0⟩,turn⟩:=h2;subst e;have stat:∀ {H':Hp},(∀ b ∈ fp,H' b=none)->∀ b ∈ fp,pj X pins H' b:=λ hn b hb=>⟨hn b hb,(f2 b hb).2⟩
 refine codeAny_forLoop_any (λ n s'=>∃ i σ' H',Inv X pins σ' H' s'/\tn i s'.heap/\(∀ b ∈ fp,H' b=none)/\W i n σ' H') ?_ m0 ⟨0,σ,H2,I2,st2,λ b hb=>(f2 b hb).1,w0⟩
 rintro n s3 ⟨i,σ3,H3,I3,st3,fr3,w3⟩
 rcases turn i n σ3 H3 w3 with ⟨stop,qn⟩ | ⟨go,N,hN,step⟩
 ·refine Xf hp (thn (T.done X rfl rfl rfl hc i pins s3 σ3 H3 X.xe I3 (stat fr3) st3 stop) λ r s4 ⟨hr,I4⟩=>?_)
  subst hr;exact wpAny_execs_nil ⟨σ3,H3,I4,qn⟩
 ·refine Xf hp (thn (T.item X rfl rfl rfl hc i pins s3 σ3 H3 X.xe I3 (stat fr3) st3 go) λ r s4 ⟨u,hr,h4⟩=>?_)
  subst hr;refine Xf hp (thn h4 λ _ s5 ⟨x,H5,I5,r5,y5,st5,fr5⟩=>?_);have I5':=I5.pinned (stat fr5) (T.obj _ _ st5);refine Xf hp (thn (hg _ s5 σ3 H5 x u _ I5' r5 (step x H5 y5)) λ _ s6 ⟨σ6,H6,I6,q6⟩=>?_);refine Xf hp (thn (hb _ s6 σ6 H6 _ I6 q6) λ f s7 q7=>?_)
  have again:∀ {σ7:St} {H7:Hp},Inv X (pins++q8 fp s5.heap) σ7 H7 s7->N σ7 H7->∃ m,m < n/\∃ i σ' H',Inv X pins σ' H' s7/\tn i s7.heap/\(∀ b ∈ fp,H' b=none)/\W i m σ' H':=λ {σ7 H7} I7 n7=>by
   obtain ⟨m',hm,w7⟩:=hN σ7 H7 n7;refine ⟨m',hm,i+1,σ7,H7,I7.lX,T.keep _ _ _ st5 λ b hb o e=>(I7.pin (b,o) (Zc _ (Zc _ (eL hb e)))).1,λ b hb=>?_,w7⟩;obtain ⟨o,e,d⟩:=T.obj _ _ st5 b hb;exact (I7.pin (b,o) (Zc _ (Zc _ (eL hb e)))).2.1
  cases f with
  | next=>obtain ⟨σ7,H7,I7,n7⟩:=q7; exact again I7 n7
  | cont=>obtain ⟨σ7,H7,I7,n7⟩:=q7; exact again I7 n7
  | brk=>obtain ⟨σ7,H7,I7,q7⟩:=q7; exact ⟨σ7,H7,I7.lX,q7⟩
  | ret v=>obtain ⟨x7,σ7,H7,I7,r7,q7⟩:=q7; exact ⟨x7,σ7,H7,I7.lX,r7,q7⟩
end
end L2
namespace L2
open PySem PySem.Spec PyProof.Rows
abbrev R2:=V->V->Hp->VK->Prop
def OpR (X:Cx) (f:Value->Value->Sem Value) (r:R2):Prop :=
  ∀ (pins:List (Addr×Obj)) (s:Shared) (σ:St) (H:Hp) (x y:V) (v u:Value) (Q:VK),Inv X pins σ H s->RelV x v->RelV y u->r x y H Q ->
    wpAny (model X.prog X.w) X.A (f v u) (EP X pins σ Q) X.xe s
def UnR (X:Cx) (f:Value->Sem Value) (r:V->Hp->VK->Prop):Prop :=
  ∀ (pins:List (Addr×Obj)) (s:Shared) (σ:St) (H:Hp) (x:V) (v:Value) (Q:VK),Inv X pins σ H s->RelV x v->r x H Q ->
    wpAny (model X.prog X.w) X.A (f v) (EP X pins σ Q) X.xe s
def fC (X:Cx) (f:Value) (r:List V->Hp->VK->Prop):Prop :=
  ∀ (pins:List (Addr×Obj)) (s:Shared) (σ:St) (H:Hp) (xs:List V) (us:List Value) (Q:VK),Inv X pins σ H s->bG xs us->r xs H Q ->
    wpAny (model X.prog X.w) X.A (call f us) (EP X pins σ Q) X.xe s
def NI (X:Cx) (r:V->Hp->(Bool->Hp->Prop)->Prop):Prop :=
  ∀ (pins:List (Addr×Obj)) (s:Shared) (σ:St) (H:Hp) (x:V) (v:Value) (Q:Bool->Hp->Prop),Inv X pins σ H s->RelV x v->r x H Q ->
    wpAny (model X.prog X.w) X.A (truthy v) (TP X pins σ Q) X.xe s
def tOp (r:R2) (ta tb:TE):TE:=λ σ H Q=>ta σ H λ x H1=>tb σ H1 λ y H2=>r x y H2 Q
def tUn (r:V->Hp->VK->Prop) (ta:TE):TE:=λ σ H Q=>ta σ H λ x H1=>r x H1 Q
def rI (C:Int->Int->Prop) (g:Int->Int->V):R2:=λ x y H Q=>∃ i j,x=.int i/\y=.int j/\C i j/\Q (g i j) H
def rI0 (g:Int->Int->V):R2:=λ x y H Q=>∃ i j,x=.int i/\y=.int j/\Q (g i j) H
def rU (g:Int->V):V->Hp->VK->Prop:=λ x H Q=>∃ i,x=.int i/\Q (g i) H
section
variable {X:Cx} {a b c:Expr} {ta tb tc:TE} {pos:Pos}
theorem KR (ha:PE X a ta) (hb:PE X b tb) {pins:List (Addr×Obj)} {s:Shared} {σ:St} {H:Hp} {R:V->V->Hp->Prop} (I:Inv X pins σ H s)
  (h:ta σ H λ x H1=>tb σ H1 λ y H2=>R x y H2) {Q:Value->Shared->Prop} {f:Value->Value->Sem Value}
  (hf:∀ v u s2 x y H2,Inv X pins σ H2 s2->RelV x v->RelV y u->R x y H2->wpAny (model X.prog X.w) X.A (f v u) Q X.xe s2) :
  wpAny (model X.prog X.w) X.A (eval a X.env) (λ v s₁=>wpAny (model X.prog X.w) X.A (eval b X.env) (λ u s₂=>wpAny (model X.prog X.w) X.A (f v u) Q X.xe s₂) X.xe s₁) X.xe s:=by
 refine thn (ha pins s σ H _ I h) λ v s1 ⟨x,H1,I1,r1,q1⟩=>?_
 refine thn (hb pins s1 σ H1 _ I1 q1) λ u s2 ⟨y,H2,I2,r2,q2⟩=>?_
 exact hf v u s2 x y H2 I2 r1 r2 q2
theorem yb {op:Operator} {r:R2} (ho:OpR X (binaryOp op) r) (ha:PE X a ta) (hb:PE X b tb):PE X (.BinOp a op b pos) (tOp r ta tb):=by
 intro pins s σ H Q I h;exact wpAny_BinOp (KR ha hb I h λ v u s2 x y H2 I2 rx ry q=>ho pins s2 σ H2 x y v u Q I2 rx ry q)
theorem HW (ho:UnR X (unaryOp op) r) (ha:PE X a ta):PE X (.UnaryOp op a pos) (tUn r ta):=by
 intro pins s σ H Q I h;exact UnaryOp_ (thn (ha pins s σ H _ I h) λ v s1 ⟨x,H1,I1,r1,q1⟩=>ho pins s1 σ H1 x v Q I1 r1 q1)
theorem opI {f:Value->Value->Sem Value} {C:Int->Int->Prop} {g:Int->Int->Int}
  (rule:∀ (i j:Int) (t u:Tok) (s:Shared) (Q:Value->Shared->Prop) (E:Value->Shared->Prop),C i j->Q (.int (g i j) s.toks) { s with toks:=s.toks+1 }->wpAny (model X.prog X.w) X.A (f (.int i t) (.int j u)) Q E s) :
  OpR X f (rI C λ i j=>.int (g i j)):=by
 intro pins s σ H x y v u Q I rx ry h;obtain ⟨i,j,rfl,rfl,hc,q⟩:=h;obtain ⟨t,rfl⟩:=rx;obtain ⟨t',rfl⟩:=ry;exact rule i j t t' s _ _ hc ⟨.int (g i j),H,I.tok _,⟨_,rfl⟩,q⟩
theorem K3 {f:Value->Value->Sem Value} {g:Int->Int->Int}
  (rule:∀ (i j:Int) (t u:Tok) (s:Shared) (Q:Value->Shared->Prop) (E:Value->Shared->Prop),Q (.int (g i j) s.toks) { s with toks:=s.toks+1 }->wpAny (model X.prog X.w) X.A (f (.int i t) (.int j u)) Q E s) :
  OpR X f (rI0 λ i j=>.int (g i j)):=by
 intro pins s σ H x y v u Q I rx ry h;obtain ⟨i,j,rfl,rfl,q⟩:=h;obtain ⟨t,rfl⟩:=rx;obtain ⟨t',rfl⟩:=ry;exact rule i j t t' s _ _ ⟨.int (g i j),H,I.tok _,⟨_,rfl⟩,q⟩
theorem Ih {f:Value->Value->Sem Value} {g:Int->Int->Bool}
  (rule:∀ (i j:Int) (t u:Tok) (s:Shared) (Q:Value->Shared->Prop) (E:Value->Shared->Prop),Q (.bool (g i j)) s->wpAny (model X.prog X.w) X.A (f (.int i t) (.int j u)) Q E s) :
  OpR X f (rI0 λ i j=>.bl (g i j)):=by
 intro pins s σ H x y v u Q I rx ry h;obtain ⟨i,j,rfl,rfl,q⟩:=h;obtain ⟨t,rfl⟩:=rx;obtain ⟨t',rfl⟩:=ry;exact rule i j t t' s _ _ ⟨.bl (g i j),H,I,rfl,q⟩
def Hm (i j:Int):Prop:=0<=j/\j<=1000000/\i.natAbs < 2 ^ 64
def An (i j:Int):Prop:=(-(2 ^ 64) < i/\i < 2 ^ 64)\/(-(2 ^ 64) < j/\j < 2 ^ 64)
theorem An.ok (h:An i j):IntMulOk i j:=by
 rcases h with ⟨h1,h2⟩ | ⟨h1,h2⟩
 · exact .of_left (intBits_le_64 h1 h2)
 · exact .of_right (intBits_le_64 h1 h2)
theorem Ei:OpR X (binaryOp .Add) (rI0 λ i j=>.int (i+j)):=K3 λ _ _ _ _ _ _ _ q=>add_int q
theorem zO:OpR X (binaryOp .Sub) (rI0 λ i j=>.int (i - j)):=K3 λ _ _ _ _ _ _ _ q=>sub_int q
theorem Bi:OpR X (binaryOp .Mod) (rI (λ _ j=>j≠0) λ i j=>.int (i.fmod j)):=opI λ _ _ _ _ _ _ _ hc q=>mod_int' hc q
theorem Ee:OpR X (binaryOp .Pow) (rI Hm λ i j=>.int (i ^ j.toNat)):=opI λ _ _ _ _ _ _ _ hc q=>pow_int_small hc.1 hc.2.1 hc.2.2 q
theorem unI {f:Value->Sem Value} {g:Int->Int}
  (rule:∀ (i:Int) (t:Tok) (s:Shared) (Q:Value->Shared->Prop) (E:Value->Shared->Prop),Q (.int (g i) s.toks) { s with toks:=s.toks+1 }->wpAny (model X.prog X.w) X.A (f (.int i t)) Q E s) :
  UnR X f (rU λ i=>.int (g i)):=by
 intro pins s σ H x v Q I rx h;obtain ⟨i,rfl,q⟩:=h;obtain ⟨t,rfl⟩:=rx;exact rule i t s _ _ ⟨.int (g i),H,I.tok _,⟨_,rfl⟩,q⟩
theorem Dr:UnR X (unaryOp .USub) (rU λ i=>.int (-i)):=unI λ _ _ _ _ _ q=>neg_int q
end
def HJ:V->V->Bool
 | .non,.non=>true | .non,.int _=>true | .int _,.non=>true | .non,.bl _=>true | .bl _,.non=>true | .non,.str _=>true | .str _,.non=>true
 | .int _,.int _=>true | .bl _,.bl _=>true | .str _,.str _=>true | .byt _,.byt _=>true
 | .int _,.str _=>true | .str _,.int _=>true | .bl _,.str _=>true | .str _,.bl _=>true
 | _,_=>false
def rEq:R2:=λ x y H Q=>HJ x y=true/\Q (.bl (decide (x=y))) H
def rNe:R2:=λ x y H Q=>HJ x y=true/\Q (.bl (!decide (x=y))) H
theorem wI:decide (V.int i=V.int j)=(i == j):=by
 rw [Y8];simp
theorem Ah:decide (V.bl i=V.bl j)=(i == j):=by
 rw [Y8];simp
theorem wH:decide (V.str i=V.str j)=(i == j):=by
 rw [Y8];simp
theorem wJ:decide (V.byt i=V.byt j)=(i.toList == j.toList):=by
 rw [Y8];cases i;cases j;simp
section
variable {X:Cx} {a b c:Expr} {ta tb tc:TE} {pos:Pos}
theorem a8 (I:Inv X pins σ H s) (q:Q (.bl k) H) (e:k=k'):EP X pins σ Q (.bool k') s:=by
 subst e;exact ⟨.bl k,H,I,rfl,q⟩
theorem Ig:OpR X (compareOp .Eq) rEq:=by
 intro pins s σ H x y v u Q I rx ry h;obtain ⟨hs,q⟩:=h
 cases x with
 | non =>
  cases rx
  cases y with
  | non=>cases ry; exact PySem.EqNone.eq_none_none (a8 I q (by simp))
  | bl j=>cases ry; exact PySem.EqNone.eq_none_bool (a8 I q (by simp))
  | int j=>obtain ⟨t',rfl⟩:=ry; exact PySem.EqNone.eq_none_int (a8 I q (by simp))
  | str j=>obtain ⟨t',rfl⟩:=ry; exact PySem.EqNone.eq_none_str (a8 I q (by simp))
  | _=>exact absurd (show false=true from hs) Zf
 | bl i =>
  cases rx
  cases y with
  | non=>cases ry; exact PySem.EqNone.eq_bool_none (a8 I q (by simp))
  | bl j=>cases ry; exact eq_bool (a8 I q Ah)
  | str j=>obtain ⟨t',rfl⟩:=ry; exact PySem.EqMixed.eq_bool_str (a8 I q (by simp))
  | _=>exact absurd (show false=true from hs) Zf
 | int i =>
  obtain ⟨t,rfl⟩:=rx
  cases y with
  | non=>cases ry; exact PySem.EqNone.eq_int_none (a8 I q (by simp))
  | int j=>obtain ⟨t',rfl⟩:=ry; exact eq_int (a8 I q wI)
  | str j=>obtain ⟨t',rfl⟩:=ry; exact PySem.EqMixed.eq_int_str (a8 I q (by simp))
  | _=>exact absurd (show false=true from hs) Zf
 | str i =>
  obtain ⟨t,rfl⟩:=rx
  cases y with
  | non=>cases ry; exact PySem.EqNone.eq_str_none (a8 I q (by simp))
  | bl j=>cases ry; exact PySem.EqMixed.eq_str_bool (a8 I q (by simp))
  | int j=>obtain ⟨t',rfl⟩:=ry; exact PySem.EqMixed.eq_str_int (a8 I q (by simp))
  | str j=>obtain ⟨t',rfl⟩:=ry; exact eq_str (a8 I q wH)
  | _=>exact absurd (show false=true from hs) Zf
 | byt i =>
  obtain ⟨t,rfl⟩:=rx
  cases y with
  | byt j=>obtain ⟨t',rfl⟩:=ry; exact PySem.W.eq_bytes (a8 I q wJ)
  | _=>exact absurd (show false=true from hs) Zf
 | _=>cases y <;> exact absurd (show false=true from hs) Zf
theorem H9:OpR X (compareOp .NotEq) rNe:=by
 intro pins s σ H x y v u Q I rx ry h;obtain ⟨hs,q⟩:=h
 cases x with
 | non =>
  cases rx
  cases y with
  | non=>cases ry; exact PySem.EqNone.ne_none_none (a8 I q (by simp))
  | bl j=>cases ry; exact PySem.EqNone.ne_none_bool (a8 I q (by simp))
  | int j=>obtain ⟨t',rfl⟩:=ry; exact PySem.EqNone.ne_none_int (a8 I q (by simp))
  | str j=>obtain ⟨t',rfl⟩:=ry; exact PySem.EqNone.ne_none_str (a8 I q (by simp))
  | _=>exact absurd (show false=true from hs) Zf
 | bl i =>
  cases rx
  cases y with
  | non=>cases ry; exact PySem.EqNone.ne_bool_none (a8 I q (by simp))
  | bl j=>cases ry; exact ne_bool (a8 I q (Z9 not Ah))
  | str j=>obtain ⟨t',rfl⟩:=ry; exact PySem.EqMixed.ne_bool_str (a8 I q (by simp))
  | _=>exact absurd (show false=true from hs) Zf
 | int i =>
  obtain ⟨t,rfl⟩:=rx
  cases y with
  | non=>cases ry; exact PySem.EqNone.ne_int_none (a8 I q (by simp))
  | int j=>obtain ⟨t',rfl⟩:=ry; exact ne_int (a8 I q (Z9 not wI))
  | str j=>obtain ⟨t',rfl⟩:=ry; exact PySem.EqMixed.ne_int_str (a8 I q (by simp))
  | _=>exact absurd (show false=true from hs) Zf
 | str i =>
  obtain ⟨t,rfl⟩:=rx
  cases y with
  | non=>cases ry; exact PySem.EqNone.ne_str_none (a8 I q (by simp))
  | bl j=>cases ry; exact PySem.EqMixed.ne_str_bool (a8 I q (by simp))
  | int j=>obtain ⟨t',rfl⟩:=ry; exact PySem.EqMixed.ne_str_int (a8 I q (by simp))
  | str j=>obtain ⟨t',rfl⟩:=ry; exact ne_str (a8 I q (Z9 not wH))
  | _=>exact absurd (show false=true from hs) Zf
 | byt i =>
  obtain ⟨t,rfl⟩:=rx
  cases y with
  | byt j=>obtain ⟨t',rfl⟩:=ry; exact PySem.W.ne_bytes (a8 I q (Z9 not wJ))
  | _=>exact absurd (show false=true from hs) Zf
 | _=>cases y <;> exact absurd (show false=true from hs) Zf
theorem Ia:OpR X (compareOp .Lt) (rI0 λ i j=>.bl (decide (i < j))):=Ih λ _ _ _ _ _ _ _ q=>lt_int q
theorem Ib:OpR X (compareOp .LtE) (rI0 λ i j=>.bl (decide (i<=j))):=Ih λ _ _ _ _ _ _ _ q=>le_int q
theorem Ie:OpR X (compareOp .Gt) (rI0 λ i j=>.bl (decide (j < i))):=Ih λ _ _ _ _ _ _ _ q=>gt_int q
theorem uX:OpR X (compareOp .Lt) (λ x y H Q=>∃ i j,x=.str i/\y=.str j/\Q (.bl (decide (i.cps.toList < j.cps.toList))) H):=by
 intro pins s σ H x y v u Q I rx ry h;obtain ⟨i,j,rfl,rfl,q⟩:=h;obtain ⟨t,rfl⟩:=rx;obtain ⟨t',rfl⟩:=ry;exact lt_str (a8 I q rfl)
theorem Eg:OpR X (compareOp .Is) (λ x y H Q=>y=.non/\Q (.bl (decide (x=.non))) H):=by
 intro pins s σ H x y v u Q I rx ry h;obtain ⟨rfl,q⟩:=h;cases ry;refine is_none_gen (a8 I q ?_)
 cases x <;> first
  | (cases rx; rfl)
  | (obtain ⟨t,rfl⟩:=rx; rfl)
theorem Bg:OpR X (compareOp .IsNot) (λ x y H Q=>y=.non/\Q (.bl (!decide (x=.non))) H):=by
 intro pins s σ H x y v u Q I rx ry h;obtain ⟨rfl,q⟩:=h;cases ry;refine isnot_none_gen (a8 I q ?_)
 cases x <;> first
  | (cases rx; rfl)
  | (obtain ⟨t,rfl⟩:=rx; rfl)
theorem OpR.or (h:OpR X f r) (h':OpR X f r'):OpR X f (λ x y H Q=>r x y H Q\/r' x y H Q):=by
 intro pins s σ H x y v u Q I rx ry q;rcases q with q | q
 · exact h pins s σ H x y v u Q I rx ry q
 · exact h' pins s σ H x y v u Q I rx ry q
theorem zR (b:Expr) (h:op≠.In:=by decide) (h2:op≠.NotIn:=by decide):behindInMarks op b=false:=by
 have e1:(op == CmpOp.In)=false:=by cases op <;> first | rfl | exact absurd rfl h
 have e2:(op == CmpOp.NotIn)=false:=by cases op <;> first | rfl | exact absurd rfl h2
 cases b <;> simp [behindInMarks,e1,e2]
theorem A9 (ho:OpR X (compareOp op) r) (ha:PE X a ta) (hb:PE X b tb) (hm:behindInMarks op b=false):PE X (.Compare a [op] [b] pos) (tOp r ta tb):=by
 intro pins s σ H Q I h;exact wpAny_Compare1 (KR ha hb I h λ v u s2 x y H2 I2 rx ry q=>ho pins s2 σ H2 x y v u Q I2 rx ry q) hm
def Dy (t:TE):TT:=λ σ H Q=>t σ H λ x H'=>∃ k,x=.bl k/\Q k H'
theorem AU (ho:OpR X (compareOp op) r) (ha:PE X a ta) (hb:PE X b tb) (hm:behindInMarks op b=false):PT X (.Compare a [op] [b] pos) (Dy (tOp r ta tb)):=by
 intro pins s σ H Q I h
 refine wpAny_isTrue_Compare1 (thn (ha pins s σ H _ I h) λ v s1 ⟨x,H1,I1,r1,q1⟩=>thn (hb pins s1 σ H1 _ I1 q1) λ u s2 ⟨y,H2,I2,r2,q2⟩ =>
  thn (ho pins s2 σ H2 x y v u _ I2 r1 r2 q2) λ c s3 ⟨z,H3,I3,r3,k,e,q3⟩=>?_) hm
 subst e;cases r3;exact Yk ⟨H3,I3,q3⟩
def uv (r r':R2) (ta tb tc:TE):TE:=λ σ H Q=>ta σ H λ x H1=>tb σ H1 λ y H2=>r x y H2 λ z H3=>∃ k,z=.bl k /\
 (if k=true then tc σ H3 λ w' H4=>r' y w' H4 Q else Q (.bl false) H3)
theorem yi (ho:OpR X (compareOp op) r) (ho':OpR X (compareOp op') r') (ha:PE X a ta) (hb:PE X b tb) (hc:PE X c tc)
  (hm:lastMarks [op,op'] [b,c]=false:=by with_unfolding_all rfl):PE X (.Compare a [op,op'] [b,c] pos) (uv r r' ta tb tc):=by
 intro pins s σ H Q I h
 refine Compare_chain (thn (ha pins s σ H _ I h) λ v s1 ⟨x,H1,I1,r1,q1⟩=>chain_link (thn (hb pins s1 σ H1 _ I1 q1) λ u s2 ⟨y,H2,I2,r2,q2⟩ =>
  thn (ho pins s2 σ H2 x y v u _ I2 r1 r2 q2) λ d s3 ⟨z,H3,I3,r3,k,e,q3⟩=>?_)) hm
 subst e;cases r3;refine Yk ?_
 cases k with
 | false=>exact ite_ff ⟨.bl false,H3,I3,rfl,q3⟩
 | true=>exact ite_tt (chain_last (thn (hc pins s3 σ H3 _ I3 q3) λ w' s4 ⟨z',H4,I4,r4,q4⟩=>ho' pins s4 σ H4 y z' u w' Q I4 r2 r4 q4))
theorem xU (ho:OpR X (compareOp op) r) (ho':OpR X (compareOp op') r') (ha:PE X a ta) (hb:PE X b tb) (hc:PE X c tc)
  (hm:lastMarks [op,op'] [b,c]=false:=by with_unfolding_all rfl):PT X (.Compare a [op,op'] [b,c] pos) (Dy (uv r r' ta tb tc)):=by
 intro pins s σ H Q I h
 refine isTrue_chain (thn (ha pins s σ H _ I h) λ v s1 ⟨x,H1,I1,r1,q1⟩=>test_link (thn (hb pins s1 σ H1 _ I1 q1) λ u s2 ⟨y,H2,I2,r2,q2⟩ =>
  thn (ho pins s2 σ H2 x y v u _ I2 r1 r2 q2) λ d s3 ⟨z,H3,I3,r3,k,e,q3⟩=>?_)) hm
 subst e;cases r3;refine Yk ?_
 cases k with
 | false =>
  obtain ⟨k',e',q'⟩:=q3;cases e';exact ite_ff ⟨H3,I3,q'⟩
 | true =>
  refine ite_tt (test_last (thn (hc pins s3 σ H3 _ I3 q3) λ w' s4 ⟨z',H4,I4,r4,q4⟩=>thn (ho' pins s4 σ H4 y z' u w' _ I4 r2 r4 q4) λ d' s5 ⟨z2,H5,I5,r5,k2,e2,q5⟩=>?_));subst e2;cases r5;exact Yk ⟨H5,I5,q5⟩
def L4 (K:W.Frag) (x:V) (H:Hp) (k:Bool):Prop :=
 match x with
 | .non=>k=false
 | .bl b=>k=b
 | .int i=>k=(i != 0)
 | .str y=>y.length<=sizeLine/\k=((y.length:Int) != 0)
 | .byt y=>y.size<=sizeLine/\k=((y.size:Int) != 0)
 | .ref p=>(∃ xs,SqL K H p xs/\k=!xs.isEmpty)\/(∃ xs,SqT K H p xs/\k=!xs.isEmpty)\/∃ kvs,H p=some (.dK kvs)/\k=!kvs.isEmpty
 | _=>False
theorem tG {κ:Type} {kvs:List (κ×V)} {vs:List (κ×Value)} (r:KV kvs vs):(!vs.isEmpty)=!kvs.isEmpty:=by
 cases r <;> rfl
theorem lF (r:bG xs its):(!its.toArray.isEmpty)=!xs.isEmpty:=by
 cases r <;> simp
theorem nP:(sizeLine:Nat) < 2 ^ 63:=by rw [Y0]; decide
theorem Dt:NI X (λ x H Q=>∃ k,L4 X.K x H k/\Q k H):=by
 intro pins s σ H x v Q I rx h;obtain ⟨k,e,q⟩:=h;have hl:=nP;have hs:sizeLine=16777216:=Y0
 cases x with
 | non =>
  cases rx;have e':k=false:=e;subst e';exact truthy_none ⟨H,I,q⟩
 | bl b =>
  cases rx;have e':k=b:=e;subst e';exact Yk ⟨H,I,q⟩
 | int i =>
  obtain ⟨t,rfl⟩:=rx;have e':k=(i != 0):=e;subst e';exact PySem.P.truthy_int ⟨H,I,q⟩
 | str y =>
  obtain ⟨t,rfl⟩:=rx;obtain ⟨hy,e'⟩:y.length<=sizeLine/\k=((y.length:Int) != 0):=e;subst e';exact PySem.P.truthy_str (by omega) ⟨H,I.tok _,q⟩
 | byt y =>
  obtain ⟨t,rfl⟩:=rx;obtain ⟨hy,e'⟩:y.size<=sizeLine/\k=((y.size:Int) != 0):=e;subst e';exact PySem.W.truthy_bytes (by omega) ⟨H,I.tok _,q⟩
 | ref p =>
  cases rx;have e':(∃ xs,SqL X.K H p xs/\k=!xs.isEmpty)\/(∃ xs,SqT X.K H p xs/\k=!xs.isEmpty)\/∃ kvs,H p=some (.dK kvs)/\k=!kvs.isEmpty:=e
  rcases e' with ⟨xs,hx,e'⟩ | ⟨xs,hx,e'⟩ | ⟨kvs,hx,e'⟩
  ·subst e'
   obtain ⟨its,r,pl,hz⟩:=I.list hx;have hlen:=r.length;exact wpAny_truthy_list pl.isList (by simp only [Zt]; omega) ⟨H,I.tok _,by rw [lF r]; exact q⟩
  ·subst e'
   obtain ⟨its,r,pl,hz⟩:=I.tuple hx;have hlen:=r.length;exact truthy_tuple pl (by simp only [Zt]; omega) ⟨H,I.tok _,by rw [lF r]; exact q⟩
  ·subst e'
   obtain ⟨hz,hS,vs,r,m⟩:kvs.length<=sizeLine/\(p == sysModules)=false/\∃ vs,KV kvs vs/\s.heap.DictOf (bO X.prog X.w) p vs:=I.hok p _ hx
   have hlen:kvs.length=vs.length:=Paired.length r;exact wpAny_truthy_dict hS m (by omega) ⟨H,I.tok _,by rw [tG r]; exact q⟩
 | _=>exact (show False from e).elim
theorem xT (ha:PE X a ta) (he:∀ whole,isTrue a X.env whole=(do let v <- whole; standAt a.pos; holding [v] (truthy v))) :
  PT X a (λ σ H Q=>ta σ H λ x H'=>∃ k,L4 X.K x H' k/\Q k H'):=by
 intro pins s σ H Q I h;exact isTrue_plain (thn (ha pins s σ H _ I h) λ v s1 ⟨x,H1,I1,r1,q1⟩=>Dt pins s1 σ H1 x v Q I1 r1 q1) (he _)
theorem sT:OpR X (binaryOp .Add) (λ x y H Q=>∃ i j,x=.str i/\y=.str j/\i.length+j.length<=sizeLine/\Q (.str (i++j)) H):=by
 intro pins s σ H x y v u Q I rx ry h;obtain ⟨i,j,rfl,rfl,hz,q⟩:=h;obtain ⟨t,rfl⟩:=rx;obtain ⟨t',rfl⟩:=ry;exact add_str (λ t' tk=>⟨.str (i++j),H,I.tok _,⟨_,rfl⟩,q⟩) hz
theorem vals1 (r:bG [x] us):∃ u,us=[u]/\RelV x u:=by
 cases r with
 | cons r1 r2=>cases r2; exact ⟨_,rfl,r1⟩
theorem vals2 (r:bG [x,y] us):∃ u w',us=[u,w']/\RelV x u/\RelV y w':=by
 cases r with
 | cons r1 r2 =>
  cases r2 with
  | cons r3 r4=>cases r4; exact ⟨_,_,rfl,r1,r3⟩
def NJ (K:W.Frag) (x:V) (H:Hp) (n:Nat):Prop :=
 match x with
 | .str y=>y.length<=sizeLine/\n=y.length
 | .byt y=>y.size<=sizeLine/\n=y.size
 | .ref p=>(∃ xs,SqL K H p xs/\n=xs.length)\/∃ xs,SqT K H p xs/\n=xs.length
 | _=>False
theorem zg:fC X (.builtin "len") (λ xs H Q=>∃ x n,xs=[x]/\NJ X.K x H n/\Q (.int n) H):=by
 intro pins s σ H xs us Q I r h;obtain ⟨x,n,rfl,e,q⟩:=h;obtain ⟨u,rfl,rx⟩:=vals1 r;have hl:=nP;have hs:sizeLine=16777216:=Y0
 cases x with
 | str y =>
  obtain ⟨t,rfl⟩:=rx;obtain ⟨hy,e'⟩:y.length<=sizeLine/\n=y.length:=e;subst e';exact len_str (by omega) ⟨.int _,H,I.tok _,⟨_,rfl⟩,q⟩
 | byt y =>
  obtain ⟨t,rfl⟩:=rx;obtain ⟨hy,e'⟩:y.size<=sizeLine/\n=y.size:=e;subst e';exact PySem.W.len_bytes (by omega) ⟨.int _,H,I.tok _,⟨_,rfl⟩,q⟩
 | ref p =>
  cases rx;have e':(∃ xs,SqL X.K H p xs/\n=xs.length)\/∃ xs,SqT X.K H p xs/\n=xs.length:=e
  rcases e' with ⟨xs,hx,e'⟩ | ⟨xs,hx,e'⟩
  ·subst e'
   obtain ⟨its,r',pl,hz⟩:=I.list hx;have hlen:=r'.length;exact Calls.call_len_list pl.isList (by simp only [Zt]; omega) ⟨.int xs.length,H,I.tok _,⟨_,by simp only [Zt]; rw [hlen]⟩,q⟩
  ·subst e'
   obtain ⟨its,r',pl,hz⟩:=I.tuple hx;have hlen:=r'.length;exact len_tuple pl (by simp only [Zt]; omega) ⟨.int xs.length,H,I.tok _,⟨_,by simp only [Zt]; rw [hlen]⟩,q⟩
 | _=>exact (show False from e).elim
end
end L2
namespace L2
open PySem PySem.Spec PyProof.Rows
structure CQ (h:Heap) (x dx C:Addr) (mA:Str->Option Value):Prop where
 obj:h.get? x=some (PySem.W.instObj C dx)
 ns:h.Ns1 dx mA
 ne:dx≠x
theorem vA {h:Heap} {dx:Addr} {mA:Str->Option Value} (n:h.Ns1 dx mA):∃ od,h.get? dx=some od/\∀ name,PySem.W.lookIn name od=some (mA name):=by
 obtain ⟨o,es,ep,ho,hd,hk,_,hm⟩:=n;refine ⟨o,ho,λ name=>?_⟩;have e:=hm name;unfold nsFind findBy at e;rw [<- Array.find?_toList] at e;unfold PySem.W.lookIn;rw [hd];dsimp only;split
 ·rename_i y q
  rw [q] at e;exact Z9 some e
 ·rename_i q
  rw [q] at e
  have a:es.toList.any (·.refKey)=false:=by
   rw [List.any_eq_false];intro y hy;obtain ⟨z,t,hkey⟩:=hk y (Array.mem_toList_iff.mp hy);simp [DictEntry.refKey,hkey]
  have a':¬ es.toList.any (·.refKey)=true:=by rw [a]; exact Zf
  rw [if_neg a'];exact Z9 some e
theorem CQ.look (I:CQ h x dx C mA):∃ od,PySem.W.InstAt h x (PySem.W.instObj C dx) C (some od)/\∀ name,PySem.W.lookIn name od=some (mA name) :=
 let ⟨od,ho,hl⟩:=vA I.ns
 ⟨od,⟨I.obj,rfl,rfl,ho⟩,hl⟩
section
variable {prog:Program} {w:World} {A:Around} {E:Value->Shared->Prop} {s:Shared} {K:W.Frag} {x dx C f:Addr} {mA:Str->Option Value} {name:Str} {v:Value}
theorem get_map (X:K.In s.heap) (I:CQ s.heap x dx C mA) (hg:PySem.W.plainGet K C name=true) (hh:PySem.W.hasDictIn K C=true)
  (ha:W.findIn K (.ref C) name=some none) (hv:mA name=some v) (hv':PySem.W.handedIn v=true) (h:Q v { s with toks:=s.toks+1 }) :
  wpAny (model prog w) A (getAttr (.ref x) name expr) Q E s:=by
 obtain ⟨od,J,hl⟩:=I.look;exact PySem.W.get_value X J (PySem.W.plainGet_of hg).1 (PySem.W.findObj_own hh ha rfl (by rw [hl,hv])) hv' h
theorem yO (X:K.In s.heap) (I:CQ s.heap x dx C mA) (hg:PySem.W.plainGet K C name=true)
  (hf:W.findIn K (.ref C) name=some (some (.ref f))) (ht:PySem.W.isFn K (.ref f)=true) (hv:mA name=none) (h:Q (.ref f,[.ref x]) s) :
  wpAny (model prog w) A (getMethod (.ref x) name pl) Q E s:=by
 obtain ⟨od,J,hl⟩:=I.look;exact PySem.W.method_fn X J (PySem.W.plainGet_of hg).1 (PySem.W.plainGet_of hg).2 hf (beq_iff_eq.mp ht) (by show (PySem.W.lookIn name od).map (·.isSome)=some false; rw [hl,hv]; rfl) h
theorem AE (X:K.In s.heap) (I:CQ s.heap x dx C mA)
  (hs:W.findIn K (.ref C) "__setattr__"=some (some (.builtin "object.__setattr__"))) (hp:PySem.W.plainOver K C=true) (ht:PySem.W.takerIn K C name=some none) (hh:PySem.W.hasDictIn K C=true)
  (hw:PySem.Within mA ns) (hsz:ns.length<=sizeLine)
  (h:∀ h',CQ h' x dx C (λ y=>if y=name then some v else mA y)->Heap.SameBut dx s.heap h'->Q () { s with heap:=h',toks:=s.toks+2 }) :
  wpAny (model prog w) A (setAttr (.ref x) name v) Q E s:=by
 obtain ⟨od,J,hl⟩:=I.look;refine PySem.W.set_plain X J hs (PySem.W.osa_open (s:={ s with toks:=s.toks+1 }) (r:=none) X J hp ht λ b=>?_);obtain ⟨cd,hc,hd'⟩:=PySem.W.any_some hh;have hx:s.heap.get? x=some ⟨.ref C,some dx,.plain,#[]⟩:=I.obj;refine Zo (Z3 (Zo (Zo (wpAny_loadPart hx (Zo (PySem.W.Looks.here (s:={ s with toks:=s.toks+1 }) (PySem.W.looks_clsIn X hc) ?_))))));rw [hd'];refine Z3 (a:=some dx) (Zo (Z3 (Zo ?_)));refine wpAny_nsSet1 (s:={ s with toks:=s.toks+1 }) I.ns λ h' hn2 hs2=>?_
 obtain ⟨oD,esD,epD,hoD,hdD,hcD⟩:=hn2.count (PySem.Within.cons name v hw);refine Zo (wpAny_lookBehind hoD (by rw [hdD]; exact pastItsLine_dict (Z2 hcD (by rw [Zy]; omega))) ?_);exact Z3 (h _ ⟨(hs2.2 _ (Ne.symm I.ne)).trans I.obj,hn2,I.ne⟩ hs2)
theorem yv (X:K.In s.heap) (hm:PySem.W.makesIn K C=true)
  (hi:W.findIn K (.ref C) "__init__"=some (some (.ref f))) (hf:PySem.W.typeIn K (.ref f)=some (.type "function"))
  (h : codeAny (model prog w) (A.under (.builtin "type.__call__" ⟨.ref C::vs,kw⟩)) (.call (.ref f) ⟨.ref (s.heap.objs.size+1)::vs,kw⟩) (PySem.W.InitBack (s.heap.objs.size+1) R)
    { s with heap:=(s.heap.push PySem.W.emptyDict).push (PySem.W.instObj C s.heap.objs.size) }) :
  codeAny (model prog w) A (.call (.ref C) ⟨vs,kw⟩) R s:=by
 obtain ⟨hh,g,d,t,os⟩:=s;exact PySem.W.make_core (PySem.W.makes_of X hm) (PySem.W.looks_findIn X hi) (λ self=>PySem.W.bind_fn X self hf) (.inl rfl) h
end
def kU (f:Str) (v:V):List (Str×V)->List (Str×V)
 | []=>[(f,v)]
 | (g,x)::r=>if g=f then (g,v)::r else (g,x)::kU f v r
theorem jZ (f g:Str) (v:V):∀ fs:List (Str×V),(kU f v fs).lookup g=if g=f then some v else fs.lookup g
 | []=>by
  show List.lookup g [(f,v)]=_
  by_cases h:g=f
  ·have hb:(g == f)=true:=beq_iff_eq.mpr h
   simp only [List.lookup,hb,if_pos h]
  ·have hb:(g == f)=false:=Y9.mpr h
   simp only [List.lookup,hb,if_neg h]
 | (k,x)::r=>by
  have ih:=jZ f g v r;rw [show kU f v ((k,x)::r)=(if k=f then (k,v)::r else (k,x)::kU f v r) from rfl]
  by_cases hk:k=f
  ·rw [if_pos hk]
   by_cases h:g=k
   ·have hb:(g == k)=true:=beq_iff_eq.mpr h
    simp only [List.lookup,hb,if_pos (h.trans hk)]
   ·have hb:(g == k)=false:=Y9.mpr h
    simp only [List.lookup,hb,if_neg (λ e:g=f=>h (e.trans hk.symm))]
  ·rw [if_neg hk]
   by_cases h:g=k
   ·have hb:(g == k)=true:=beq_iff_eq.mpr h
    simp only [List.lookup,hb,if_neg (λ e:g=f=>hk (h.symm.trans e))]
   ·have hb:(g == k)=false:=Y9.mpr h
    simp only [List.lookup,hb];exact ih
theorem j3 (f:Str) (v:V):∀ fs:List (Str×V),f ∈ (kU f v fs).map (·.1)/\∀ g,g ∈ fs.map (·.1)->g ∈ (kU f v fs).map (·.1)
 | []=>⟨by simp [kU],λ g h=>by simp at h⟩
 | (k,x)::r=>by
  obtain ⟨i1,i2⟩:=j3 f v r;rw [show kU f v ((k,x)::r)=(if k=f then (k,v)::r else (k,x)::kU f v r) from rfl]
  by_cases hk:k=f
  ·rw [if_pos hk]
   subst hk;exact ⟨by simp,λ g h=>by simpa using h⟩
  ·rw [if_neg hk]
   refine ⟨?_,λ g h=>?_⟩
   ·rw [Zh]
    exact Zd _ i1
   ·rw [Zh] at h ⊢
    rcases Zi.mp h with e | e
    · exact Zi.mpr (.inl e)
    · exact Zd _ (i2 g e)
theorem j0 (f:Str) (v:V):∀ fs:List (Str×V),(kU f v fs).length<=fs.length+1
 | []=>by simp [kU]
 | (k,x)::r=>by
  have ih:=j0 f v r;rw [show kU f v ((k,x)::r)=(if k=f then (k,v)::r else (k,x)::kU f v r) from rfl]
  by_cases hk:k=f
  · rw [if_pos hk,Zy,Zy]; omega
  · rw [if_neg hk,Zy,Zy]; omega
theorem pe.some_of (r:pe (some v) o):∃ u,o=some u/\RelV v u:=by
 cases o with
 | none=>exact (show False from r).elim
 | some u=>exact ⟨u,rfl,r⟩
theorem pe.none_of (r:pe none o):o=none:=by
 cases o with
 | none=>rfl
 | some u=>exact (show False from r).elim
theorem v8 (r:RelV v u):PySem.W.handedIn u=true:=by
 cases v with
 | non=>cases (show u=Value.none from r); rfl
 | bl b=>cases (show u=Value.bool b from r); rfl
 | int i=>obtain ⟨t,e⟩:=(show ∃ t,u=Value.int i t from r); cases e; rfl
 | str x=>obtain ⟨t,e⟩:=(show ∃ t,u=Value.str x t from r); cases e; rfl
 | byt b=>obtain ⟨t,e⟩:=(show ∃ t,u=Value.bytes b t from r); cases e; rfl
 | flt b=>obtain ⟨t,e⟩:=(show ∃ t,u=Value.float b t from r); cases e; rfl
 | ref a=>cases (show u=Value.ref a from r); rfl
 | ty n=>cases (show u=Value.type n from r); rfl
section
variable {P:Program} {w:World} {H H':Hp} {h h':Heap} {a C dx:Addr} {fs fs':List (Str×V)}
theorem mo (hok:HOk P w H h) (e:H a=some (.ins C dx fs)):∃ mA,CQ h a dx C mA/\(∀ f,pe (fs.lookup f) (mA f))/\PySem.Within mA (fs.map (·.1))/\fs.length<=1000/\H dx=some (.own a):=by
 obtain ⟨d,z,ne,ob,mA,n,r,q⟩:=(show cw P w H h a (.ins C dx fs) from hok a _ e)
 exact ⟨mA,⟨ob,n,ne⟩,r,q,z,d⟩
end
structure Cls (K:W.Frag) (C:Addr):Prop where
 pg:PySem.W.plainGet K C Str.empty=true
 hd:PySem.W.hasDictIn K C=true
 po:PySem.W.plainOver K C=true
 sa:W.findIn K (.ref C) "__setattr__"=some (some (.builtin "object.__setattr__"))
theorem Cls.get {K:W.Frag} {C:Addr} (c:Cls K C) (f:Str):PySem.W.plainGet K C f=true:=c.pg
def cU (K:W.Frag) (C:Addr) (f:Str):Prop:=W.findIn K (.ref C) f=some none
theorem cU.Hw {K:W.Frag} {C:Addr} {f:Str} (n:cU K C f):PySem.W.takerIn K C f=some none:=by
 unfold PySem.W.takerIn;rw [show W.findIn K (.ref C) f=some none from n];rfl
structure Dl (K:W.Frag) (C:Addr) (m:Str) (f:Addr):Prop where
 at_:W.findIn K (.ref C) m=some (some (.ref f))
 fn:PySem.W.isFn K (.ref f)=true
 kp:W.keepIn K (.ref f)=true
section
variable {X:Cx} {pins:List (Addr×Obj)} {σ:St} {H:Hp} {s:Shared} {a C dx:Addr} {fs:List (Str×V)} {f:Str} {v:V} {A:Around} {E:Value->Shared->Prop}
theorem tJ (I:Inv X pins σ H s) (e:H a=some (.ins C dx fs)) (c:Cls X.K C) (n:cU X.K C f) (l:fs.lookup f=some v)
  (h:∀ u s',Inv X pins σ H s'->RelV v u->Q u s'):wpAny (model X.prog X.w) A (getAttr (.ref a) f b) Q E s:=by
 obtain ⟨mA,O,r,_,_,_⟩:=mo I.hok e;obtain ⟨u,hu,ru⟩:=pe.some_of (v:=v) (o:=mA f) (by rw [<- l]; exact r f);exact get_map I.kIn O (c.get f) c.hd n hu (v8 ru) (h u _ (I.tok _) ru)
theorem tI (I:Inv X pins σ H s) (e:H a=some (.ins C dx fs)) (c:Cls X.K C) (k:Dl X.K C m g) (l:fs.lookup m=none)
  (h:Q (.ref g,[.ref a]) s):wpAny (model X.prog X.w) A (getMethod (.ref a) m pl) Q E s:=by
 obtain ⟨mA,O,r,_,_,_⟩:=mo I.hok e;have hn:mA m=none:=pe.none_of (by rw [<- l]; exact r m);exact yO I.kIn O (c.get m) k.at_ k.fn hn h
theorem sJ (I:Inv X pins σ H s) (e:H a=some (.ins C dx fs)) (c:Cls X.K C) (n:cU X.K C f) (hl:fs.length < 1000) (ry:RelV y u)
  (h:∀ s',Inv X pins σ (upd H a (.ins C dx (kU f y fs))) s'->Q () s'):wpAny (model X.prog X.w) A (setAttr (.ref a) f u) Q E s:=by
 obtain ⟨mA,O,r,wi,_,ho⟩:=mo I.hok e;have hz:(fs.map (·.1)).length<=sizeLine:=by rw [Za,Y0]; omega
 refine AE I.kIn O c.sa c.po n.Hw c.hd wi hz λ h' O' sb=>h _ ?_
 have hd:∃ o,h'.get? dx=some o:=let ⟨o,_,_,e',_⟩:=O'.ns; ⟨o,e'⟩
 refine I.write (x:=a) (e:=dx) (by rw [e]; exact True.intro) (.inr ho) (λ b q hb z=>(sb.2 b hb).trans z) hd ?_
 refine ⟨by rw [ar O.ne]; exact ho,?_,O.ne,O'.obj,_,O'.ns,λ g=>?_,λ g hg=>?_⟩
 · have:=j0 f y fs; omega
 ·show pe ((kU f y fs).lookup g) (if g=f then some u else mA g)
  rw [jZ]
  by_cases q:g=f
  · rw [if_pos q,if_pos q]; exact ry
  · rw [if_neg q,if_neg q]; exact r g
 ·by_cases q:g=f
  · rw [q]; exact (j3 f y fs).1
  ·refine (j3 f y fs).2 g (wi g λ z=>hg ?_)
   show (if g=f then some u else mA g)=none;rw [if_neg q]; exact z
theorem Inv.made (I:Inv X pins σ H s):Inv X pins σ (upd (upd H s.heap.objs.size (.own (s.heap.objs.size+1))) (s.heap.objs.size+1) (.ins C s.heap.objs.size []))
  { s with heap:=(s.heap.push PySem.W.emptyDict).push (PySem.W.instObj C s.heap.objs.size) }:=by
 have e1:(s.heap.push PySem.W.emptyDict).get? s.heap.objs.size=some PySem.W.emptyDict:=Heap.get?_push_size s.heap rfl
 have e2:((s.heap.push PySem.W.emptyDict).push (PySem.W.instObj C s.heap.objs.size)).get? (s.heap.objs.size+1)=some (PySem.W.instObj C s.heap.objs.size):=by
  have:=Heap.get?_push_size (s.heap.push PySem.W.emptyDict) (o:=PySem.W.instObj C s.heap.objs.size) rfl
  rwa [Y7] at this
 have e3:(s.heap.push PySem.W.emptyDict).Ns s.heap.objs.size (λ _=>none):=⟨PySem.W.emptyDict,#[],_,e1,rfl,(λ e he=>absurd he (by simp)),λ _=>rfl⟩
 have I1:=I.laid (a:=s.heap.objs.size) (o:=.own (s.heap.objs.size+1)) (h':=s.heap.push PySem.W.emptyDict) (t':=s.toks) (λ b u q=>Heap.get?_push_of_some _ q) (Zl _) ⟨_,e1⟩;refine I1.laid (a:=s.heap.objs.size+1) (o:=.ins C s.heap.objs.size []) (t':=s.toks) (λ b u q=>Heap.get?_push_of_some _ q) (Nat.le_of_eq (Y7 _ _)) ?_
 have ne:s.heap.objs.size≠s.heap.objs.size+1:=Zx (Xa _);refine ⟨by rw [ar ne,aw],Z4 _,ne,e2,λ _=>none,(Heap.Ns1.of_empty e3).at λ o q=>Heap.get?_push_of_some _ q,λ _=>True.intro,λ y hy=>absurd rfl hy⟩
theorem CO (hb:attributeBase e f env (eval e env)=eval e env)
  (h:wpAny (model prog w) A (eval e env) (λ o s₁=>wpAny (model prog w) A (getAttr o f true) Q E s₁) E s):wpAny (model prog w) A (eval (.Attribute e f pos) env) Q E s :=
 Attribute_any_ h (by rw [arm_eval_Attribute,hb])
end
def Mg (K:W.Frag) (ta:TE) (f:Str):TE:=λ σ H Q=>ta σ H λ x H1=>∃ a C dx fs v,x=.ref a/\H1 a=some (.ins C dx fs)/\Cls K C/\cU K C f/\fs.lookup f=some v/\Q v H1
def Mr (K:W.Frag) (ta tv:TE) (f:Str):TS:=λ D σ H=>tv σ H λ y H1=>ta σ H1 λ x H2=>∃ a C dx fs,x=.ref a/\H2 a=some (.ins C dx fs)/\Cls K C/\cU K C f/\fs.length < 1000 /\
 D.nx σ (upd H2 a (.ins C dx (kU f y fs)))
section
variable {X:Cx} {o e value:Expr} {f:Str} {pos pos' tpos:Pos} {ta tv:TE}
theorem zL (he:PE X e ta) (hb:attributeBase e f X.env (eval e X.env)=eval e X.env):PE X (.Attribute e f pos) (Mg X.K ta f):=by
 intro pins s σ H Q I h;refine CO hb (thn (he pins s σ H _ I h) λ u s1 ⟨x,H1,I1,rx,a,C,dx,fs,v,ex,ea,c,n,l,q⟩=>?_);subst ex;obtain rfl:u=Value.ref a:=rx;exact tJ I1 ea c n l λ u' s2 I2 ru=>⟨v,H1,I2,ru,q⟩
theorem zI (ha:PE X o ta) (hv:PE X value tv) (hs:swapsWith value (some (.Attribute o f pos')) pos.line X.env=pure false):PS X (.Assign [.Attribute o f pos'] value pos) (Mr X.K ta tv f):=by
 intro pins s σ H D I h;refine plainObj_wpAny_Assign_Attribute (thn (hv pins s σ H _ I h) λ u s1 ⟨y,H1,I1,ry,q⟩=>thn (ha pins s1 σ H1 _ I1 q) λ ov s2 ⟨x,H2,I2,rx,a,C,dx,fs,ex,ea,c,n,l,q2⟩=>?_) hs;subst ex;obtain rfl:ov=Value.ref a:=rx;exact sJ I2 ea c n l ry λ s3 I3=>⟨σ,_,I3,q2⟩
end
section
variable {X:Cx} {pins:List (Addr×Obj)} {σ:St} {H:Hp} {s:Shared} {A:Around} {E:Value->Shared->Prop} {Q:Value->Shared->Prop} {c:Value} {b:Bool}
inductive uc (K:W.Frag) (H:Hp):V->Value->Prop where
 | non:uc K H .non (.type "NoneType")
 | bl (x:Bool):uc K H (.bl x) (.type "bool")
 | int (i:Int):uc K H (.int i) (.type "int")
 | str (x:Str):uc K H (.str x) (.type "str")
 | flt (x:UInt64):uc K H (.flt x) (.type "float")
 | lst {a:Addr} {xs:List V} (e:H a=some (.lst xs)):uc K H (.ref a) (.type "list")
 | frz {a:Addr} {o:Obj} {xs:List V} (e:H a=some (.frz o (.lst xs))):uc K H (.ref a) (.type "list")
 | tup {a:Addr} {xs:List V} (e:H a=some (.tup xs)):uc K H (.ref a) (.type "tuple")
 | dK {a:Addr} {kvs:List (Key×V)} (e:H a=some (.dK kvs)):uc K H (.ref a) (.type "dict")
 | dT {a:Addr} {kvs:List (List Key×V)} (e:H a=some (.dT kvs)):uc K H (.ref a) (.type "dict")
 | ins {a C dx:Addr} {fs:List (Str×V)} (e:H a=some (.ins C dx fs)) (cl:Cls K C) (ha:W.findIn K (.ref C) "__class__"=some (some (.builtin "object.__class__")))
  (hn:PySem.W.specialIn K (.builtin "object.__class__") "__get__"=some (some (.builtin "getset_descriptor.__get__"))) (htk:PySem.W.takesIn K (.builtin "object.__class__")=some true)
  (hm:PySem.W.mroIn K C (.type "object")=some true):uc K H (.ref a) (.ref C)
theorem vQ (I:Inv X pins σ H s) (rx:RelV x u) (ty:uc X.K H x t) (e:PySem.W.kitOne X.K t c=some b) (h:∀ tk,Q (.bool b) { s with toks:=tk }) :
  wpAny (model X.prog X.w) A (call (.builtin "isinstance") [u,c]) Q E s:=by
 cases ty with
 | non=>cases (show u=Value.none from rx); exact Yp PySem.W.kitx_none I.kIn True.intro e (λ z=>nomatch z) h
 | bl y=>cases (show u=Value.bool y from rx); exact Yp PySem.W.kitx_bool I.kIn True.intro e (λ z=>nomatch z) h
 | int i=>obtain ⟨t,q⟩:=(show ∃ t,u=Value.int i t from rx); cases q; exact Yp PySem.W.kitx_int I.kIn True.intro e (λ z=>nomatch z) h
 | str y=>obtain ⟨t,q⟩:=(show ∃ t,u=Value.str y t from rx); cases q; exact Yp PySem.W.kitx_str I.kIn True.intro e (λ z=>nomatch z) h
 | flt y=>obtain ⟨t,q⟩:=(show ∃ t,u=Value.float y t from rx); cases q; exact Yp PySem.W.kitx_float I.kIn True.intro e (λ z=>nomatch z) h
 | @lst a xs ea =>
  cases (show u=Value.ref a from rx);obtain ⟨_,_,n,_,h1⟩:=(show cw X.prog X.w H s.heap a (.lst xs) from I.hok a _ ea)
  exact Yp PySem.W.kitx_list I.kIn ⟨_,h1,rfl⟩ e (λ z=>nomatch z) h
 | @frz a ob xs ea =>
  cases (show u=Value.ref a from rx);obtain ⟨_,_,_,n,_,h1⟩:=(show cw X.prog X.w H s.heap a (.frz ob (.lst xs)) from I.hok a _ ea)
  exact Yp PySem.W.kitx_list I.kIn ⟨_,h1,rfl⟩ e (λ z=>nomatch z) h
 | @tup a xs ea =>
  cases (show u=Value.ref a from rx);obtain ⟨_,_,_,p⟩:=(show cw X.prog X.w H s.heap a (.tup xs) from I.hok a _ ea)
  obtain ⟨o,h1,h2,_⟩:=p;exact Yp PySem.W.kitx_tuple I.kIn ⟨o,h1,h2⟩ e (λ z=>nomatch z) h
 | @dK a kvs ea =>
  cases (show u=Value.ref a from rx);obtain ⟨_,_,vs,_,p⟩:=(show cw X.prog X.w H s.heap a (.dK kvs) from I.hok a _ ea)
  obtain ⟨o,es,ep,h1,h2,_⟩:=p;exact Yp PySem.W.kitx_dict I.kIn ⟨o,h1,h2.1⟩ e (λ z=>nomatch z) h
 | @dT a kvs ea =>
  cases (show u=Value.ref a from rx);obtain ⟨_,_,xs,_,o,es,ep,h1,h2,_⟩:=(show cw X.prog X.w H s.heap a (.dT kvs) from I.hok a _ ea)
  exact Yp PySem.W.kitx_dict I.kIn ⟨o,h1,h2.1⟩ e (λ z=>nomatch z) h
 | @ins a C dx fs ea cl ha hn htk hm =>
  cases (show u=Value.ref a from rx);obtain ⟨mA,O,_⟩:=mo I.hok ea;obtain ⟨od,J,_⟩:=O.look;exact Yp (PySem.W.kitx_own (cl.get _) cl.hd ha hn htk hm) I.kIn J e (λ z=>nomatch z) h
end
end L2
namespace L2
open PySem PySem.Spec PyProof.Rows
structure d2 (k:Nat) (A:Around):Prop where
 hd:A.handled=none
 dp:A.depth+3 * k+5 < recursionLimit
 un:A.units+16 * k+200 < cLine
theorem d2.mono (r:d2 k A) (h:j<=k):d2 j A:=⟨r.hd,by have:=r.dp; omega,by have:=r.un; omega⟩
theorem d2.deeper (r:d2 (k+1) A) (env:Env):d2 k (A.deeper env) :=
 ⟨r.hd,by have:=r.dp; show A.depth+1+3 * k+5 < _; omega,by have:=r.un; show A.units+3+16 * k+200 < _; omega⟩
theorem tq {A:Around} {C:Addr} {us:List Value} {kw:List (Str×Value)}:(A.under (.builtin "type.__call__" ⟨.ref C::us,kw⟩)).depth=A.depth+1:=by
 first | rfl | simp [Around.under,Code.weight,Code.isCreation,Code.isGuard,Code.isCaller,Code.frames,Code.isFrame,guardIds]
theorem tm {A:Around} {C:Addr} {us:List Value} {kw:List (Str×Value)}:(A.under (.builtin "type.__call__" ⟨.ref C::us,kw⟩)).units=A.units+1:=by
 first | rfl | simp [Around.under,Code.cUnits,Code.frames,Code.isFrame]
theorem d2.make (r:d2 (k+1) A) (C:Addr) (us:List Value) (kw:List (Str×Value)):d2 k (A.under (.builtin "type.__call__" ⟨.ref C::us,kw⟩)) :=
 ⟨r.hd,by have:=r.dp; rw [tq]; omega,by have:=r.un; rw [tm]; omega⟩
theorem d2.depth (r:d2 k A):A.depth < recursionLimit:=by have:=r.dp; omega
theorem d2.units (r:d2 k A):A.units+64 < cLine:=by have:=r.un; omega
def K0:TA:=λ _ H Q=>Q [] H
def Ax (ta:TE) (tr:TA):TA:=λ σ H Q=>ta σ H λ x H1=>tr σ H1 λ xs H2=>Q (x::xs) H2
section
variable {X:Cx} {e:Expr} {es:List Expr} {te:TE} {t:TA} {pos:Pos}
theorem c8:PA X [] K0:=λ _ _ _ _ H Q I h=>Calls.spliced_nil ⟨[],H,I,.nil,h⟩
theorem aT (ha:PE X e te) (hr:PA X es t) (hs:starEach (e::es) X.env=(false,eval e X.env)::starEach es X.env:=by rfl):PA X (e::es) (Ax te t):=by
 intro pos pins s σ H Q I h;rw [hs];show wpAny _ _ (spliced ((false,eval e X.env)::backTo pos (starEach es X.env))) _ _ s;refine Calls.spliced_cons (thn (ha pins s σ H _ I h) λ u s1 ⟨x,H1,I1,r1,q1⟩=>?_);exact thn (hr pos pins s1 σ H1 _ I1 q1) λ us s2 ⟨xs,H2,I2,r2,q2⟩=>⟨x::xs,H2,I2,.cons r1 r2,q2⟩
def L6 (t:TA):TE:=λ σ H Q=>t σ H λ xs H1=>xs.length<=sizeLine/\∀ p,H1 p=none->Q (.ref p) (upd H1 p (.tup xs))
def Mc (t:TA):TE:=λ σ H Q=>t σ H λ xs H1=>xs.length<=sizeLine/\∀ p,H1 p=none->Q (.ref p) (upd H1 p (.lst xs))
theorem zJ {x1} (h:PA X es t):PE X (.Tuple es x1 pos) (L6 t):=by
 intro pins s σ H Q I hq;refine wpAny_Tuple_spliced (thn (h pos pins s σ H _ I hq) λ us s1 ⟨xs,H1,I1,r,z,q⟩=>⟨by rw [<- r.length]; exact z,?_⟩);have hf:H1 s1.heap.objs.size=none:=I1.hok.fresh (Zl _);refine ⟨.ref s1.heap.objs.size,upd H1 s1.heap.objs.size (.tup xs),I1.laid (t':=s1.toks) (λ b u e=>Heap.get?_push_of_some _ e) (Zl _) ?_,rfl,q _ hf⟩;exact ⟨z,us,r,⟨_,Heap.get?_push_size _ rfl,rfl,_,rfl⟩⟩
theorem D8 (h:PA X es t):PE X (.List es pos) (Mc t):=by
 intro pins s σ H Q I hq;refine wpAny_List_spliced (thn (h pos pins s σ H _ I hq) λ us s1 ⟨xs,H1,I1,r,z,q⟩=>⟨by rw [<- r.length]; exact z,?_⟩);have hf:H1 s1.heap.objs.size=none:=I1.hok.fresh (Zl _);refine ⟨.ref s1.heap.objs.size,upd H1 s1.heap.objs.size (.lst xs),I1.laid (t':=s1.toks) (λ b u e=>Heap.get?_push_of_some _ e) (Zl _) ?_,rfl,q _ hf⟩;exact ⟨z,us,0,r,Heap.get?_push_size _ rfl⟩
end
abbrev Sp:=List V->Hp->VK->XK->Prop
abbrev CXT:=List Env->Hp->Shared->XK->Value->Shared->Prop
structure CT (P:Program) (w:World) (K:W.Frag) (mg:Str->Option Value) (base:Heap) (A:Around) (outer:List Env) (s:Shared) (H:Hp):Prop where
 frames:A.frames=some outer
 mod:Mod K mg base
 bs:∀ b o,base.get? b=some o->s.heap.get? b=some o/\H b=none
 bsz:base.objs.size<=s.heap.objs.size
 uf:s.heap.FunFrames base outer
 frf:∀ b ∈ frs outer,H b=none
 hok:HOk P w H s.heap
 bare:AllBare s.gens
def CE (outer:List Env) (P:Program) (w:World) (H:Hp) (s:Shared) (Q:VK) (u:Value) (s':Shared):Prop :=
 ∃ v H',s'.os=s.os/\AllBare s'.gens/\Un (frs outer) [] H H' s.heap s'.heap/\HOk P w H' s'.heap/\RelV v u/\Q v H'
def CR (CX:CXT) (outer:List Env) (P:Program) (w:World) (H:Hp) (s:Shared) (Q:VK) (E:XK) (r:Result) (s':Shared):Prop :=
 match r with
 | .ok (.ret u)=>CE outer P w H s Q u s'
 | .ok _=>False
 | .error e=>CX outer H s E e s'
structure fD (P:Program) (w:World) (K:W.Frag) (mg:Str->Option Value) (base:Heap) (CX:CXT) (k:Nat) (f:Addr) (fd:FuncData) (ps:List Str) (sp:Sp):Prop where
 len:∀ vs H Q E,sp vs H Q E->vs.length=ps.length
 run:∀ (A:Around) (outer:List Env) (s:Shared) (H:Hp) (args:Args) (us:List Value) (vs:List V) (Q:VK) (E:XK),d2 k A->CT P w K mg base A outer s H->BindsTo s fd args (ps.zip us)->bG vs us->sp vs H Q E ->
  codeAny (model P w) A (.call (.ref f) args) (CR CX outer P w H s Q E) s
theorem fD.mono {P:Program} {w:World} {K:W.Frag} {mg:Str->Option Value} {base:Heap} {CX:CXT} {j k:Nat} {f:Addr} {fd:FuncData} {ps:List Str} {sp:Sp} (F:fD P w K mg base CX j f fd ps sp) (h:j<=k) :
 fD P w K mg base CX k f fd ps sp:=⟨F.len,λ A outer s H args us vs Q E hr=>F.run A outer s H args us vs Q E (hr.mono h)⟩
theorem fD.imp {P:Program} {w:World} {K:W.Frag} {mg:Str->Option Value} {base:Heap} {CX:CXT} {k:Nat} {f:Addr} {fd:FuncData} {ps:List Str} {sp sp':Sp} (F:fD P w K mg base CX k f fd ps sp)
  (h:∀ vs H Q E,sp' vs H Q E->sp vs H Q E):fD P w K mg base CX k f fd ps sp' :=
 ⟨λ vs H Q E q=>F.len vs H Q E (h _ _ _ _ q),λ A outer s H args us vs Q E hr he hb hv hs=>F.run A outer s H args us vs Q E hr he hb hv (h _ _ _ _ hs)⟩
theorem CT.make {P:Program} {w:World} {K:W.Frag} {mg:Str->Option Value} {base:Heap} {A:Around} {outer:List Env} {s:Shared} {H:Hp} (e:CT P w K mg base A outer s H) (C:Addr) (us:List Value) (kw:List (Str×Value)) :
 CT P w K mg base (A.under (.builtin "type.__call__" ⟨.ref C::us,kw⟩)) outer s H:=⟨by first | exact e.frames | (simpa [Around.under,Code.envs,Code.isFrame,pushEnvs] using e.frames),e.mod,e.bs,e.bsz,e.uf,e.frf,e.hok,e.bare⟩
section
variable {X:Cx} {pins:List (Addr×Obj)} {σ:St} {H:Hp} {s s':Shared}
theorem Inv.LZ (I:Inv X pins σ H s):CT X.prog X.w X.K X.mg X.base X.A X.stack s H :=
 ⟨I.ok.frames,I.ok.mod,I.bs,Z2 I.ok.bsz I.sz,I.stack,I.pA,I.hok,I.bare⟩
theorem Inv.after (I:Inv X pins σ H s) (h:CE X.stack X.prog X.w H s Q u s'):EP X pins σ Q u s':=by
 obtain ⟨v,H',os,bare,un,hok,r,q⟩:=h;obtain ⟨hh,g,d,t,os'⟩:=s';obtain rfl:os'=s.os:=os;exact ⟨v,H',I.call (h':=hh) (g':=g) (d':=d) (t':=t) (ch:=[]) un hok bare (λ b z=>absurd z (by simp)),r,q⟩
end
def Az (sp:Sp) (dvs:List V) (E:XK) (t:TA):TE:=λ σ H Q=>t σ H λ vs H1=>sp (vs++dvs) H1 Q E
def Dz (C:Addr) (m:Str) (sp:Sp) (dvs:List V) (E:XK) (ta:TE) (t:TA):TE:=λ σ H Q=>ta σ H λ x H1=>∃ a dx fs,x=.ref a/\H1 a=some (.ins C dx fs)/\fs.lookup m=none /\
 t σ H1 λ vs H2=>sp (x::(vs++dvs)) H2 Q E
def HD (C:Addr) (sp:Sp) (dvs:List V) (E:XK) (t:TA):TE:=λ σ H Q=>t σ H λ vs H1=>∀ x dx,H1 x=none->H1 dx=none->dx≠x ->
 sp (.ref x::(vs++dvs)) (upd (upd H1 dx (.own x)) x (.ins C dx [])) (λ v H2=>v=.non/\Q (.ref x) H2) E
def Binds (K:W.Frag) (fd:FuncData) (ps:List Str) (ds:List Value):Prop :=
 ∀ (s:Shared) (us:List Value),K.In s.heap->(us++ds).length=ps.length->BindsTo s fd ⟨us,[]⟩ (ps.zip (us++ds))
theorem Binds.all {K:W.Frag} {fd:FuncData} {ps:List Str} (h:∀ us:List Value,us.length=ps.length->bindArgs fd ⟨us,[]⟩=pure (ps.zip us)):Binds K fd ps []:=λ s us _ hl=>by
 rw [Zz] at hl ⊢;exact .of_eq (h us hl)
def lT (CX:CXT) (X:Cx) (E:XK):Prop:=∀ (pins:List (Addr×Obj)) (σ:St) (H:Hp) (s:Shared) (e:Value) (s':Shared),Inv X pins σ H s->CX X.stack H s E e s'->X.xe e s'
section
variable {X:Cx} {CX:CXT} {k:Nat} {f C:Addr} {fd:FuncData} {ps:List Str} {sp:Sp} {dvs:List V} {ds:List Value} {E:XK} {x m:Str} {p pos apos:Pos} {e o:Expr} {es:List Expr} {ta:TE} {t:TA}
theorem zB (F:fD X.prog X.w X.K X.mg X.base CX k f fd ps sp) (hr:d2 k X.A) (hb:Binds X.K fd ps ds) (hd:bG dvs ds) (hx:lT CX X E)
  (I:Inv X pins σ H s) (r:bG vs us) (h:sp (vs++dvs) H Q E):wpAny (model X.prog X.w) X.A (call (.ref f) us) (EP X pins σ Q) X.xe s:=by
 have r2:bG (vs++dvs) (us++ds):=r.append hd;have hl:(us++ds).length=ps.length:=by rw [<- r2.length]; exact F.len _ _ _ _ h
 refine wpAny_call (codeAny_mono (F.run X.A X.stack s H ⟨us,[]⟩ (us++ds) (vs++dvs) Q E hr I.LZ (hb s us I.kIn hl) r2 h) λ r s' hq=>?_)
 cases r with
 | error e=>exact hx pins σ H s e s' I hq
 | ok fl =>
  cases fl with
  | ret u=>exact I.after hq
  | next=>exact False.elim hq
  | brk=>exact False.elim hq
  | cont=>exact False.elim hq
theorem iB (F:fD X.prog X.w X.K X.mg X.base CX k f fd ps sp) (hr:d2 k X.A) (hg:Gl X x) (hm:X.mg x=some (.ref f)) (hk:W.keepIn X.K (.ref f)=true) (hb:Binds X.K fd ps ds) (hd:bG dvs ds) (hx:lT CX X E)
  (ha:PA X (e::es) t) (hdb:(x == ("__debug__":Str))=false:=by decide) (he:starEach (e::es) X.env=(false,eval e X.env)::starEach es X.env:=by rfl) (hpl:(backTo pos (starEach es X.env)).any (·.1)=false:=by rfl) :
  PE X (.Call (.Name x p) (e::es) [] pos) (Az sp dvs E t):=by
 intro pins s σ H Q I h;refine Xb (p6 I hg hm ?_ hdb);refine PySem.W.callWith_K (h₀:=X.base) I.ok.mod.kin hk (thn (ha pos pins s σ H _ I h) λ us s1 ⟨vs,H1,I1,r,q⟩=>⟨I1.kIn,?_⟩) he hpl;exact zB F hr hb hd hx I1 r q
theorem uU (he:PE X o ta) (c:Cls X.K C) (hm:Dl X.K C m f) (F:fD X.prog X.w X.K X.mg X.base CX k f fd ps sp) (hr:d2 k X.A) (hb:Binds X.K fd ps ds) (hd:bG dvs ds) (hx:lT CX X E) (ha:PA X (e::es) t)
  (hst:starEach (e::es) X.env=(false,eval e X.env)::starEach es X.env:=by rfl) (hpl:(backTo pos (starEach es X.env)).any (·.1)=false:=by rfl)
  (ht:eval (.Call (.Attribute o m apos) (e::es) [] pos) X.env=(do
    let ov <- eval o X.env
    standAt apos.atName
    let (f,first) <- holding [ov] (getMethod ov m pl)
    callWith pos f first (backTo pos (starEach (e::es) X.env)) (backToKw pos (keywordEach [] X.env))):=by rfl) :
  PE X (.Call (.Attribute o m apos) (e::es) [] pos) (Dz C m sp dvs E ta t):=by
 intro pins s σ H Q I h;refine PySem.W.methodCall_KW (pl:=pl) (thn (he pins s σ H _ I h) λ u s1 ⟨x,H1,I1,rx,a,dx,fs,ex,ea,l,q⟩=>?_) ht;subst ex;obtain rfl:u=Value.ref a:=rx;refine tI I1 ea c hm l ?_
 refine PySem.W.callWith_K (first:=[.ref a]) (h₀:=X.base) I.ok.mod.kin hm.kp (thn (ha pos pins s1 σ H1 _ I1 q) λ us s2 ⟨vs,H2,I2,r,q2⟩=>⟨I2.kIn,?_⟩) hst hpl;exact zB (us:=.ref a::us) (vs:=.ref a::vs) F hr hb hd hx I2 (.cons rfl r) q2
structure Mk (K:W.Frag) (C f:Addr):Prop where
 makes:PySem.W.makesIn K C=true
 init:W.findIn K (.ref C) "__init__"=some (some (.ref f))
 fn:PySem.W.isFn K (.ref f)=true
 kp:W.keepIn K (.ref C)=true
theorem xP (M:Mk X.K C f) (F:fD X.prog X.w X.K X.mg X.base CX k f fd ps sp) (hr:d2 (k+1) X.A) (hb:Binds X.K fd ps ds) (hd:bG dvs ds)
  (hx:lT CX X E) (I:Inv X pins σ H s) (r:bG vs us)
  (h:∀ x dx,H x=none->H dx=none->dx≠x->sp (.ref x::(vs++dvs)) (upd (upd H dx (.own x)) x (.ins C dx [])) (λ v H2=>v=.non/\Q (.ref x) H2) E) :
  wpAny (model X.prog X.w) X.A (call (.ref C) us) (EP X pins σ Q) X.xe s:=by
 have hq:=h (s.heap.objs.size+1) s.heap.objs.size (I.hok.fresh (Nat.le_succ _)) (I.hok.fresh (Zl _)) (Zx (Xa _));have I2:=Inv.made (C:=C) I;have r2:bG (V.ref (s.heap.objs.size+1)::(vs++dvs)) (Value.ref (s.heap.objs.size+1)::(us++ds)):=.cons rfl (r.append hd)
 have hl:(Value.ref (s.heap.objs.size+1)::us++ds).length=ps.length:=by
  have e:=r2.length;rw [F.len _ _ _ _ hq] at e;exact e.symm
 refine wpAny_call (yv (f:=f) I.kIn M.makes M.init (beq_iff_eq.mp M.fn) (codeAny_mono (F.run _ X.stack _ _ ⟨Value.ref (s.heap.objs.size+1)::us,[]⟩ (Value.ref (s.heap.objs.size+1)::(us++ds)) _ _ E (hr.make C us [])
  (I2.LZ.make C us []) (hb _ (Value.ref (s.heap.objs.size+1)::us) I2.kIn hl) r2 hq) λ r s' hq'=>?_))
 cases r with
 | error e=>exact hx pins σ _ _ e s' I2 hq'
 | ok fl =>
  cases fl with
  | ret u =>
   obtain ⟨v,H',I3,rv,ev,q3⟩:=I2.after hq';subst ev;exact ⟨rv,⟨V.ref (s.heap.objs.size+1),H',I3,rfl,q3⟩⟩
  | next=>exact False.elim hq'
  | brk=>exact False.elim hq'
  | cont=>exact False.elim hq'
theorem uV (M:Mk X.K C f) (F:fD X.prog X.w X.K X.mg X.base CX k f fd ps sp) (hr:d2 (k+1) X.A) (hg:Gl X x) (hm:X.mg x=some (.ref C)) (hb:Binds X.K fd ps ds) (hd:bG dvs ds) (hx:lT CX X E)
  (ha:PA X (e::es) t) (hdb:(x == ("__debug__":Str))=false:=by decide) (he:starEach (e::es) X.env=(false,eval e X.env)::starEach es X.env:=by rfl) (hpl:(backTo pos (starEach es X.env)).any (·.1)=false:=by rfl) :
  PE X (.Call (.Name x p) (e::es) [] pos) (HD C sp dvs E t):=by
 intro pins s σ H Q I h;refine Xb (p6 I hg hm ?_ hdb);refine PySem.W.callWith_K (h₀:=X.base) I.ok.mod.kin M.kp (thn (ha pos pins s σ H _ I h) λ us s1 ⟨vs,H1,I1,r,q⟩=>⟨I1.kIn,?_⟩) he hpl;exact xP M F hr hb hd hx I1 r q
end
structure dS (N P:List Str) (sc:Scope):Prop where
 kind:sc.kind=.function
 co:sc.isCoroutine=false
 gen:sc.isGenerator=false
 nd:N.Nodup
 pre:N.take P.length=P
 par:∀ x ∈ P,sc.names.lookup x=some .local\/sc.names.lookup x=some .cell
 EH:∀ y ∈ sc.names,y.2≠.free
theorem oV {kindOf:Str->Option NameKind} {x:Str}:∀ {binds:List (Str×Value)} {m:Str->Option Value},(∀ v,(x,v) ∉ binds)->bindL kindOf binds m x=m x
 | [],_,_=>rfl
 | (n,v)::r,m,h=>by
  unfold bindL;rw [oV λ w hw=>h w (Zd _ hw)];split
  ·have:x≠n:=by rintro rfl; exact h v Ze
   simp [this]
  · rfl
theorem oX {kindOf:Str->Option NameKind} {x:Str}:∀ {binds:List (Str×Value)} {m:Str->Option Value},(∀ v,(x,v) ∉ binds)->bindC kindOf binds m x=m x
 | [],_,_=>rfl
 | (n,v)::r,m,h=>by
  unfold bindC;rw [oX λ w hw=>h w (Zd _ hw)];split
  · rfl
  ·have:x≠n:=by rintro rfl; exact h v Ze
   simp [this]
theorem oW {kindOf:Str->Option NameKind} {x:Str} {v:Value}:∀ {P:List Str} {vs:List Value} {i:Nat} {m:Str->Option Value},P.Nodup->P[i]?=some x->vs[i]?=some v->kindOf x=some .local ->
  bindL kindOf (P.zip vs) m x=some v
 | [],_,_,_,_,h,_,_=>by simp at h
 | _::_,[],_,_,_,_,h,_=>by simp at h
 | p::P,w::vs,0,m,nd,h1,h2,hk=>by
  simp at h1 h2; subst h1; subst h2
  show bindL kindOf ((p,w)::P.zip vs) m p=_;unfold bindL;rw [oV λ v hv=>(Zu.mp nd).1 (List.of_mem_zip hv).1,if_pos hk];simp
 | p::P,w::vs,i+1,m,nd,h1,h2,hk=>by
  show bindL kindOf ((p,w)::P.zip vs) m x=_;unfold bindL;exact oW (i:=i) (Zu.mp nd).2 (by simpa using h1) (by simpa using h2) hk
theorem oY {kindOf:Str->Option NameKind} {x:Str} {v:Value}:∀ {P:List Str} {vs:List Value} {i:Nat} {m:Str->Option Value},P.Nodup->P[i]?=some x->vs[i]?=some v->kindOf x≠some .local ->
  bindC kindOf (P.zip vs) m x=some v
 | [],_,_,_,_,h,_,_=>by simp at h
 | _::_,[],_,_,_,_,h,_=>by simp at h
 | p::P,w::vs,0,m,nd,h1,h2,hk=>by
  simp at h1 h2; subst h1; subst h2
  show bindC kindOf ((p,w)::P.zip vs) m p=_;unfold bindC;rw [oX λ v hv=>(Zu.mp nd).1 (List.of_mem_zip hv).1,if_neg hk];simp
 | p::P,w::vs,i+1,m,nd,h1,h2,hk=>by
  show bindC kindOf ((p,w)::P.zip vs) m x=_;unfold bindC;exact oY (i:=i) (Zu.mp nd).2 (by simpa using h1) (by simpa using h2) hk
def start (N:List Str) (vs:List V):St:=vs.map some++List.replicate (N.length - vs.length) none
def zd (CX:CXT) (P:Program) (w:World) (K:W.Frag) (mg:Str->Option Value) (base:Heap) (N:List Str) (qual:Str) (scope:Scope) (f:Addr) (cd:Value) (A:Around) (outer:List Env) (s:Shared) (H:Hp) (E:XK):Cx where
 prog:=P
 w:=w
 K:=K
 mg:=mg
 base:=base
 A:=A.deeper (envOfC qual scope s.heap.objs.size f cd)
 N:=N
 s₀:=s
 H₀:=H
 env:=envOfC qual scope s.heap.objs.size f cd
 outer:=outer
 stack:=envOfC qual scope s.heap.objs.size f cd::outer
 ex:=[]
 calm:=true
 fn:=λ _=>true
 pn:=[]
 xe:=λ e s'=>wpAny (model P w) (A.deeper (envOfC qual scope s.heap.objs.size f cd)) (leaving (envOfC qual scope s.heap.objs.size f cd) e) (λ _ s''=>CX outer H s E e s'') (λ e' s''=>CX outer H s E e' s'') s'
theorem se {sc:Scope} {n:Nat} {x:Str} (h:sc.names.lookup x=some .cell):∃ c,(cellsFrom n sc.names []).lookup x=some c:=by
 have q:=PySem.W.cellsFrom_some sc.names n [] (.inl h);exact Yu.mp q
theorem vU {CX:CXT} {P:Program} {w:World} {K:W.Frag} {mg:Str->Option Value} {base:Heap} {N ps:List Str} {qual:Str} {scope:Scope} {f:Addr} {cd:Value} {A:Around} {outer:List Env} {s s1:Shared} {H:Hp} {E:XK} {us:List Value} {vs:List V}
  (S:dS N ps scope) (hd:A.handled=none) (e0:CT P w K mg base A outer s H) (hl:vs.length=ps.length) (r:bG vs us)
  (x:InCallC s s.heap.objs.size (bindL (envOfC qual scope s.heap.objs.size f cd).kindOf (ps.zip us) λ _=>none) (cellsFrom (s.heap.objs.size+1) scope.names []) (bindC (envOfC qual scope s.heap.objs.size f cd).kindOf (ps.zip us) λ _=>none) s1) :
  Inv (zd CX P w K mg base N qual scope f cd A outer s H E) [] (start N vs) H s1:=by
 have hpl:ps.length<=N.length:=by have:=Z9 List.length S.pre; rw [Z1] at this; omega
 obtain ⟨h1,tk,rfl,hk⟩:=x.done;have noA:∀ b:Addr,b ∉ (zd CX P w K mg base N qual scope f cd A outer s H E).ex:=λ b z=>absurd (show b ∈ ([]:List Addr) from z) (by simp)
 refine ⟨⟨e0.mod,S.kind,rfl,rfl,Zl _,λ y z c h1 h2=>?_,λ y hy=>?_,λ y c _ h=>?_,λ _=>hd,Around.frames_deeper e0.frames,.inr ⟨rfl,rfl⟩,λ b z=>absurd z (noA b),e0.bs,e0.bsz,λ b _ _=>noA b,λ b z=>absurd z (noA b),e0.uf,e0.frf⟩,
  rfl,e0.bare,Un.kept hk,⟨_,x.toInCall.ns,λ i y v h1 h2 h3=>?_⟩,λ y c h=>⟨_,x.cell y c h⟩,e0.hok.fresh (Zl _),λ y c h=>?_,λ p hp=>absurd (show p ∈ ([]:List (Addr×Obj)) from hp) (by simp),e0.hok.kept hk,?_⟩
 · exact name_of_addr x.apart (Yg h1) (Yg h2)
 ·have hy:scope.names.lookup y=some .cell\/scope.names.lookup y=some .free:=hy
  rcases hy with hy | hy
  · exact se hy
  · exact absurd rfl (S.EH _ (Yg hy))
 · exact Yz (x.above y c (Yg h))
 ·have hi:i < vs.length:=by
   unfold start at h2
   by_cases hi:i < vs.length
   · exact hi
   ·rw [List.getElem?_append_right (by simpa using hi)] at h2
    rw [List.getElem?_replicate] at h2;split at h2 <;> cases h2
  have ha:vs[i]?=some v:=by
   unfold start at h2;rw [List.getElem?_append_left (by simpa using hi),List.getElem?_map] at h2
   cases e:vs[i]? with
   | none=>rw [e] at h2; cases h2
   | some a=>rw [e] at h2; cases h2; rfl
  obtain ⟨u,hu,rv⟩:=r.get ha
  have hp:ps[i]?=some y:=by
   rw [<- S.pre,List.getElem?_take_of_lt (by omega)]; exact h1
  have ndP:ps.Nodup:=by rw [<- S.pre]; exact S.nd.sublist (List.take_sublist _ _)
  refine ⟨u,rv,?_⟩;rcases S.par y (List.mem_of_getElem? hp) with k | k
  · exact .inl ⟨k,oW ndP hp hu k⟩
  ·obtain ⟨c,e⟩:=se (n:=s.heap.objs.size+1) k
   refine .inr ⟨.inl k,c,e,?_⟩;have q:=x.cell y c e;rw [oY ndP hp hu (by show scope.names.lookup y≠_; rw [k]; decide)] at q;exact q
 · exact e0.hok.fresh (Yz (x.above y c (Yg h)))
 ·unfold start
  show _=N.length;rw [Z0,Za,List.length_replicate];omega
theorem Ky {CX:CXT} {P:Program} {w:World} {K:W.Frag} {mg:Str->Option Value} {base:Heap} {k:Nat} {f:Addr} {name qual:Str} {params:Arguments} {body:List Stmt} {scope:Scope} {dV kV doc pm cdv ct oc:Value} {an od:Option Addr}
  {osl:Array (Option Value)} {N ps:List Str} {sp:Sp} (lk:K.lookup f=some ⟨oc,od,.func (PySem.W.fnOf name qual params body scope dV kV doc pm an cdv ct),osl⟩) (hcd:PySem.W.codeIn K cdv qual=true) (S:dS N ps scope)
  (len:∀ vs H Q E,sp vs H Q E->vs.length=ps.length)
  (hbody:∀ (A:Around) (outer:List Env) (s:Shared) (H:Hp) (vs:List V) (Q:VK) (E:XK),d2 k (A.deeper (envOfC qual scope s.heap.objs.size f cdv))->sp vs H Q E ->
    ∃ t,PSs (zd CX P w K mg base N qual scope f cdv A outer s H E) body t/\t { nx:=λ _ H'=>Q .non H',rt:=Q } (start N vs) H) :
  fD P w K mg base CX (k+1) f (PySem.W.fnOf name qual params body scope dV kV doc pm an cdv ct) ps sp:=by
 refine ⟨len,λ A outer s H args us vs Q E hr e0 hb r hsp=>?_⟩;have hl:=len _ _ _ _ hsp;have KX:K.In s.heap:=e0.mod.kin.keeps λ b o e=>(e0.bs b o e).1
 have lim:s.heap.NoLimit:=e0.mod.nolimit.keeps λ b o e=>(e0.bs b o e).1
 have hkind:∀ y ∈ ps.zip us,scope.names.lookup y.1=some .local\/(scope.names.lookup y.1=some .cell/\((cellsFrom (s.heap.objs.size+1) scope.names []).lookup y.1).isSome=true):=λ ⟨n,v⟩ hy=>by
  rcases S.par n (List.of_mem_zip hy).1 with q | q
  · exact .inl q
  · exact .inr ⟨q,PySem.W.cellsFrom_some _ _ _ (.inl q)⟩
 refine codeAny_call_function hr.depth (KX _ _ lk) rfl S.co S.gen rfl (PySem.W.codeRec_of KX hcd) (hb _ _ _ _ ?_);refine wpAny_newFunctionEnv_cells S.kind hkind λ env he s1 x=>?_
 subst he;refine ⟨lim.keeps x.toInCall.keep,codeAny_func ?_⟩;obtain ⟨t,ht,hq⟩:=hbody A outer s H vs Q E (hr.deeper _) hsp;have I:Inv (zd CX P w K mg base N qual scope f cdv A outer s H E) [] (start N vs) H s1:=vU S hr.hd e0 hl r x;refine Yr (ht [] s1 (start N vs) H _ I hq) (λ fl s' hs=>?_) λ e s' hs=>hs
 have fin:∀ {σ':St} {H':Hp} {v:V} {u:Value},Inv (zd CX P w K mg base N qual scope f cdv A outer s H E) [] σ' H' s'->RelV v u->Q v H'->CE outer P w H s Q u s' :=
  λ {σ' H' v u} J rv q=>⟨v,H',J.os,J.bare,J.base,J.hok,rv,q⟩
 cases fl with
 | ret u =>
  obtain ⟨v,σ',H',J,rv,q⟩:=hs;exact fin J rv q
 | next =>
  obtain ⟨σ',H',J,q⟩:=hs;exact fin (v:=V.non) (u:=Value.none) J rfl q
 | brk =>
  obtain ⟨_,_,_,q⟩:=hs;exact False.elim q
 | cont =>
  obtain ⟨_,_,_,q⟩:=hs;exact False.elim q
end L2
namespace L2
open PySem PySem.Spec PyProof.Rows
section
variable {X:Cx} {x:Str} {p pos:Pos} {e:Expr} {es:List Expr} {t:TA} {id T:String} {r:List V->Hp->VK->Prop}
def tCB (r:List V->Hp->VK->Prop) (t:TA):TE:=λ σ H Q=>t σ H λ vs H1=>r vs H1 Q
theorem rg (hc:fC X (.builtin id) r) (hg:Gl X x) (hm:X.mg x=none) (hv:bootBuiltins x=some (.builtin id)) (ha:PA X (e::es) t) (hn:x≠"__name__":=by decide) (hdb:(x == ("__debug__":Str))=false:=by decide)
  (he:starEach (e::es) X.env=(false,eval e X.env)::starEach es X.env:=by rfl) (hpl:(backTo pos (starEach es X.env)).any (·.1)=false:=by rfl):PE X (.Call (.Name x p) (e::es) [] pos) (tCB r t):=by
 intro pins s σ H Q I h;refine Xb (jc I hg hm hv ?_ hn hdb);exact PyProof.Rows.callWith_builtin1 (thn (ha pos pins s σ H _ I h) λ us s1 ⟨vs,H1,I1,r1,q1⟩=>hc pins s1 σ H1 vs us Q I1 r1 q1) he hpl
theorem nt (hc:fC X (.type T) r) (hg:Gl X x) (hm:X.mg x=none) (hv:bootBuiltins x=some (.type T)) (ha:PA X (e::es) t) (hn:x≠"__name__":=by decide) (hdb:(x == ("__debug__":Str))=false:=by decide)
  (he:starEach (e::es) X.env=(false,eval e X.env)::starEach es X.env:=by rfl) (hpl:(backTo pos (starEach es X.env)).any (·.1)=false:=by rfl):PE X (.Call (.Name x p) (e::es) [] pos) (tCB r t):=by
 intro pins s σ H Q I h;refine Xb (jc I hg hm hv ?_ hn hdb);exact Ys (thn (ha pos pins s σ H _ I h) λ us s1 ⟨vs,H1,I1,r1,q1⟩=>hc pins s1 σ H1 vs us Q I1 r1 q1) he hpl
end
end L2
namespace HT
open PySem PyProof.Rows
section
variable {prog:Program} {w:World} {A:Around} {E:Value->Shared->Prop} {s:Shared}
def sIx (n d:Nat):Option Int->Nat
 | none=>d
 | some v=>if v < 0 then (v+(n:Int)).toNat else min v.toNat n
theorem qU (n d:Nat):sIx n d none=d:=rfl
theorem pG (n d k:Nat):sIx n d (some (k:Int))=min k n:=by
 show (if (k:Int) < 0 then ((k:Int)+(n:Int)).toNat else min (k:Int).toNat n)=min k n;rw [if_neg (by omega),Int.toNat_natCast]
end
end HT
namespace L2
open PySem PySem.Spec PyProof.Rows
abbrev TO:=St->Hp->(Option Int->Hp->Prop)->Prop
def PO (X:Cx) (e:Option Expr) (t:TO):Prop :=
  ∀ (pins:List (Addr×Obj)) (s:Shared) (σ:St) (H:Hp) (Q:Option Int->Hp->Prop),Inv X pins σ H s->t σ H Q ->
    wpAny (model X.prog X.w) X.A (evalPart e X.env) (λ u s'=>∃ o H',Inv X pins σ H' s'/\IsPart u o/\Q o H') X.xe s
def Av:TO:=λ _ H Q=>Q none H
def Hz (t:TE):TO:=λ σ H Q=>t σ H λ x H1=>∃ i,x=.int i/\Q (some i) H1
section
variable {X:Cx} {e:Expr} {te:TE} {lo hi:Option Expr} {tl th:TO} {pos p2:Pos}
theorem AZ:PO X none Av:=by
 intro pins s σ H Q I h;rw [evalPart_none];exact Z3 ⟨none,H,I,.none,h⟩
theorem AY (h:PE X e te):PO X (some e) (Hz te):=by
 intro pins s σ H Q I hw;rw [evalPart_some];refine thn (h pins s σ H _ I hw) λ u s1 ⟨x,H1,I1,r1,q1⟩=>?_
 obtain ⟨i,rfl,q⟩:=q1;obtain ⟨t,rfl⟩:=r1;exact ⟨some i,H1,I1,.int i t,q⟩
def SlR (X:Cx) (r:V->Option Int->Option Int->Hp->VK->Prop):Prop :=
  ∀ (pins:List (Addr×Obj)) (s:Shared) (σ:St) (H:Hp) (x:V) (v vl vu:Value) (lo hi:Option Int) (sl:Addr) (Q:VK),Inv X pins σ H s->RelV x v->s.heap.IsSliceOf sl vl vu .none->IsPart vl lo->IsPart vu hi->r x lo hi H Q ->
    ∃ T id,typeLookup (.type T) "__getitem__"=pure (some (.builtin id))/\s.TypeIs v T/\wpAny (model X.prog X.w) X.A (getItem v (.ref sl)) (EP X pins σ Q) X.xe s
def tSl (r:V->Option Int->Option Int->Hp->VK->Prop) (te:TE) (tl th:TO):TE:=λ σ H Q=>te σ H λ x H1=>tl σ H1 λ l H2=>th σ H2 λ u H3=>r x l u H3 Q
theorem q9 (hr:SlR X r) (he:PE X e te) (hl:PO X lo tl) (hu:PO X hi th):PE X (.Subscript e (.Slice lo hi none p2) pos) (tSl r te tl th):=by
 intro pins s σ H Q I h;refine Subscript_ (thn (he pins s σ H _ I h) λ v s1 ⟨x,H1,I1,r1,q1⟩=>?_);refine wpAny_Slice (thn (hl pins s1 σ H1 _ I1 q1) λ vl s2 ⟨l,H2,I2,pl,q2⟩=>thn (hu pins s2 σ H2 _ I2 q2) λ vu s3 ⟨u,H3,I3,pu,q3⟩=>?_);rw [evalPart_none];refine Z3 ?_
 have I4:Inv X pins σ H3 { s3 with heap:=s3.heap.push { cls:=.type "slice",data:=.fields #[vl,vu,.none] } }:=I3.kept (t':=s3.toks) λ b ob q=>Heap.get?_push_of_some _ q
 obtain ⟨T,id,hT,ht,hg⟩:=hr pins { s3 with heap:=s3.heap.push { cls:=.type "slice",data:=.fields #[vl,vu,.none] } } σ H3 x v vl vu l u s3.heap.objs.size Q I4 r1 (Heap.IsSliceOf.new ..) pl pu q3;show wpAny (model X.prog X.w) X.A (subscriptTail e (.Slice lo hi none p2) v (.ref s3.heap.objs.size)) (EP X pins σ Q) X.xe { s3 with heap:=s3.heap.push { cls:=.type "slice",data:=.fields #[vl,vu,.none] } };exact tail_any (ops:=[.ref s3.heap.objs.size,v]) ht hT hg (by with_unfolding_all rfl)
def Dj (xs:List V) (lo hi:Option Int):List V:=(xs.drop (HT.sIx xs.length 0 lo)).take (HT.sIx xs.length xs.length hi - HT.sIx xs.length 0 lo)
theorem qu (xs:List V) (lo hi:Option Int):(Dj xs lo hi).length<=xs.length:=by
 unfold Dj;rw [Z1,Yv];omega
end
end L2
namespace L2
open PySem PySem.Spec PyProof.Rows
def ixN (n:Nat) (i:Int):Option Nat:=if 0<=i then (if i < n then some i.toNat else none) else if -(n:Int)<=i then some (i+n).toNat else none
def atI {α:Type} (xs:List α) (i:Int):Option α:=(ixN xs.length i).bind λ j=>xs[j]?
theorem Ca (h:ixN n i=some j):seqIndex? i n=some j/\j < n/\-(n:Int)<=i/\i < n:=by
 unfold ixN at h
 by_cases h0:0<=i
 ·rw [if_pos h0] at h
  by_cases h1:i < n
  ·rw [if_pos h1] at h
   have e:i.toNat=j:=Zj h;exact ⟨by rw [seqIndex_of h0 h1,e],by omega,by omega,h1⟩
  · rw [if_neg h1] at h; cases h
 ·rw [if_neg h0] at h
  by_cases h1:-(n:Int)<=i
  ·rw [if_pos h1] at h
   have e:(i+n).toNat=j:=Zj h;exact ⟨by rw [seqIndex_neg (by omega) h1,e],by omega,h1,by omega⟩
  · rw [if_neg h1] at h; cases h
theorem qG {α:Type} {xs:List α} {v:α} (h:atI xs i=some v):∃ j,seqIndex? i xs.length=some j/\xs[j]?=some v/\j < xs.length/\-(xs.length:Int)<=i/\i < xs.length:=by
 unfold atI at h
 cases e:ixN xs.length i with
 | none=>rw [e] at h; cases h
 | some j =>
  rw [e] at h;obtain ⟨h1,h2,h3,h4⟩:=Ca e;exact ⟨j,h1,h,h2,h3,h4⟩
theorem mQ {α:Type} {xs:List α} {j:Nat} {v:α} (h:xs[j]?=some v):atI xs (j:Int)=some v:=by
 have hj:j < xs.length:=(List.getElem?_eq_some_iff.mp h).1
 have e:ixN xs.length (j:Int)=some j:=by
  unfold ixN;rw [if_pos (by omega),if_pos (by omega)]; simp
 unfold atI; rw [e]; exact h
def xo (b:Expr):Prop:=∀ o i,subscripted b false o i=operate [o,i] (getItem o i)
def IxR (X:Cx) (r:R2):Prop :=
  ∀ (value slice:Expr) (pins:List (Addr×Obj)) (s:Shared) (σ:St) (H:Hp) (x y:V) (v u:Value) (Q:VK),Inv X pins σ H s->RelV x v->RelV y u->r x y H Q ->
    subscripted slice false v u=operate [v,u] (getItem v u)->wpAny (model X.prog X.w) X.A (subscriptTail value slice v u) (EP X pins σ Q) X.xe s
def MtR (X:Cx) (id:String) (r:V->List V->Hp->VK->Prop):Prop :=
  ∀ (pins:List (Addr×Obj)) (s:Shared) (σ:St) (H:Hp) (x:V) (xs:List V) (v:Value) (us:List Value) (Q:VK),Inv X pins σ H s->RelV x v->bG xs us->r x xs H Q ->
    wpAny (model X.prog X.w) X.A (call (.builtin id) (v::us)) (EP X pins σ Q) X.xe s
section
variable {X:Cx} {a b:Expr} {ta tb:TE} {pos:Pos}
theorem IxR.or (h:IxR X r) (h':IxR X r'):IxR X (λ x y H Q=>r x y H Q\/r' x y H Q):=by
 intro value slice pins s σ H x y v u Q I rx ry q hs;rcases q with q | q
 · exact h value slice pins s σ H x y v u Q I rx ry q hs
 · exact h' value slice pins s σ H x y v u Q I rx ry q hs
theorem HX (hr:IxR X r) (ha:PE X a ta) (hb:PE X b tb) (hs:xo b):PE X (.Subscript a b pos) (tOp r ta tb):=by
 intro pins s σ H Q I h;exact Subscript_ (KR ha hb I h λ v u s2 x y H2 I2 rx ry q=>hr a b pins s2 σ H2 x y v u Q I2 rx ry q (hs _ _))
def MI (K:W.Frag):R2:=λ x y H Q=>∃ p xs i v,x=.ref p/\y=.int i/\SqL K H p xs/\atI xs i=some v/\Q v H
def MG (K:W.Frag):R2:=λ x y H Q=>∃ p xs i v,x=.ref p/\y=.int i/\SqT K H p xs/\atI xs i=some v/\Q v H
def MH:R2:=λ x y H Q=>∃ z i c,x=.str z/\y=.int i/\z.length<=sizeLine/\atI z.cps.toList i=some c/\Q (.str ⟨#[c]⟩) H
theorem B9:IxR X (MI X.K):=by
 intro value slice pins s σ H x y v u Q I rx ry h hs;obtain ⟨p,xs,i,z,rfl,rfl,hq,he,q⟩:=h;cases rx;obtain ⟨t,rfl⟩:=ry;obtain ⟨its,r,pl,hz⟩:=I.list hq;obtain ⟨j,h1,h2,h3,h4,h5⟩:=qG he;obtain ⟨w,ew,rw'⟩:=r.get h2;have hl:=r.length;have hn:=nP;have fin:EP X pins σ Q w s:=⟨z,H,I,rw',q⟩
 by_cases h0:0<=i
 ·have hj:i.toNat=j:=by
   rw [seqIndex_of h0 h5] at h1;exact Zj h1
  exact item_listR pl.isList h0 (by omega) (by rw [hj]; simpa using ew) fin hs
 ·have hj:(i+(its.toArray.size:Int)).toNat=j:=by
   rw [seqIndex_neg (by omega) h4] at h1;rw [Zt,<- hl];exact Zj h1
  exact subscriptTail_builtinR (x:=w) pl.isList.typeIs slot_list_getitem.lookup
   (wpAny_getItem_list_neg (Q:=λ r s'=>r=w/\EP X pins σ Q r s') pl.isList (by omega) (by rw [Zt] <;> omega) (by omega) (by rw [hj]; simpa using ew) ⟨rfl,fin⟩) hs
theorem E8:IxR X (MG X.K):=by
 intro value slice pins s σ H x y v u Q I rx ry h hs;obtain ⟨p,xs,i,z,rfl,rfl,hq,he,q⟩:=h;cases rx;obtain ⟨t,rfl⟩:=ry;obtain ⟨its,r,pl,hz⟩:=I.tuple hq;obtain ⟨j,h1,h2,h3,h4,h5⟩:=qG he;obtain ⟨w,ew,rw'⟩:=r.get h2;have hl:=r.length;have hn:=nP;have fin:EP X pins σ Q w s:=⟨z,H,I,rw',q⟩
 exact subscriptTail_builtinR (x:=w) pl.typeIs slot_tuple_getitem.lookup
  (getItem_tuple (j:=j) (Q:=λ r s'=>r=w/\EP X pins σ Q r s') pl (by omega) (by omega) (by rw [Zt,<- hl]; exact h1) (by simpa using ew) ⟨rfl,fin⟩) hs
theorem E9:IxR X MH:=by
 intro value slice pins s σ H x y v u Q I rx ry h hs;obtain ⟨z,i,c,rfl,rfl,hz,he,q⟩:=h;obtain ⟨t,rfl⟩:=rx;obtain ⟨t',rfl⟩:=ry;obtain ⟨j,h1,h2,h3,h4,h5⟩:=qG he;have hl:z.cps.toList.length=z.length:=by simp [Str.length]
 rw [hl] at h1 h4 h5;have hn:=nP
 exact tail_any (typeIs_str s z t) slot_str_getitem.lookup (getItem_str (c:=c) (by
  have e1:decide (i < -(2 ^ 63:Int))=false:=Zn (by omega);have e2:decide (i ≥ 2 ^ 63)=false:=Zn (by omega)
  rw [e1,e2,Bool.or_false]) (by rw [h1]; simpa using h2) ⟨.str ⟨#[c]⟩,H,I.tok _,⟨_,rfl⟩,q⟩) hs
theorem m6 (lo hi:Option Int) (n:Nat):(sliceBounds lo hi none n).1=((HT.sIx n 0 lo:Nat):Int)/\(sliceBounds lo hi none n).2.1=((HT.sIx n n hi:Nat):Int)/\(sliceBounds lo hi none n).2.2=1:=by
 refine ⟨?_,?_,rfl⟩
 ·cases lo with
  | none=>simp [sliceBounds,HT.sIx]
  | some i =>
   simp only [sliceBounds,HT.sIx,Option.getD_none,show (1:Int) > 0 by decide,if_true]
   by_cases h:i < 0
   · simp only [h,if_true] <;> omega
   · simp only [h,if_false] <;> omega
 ·cases hi with
  | none=>simp [sliceBounds,HT.sIx]
  | some i =>
   simp only [sliceBounds,HT.sIx,Option.getD_none,show (1:Int) > 0 by decide,if_true]
   by_cases h:i < 0
   · simp only [h,if_true] <;> omega
   · simp only [h,if_false] <;> omega
theorem l0 (its:List Value) (lo hi:Option Int):slicePick its.toArray lo hi none=((its.drop (HT.sIx its.length 0 lo)).take (HT.sIx its.length its.length hi - HT.sIx its.length 0 lo)).toArray:=by
 obtain ⟨h1,h2,h3⟩:=m6 lo hi its.toArray.size;unfold slicePick;rw [h1,h2,h3];simp only [sliceRange_one,pick_run,Zt] <;> rfl
def MC (K:W.Frag):V->Option Int->Option Int->Hp->VK->Prop:=λ x lo hi H Q=>∃ a xs,x=.ref a/\SqL K H a xs/\∀ p,H p=none->Q (.ref p) (upd H p (.lst (Dj xs lo hi)))
theorem AD:SlR X (MC X.K):=by
 intro pins s σ H x v vl vu lo hi sl Q I rx hs pl pu h;obtain ⟨a,xs,rfl,hx,q⟩:=h;cases rx;obtain ⟨its,r,ht,hz⟩:=I.list hx;have hlen:=r.length;refine ⟨"list",_,slot_list_getitem.lookup,ht.isList.typeIs,?_⟩;refine wpAny_getItem_list_slice ht.isList hs pl pu .none (by simp) ?_ (by rw [Zt] <;> omega)
 rw [l0,<- hlen];refine ⟨.ref s.heap.objs.size,_,I.laid (t':=s.toks) (o:=.lst (Dj xs lo hi)) (λ b ob q=>Heap.get?_push_of_some _ q) (Zl _) ?_,rfl,q _ (I.hok.fresh (Zl _))⟩;exact ⟨Z2 (qu xs lo hi) hz,_,0,(r.drop (HT.sIx xs.length 0 lo)).take (HT.sIx xs.length xs.length hi - HT.sIx xs.length 0 lo),Heap.get?_push_size _ rfl⟩
def k7:V->Bool
 | .non=>true
 | .bl _=>true
 | .int _=>true
 | .str _=>true
 | _=>false
def eqV:V->V->Bool
 | .non,.non=>true
 | .bl a,.bl b=>a == b
 | .bl a,.int b=>(if a then 1 else 0) == b
 | .int a,.bl b=>a == (if b then 1 else 0)
 | .int a,.int b=>a == b
 | .str a,.str b=>a == b
 | _,_=>false
theorem FI (ry:RelV y u) (rx:RelV x v) (fy:k7 y=true) (fx:k7 x=true):SeqAt.EqAt A s u v (eqV y x):=by
 cases y with
 | non =>
  cases ry
  cases x with
  | non=>cases rx; exact SeqAt.EqAt.same _
  | bl b=>cases rx; exact SeqAt.EqAt.none_bool b
  | int b=>obtain ⟨t,rfl⟩:=rx; exact SeqAt.EqAt.none_int b t
  | str b=>obtain ⟨t,rfl⟩:=rx; exact SeqAt.EqAt.none_str b t
  | _=>exact absurd (show false=true from fx) Zf
 | bl a =>
  cases ry
  cases x with
  | non=>cases rx; exact SeqAt.EqAt.bool_none a
  | bl b=>cases rx; exact SeqAt.EqAt.bool_bool a b
  | int b=>obtain ⟨t,rfl⟩:=rx; exact SeqAt.EqAt.bool_int a b t
  | str b=>obtain ⟨t,rfl⟩:=rx; exact SeqAt.EqAt.bool_str a b t
  | _=>exact absurd (show false=true from fx) Zf
 | int a =>
  obtain ⟨t',rfl⟩:=ry
  cases x with
  | non=>cases rx; exact SeqAt.EqAt.int_none a t'
  | bl b=>cases rx; exact SeqAt.EqAt.int_bool a t' b
  | int b=>obtain ⟨t,rfl⟩:=rx; exact SeqAt.EqAt.int_int a t' b t
  | str b=>obtain ⟨t,rfl⟩:=rx; exact SeqAt.EqAt.int_str a t' b t
  | _=>exact absurd (show false=true from fx) Zf
 | str a =>
  obtain ⟨t',rfl⟩:=ry
  cases x with
  | non=>cases rx; exact SeqAt.EqAt.str_none a t'
  | bl b=>cases rx; exact SeqAt.EqAt.str_bool a t' b
  | int b=>obtain ⟨t,rfl⟩:=rx; exact SeqAt.EqAt.str_int a t' b t
  | str b=>obtain ⟨t,rfl⟩:=rx; exact SeqAt.EqAt.str_str a t' b t
  | _=>exact absurd (show false=true from fx) Zf
 | _=>exact absurd (show false=true from fy) Zf
def eqU (x:V) (u:Value):Bool:=match u with
 | .none=>eqV .non x
 | .bool b=>eqV (.bl b) x
 | .int i _=>eqV (.int i) x
 | .str z _=>eqV (.str z) x
 | _=>false
theorem Af (r:RelV y u) (f:k7 y=true):eqU x u=eqV y x:=by
 cases y with
 | non=>cases r; rfl
 | bl b=>cases r; rfl
 | int i=>obtain ⟨t,rfl⟩:=r; rfl
 | str z=>obtain ⟨t,rfl⟩:=r; rfl
 | _=>exact absurd (show false=true from f) Zf
theorem kI:∀ {xs:List V} {us:List Value},bG xs us->xs.all k7=true->us.any (eqU x)=xs.any λ y=>eqV y x
 | _,_,.nil,_=>rfl
 | y::xs,u::us,.cons r t,f=>by
  rw [X2,Yw] at f;rw [Y4,Y4,Af r f.1,kI t f.2]
theorem ic (rx:RelV x v) (fx:k7 x=true):∀ {xs:List V} {us:List Value},bG xs us->xs.all k7=true->∀ u ∈ us,SeqAt.EqAt A s u v (eqU x u)
 | _,_,.nil,_=>λ u hu=>by cases hu
 | y::xs,u::us,.cons r t,f=>λ u' hu=>by
  rw [X2,Yw] at f;rcases Zi.mp hu with rfl | hu
  · rw [Af r f.1]; exact FI r rx f.1 fx
  · exact ic rx fx t f.2 u' hu
def inV (x:V) (xs:List V):Bool:=xs.any λ y=>eqV y x
def rIn (K:W.Frag) (neg:Bool):R2:=λ x y H Q=>∃ p xs,y=.ref p/\(SqL K H p xs\/SqT K H p xs)/\k7 x=true/\xs.all k7=true/\Q (.bl (if neg then !inV x xs else inV x xs)) H
theorem uZ:OpR X (compareOp .In) (rIn X.K false):=by
 intro pins s σ H x y v u Q I rx ry h;obtain ⟨p,xs,rfl,hq,fx,fs,q⟩:=h;cases ry;rcases hq with hq | hq
 ·obtain ⟨its,r,pl,hz⟩:=I.list hq
  refine SeqAt.in_listAt (eqU x) pl.isList (λ w hw=>ic rx fx r fs w (by simpa using hw)) ⟨.bl _,H,I,rfl,?_⟩;rw [show its.toArray.any (eqU x)=its.any (eqU x) by simp,kI r fs];exact q
 ·obtain ⟨its,r,pl,hz⟩:=I.tuple hq
  refine SeqAt.in_tupleAt (eqU x) pl (λ w hw=>ic rx fx r fs w (by simpa using hw)) ⟨.bl _,H,I,rfl,?_⟩;rw [show its.toArray.any (eqU x)=its.any (eqU x) by simp,kI r fs];exact q
theorem nB:OpR X (compareOp .NotIn) (rIn X.K true):=by
 intro pins s σ H x y v u Q I rx ry h;obtain ⟨p,xs,rfl,hq,fx,fs,q⟩:=h;cases ry;rcases hq with hq | hq
 ·obtain ⟨its,r,pl,hz⟩:=I.list hq
  refine SeqAt.notIn_listAt (eqU x) pl.isList (λ w hw=>ic rx fx r fs w (by simpa using hw)) ⟨.bl _,H,I,rfl,?_⟩;rw [show its.toArray.any (eqU x)=its.any (eqU x) by simp,kI r fs];exact q
 ·obtain ⟨its,r,pl,hz⟩:=I.tuple hq
  refine SeqAt.notIn_tupleAt (eqU x) pl (λ w hw=>ic rx fx r fs w (by simpa using hw)) ⟨.bl _,H,I,rfl,?_⟩;rw [show its.toArray.any (eqU x)=its.any (eqU x) by simp,kI r fs];exact q
theorem oJ:fC X (.type "list") (λ xs H Q=>∃ p ys,xs=[.ref p]/\(SqL X.K H p ys\/SqT X.K H p ys)/\∀ l,H l=none->Q (.ref l) (upd H l (.lst ys))):=by
 intro pins s σ H xs us Q I r h;obtain ⟨p,ys,rfl,hq,q⟩:=h;obtain ⟨u,rfl,rx⟩:=vals1 r;cases rx
 have fin:∀ (its:List Value),bG ys its->ys.length<=sizeLine->∀ (h':Heap) (c':Nat),(∀ b o',s.heap.get? b=some o'->h'.get? b=some o') ->
   h'.get? s.heap.objs.size=some { cls:=.type "list",dict:=none,data:=.seq its.toArray c',slots:=#[] }->EP X pins σ Q (.ref s.heap.objs.size) { s with heap:=h' }:=λ its r' hz h' c' kp e =>
  ⟨.ref s.heap.objs.size,_,I.laid (t':=s.toks) kp (Zl _) (show cw X.prog X.w _ h' _ (.lst ys) from ⟨hz,its,c',r',e⟩),rfl,q _ (I.hok.fresh (Zl _))⟩
 rcases hq with hq | hq
 ·obtain ⟨its,r',pl,hz⟩:=I.list hq
  have hlen:=r'.length;obtain ⟨o,ho,hc,n,hd⟩:=pl.isList;exact call_list_seq p (.inl rfl) ho hc hd (λ h' c' kp e=>fin its r' hz h' c' kp e) (by simp only [Zt] <;> omega)
 ·obtain ⟨its,r',pl,hz⟩:=I.tuple hq
  have hlen:=r'.length;obtain ⟨o,ho,hc,n,hd⟩:=pl;exact call_list_seq p (.inr rfl) ho hc hd (λ h' c' kp e=>fin its r' hz h' c' kp e) (by simp only [Zt] <;> omega)
theorem mG:fC X (.type "tuple") (λ xs H Q=>∃ p ys,xs=[.ref p]/\((SqL X.K H p ys/\∀ l,H l=none->Q (.ref l) (upd H l (.tup ys)))\/(SqT X.K H p ys/\Q (.ref p) H))):=by
 intro pins s σ H xs us Q I r h;obtain ⟨p,ys,rfl,h⟩:=h;obtain ⟨u,rfl,rx⟩:=vals1 r;cases rx;rcases h with ⟨hq,q⟩ | ⟨hq,q⟩
 ·obtain ⟨its,r',pl,hz⟩:=I.list hq
  have hlen:=r'.length;refine call_tuple_list pl.isList (λ h' kp=>?_) (by simp only [Zt] <;> omega);have I1:Inv X pins σ H { s with heap:=h' }:=I.kept (t':=s.toks) kp
  have I2:Inv X pins σ (upd H h'.objs.size (.tup ys)) { s with heap:=h'.push { cls:=.type "tuple",data:=.seq its.toArray } } :=
   I1.laid (t':=s.toks) (λ b o e=>Heap.get?_push_of_some _ e) (Zl _) (show cw X.prog X.w _ _ _ (.tup ys) from ⟨hz,its,r',IsTup.new _ _⟩)
  exact ⟨.ref h'.objs.size,_,I2,rfl,q _ (I1.hok.fresh (Zl _))⟩
 ·obtain ⟨its,r',pl,hz⟩:=I.tuple hq
  exact call_tuple_same pl ⟨.ref p,H,I,rfl,q⟩
def tyV (K:W.Frag) (T:String) (x:V) (H:Hp):Prop:=match x with
 | .str _=>T="str"
 | .int _=>T="int"
 | .ref p=>(T="list"/\∃ xs,SqL K H p xs)\/(T="tuple"/\∃ o,K.lookup p=some o/\o.cls=.type "tuple"/\o.dict=none) \/
  (T="dict"/\((∃ kvs,H p=some (.dK kvs))\/∃ kvs,H p=some (.dT kvs)))\/(T="set"/\∃ S n,H p=some (.set S n))
 | _=>False
theorem zv (I:Inv X pins σ H s) (r:RelV x v) (ty:tyV X.K T x H) :
  s.TypeIs v T/\∀ a,v=.ref a->∃ ob,s.heap.get? a=some ob/\ob.dict=none:=by
 cases x with
 | str z =>
  obtain ⟨t,rfl⟩:=r;cases (show T="str" from ty);exact ⟨typeIs_str s z t,λ _ e=>nomatch e⟩
 | int i =>
  obtain ⟨t,rfl⟩:=r;cases (show T="int" from ty);exact ⟨typeIs_int s i t,λ _ e=>nomatch e⟩
 | ref p =>
  cases r;rcases ty with ⟨rfl,xs,hq⟩ | ⟨rfl,o,hk,hc,hd⟩ | ⟨rfl,hk⟩ | ⟨rfl,S,n,hk⟩
  ·obtain ⟨its,_,pl,_⟩:=I.list hq
   refine ⟨pl.isList.typeIs,λ a e=>?_⟩;cases e;obtain ⟨o,n,e,c,hd,_⟩:=pl;exact ⟨o,e,hd⟩
  ·refine ⟨⟨o,I.kIn p o hk,hc⟩,λ a e=>?_⟩
   cases e;exact ⟨o,I.kIn _ o hk,hd⟩
  ·have z:∃ o,s.heap.get? p=some o/\o.ExactDict:=by
    rcases hk with ⟨kvs,hk⟩ | ⟨kvs,hk⟩
    ·obtain ⟨_,_,_,_,o,_,_,e,ex,_⟩:=I.hok p _ hk
     exact ⟨o,e,ex⟩
    ·obtain ⟨_,_,_,_,o,_,_,e,ex,_⟩:=I.hok p _ hk
     exact ⟨o,e,ex⟩
   obtain ⟨o,e,ex⟩:=z;refine ⟨⟨o,e,ex.1⟩,λ a e2=>?_⟩;cases e2;exact ⟨o,e,ex.2.1⟩
  ·obtain ⟨o,_,_,_,e,ex,_⟩:=I.hok p _ hk
   refine ⟨⟨o,e,ex.1⟩,λ a e2=>?_⟩;cases e2;exact ⟨o,e,ex.2.1⟩
 | _=>exact False.elim ty
def Mi (K:W.Frag) (T:String) (r:V->List V->Hp->VK->Prop) (to:TE):TE:=λ σ H Q=>to σ H λ x H1=>tyV K T x H1/\r x [] H1 Q
def tBM (K:W.Frag) (T:String) (r:V->List V->Hp->VK->Prop) (to:TE) (t:TA):TE:=λ σ H Q=>to σ H λ x H1=>tyV K T x H1/\t σ H1 λ xs H2=>r x xs H2 Q
variable {o e:Expr} {es:List Expr} {to:TE} {t:TA} {name:Str} {apos cpos:Pos} {T id:String} {r:V->List V->Hp->VK->Prop}
theorem zM (pa:PlainAttrs T) (slot:Slot T name id) (hty:typeOf (.builtin id)=pure (.type "method_descriptor")) (hm:MtR X id r) (ho:PE X o to)
  (hbase:attributeBase o name X.env (eval o X.env)=eval o X.env:=by rfl) (hline:(apos.endLine == cpos.line)=true:=by rfl):PE X (.Call (.Attribute o name apos) [] [] cpos) (Mi X.K T r to):=by
 intro pins s σ H Q I h;refine wpAny_Call_method0_late hbase hline (thn (ho pins s σ H _ I h) λ v s1 ⟨x,H1,I1,r1,ty,q1⟩=>?_);obtain ⟨h1,h2⟩:=zv I1 r1 ty;exact ⟨T,id,pa,slot,hty,h1,h2,Calls.callWith_builtin rfl (PySem.evalArgs_none (hm pins s1 σ H1 x [] v [] Q I1 r1 .nil q1))⟩
theorem pO (pa:PlainAttrs T) (slot:Slot T name id) (hty:typeOf (.builtin id)=pure (.type "method_descriptor")) (hm:MtR X id r) (ho:PE X o to) (ha:PA X (e::es) t)
  (hbase:attributeBase o name X.env (eval o X.env)=eval o X.env:=by rfl)
  (hfew:((backTo cpos (starEach (e::es) X.env)).all (λ x=>!x.1)&&(backToKw cpos (keywordEach [] X.env)).all (λ x=>x.1.isSome)
    && decide ((e::es).length+([]:List Keyword).length+(if ([]:List Keyword).isEmpty then 0 else 1) < 30))=true:=by rfl)
  (hline:(apos.endLine == cpos.line)=true:=by rfl) (hs:starEach (e::es) X.env=(false,eval e X.env)::starEach es X.env:=by rfl) (hplain:(backTo cpos (starEach es X.env)).any (·.1)=false:=by rfl) :
  PE X (.Call (.Attribute o name apos) (e::es) [] cpos) (tBM X.K T r to t):=by
 intro pins s σ H Q I h;refine wpAny_Call_method_late hbase hfew hline rfl (thn (ho pins s σ H _ I h) λ v s1 ⟨x,H1,I1,r1,ty,q1⟩=>?_);obtain ⟨h1,h2⟩:=zv I1 r1 ty;refine ⟨T,id,pa,slot,hty,h1,h2,?_⟩;have hA:=ha cpos pins s1 σ H1 _ I1 q1;rw [hs] at hA ⊢;refine Calls.callWith_builtin (by show (false||(backTo cpos (starEach es X.env)).any (·.1))=false; rw [hplain] <;> rfl) (Calls.evalArgs_plain ?_);exact thn hA λ us s2 ⟨vs,H2,I2,r2,q2⟩=>hm pins s2 σ H2 x vs v us Q I2 r1 r2 q2
/- xs.append(e),list.index on a module's tuple .. are MtR facts of 06m -/
end
end L2
namespace L2
open PySem PySem.Spec PyProof.Rows
def MtM (X:Cx) (id:String) (r:V->List V->Hp->VK->Prop):Prop :=
  ∀ (pins:List (Addr×Obj)) (s:Shared) (σ:St) (H:Hp) (x:V) (xs:List V) (v:Value) (us:List Value) (Q:VK),Inv X pins σ H s->RelV x v->bG xs us->r x xs H Q ->
    wpAny (model X.prog X.w) X.A (call (.builtin id) (v::us)) (EP X pins σ Q) X.xe s
theorem bG.one:∀ {x:V} {us:List Value},bG [x] us->∃ u,us=[u]/\RelV x u
 | _,_,.cons r .nil=>⟨_,rfl,r⟩
theorem bG.zero:∀ {us:List Value},bG [] us->us=[]
 | _,.nil=>rfl
theorem bG.dropLast (h:bG xs us):bG xs.dropLast us.dropLast:=by
 induction h with
 | nil=>exact .nil
 | cons r t ih =>
  cases t with
  | nil=>exact .nil
  | cons q t'=>exact .cons r ih
theorem bG.reverse (h:bG xs us):bG xs.reverse us.reverse:=by
 induction h with
 | nil=>exact .nil
 | cons r t ih=>rw [Xv,Xv]; exact bG.append ih (.cons r .nil)
theorem bG.rep (h:bG xs us):∀ k:Nat,bG (List.replicate k xs).flatten (List.replicate k us).flatten
 | 0=>.nil
 | k+1=>by
  rw [Yc,Yc,Xh,Xh];exact bG.append h (bG.rep h k)
theorem tU {α:Type} (l:List α):l.eraseIdx (l.length - 1)=l.dropLast:=by
 induction l with
 | nil=>rfl
 | cons a r ih =>
  cases r with
  | nil=>rfl
  | cons b r =>
   have e:(a::b::r).length - 1=((b::r).length - 1)+1:=by
    have h1:(a::b::r).length=r.length+2:=rfl;have h2:(b::r).length=r.length+1:=rfl;omega
   rw [e,List.eraseIdx_cons_succ,ih]
   all_goals rfl
theorem foldl_rep (its:List Value):∀ (k:Nat) (acc:List Value),
  List.foldl (λ x1 x2=>x1++x2) acc.toArray (List.replicate k its.toArray)=(acc++(List.replicate k its).flatten).toArray
 | 0,acc=>by simp
 | k+1,acc=>by
  have e:acc.toArray++its.toArray=(acc++its).toArray:=by simp
  have e2:(acc++its)++(List.replicate k its).flatten=acc++(List.replicate (k+1) its).flatten:=by
   rw [Yc,Xh,List.append_assoc]
  rw [<- e2,<- foldl_rep its k (acc++its),<- e,Yc,List.foldl_cons]
section
variable {X:Cx} {pins:List (Addr×Obj)} {σ:St} {H:Hp} {s:Shared} {l b:Addr} {xs ys zs:List V}
theorem Inv.EW {its its':List Value} {n:Nat} {f:Array Value->Array Value} {t':Nat} (I:Inv X pins σ H s) (hH:H l=some (.lst xs))
  (e:s.heap.get? l=some { cls:=.type "list",data:=.seq its.toArray n }) (hf:f its.toArray=its'.toArray) (hv:bG ys its') (hz:ys.length<=sizeLine) :
  Inv X pins σ (upd H l (.lst ys)) { s with heap:=s.heap.update l (Obj.mapSeq f),toks:=t' }:=by
 have q:=PySem.IsL.update e f;rw [hf] at q;refine I.write (x:=l) (e:=l) (by rw [hH]; exact trivial) (.inl rfl) (λ b' u hb hu=>(Heap.get?_update_other s.heap (Obj.mapSeq f) (Ne.symm hb)).trans hu) ⟨_,q⟩ ?_
 exact ⟨hz,its',_,hv,q⟩
theorem Inv.LW (I:Inv X pins σ H s) (hv:bG ys its) (hz:ys.length<=sizeLine) :
  Inv X pins σ (upd H s.heap.objs.size (.lst ys)) { s with heap:=s.heap.push { cls:=.type "list",data:=.seq its.toArray },toks:=t' } :=
 I.laid (λ _ _ q=>Heap.get?_push_of_some _ q) (Zl _) ⟨hz,its,0,hv,Heap.get?_push_size _ rfl⟩
theorem Inv.fresh (I:Inv X pins σ H s):H s.heap.objs.size=none:=I.hok.fresh (Zl _)
theorem Inv.yw (I:Inv X pins σ H s) (hH:H l=some (.lst xs)):xs.length<=sizeLine/\∃ (its:List Value) (n:Nat),bG xs its/\xs.length=its.length/\s.heap.get? l=some { cls:=.type "list",data:=.seq its.toArray n }:=by
 obtain ⟨z,its,n,r,e⟩:=I.hok l _ hH;exact ⟨z,its,n,r,r.length,e⟩
theorem rn (h:n<=sizeLine):Builtin.List.listTooLong n=false:=by
 unfold Builtin.List.listTooLong;exact Zn (by omega)
end
section
variable {X:Cx}
def AO:V->List V->Hp->VK->Prop:=λ x vs H Q=>∃ l xs y,x=.ref l/\vs=[y]/\H l=some (.lst xs)/\xs.length < sizeLine/\Q .non (upd H l (.lst (xs++[y])))
theorem jY:MtM X "list.append" AO:=by
 intro pins s σ H x vs v us Q I rx rv h;obtain ⟨l,xs,y,rfl,rfl,hH,hz,q⟩:=h;cases rx;obtain ⟨u,rfl,ru⟩:=rv.one;obtain ⟨z,its,n,r,hl,e⟩:=I.yw hH;refine Xq F.slot_list_append ⟨_,e,rfl⟩ F.entry_list_append (F.args_list_append_2 _ _) (PySem.list_append l its.toArray n u (by rw [Zt]; omega)) ⟨e,?_⟩;refine ⟨.non,_,I.EW (its':=its++[u]) hH e (by simp) (r.append (.cons ru .nil)) ?_,rfl,q⟩;rw [Z0,List.length_singleton];omega
def AN:V->List V->Hp->VK->Prop:=λ x vs H Q=>∃ l b xs zs,x=.ref l/\vs=[.ref b]/\H l=some (.lst xs)/\H b=some (.lst zs)/\xs.length+zs.length<=sizeLine/\Q .non (upd H l (.lst (xs++zs)))
theorem vo:MtM X "list.extend" AN:=by
 intro pins s σ H x vs v us Q I rx rv h;obtain ⟨l,b,xs,zs,rfl,rfl,hH,hB,hz,q⟩:=h;cases rx;obtain ⟨u,rfl,ru⟩:=rv.one;cases ru;obtain ⟨z,its,n,r,hl,e⟩:=I.yw hH;obtain ⟨z2,its2,n2,r2,hl2,e2⟩:=I.yw hB;have hsz:its.toArray.size+its2.toArray.size<=sizeLine:=by rw [Zt,Zt]; omega
 have hlong:¬ (!its.toArray.isEmpty&&Builtin.List.listTooLong (its.toArray.size+its2.toArray.size))=true:=by
  rw [rn hsz,Bool.and_false];exact Zf
 refine Xq F.slot_list_extend ⟨_,e,rfl⟩ F.entry_list_extend (F.args_list_extend_2 _ _)
  (AutoSeq1.list_extend_list_list_0 l its.toArray n b its2.toArray n2 hlong (by rw [Zt]; omega) (by omega)) ⟨e,e2,?_⟩
 refine ⟨.non,_,I.EW (its':=its++its2) hH e (by simp) (r.append r2) ?_,rfl,q⟩;rw [Z0];omega
def ME:V->List V->Hp->VK->Prop:=λ x vs H Q=>∃ l xs y,x=.ref l/\vs=[]/\H l=some (.lst xs)/\xs[xs.length - 1]?=some y/\Q y (upd H l (.lst xs.dropLast))
theorem EM:MtM X "list.pop" ME:=by
 intro pins s σ H x vs v us Q I rx rv h;obtain ⟨l,xs,y,rfl,rfl,hH,hy,q⟩:=h;cases rx;have hus:=rv.zero;subst hus;obtain ⟨z,its,n,r,hl,e⟩:=I.yw hH;obtain ⟨u,hu,ru⟩:=r.get hy
 have hy':its.toArray[its.toArray.size - 1]?=some u:=by
  show its.toArray[its.length - 1]?=some u;rw [<- Array.getElem?_toList,<- hl];exact hu
 refine Xq F.slot_list_pop ⟨_,e,rfl⟩ F.entry_list_pop (F.args_list_pop_1 _) (MeetsSeq.list_pop_last l its.toArray n u hy' (by rw [Zt]; omega)) ⟨e,?_⟩;refine ⟨y,_,I.EW (its':=its.dropLast) hH e ?_ r.dropLast ?_,ru,q⟩
 ·show its.toArray.eraseIdxIfInBounds (its.toArray.size - 1)=its.dropLast.toArray
  rw [Zt,List.eraseIdxIfInBounds_toArray,tU]
 ·rw [List.length_dropLast]
  omega
def DY:V->List V->Hp->VK->Prop:=λ x vs H Q=>∃ l xs,x=.ref l/\vs=[]/\H l=some (.lst xs)/\Q .non (upd H l (.lst []))
theorem yt:MtM X "list.clear" DY:=by
 intro pins s σ H x vs v us Q I rx rv h;obtain ⟨l,xs,rfl,rfl,hH,q⟩:=h;cases rx;have hus:=rv.zero;subst hus;obtain ⟨z,its,n,r,hl,e⟩:=I.yw hH;refine Xq F.slot_list_clear ⟨_,e,rfl⟩ F.entry_list_clear (F.args_list_clear_1 _) (AutoSeq1.list_clear_list_0 l its.toArray n (by rw [Zt]; omega)) ⟨e,?_⟩;exact ⟨.non,_,I.EW (its':=[]) (ys:=[]) hH e rfl .nil (Z4 _),rfl,q⟩
def MK:R2:=λ x y H Q=>∃ l b xs zs,x=.ref l/\y=.ref b/\H l=some (.lst xs)/\H b=some (.lst zs)/\xs.length+zs.length<=sizeLine/\∀ p,H p=none->Q (.ref p) (upd H p (.lst (xs++zs)))
theorem zP:OpR X (binaryOp .Add) MK:=by
 intro pins s σ H x y v u Q I rx ry h;obtain ⟨l,b,xs,zs,rfl,rfl,hH,hB,hz,q⟩:=h;cases rx;cases ry;obtain ⟨z,its,n,r,hl,e⟩:=I.yw hH;obtain ⟨z2,its2,n2,r2,hl2,e2⟩:=I.yw hB;refine PySem.P.add_list e e2 ?_ (by rw [Zt,Zt]; omega)
 have ea:its.toArray++its2.toArray=(its++its2).toArray:=by simp
 rw [ea];exact ⟨.ref _,_,I.LW (t':=s.toks) (r.append r2) (by rw [Z0]; omega),rfl,q _ I.fresh⟩
def MD:R2:=λ x y H Q=>∃ l k xs,x=.ref l/\y=.int k/\H l=some (.lst xs)/\-(2 ^ 63)<=k/\k < 2 ^ 63/\xs.length * k.toNat<=sizeLine /\
 ∀ p,H p=none->Q (.ref p) (upd H p (.lst (List.replicate k.toNat xs).flatten))
theorem len_rep {α:Type} (xs:List α) (k:Nat):(List.replicate k xs).flatten.length=k * xs.length:=by
 induction k with
 | zero=>simp
 | succ k ih=>rw [Yc,Xh,Z0,ih,Nat.succ_mul,Nat.add_comm]
theorem Ed:OpR X (binaryOp .Mult) MD:=by
 intro pins s σ H x y v u Q I rx ry h;obtain ⟨l,k,xs,rfl,rfl,hH,h1,h2,hz,q⟩:=h;cases rx;obtain ⟨t,rfl⟩:=ry;obtain ⟨z,its,n,r,hl,e⟩:=I.yw hH;have hlen:its.toArray.size * k.toNat<=sizeLine:=by rw [Zt,<- hl]; exact hz
 have hcap:¬ its.toArray.size * k.toNat > (2 ^ 63 - 1) / 8:=by
  have:(sizeLine:Nat)<=(2 ^ 63 - 1) / 8:=by decide
  omega
 have hfit:¬ (!Builtin.List.listFitsIndex k)=true:=by
  rw [fitsIndex_both h1 h2];exact Zf
 have hlong:¬ Builtin.List.listTooLong (its.toArray.size * k.toNat)=true:=by
  rw [rn hlen];exact Zf
 have hnew:List.foldl (λ x1 x2=>x1++x2) #[] (List.replicate (if its.toArray.isEmpty=true then 0 else k.toNat) its.toArray)=(List.replicate k.toNat its).flatten.toArray:=by
  have f0:∀ m:Nat,List.foldl (λ x1 x2=>x1++x2) #[] (List.replicate m its.toArray)=(List.replicate m its).flatten.toArray:=λ m=>by
    have:=foldl_rep its m [];rw [List.nil_append] at this;exact this
  rw [f0]
  cases its with
  | nil=>simp
  | cons a r'=>rw [if_neg (by simp)]
 refine wpAny_binaryOp_repeat_ref (T:="list") (U:="int") (by decide) ⟨_,e,rfl⟩ (λ s'=>typeIs_int s' k t) noFill_list_mul F.fills_int_mul F.slot_int_rmul repeat_list F.slot_int_index.lookup
  (Xq F.slot_int_rmul (typeIs_int s k t) F.entry_int_rmul (F.args_int_rmul_2 _ _) (int___rmul___int_list k t l its.toArray n)
    ⟨e,rfl,⟨_,e,rfl⟩,Xq F.slot_list_mul ⟨_,e,rfl⟩ F.entry_list_mul (F.args_list_mul_2 _ _) (AutoListH.list___mul___list_int_3 l its.toArray n k t hfit hcap hlong) ⟨e,?_⟩⟩)
 rw [hnew];exact ⟨.ref _,_,I.LW (t':=s.toks) (r.rep k.toNat) (by rw [len_rep,Nat.mul_comm]; exact hz),rfl,q _ I.fresh⟩
end
end L2
namespace Att
open PySem PySem.W PySem.Calls PyProof.Rows
theorem j5:∀ (ns:List Int) (vs:List Value),WellAll P h vs (ns.map WData.int)->IntsAre vs ns:=by
 intro ns
 induction ns with
 | nil =>
  intro vs w;rw [List.map_nil] at w;cases w;exact .nil
 | cons n ns ih =>
  intro vs w;rw [Zh] at w
  cases w with
  | cons a b =>
   cases a;exact .cons _ _ (ih _ b)
theorem uA {l:OpenLaw} {n:Nat} (hn:l.most=some n) {P:Params} {h:Heap} {args:List WData} {vals:List Value}
  (hpre:l.row.toRowW.claim.pre args=true) (hwl:WellAll P h vals args) :
  ∃ a vs ns,vals=[Value.ref a]/\args=[WData.list (ns.map WData.int)]/\h.get? a=some { cls:=.type "list",data:=.seq vs.toArray }/\IntsAre vs ns/\ns.length<=n:=by
 have hsh:WShape.hasAll [] args [.list .int]=true:=(pre_splitW hpre).1;have hc:l.pre.holds [] { args:=args }=true:=(pre_splitW hpre).2;obtain ⟨d,r,rfl,h1,h2⟩:=hasAllW_cons hsh;obtain rfl:=hasAllW_nil h2;obtain ⟨xs,rfl,h3⟩:=hasW_list h1;obtain ⟨ns,rfl⟩:=items_int h3
 have hlen:ns.length<=n:=by
  unfold OpenLaw.pre at hc
  have h4:(WTm.not (.lt (.lit (.int (n:Int))) (.len (.arg 0)))).holds [] { args:=[.list (ns.map .int)] }=true:=by
   have h4:=(holds_andW hc).1;rw [hn] at h4;exact h4
  have h5:=condW_of h4 (w_not (w_lt w_lit (w_len_list (w_arg rfl))));rw [Za] at h5;refine Nat.le_of_not_lt λ q=>?_
  have q':(n:Int) < ((ns.length:Nat):Int):=by omega
  first
   | (rw [Zq q'] at h5; exact absurd h5 (by decide))
   | (simp at h5; omega)
 cases hwl with
 | cons w1 w2 =>
  cases w2
  cases w1 with
  | list ho hall=>exact ⟨_,_,ns,rfl,rfl,ho,j5 ns _ hall,hlen⟩
theorem uR (l:OpenLaw) (args:List WData):l.row.toRowW.claim.post args (.bool true) args=true :=
 postW_of (r:=l.row.toRowW) (X:=(true == true))
  (show WShape.has [] (.bool true) .bool=true by first | rfl | decide | simp [WShape.has,WShape.arms,WShape.armsAll])
  (show (WTm.eq .res (.lit (.bool true))).value [] { args:=args,res:=some (.bool true),after:=args }=some (.bool (true == true)) from w_eq_bool (w_res rfl) w_lit) rfl
theorem qE {l:OpenLaw} {n:Nat} {q:Program} {loose:List Str} {XP:(Str->Option Value)->Heap->Prop} {YP:World->Heap->Prop} {d:DefRec}
  (hn:l.most=some n) (hdf:d.params.defaults=[])
  (call:∀ (w:World) (s₀ s₁:Shared) (mg mb:Str->Option Value) (fa:Addr) (o:Obj) (pm cd doc:Value) (a:Addr) (vs:List Value) (ns:List Int),
    Ground q loose [] XP w s₀ mg mb s₁.heap->YP w s₁.heap ->
    s₁.heap.get? fa=some o->o.data=.func (docDef d.name d.params d.body d.scope pm cd doc)->s₁.heap.CodeRec cd d.name->mg d.name=some (.ref fa) ->
    s₁.heap.get? a=some { cls:=.type "list",data:=.seq vs.toArray }->IntsAre vs ns->ns.length<=n->s₁.gens=#[] ->
    codeAny (model l.prog w) callerA (.call (.ref fa) ⟨[.ref a],[]⟩) (λ r s'=>r=.ok (.ret (.bool true))/\OldK s₁.heap s'.heap/\s'.os=s₁.os/\AllBare s'.gens) s₁) :
  WalkO q loose XP YP l.row.toRowW d [] (λ f vs=>PySem.call f vs):=by
 intro w s₀ s₁ mg mb G Y fa o pm cd doc dV kV ho hd hcd hD hmg hg args vals as hpre hlay hrd hwl hlo;obtain rfl:dV=.none:=Dflts.none hD hdf;obtain rfl:kV=.none:=Dflts.noKw hD;obtain ⟨a,vs,ns,rfl,rfl,hobj,hints,hlen⟩:=uA hn hpre hwl;refine enter_call (codeAny_mono (call w s₀ s₁ mg mb fa o pm cd doc a vs ns G Y ho (fd_plain hd) hcd hmg hobj hints hlen hg) λ r s' hq=>?_);obtain ⟨rfl,h2,h3,h4⟩:=hq;exact ⟨.inl ⟨.bool true,.bool true,[],rfl,λ _=>rfl,.bool true,uR l _,λ _=>⟨List.Pairwise.nil,λ _ hm=>(nomatch hm)⟩⟩,h2,h3,h4⟩
end Att
namespace L2
open PySem PySem.Spec PyProof.Rows
theorem mZ:∀ {vs:List Value} {ns:List Int},IntsAre vs ns->bG (ns.map V.int) vs
 | _,_,.nil=>.nil
 | _,_,.cons n t h=>.cons ⟨t,rfl⟩ (mZ h)
def Hi (H:Hp):Prop:=∀ b,H b=none\/∃ o xs,H b=some (.frz o (.lst xs))
theorem yF {P:Program} {w:World} {K:W.Frag} {mg mb:Str->Option Value} {CX:CXT} {k:Nat} {fa a:Addr} {fd:FuncData} {x:Str} {sp:Sp} {s₁:Shared} {vs:List Value} {ns:List Int}
  (KX:K.In s₁.heap) (hns:s₁.heap.Ns mainGlobals mg) (hb:s₁.heap.Ns builtinsNs mb) (hbb:∀ x:Str,x≠"__name__"->mb x=bootBuiltins x) (hlim:s₁.heap.NoLimit) (hg:s₁.gens=#[])
  (ha:s₁.heap.get? a=some { cls:=.type "list",data:=.seq vs.toArray }) (hi:IntsAre vs ns) (hl:ns.length<=sizeLine) (hr:d2 k callerA)
  (F:∀ base:Heap,K.In base->base.Ns mainGlobals mg->fD P w K mg base CX k fa fd [x] sp) (hbind:∀ (s:Shared) (u:Value),BindsTo s fd ⟨[u],[]⟩ [(x,u)])
  (hsp:∀ H:Hp,Hi H->SqL K H a (ns.map V.int)->sp [.ref a] H (λ v _=>v=.bl true) λ _ _ _=>False)
  (hCX:∀ H e s',CX [] H s₁ (λ _ _ _=>False) e s'->False) :
  codeAny (model P w) callerA (.call (.ref fa) ⟨[.ref a],[]⟩) (λ r s'=>r=.ok (.ret (.bool true))/\OldK s₁.heap s'.heap/\s'.os=s₁.os/\AllBare s'.gens) s₁:=by
 have rv:=mZ hi;have lenV:=hi.length
 have core:∀ H:Hp,Hi H->SqL K H a (ns.map V.int)->HOk P w H s₁.heap->(∀ b,H b≠none->b=a)->(H a≠none->K.lookup a=none) ->
   codeAny (model P w) callerA (.call (.ref fa) ⟨[.ref a],[]⟩) (λ r s'=>r=.ok (.ret (.bool true))/\OldK s₁.heap s'.heap/\s'.os=s₁.os/\AllBare s'.gens) s₁:=by
  intro H hO hS hok hA hK;have base_of:∀ {b:Addr} {o:Obj},s₁.heap.get? b=some o->H b=none->(yK s₁.heap H).get? b=some o:=λ e n=>yJ e n
  have noA:∀ {b:Addr} {o:Obj} {es:Array DictEntry} {ep:Nat},s₁.heap.get? b=some o->o.data=.dict es ep->H b=none:=λ {b o es ep} e d=>by
   cases q:H b with
   | none=>rfl
   | some u =>
    have e':b=a:=hA b (by rw [q]; simp);subst e';rw [ha] at e; cases e
    have d':Data.seq vs.toArray _=Data.dict es ep:=d;cases d'
  have nsK:∀ {b:Addr} {m:Str->Option Value},s₁.heap.Ns b m->(yK s₁.heap H).Ns b m:=λ {b m} ⟨o,es,ep,e,d,r⟩=>⟨o,es,ep,base_of e (noA e d),d,r⟩
  have hKb:K.In (yK s₁.heap H):=λ b o e=>base_of (KX b o e) (by
   cases q:H b with
   | none=>rfl
   | some u =>
    have e':b=a:=hA b (by rw [q]; simp);subst e'
    rw [hK (by rw [q]; simp)] at e; cases e)
  have hM:Mod K mg (yK s₁.heap H):=⟨hKb,nsK hns,⟨mb,nsK hb,hbb⟩,let ⟨mc,h1,h2⟩:=hlim; ⟨mc,nsK h1,h2⟩⟩
  have e0:CT P w K mg (yK s₁.heap H) callerA [] s₁ H:=⟨rfl,hM,λ b o e=>Bo e,Nat.le_of_eq (v7 _ _),trivial,λ b hb=>absurd (show b ∈ ([]:List Addr) from hb) (by simp),hok,.of_eq hg⟩
  refine codeAny_mono ((F _ hKb (nsK hns)).run callerA [] s₁ H ⟨[.ref a],[]⟩ [.ref a] [.ref a] _ _ hr e0 (hbind s₁ (.ref a)) (.cons rfl .nil) (hsp H hO hS)) λ r s' h=>?_
  cases r with
  | error e=>exact (hCX H e s' h).elim
  | ok fl =>
   cases fl with
   | next=>exact False.elim h
   | brk=>exact False.elim h
   | cont=>exact False.elim h
   | ret u =>
    obtain ⟨v,H',os,bare,un,hok',r',q⟩:=h;have q':v=.bl true:=q;subst q';obtain rfl:u=Value.bool true:=r';refine ⟨rfl,OldK.of_keep λ b o e=>?_,os,bare⟩
    cases q:H b with
    | none=>exact un.keep b o e q (by intro z; exact absurd (show b ∈ ([]:List Addr) from z) (by simp)) (by simp)
    | some u =>
     rcases hO b with z | ⟨ob,xs,z⟩
     · rw [q] at z; cases z
     ·have z2:=un.wc b ob _ z
      obtain ⟨e1,_⟩:=hok b _ z;obtain ⟨e2,_⟩:=hok' b _ z2;rw [e] at e1; cases e1
      exact e2
 cases hk:K.lookup a with
 | some o =>
  have e:=KX a o hk;rw [ha] at e;cases e;refine core (λ _=>none) (λ _=>.inl rfl) (.inr ⟨_,vs.toArray,_,hk,rfl,rfl,rfl,by rw [Zt,lenV]; exact hl,by simpa using rv⟩) (λ b u z=>by have z':(none:Option HO)=some u:=z; cases z') (λ b z=>absurd rfl z) λ z=>absurd rfl z
 | none =>
  refine core (λ b=>if b=a then some (.frz { cls:=.type "list",data:=.seq vs.toArray } (.lst (ns.map V.int))) else none) (λ b=>?_) (.inl (.inr ⟨{ cls:=.type "list",data:=.seq vs.toArray },if_pos rfl⟩)) (λ b u z=>?_) (λ b z=>?_) λ _=>hk
  ·by_cases hb:b=a
   · exact .inr ⟨_,_,if_pos hb⟩
   · exact .inl (if_neg hb)
  ·by_cases hb:b=a
   ·have z':=(if_pos hb).symm.trans z
    cases z';subst hb;exact ⟨ha,by rw [Za]; exact hl,vs,_,rv,ha⟩
   ·have z':=(if_neg hb).symm.trans z
    cases z'
  ·by_cases hb:b=a
   · exact hb
   · exact absurd (if_neg hb) z
end L2
namespace L2
open PySem PySem.Spec PyProof.Rows
abbrev KOf {K:W.Frag} {h:Heap} (_:K.In h):W.Frag:=K
theorem Ao {l:PySem.W.OpenLaw} {n k:Nat} {q:Program} {loose:List Str} {XP:(Str->Option Value)->Heap->Prop} {YP:World->Heap->Prop} {d:DefRec} {K:Params->W.Frag} {CX:World->CXT} {sp:World->Sp} {x:Str}
    (hn:l.most=some n) (hn2:n<=sizeLine) (hdf:d.params.defaults=[]) (hr:d2 k callerA)
    (hY:∀ (w:World) (h:Heap),YP w h->(K w.params).In h)
    (F : ∀ (w:World) (mg:Str->Option Value) (fa:Addr) (h:Heap),(K w.params).In h->h.Ns mainGlobals mg->mg d.name=some (.ref fa) ->
      ∃ fd:FuncData,(∀ (s:Shared) (u:Value),BindsTo s fd ⟨[u],[]⟩ [(x,u)]) /\
        ∀ base:Heap,(K w.params).In base->base.Ns mainGlobals mg->fD l.prog w (K w.params) mg base (CX w) k fa fd [x] (sp w))
    (hsp:∀ (w:World) (H:Hp) (a:Addr) (ns:List Int),ns.length<=n->Hi H->SqL (K w.params) H a (ns.map V.int)->sp w [.ref a] H (λ v _=>v=.bl true) λ _ _ _=>False)
    (hCX:∀ (w:World) (H:Hp) (s:Shared) (e:Value) (s':Shared),CX w [] H s (λ _ _ _=>False) e s'->False) :
    PySem.W.WalkO q loose XP YP l.row.toRowW d [] (λ f vs=>PySem.call f vs):=by
  refine Att.qE hn hdf λ w s₀ s₁ mg mb fa o pm cd doc a vs ns G Y ho hd hcd hmg hobj hints hlen hg=>?_
  have KX:=hY w _ Y;obtain ⟨fd,hb,hF⟩:=F w mg fa _ KX G.T.g hmg;exact yF KX G.T.g G.T.b G.T.builtins G.T.nolimit hg hobj hints (Z2 hlen hn2) hr hF hb (λ H hO hS=>hsp w H a ns hlen hO hS) λ H e s'=>hCX w H s₁ e s'
theorem xB {l:PySem.W.OpenLaw} {n k:Nat} {q:Program} {loose:List Str} {XP:(Str->Option Value)->Heap->Prop} {YP:World->Heap->Prop} {d:DefRec} {K:Params->W.Frag} {CX:CXT} {sp:W.Frag->Sp} {x:Str}
    (hn:l.most=some n) (hn2:n<=sizeLine) (hdf:d.params.defaults=[]) (hr:d2 k callerA)
    (hY:∀ (w:World) (h:Heap),YP w h->(K w.params).In h)
    (F : ∀ (w:World) (mg:Str->Option Value) (fa:Addr) (h:Heap),(K w.params).In h->h.Ns mainGlobals mg->mg d.name=some (.ref fa) ->
      ∃ fd:FuncData,(∀ (s:Shared) (u:Value),BindsTo s fd ⟨[u],[]⟩ [(x,u)]) /\
        ∀ base:Heap,(K w.params).In base->base.Ns mainGlobals mg->fD l.prog w (K w.params) mg base CX k fa fd [x] (sp (K w.params)))
    (hsp:∀ (K:W.Frag) (H:Hp) (a:Addr) (ns:List Int),ns.length<=n->Hi H->SqL K H a (ns.map V.int)->sp K [.ref a] H (λ v _=>v=.bl true) λ _ _ _=>False)
    (hCX:∀ (H:Hp) (s:Shared) (e:Value) (s':Shared),CX [] H s (λ _ _ _=>False) e s'->False) :
    PySem.W.WalkO q loose XP YP l.row.toRowW d [] (λ f vs=>PySem.call f vs) :=
  Ao (K:=K) (CX:=λ _=>CX) (sp:=λ w=>sp (K w.params)) hn hn2 hdf hr hY F (λ w H a ns h1 h2 h3=>hsp (K w.params) H a ns h1 h2 h3) λ _ H s e s'=>hCX H s e s'
end L2
/- THE LAST THEOREM (shape; LID,My.* are yours):
   My.Adr: a structure of the addresses that your layer names (classes,functions); My.Txt K t: a structure (Prop) of the equations over K;
   My.txt_mk:{K} {implicit addresses ..} (e1:nsIn K mainGlobals "law"=some (some (.ref f))) (e2:K.lookup f=some ⟨oc,od,.func (fnOf "law" "law" params body scope dV kV doc pm an cdv ct),sl⟩) (e3:codeIn K cdv "law"=true) ..:∃ t,My.Txt K t
(the tactic k_is has no namespace: write k_is) -/
namespace L2
open PySem PySem.Spec PyProof.Rows
def inClass (s:Stmt) (j:Nat):Stmt:=match s with
 | .ClassDef _ _ _ body _ _ _ _ _ _ _=>body.getD j (.Pass ⟨0,0,0,0⟩)
 | _=>.Pass ⟨0,0,0,0⟩
def cB (s:Stmt):Arguments:=match s with
 | .FunctionDef _ a _ _ _ _ _ _ _ _=>a
 | _=>{ posonlyargs:=[],args:=[],vararg:=none,kwonlyargs:=[],kw_defaults:=[],kwarg:=none,defaults:=[] }
def bP (s:Stmt):List Stmt:=match s with
 | .FunctionDef _ _ b _ _ _ _ _ _ _=>b
 | _=>[]
def aK (s:Stmt):Scope:=match s with
 | .FunctionDef _ _ _ _ _ _ sc _ _ _=>sc
 | _=>{ kind:=.function,names:=[],isGenerator:=false,isCoroutine:=false }
abbrev CX0:CXT:=λ _ _ _ _ _ _=>False
abbrev E0:XK:=λ _ _ _=>False
theorem kW:lT CX0 X E0:=λ _ _ _ _ _ _ _ h=>h.elim
structure Fun (K:W.Frag) (x qual:Str) (st:Stmt) (f:Addr) (fd:FuncData):Prop where
 ex:∃ (oc:Value) (od:Option Addr) (kV doc pm:Value) (an:Option Addr) (cdv ct:Value) (osl:Array (Option Value)),
  fd=PySem.W.fnOf x qual (cB st) (bP st) (aK st) .none kV doc pm an cdv ct/\K.lookup f=some ⟨oc,od,.func fd,osl⟩/\PySem.W.codeIn K cdv qual=true
 kp:W.keepIn K (.ref f)=true
section
variable {P:Program} {w:World} {K:W.Frag} {mg:Str->Option Value} {base:Heap}
theorem Fun.ok {x qual:Str} {st:Stmt} {f:Addr} {fd:FuncData} {N ps:List Str} {k:Nat} {sp:Sp} (F:Fun K x qual st f fd) (S:dS N ps (aK st)) (len:∀ vs H Q E,sp vs H Q E->vs.length=ps.length)
  (hbody:∀ (cdv:Value) (A:Around) (outer:List Env) (s:Shared) (H:Hp) (vs:List V) (Q:VK) (E:XK),d2 k (A.deeper (envOfC qual (aK st) s.heap.objs.size f cdv))->sp vs H Q E ->
    ∃ t,PSs (zd CX0 P w K mg base N qual (aK st) f cdv A outer s H E).nox (bP st) t/\t { nx:=λ _ H'=>Q .non H',rt:=Q } (start N vs) H):fD P w K mg base CX0 (k+1) f fd ps sp:=by
 obtain ⟨oc,od,kV,doc,pm,an,cdv,ct,osl,rfl,lk,hcd⟩:=F.ex;refine Ky lk hcd S len λ A outer s H vs Q E hr hsp=>?_
 obtain ⟨t,h,q⟩:=hbody cdv A outer s H vs Q E hr hsp;exact ⟨t,h.nox,q⟩
theorem Fun.binds {x qual:Str} {st:Stmt} {f:Addr} {fd:FuncData} {ps:List Str} (F:Fun K x qual st f fd)
  (h:∀ (kV doc pm:Value) (an:Option Addr) (cdv ct:Value) (us:List Value),us.length=ps.length->bindArgs (PySem.W.fnOf x qual (cB st) (bP st) (aK st) .none kV doc pm an cdv ct) ⟨us,[]⟩=pure (ps.zip us)):Binds K fd ps []:=by
 obtain ⟨oc,od,kV,doc,pm,an,cdv,ct,osl,rfl,lk,hcd⟩:=F.ex;exact .all (h kV doc pm an cdv ct)
theorem j7 {x qual:Str} {st:Stmt} {f:Addr} {oc:Value} {od an:Option Addr} {osl:Array (Option Value)} {kV doc pm cdv ct:Value} (l:K.lookup f=some ⟨oc,od,.func (PySem.W.fnOf x qual (cB st) (bP st) (aK st) .none kV doc pm an cdv ct),osl⟩)
 (c:PySem.W.codeIn K cdv qual=true) (k:W.keepIn K (.ref f)=true):Fun K x qual st f (PySem.W.fnOf x qual (cB st) (bP st) (aK st) .none kV doc pm an cdv ct):=⟨⟨oc,od,kV,doc,pm,an,cdv,ct,osl,rfl,l,c⟩,k⟩
end
theorem eR (hr:d2 k A):A.units+1 < cLine:=Nat.lt_of_le_of_lt (Nat.add_le_add_left (by decide:1<=64) _) hr.units
section
variable {X:Cx}
theorem pv (i:Nat) (hN:X.N[i]?=some x:=by rfl) (hv:Vis X.env.scope x:=by first | exact Or.inl rfl | exact Or.inr (Or.inl rfl) | exact Or.inr (Or.inr rfl)) (hd:(x == ("__debug__":Str))=false:=by decide)
 (hcd:(x == ("__classdict__":Str))=false:=by decide):PE X (.Name x pos) (KZ i):=gG hN hv hd hcd
end
theorem Cf {A B:Prop} (h:B):if false=true then A else B:=by
 rw [if_neg Zf];exact h
theorem Ce {A B:Prop} (h:A):if true=true then A else B:=by
 rw [if_pos rfl];exact h
def bU (H H':Hp):Prop:=∀ b o,H b=some o->H' b=some o
theorem bU.refl (H:Hp):bU H H:=λ _ _ h=>h
theorem bU.trans (a:bU H H1) (b:bU H1 H2):bU H H2:=λ c o h=>b c o (a c o h)
theorem bU.free (e:bU H H') (h:H' l=Option.none):H l=Option.none:=by
 cases q:H l with
 | none=>rfl
 | some o =>
  rw [e l o q] at h;cases h
theorem bU.seq {K:W.Frag} {H H':Hp} {a:Addr} {xs:List V} (e:bU H H') (h:SqL K H a xs):SqL K H' a xs:=by
 rcases h with (h | ⟨o,h⟩) | h
 · exact .inl (.inl (e _ _ h))
 · exact .inl (.inr ⟨o,e _ _ h⟩)
 · exact .inr h
end L2
end
section
namespace HD16
open PySem PySem.W PySem.W.X PyProof.Rows L2
abbrev hp:Program:=PySem.Challenge.pw_stylehouse_k16_ends
abbrev hl:OpenLaw:=PySem.Challenge.rw_stylehouse_k16_ends
def top (i:Nat):Stmt:=PySem.Challenge.pw_stylehouse_k16_ends.main.body.getD i (.Pass ⟨0,0,0,0⟩)
noncomputable abbrev tL (o:Params->Obj) (P:Params):BT:=.node (o P) .nil .nil
noncomputable abbrev tN (o:Params->Obj) (l r:Params->BT) (P:Params):BT:=.node (o P) (l P) (r P)
noncomputable abbrev tZ (_:Params):BT:=.nil
noncomputable abbrev dE (P:Params) (n:Str) (t:Nat) (v:Value):DictEntry:=⟨PyData.keyHash P n,.str n t,v⟩
noncomputable abbrev oF (y:String) (l:List Value) (_:Params):Obj:=⟨.type y,none,.fields ⟨l⟩,⟨[]⟩⟩
noncomputable abbrev oQ (y:String) (l:List Value) (n:Nat) (_:Params):Obj:=⟨.type y,none,.seq ⟨l⟩ n,⟨[]⟩⟩
noncomputable abbrev oD (y:String) (l:List DictEntry) (n:Nat):Obj:=⟨.type y,none,.dict ⟨l⟩ n,⟨[]⟩⟩
noncomputable abbrev oM (y:String) (n q:Str) (s:Stmt) (g:Nat) (c:List (Str×Addr)) (d k dc pm:Value) (an:Option Addr) (cd ct:Value) (b:Nat):Obj:=⟨.type y,none,.func ⟨n,q,cB s,.stmts (bP s),aK s,g,c,d,k,dc,pm,an,cd,ct,b⟩,⟨[]⟩⟩
noncomputable abbrev oC (y:String) (n:Str) (a:Nat) (q:Str) (b:Nat) (f:Str) (c i1 i2 i3 i4 i5 r1:Nat) (o:Bool) (i6 r2:Nat) (v1 v2 v3 v4:Value) (i7 i8:Nat) (g:Str) (d:Nat):Obj:=⟨.type y,none,.fields ⟨[.str n a,.str q b,.str f c,.int (.ofNat i1) 0,.int (.ofNat i2) 0,.int (.ofNat i3) 0,.int (.ofNat i4) 0,.int (.ofNat i5) 0,.ref r1,.bool o,.int (.ofNat i6) 0,.ref r2,v1,v2,v3,v4,.int (.ofNat i7) 0,.int (.ofNat i8) 0,.str g d]⟩,⟨[]⟩⟩
noncomputable abbrev vI (i t:Nat):Value:=.int (.ofNat i) t
noncomputable abbrev vS (s:Str) (t:Nat):Value:=.str s t
noncomputable abbrev vR (a:Nat):Value:=.ref a
noncomputable abbrev y0:String:=PySem.W.SL.s2766695959194262286x5
noncomputable abbrev y1:String:=PySem.W.SL.s5856160107412720595x4
noncomputable abbrev y2:String:=PySem.W.SL.s658472552662922059x5
noncomputable abbrev y3:String:=PySem.W.SL.s14018661285674007319x4
noncomputable abbrev y4:String:=PySem.W.SL.s7097527257260152453x26
noncomputable abbrev y5:String:=PySem.W.SL.s7174869446012820540x8
noncomputable abbrev y6:String:=PySem.W.SL.s11030030927630378310x26
noncomputable abbrev y7:String:=PySem.W.SL.s10062305145149207511x16
noncomputable abbrev y8:String:=PySem.W.SL.s17162191345867700912x4
noncomputable abbrev y9:String:=PySem.W.SL.s2742458400755230247x6
noncomputable abbrev y10:String:=PySem.W.SL.s11443829558043349243x14
noncomputable abbrev y11:String:=PySem.W.SL.s14755015743595814543x17
noncomputable abbrev y12:String:=PySem.W.SL.s6511155373996960695x17
noncomputable abbrev y13:String:=PySem.W.SL.s12411053484034534018x21
noncomputable abbrev y14:String:=PySem.W.SL.s10220274742760427390x26
noncomputable abbrev y15:String:=PySem.W.SL.s4290257624100764138x5
noncomputable abbrev y16:String:=PySem.W.SL.s4860613602091757760x24
noncomputable abbrev y17:String:=PySem.W.SL.s6070975301684473832x10
noncomputable abbrev y18:String:=PySem.W.SL.s5946037652744460706x9
noncomputable abbrev y19:String:=PySem.W.SL.s4278001404047624695x13
noncomputable abbrev y20:String:=PySem.W.SL.s4209523147560561109x18
noncomputable def n0:Str:="<module>"
noncomputable def n1:Str:="/claim/cut.py"
noncomputable def n2:Str:="__main__"
noncomputable def n3:Str:="__name__"
noncomputable def n4:Str:="stylehouse.errors"
noncomputable def n5:Str:="__doc__"
noncomputable def n6:Str:="__package__"
noncomputable def n7:Str:="__loader__"
noncomputable def n8:Str:="__spec__"
noncomputable def n9:Str:="__annotations__"
noncomputable def n10:Str:="__builtins__"
noncomputable def n11:Str:="__file__"
noncomputable def n12:Str:="__cached__"
noncomputable def n13:Str:="_wall"
noncomputable def n14:Str:="beneath"
noncomputable def n15:Str:="row_of"
noncomputable def n16:Str:="ahead"
noncomputable def n17:Str:="holders_of"
noncomputable def n18:Str:="depth_of"
noncomputable def n19:Str:="spot_of"
noncomputable def n20:Str:="Trait"
noncomputable def n21:Str:="trait_of"
noncomputable def n22:Str:="has_trait"
noncomputable def n23:Str:="is_counted"
noncomputable def n24:Str:="ends_of"
noncomputable def n25:Str:="reaches"
noncomputable def n26:Str:="link_of"
noncomputable def n27:Str:="joined_to"
noncomputable def n28:Str:="has_all"
noncomputable def n29:Str:="k"
noncomputable def n30:Str:="tree"
noncomputable def n31:Str:="box"
noncomputable def n32:Str:="found"
noncomputable def n33:Str:="left"
noncomputable def n34:Str:="one"
noncomputable def n35:Str:="stylehouse.walks"
noncomputable def n36:Str:="holder"
noncomputable def n37:Str:="row"
noncomputable def n38:Str:="__module__"
noncomputable def n39:Str:="stylehouse.traits"
noncomputable def n40:Str:="__qualname__"
noncomputable def n41:Str:="__firstlineno__"
noncomputable def n42:Str:="__init__"
noncomputable def n43:Str:="fits"
noncomputable def n44:Str:="weight"
noncomputable def n45:Str:="__static_attributes__"
noncomputable def n46:Str:="self"
noncomputable def n47:Str:="told"
noncomputable def n48:Str:="Trait.__init__"
noncomputable def n49:Str:="Trait.fits"
noncomputable def n50:Str:="Trait.weight"
noncomputable def n51:Str:="__dict__"
noncomputable def n52:Str:="__weakref__"
noncomputable def n53:Str:="place"
noncomputable def n54:Str:="first"
noncomputable def n55:Str:="step"
noncomputable def n56:Str:="stylehouse.patterns"
noncomputable def n57:Str:="pattern"
noncomputable def n58:Str:="known"
noncomputable def n59:Str:="key"
noncomputable def n60:Str:="join"
noncomputable def n61:Str:="traits"
noncomputable def n62:Str:="HouseError"
noncomputable def n63:Str:="NoBox"
noncomputable def n64:Str:="NoPlace"
noncomputable def n65:Str:="stylehouse.tree"
noncomputable def n66:Str:="NoName"
noncomputable def n67:Str:="TooMuch"
noncomputable def n68:Str:="LONGEST_NAME"
noncomputable def n69:Str:="is_name"
noncomputable def n70:Str:="MOST_BOXES"
noncomputable def n71:Str:="MOST_DEEP"
noncomputable def n72:Str:="stylehouse.names"
noncomputable def n73:Str:="Tree"
noncomputable def n74:Str:="check_name"
noncomputable def n75:Str:="enter"
noncomputable def n76:Str:="check"
noncomputable def n77:Str:="put"
noncomputable def n78:Str:="cut"
noncomputable def n79:Str:="move"
noncomputable def n80:Str:="mark"
noncomputable def n81:Str:="bare"
noncomputable def n82:Str:="write"
noncomputable def n83:Str:="dress"
noncomputable def n84:Str:="stands"
noncomputable def n85:Str:="name_of"
noncomputable def n86:Str:="marks_of"
noncomputable def n87:Str:="words_of"
noncomputable def n88:Str:="rows_of"
noncomputable def n89:Str:="holder_of"
noncomputable def n90:Str:="boxes_of"
noncomputable def n91:Str:="name"
noncomputable def n92:Str:="Tree.__init__"
noncomputable def n93:Str:="Tree.enter"
noncomputable def n94:Str:="Tree.check"
noncomputable def n95:Str:="Tree.put"
noncomputable def n96:Str:="Tree.cut"
noncomputable def n97:Str:="Tree.move"
noncomputable def n98:Str:="word"
noncomputable def n99:Str:="Tree.mark"
noncomputable def Kf:Str:="Tree.bare"
noncomputable def LU:Str:="words"
noncomputable def Ke:Str:="Tree.write"
noncomputable def LS:Str:="rows"
noncomputable def Kc:Str:="Tree.dress"
noncomputable def Kb:Str:="Tree.stands"
noncomputable def Ka:Str:="Tree.name_of"
noncomputable def J9:Str:="Tree.marks_of"
noncomputable def J8:Str:="Tree.words_of"
noncomputable def J7:Str:="Tree.rows_of"
noncomputable def J6:Str:="Tree.holder_of"
noncomputable def J5:Str:="Tree.boxes_of"
noncomputable def Nn:Str:="boxes"
noncomputable def Nm:Str:="given"
noncomputable def Nl:Str:="holders"
noncomputable def Nk:Str:="marks"
noncomputable def Nj:Str:="names"
noncomputable def mh:Str:="law_stylehouse_k16_ends"
noncomputable def BO:Str:="check_place"
noncomputable def BN:Str:="_law_cell"
noncomputable def BM:Str:="_law_mix"
noncomputable def BL:Str:="_law_name"
noncomputable def BK:Str:="_law_pool"
noncomputable def BJ:Str:="_law_whole"
noncomputable def BI:Str:="_law_same_row"
noncomputable def BH:Str:="_law_under"
noncomputable def BG:Str:="_law_many"
noncomputable def BF:Str:="_law_grow"
noncomputable def BE:Str:="_law_has"
noncomputable def BD:Str:="_law_plain"
noncomputable def BC:Str:="_law_trait"
noncomputable def BB:Str:="_law_all"
noncomputable def BA:Str:="_law_leads"
noncomputable def Bz:Str:="_law_reached"
noncomputable def By:Str:="_law_pattern"
noncomputable def Bw:Str:="_law_closed"
noncomputable def Bv:Str:="law"
noncomputable def LR:Str:="_law_script"
noncomputable def J4:Str:="_law_k"
noncomputable def Hc:Str:="_law_cell_here"
noncomputable def Hb:Str:="_law_way"
noncomputable def LQ:Str:="_law_first"
noncomputable def Ni:Str:="_law_at"
noncomputable def Nh:Str:="_law_letters"
noncomputable def De:Str:="_law_one"
noncomputable def Ha:Str:="_law_draw"
noncomputable def J3:Str:="_law_place"
noncomputable def Ng:Str:="_law_sign"
noncomputable def Nc:Str:="_law_two"
noncomputable def Nb:Str:="_law_three"
noncomputable def LP:Str:="_law_found"
noncomputable def Na:Str:="_law_due"
noncomputable def C9:Str:="_law_rows"
noncomputable def EL:Str:="_law_box"
noncomputable def M9:Str:="_law_told"
noncomputable def M8:Str:="_law_todo"
noncomputable def M7:Str:="_law_most"
noncomputable def M6:Str:="_law_tree"
noncomputable def EK:Str:="_law_facts"
noncomputable def G9:Str:="_law_marks"
noncomputable def LO:Str:="_law_pool_here"
noncomputable def M5:Str:="_law_number"
noncomputable def LL:Str:="_law_holder"
noncomputable def M4:Str:="_law_name_here"
noncomputable def M3:Str:="_law_trait_here"
noncomputable def LK:Str:="_law_kind"
noncomputable def M2:Str:="_law_row"
noncomputable def M0:Str:="_law_every"
noncomputable def MZ:Str:="_law_traits"
noncomputable def MY:Str:="_law_join"
noncomputable def MX:Str:="_law_far"
noncomputable def MW:Str:="_law_step"
noncomputable def MV:Str:="_law_early"
noncomputable abbrev oN (n q:Str) (s:Stmt) (_:Params):Obj:=⟨.none,none,.func ⟨n,q,cB s,.stmts (bP s),aK s,0,[],.none,.none,.none,.none,none,.none,.none,0⟩,⟨[]⟩⟩
def tri:List Nat->List Value
 | a::b::r=>.int (.ofNat a) 0::.int (.ofNat 0) 0::.ref b::tri r
 | _=>[]
noncomputable abbrev oR (l:List Nat) (_:Params):Obj:=⟨.none,none,.fields ⟨tri l⟩,⟨[]⟩⟩
noncomputable abbrev oE (n q:Str) (t l a r s:Nat) (_:Params):Obj:=oC y1 n t q (t+1) n1 (t+2) l a 0 0 3 r true 181 (r+1) .none (.ref (r+2)) (.ref (r+3)) (.ref (r+4)) s l n1 (s+1)
noncomputable abbrev oG (n q:Str) (s:Stmt) (m:Str) (t r:Nat) (_:Params):Obj:=oM y5 n q s 3 [] .none .none .none (.str m t) none (.ref r) .none 0
noncomputable def o0:=oQ y0 [] 0
noncomputable def o1 (P:Params):Obj:=⟨.none,none,(.fields ⟨[]⟩),⟨[]⟩⟩
noncomputable def o2 (P:Params):Obj:=oC y1 n0 182 n0 183 n1 184 1 0 0 0 0 11 false 181 12 .none .none .none .none 185 1 n1 186
noncomputable def o3 (P:Params):Obj:=⟨(.type y2),none,.plain,⟨[(some (vR 13)),(some (vR 3)),(some (vR 3)),none,(some (vS n2 164)),none,(some (vR 0))]⟩⟩
noncomputable def o4 (P:Params):Obj:=oD y3 [dE P n3 165 (vS n4 372),dE P n5 166 .none,dE P n6 167 .none,dE P n7 168 (.builtin y4),dE P n8 169 .none,dE P n9 170 (vR 6),dE P n10 171 (vR 4),dE P n11 173 (vS n1 172),dE P n12 174 .none,dE P n13 193 (vR 21),dE P n14 206 (vR 28),dE P n15 215 (vR 35),dE P n16 224 (vR 42),dE P n17 234 (vR 49),dE P n18 242 (vR 56),dE P n19 251 (vR 63),dE P n20 298 (vR 94),dE P n21 305 (vR 105),dE P n22 311 (vR 110),dE P n23 320 (vR 117),dE P n24 328 (vR 122),dE P n25 340 (vR 129),dE P n26 352 (vR 136),dE P n27 361 (vR 143),dE P n28 371 (vR 150)] 25
noncomputable def o5:=oR [1,20,5,27,13,34,16,41,19,48,26,55,28,62,32,69,42,104,44,109,59,116,64,121,68,128,73,135,78,142,86,149]
noncomputable def o6:=oQ y0 [vS n29 190] 0
noncomputable def o7:=oN n13 n13 (top 0)
noncomputable def o8:=oE n13 n13 187 1 1 15 191
noncomputable def o9:=oG n13 n13 (top 0) n2 164 20
noncomputable def o10:=oQ y0 [vS n30 199,vS n31 200,vS n32 201,vS n33 202,vS n34 203] 0
noncomputable def o11:=oN n14 n14 (top 2)
noncomputable def o12:=oE n14 n14 196 5 2 22 204
noncomputable def o13:=oG n14 n14 (top 2) n35 194 27
noncomputable def o14:=oQ y0 [vS n30 210,vS n31 211,vS n36 212] 0
noncomputable def o15:=oN n15 n15 (top 3)
noncomputable def o16:=oE n15 n15 207 13 2 29 213
noncomputable def o17:=oG n15 n15 (top 3) n35 194 34
noncomputable def o18:=oQ y0 [vS n30 219,vS n31 220,vS n37 221] 0
noncomputable def o19:=oN n16 n16 (top 4)
noncomputable def o20:=oE n16 n16 216 16 2 36 222
noncomputable def o21:=oG n16 n16 (top 4) n35 194 41
noncomputable def o22:=oQ y0 [vS n30 228,vS n31 229,vS n32 230,vS n36 231] 0
noncomputable def o23:=oN n17 n17 (top 5)
noncomputable def o24:=oE n17 n17 225 19 2 43 232
noncomputable def o25:=oG n17 n17 (top 5) n35 194 48
noncomputable def o26:=oQ y0 [vS n30 238,vS n31 239] 0
noncomputable def o27:=oN n18 n18 (top 6)
noncomputable def o28:=oE n18 n18 235 26 2 50 240
noncomputable def o29:=oG n18 n18 (top 6) n35 194 55
noncomputable def o30:=oQ y0 [vS n30 246,vS n31 247,vS n37 248] 0
noncomputable def o31:=oN n19 n19 (top 7)
noncomputable def o32:=oE n19 n19 243 28 2 57 249
noncomputable def o33:=oG n19 n19 (top 7) n35 194 62
noncomputable def o34:=oF y6 [(.builtin y7),(.type y8)]
noncomputable def o35 (P:Params):Obj:=oD y3 [dE P n38 261 (vS n39 252),dE P n40 263 (vS n20 262),dE P n41 265 (vI 32 264),dE P n42 273 (vR 77),dE P n43 282 (vR 84),dE P n44 289 (vR 91),dE P n45 291 (vR 92)] 7
noncomputable def o36 (P:Params):Obj:=⟨.none,none,(.fields ⟨[vI 34 0,vI 4 0,vR 76,vI 37 0,vI 4 0,vR 83,vI 40 0,vI 4 0,vR 90]⟩),⟨[]⟩⟩
noncomputable def o37 (P:Params):Obj:=oC y1 n20 256 n20 257 n1 258 32 0 0 0 0 67 false 181 68 .none .none .none .none 259 32 n1 260
noncomputable def o38 (P:Params):Obj:=⟨(.type y2),none,.plain,⟨[(some (vR 69)),(some (vR 3)),(some (vR 66)),none,(some (vS n39 252)),none,(some (vR 0))]⟩⟩
noncomputable def o39:=oQ y0 [vS n46 269,vS n47 270] 0
noncomputable def o40:=oN n42 n48 (inClass (top 9) 0)
noncomputable def o41:=oE n42 n48 266 34 2 71 271
noncomputable def o42:=oG n42 n48 (inClass (top 9) 0) n39 252 76
noncomputable def o43:=oQ y0 [vS n46 277,vS n30 278,vS n31 279] 0
noncomputable def o44:=oN n43 n49 (inClass (top 9) 1)
noncomputable def o45:=oE n43 n49 274 37 3 78 280
noncomputable def o46:=oG n43 n49 (inClass (top 9) 1) n39 252 83
noncomputable def o47:=oQ y0 [vS n46 286] 0
noncomputable def o48:=oN n44 n50 (inClass (top 9) 2)
noncomputable def o49:=oE n44 n50 283 40 1 85 287
noncomputable def o50:=oG n44 n50 (inClass (top 9) 2) n39 252 90
noncomputable def o51:=oQ y0 [vS n47 290] 0
noncomputable def o52 (P:Params):Obj:=oD y3 [dE P n38 261 (vS n39 252),dE P n41 265 (vI 32 264),dE P n42 273 (vR 77),dE P n43 282 (vR 84),dE P n44 289 (vR 91),dE P n45 291 (vR 92),dE P n51 293 (vR 95),dE P n52 295 (vR 96),dE P n5 296 .none] 4
noncomputable def o53 (P:Params):Obj:=⟨(.type y8),none,(.cls ⟨n20,[(.type y9)],[vR 94,(.type y9)],93,n20,true,[],[],false,none,false⟩),⟨[none,none,(some (vS n20 254)),(some (vS n20 262)),(some (.builtin y10)),(some (.bool true))]⟩⟩
noncomputable def o54:=oF y11 [vS n51 292,vR 94,(.builtin y12),(.builtin y13)]
noncomputable def o55:=oF y11 [vS n52 294,vR 94,(.builtin y14),.none]
noncomputable def o56:=oF y15 [vR 94,vR 94,vR 94]
noncomputable def o57:=oF y6 [(.builtin y16),vR 94]
noncomputable def o58:=oQ y0 [vS n47 302] 0
noncomputable def o59:=oN n21 n21 (top 10)
noncomputable def o60:=oE n21 n21 299 42 1 99 303
noncomputable def o61:=oG n21 n21 (top 10) n39 252 104
noncomputable def o62:=oN n22 n22 (top 11)
noncomputable def o63 (P:Params):Obj:=oC y1 n22 306 n22 307 n1 308 44 3 0 0 3 106 true 181 107 .none .none .none (vR 108) 309 44 n1 310
noncomputable def o64:=oG n22 n22 (top 11) n39 252 109
noncomputable def o65:=oQ y0 [vS n53 315,vS n54 316,vS n55 317] 0
noncomputable def o66:=oN n23 n23 (top 12)
noncomputable def o67:=oE n23 n23 312 59 3 111 318
noncomputable def o68:=oG n23 n23 (top 12) n39 252 116
noncomputable def o69:=oN n24 n24 (top 14)
noncomputable def o70 (P:Params):Obj:=oC y1 n24 323 n24 324 n1 325 64 2 0 0 3 118 true 181 119 .none .none .none (vR 120) 326 64 n1 327
noncomputable def o71:=oG n24 n24 (top 14) n56 321 121
noncomputable def o72:=oQ y0 [vS n30 332,vS n57 333,vS n53 334,vS n31 335,vS n58 336,vS n59 337] 0
noncomputable def o73:=oN n25 n25 (top 15)
noncomputable def o74:=oE n25 n25 329 68 5 123 338
noncomputable def o75:=oG n25 n25 (top 15) n56 321 128
noncomputable def o76:=oQ y0 [vS n30 344,vS n57 345,vS n53 346,vS n31 347,vS n58 348,vS n34 349] 0
noncomputable def o77:=oN n26 n26 (top 16)
noncomputable def o78:=oE n26 n26 341 73 5 130 350
noncomputable def o79:=oG n26 n26 (top 16) n56 321 135
noncomputable def o80:=oQ y0 [vS n30 356,vS n60 357,vS n31 358] 0
noncomputable def o81:=oN n27 n27 (top 17)
noncomputable def o82:=oE n27 n27 353 78 3 137 359
noncomputable def o83:=oG n27 n27 (top 17) n56 321 142
noncomputable def o84:=oQ y0 [vS n30 365,vS n31 366,vS n61 367,vS n47 368] 0
noncomputable def o85:=oN n28 n28 (top 18)
noncomputable def o86:=oE n28 n28 362 86 3 144 369
noncomputable def o87:=oG n28 n28 (top 18) n56 321 149
noncomputable def o88 (P:Params):Obj:=oD y3 [dE P n3 165 (vS n4 372),dE P n5 166 .none,dE P n6 167 .none,dE P n7 168 (.builtin y4),dE P n8 169 .none,dE P n9 170 (vR 6),dE P n10 171 (vR 4),dE P n11 173 (vS n1 172),dE P n12 174 .none,dE P n13 193 (vR 21),dE P n14 206 (vR 28),dE P n15 215 (vR 35),dE P n16 224 (vR 42),dE P n17 234 (vR 49),dE P n18 242 (vR 56),dE P n19 251 (vR 63),dE P n20 298 (vR 94),dE P n21 305 (vR 105),dE P n22 311 (vR 110),dE P n23 320 (vR 117),dE P n24 328 (vR 122),dE P n25 340 (vR 129),dE P n26 352 (vR 136),dE P n27 361 (vR 143),dE P n28 371 (vR 150),dE P n62 391 (vR 160),dE P n63 407 (vR 173),dE P n64 423 (vR 185)] 28
noncomputable def o89:=oR [1,20,5,27,13,34,16,41,19,48,26,55,28,62,32,69,42,104,44,109,59,116,64,121,68,128,73,135,78,142,86,149,92,156,94,169,96,181]
noncomputable def o90:=oQ y0 [(.type y17)] 0
noncomputable def o91 (P:Params):Obj:=oD y3 [dE P n38 381 (vS n4 372),dE P n40 383 (vS n62 382),dE P n41 385 (vI 92 384),dE P n45 386 (vR 158)] 4
noncomputable def o92 (P:Params):Obj:=oC y1 n62 376 n62 377 n1 378 92 0 0 0 0 154 false 181 155 .none .none .none .none 379 92 n1 380
noncomputable def o93 (P:Params):Obj:=⟨(.type y2),none,.plain,⟨[(some (vR 156)),(some (vR 3)),(some (vR 153)),none,(some (vS n4 372)),none,(some (vR 0))]⟩⟩
noncomputable def o94 (P:Params):Obj:=oD y3 [dE P n38 381 (vS n4 372),dE P n41 385 (vI 92 384),dE P n45 386 (vR 158),dE P n52 388 (vR 161),dE P n5 389 .none] 3
noncomputable def o95 (P:Params):Obj:=⟨(.type y8),none,(.cls ⟨n62,[(.type y17)],[vR 160,(.type y17),(.type y18),(.type y19),(.type y9)],159,n62,true,[],[vR 173,vR 185],false,none,false⟩),⟨[(some (vR 151)),none,(some (vS n62 374)),(some (vS n62 382)),(some (.builtin y20)),(some (.bool true))]⟩⟩
noncomputable def o96:=oF y11 [vS n52 387,vR 160,(.builtin y14),.none]
noncomputable def o97:=oF y15 [vR 160,vR 160,vR 160]
noncomputable def o98:=oF y6 [(.builtin y16),vR 160]
noncomputable def o99:=oQ y0 [vR 160] 0
noncomputable def EG (P:Params):Obj:=oD y3 [dE P n38 399 (vS n4 372),dE P n40 401 (vS n63 400),dE P n41 403 (vI 94 402),dE P n45 404 (vR 171)] 4
noncomputable def EF (P:Params):Obj:=oC y1 n63 394 n63 395 n1 396 94 0 0 0 0 167 false 181 168 .none .none .none .none 397 94 n1 398
noncomputable def EE (P:Params):Obj:=⟨(.type y2),none,.plain,⟨[(some (vR 169)),(some (vR 3)),(some (vR 166)),none,(some (vS n4 372)),none,(some (vR 0))]⟩⟩
noncomputable def C7 (P:Params):Obj:=oD y3 [dE P n38 399 (vS n4 372),dE P n41 403 (vI 94 402),dE P n45 404 (vR 171),dE P n5 405 .none] 2
noncomputable def C6 (P:Params):Obj:=⟨(.type y8),none,(.cls ⟨n63,[vR 160],[vR 173,vR 160,(.type y17),(.type y18),(.type y19),(.type y9)],172,n63,true,[],[],false,none,false⟩),⟨[(some (vR 164)),none,(some (vS n63 392)),(some (vS n63 400)),(some (.builtin y20)),(some (.bool true))]⟩⟩
noncomputable def ED:=oF y15 [vR 173,vR 173,vR 173]
noncomputable def EC:=oF y6 [(.builtin y16),vR 173]
noncomputable def EB (P:Params):Obj:=oD y3 [dE P n38 415 (vS n4 372),dE P n40 417 (vS n64 416),dE P n41 419 (vI 96 418),dE P n45 420 (vR 183)] 4
noncomputable def EA (P:Params):Obj:=oC y1 n64 410 n64 411 n1 412 96 0 0 0 0 179 false 181 180 .none .none .none .none 413 96 n1 414
noncomputable def Ez (P:Params):Obj:=⟨(.type y2),none,.plain,⟨[(some (vR 181)),(some (vR 3)),(some (vR 178)),none,(some (vS n4 372)),none,(some (vR 0))]⟩⟩
noncomputable def C5 (P:Params):Obj:=oD y3 [dE P n38 415 (vS n4 372),dE P n41 419 (vI 96 418),dE P n45 420 (vR 183),dE P n5 421 .none] 2
noncomputable def C4 (P:Params):Obj:=⟨(.type y8),none,(.cls ⟨n64,[vR 160],[vR 185,vR 160,(.type y17),(.type y18),(.type y19),(.type y9)],184,n64,true,[],[],false,none,false⟩),⟨[(some (vR 176)),none,(some (vS n64 408)),(some (vS n64 416)),(some (.builtin y20)),(some (.bool true))]⟩⟩
noncomputable def Ey:=oF y15 [vR 185,vR 185,vR 185]
noncomputable def Ex:=oF y6 [(.builtin y16),vR 185]
noncomputable def MS (P:Params):Obj:=oD y3 [dE P n3 165 (vS n65 466),dE P n5 166 .none,dE P n6 167 .none,dE P n7 168 (.builtin y4),dE P n8 169 .none,dE P n9 170 (vR 6),dE P n10 171 (vR 4),dE P n11 173 (vS n1 172),dE P n12 174 .none,dE P n13 193 (vR 21),dE P n14 206 (vR 28),dE P n15 215 (vR 35),dE P n16 224 (vR 42),dE P n17 234 (vR 49),dE P n18 242 (vR 56),dE P n19 251 (vR 63),dE P n20 298 (vR 94),dE P n21 305 (vR 105),dE P n22 311 (vR 110),dE P n23 320 (vR 117),dE P n24 328 (vR 122),dE P n25 340 (vR 129),dE P n26 352 (vR 136),dE P n27 361 (vR 143),dE P n28 371 (vR 150),dE P n62 391 (vR 160),dE P n63 407 (vR 173),dE P n64 423 (vR 185),dE P n66 439 (vR 197),dE P n67 455 (vR 209),dE P n68 459 (vI 8 458),dE P n69 465 (vR 216),dE P n70 469 (vI 90 468),dE P n71 471 (vI 12 470)] 34
noncomputable def MR:=oR [1,20,5,27,13,34,16,41,19,48,26,55,28,62,32,69,42,104,44,109,59,116,64,121,68,128,73,135,78,142,86,149,92,156,94,169,96,181,98,193,100,205,104,215]
noncomputable def Ew (P:Params):Obj:=⟨(.type y8),none,(.cls ⟨n62,[(.type y17)],[vR 160,(.type y17),(.type y18),(.type y19),(.type y9)],159,n62,true,[],[vR 173,vR 185,vR 197,vR 209],false,none,false⟩),⟨[(some (vR 151)),none,(some (vS n62 374)),(some (vS n62 382)),(some (.builtin y20)),(some (.bool true))]⟩⟩
noncomputable def G7 (P:Params):Obj:=oD y3 [dE P n38 431 (vS n4 372),dE P n40 433 (vS n66 432),dE P n41 435 (vI 98 434),dE P n45 436 (vR 195)] 4
noncomputable def G6 (P:Params):Obj:=oC y1 n66 426 n66 427 n1 428 98 0 0 0 0 191 false 181 192 .none .none .none .none 429 98 n1 430
noncomputable def G5 (P:Params):Obj:=⟨(.type y2),none,.plain,⟨[(some (vR 193)),(some (vR 3)),(some (vR 190)),none,(some (vS n4 372)),none,(some (vR 0))]⟩⟩
noncomputable def Eu (P:Params):Obj:=oD y3 [dE P n38 431 (vS n4 372),dE P n41 435 (vI 98 434),dE P n45 436 (vR 195),dE P n5 437 .none] 2
noncomputable def Et (P:Params):Obj:=⟨(.type y8),none,(.cls ⟨n66,[vR 160],[vR 197,vR 160,(.type y17),(.type y18),(.type y19),(.type y9)],196,n66,true,[],[],false,none,false⟩),⟨[(some (vR 188)),none,(some (vS n66 424)),(some (vS n66 432)),(some (.builtin y20)),(some (.bool true))]⟩⟩
noncomputable def G4:=oF y15 [vR 197,vR 197,vR 197]
noncomputable def G3:=oF y6 [(.builtin y16),vR 197]
noncomputable def G2 (P:Params):Obj:=oD y3 [dE P n38 447 (vS n4 372),dE P n40 449 (vS n67 448),dE P n41 451 (vI 100 450),dE P n45 452 (vR 207)] 4
noncomputable def G1 (P:Params):Obj:=oC y1 n67 442 n67 443 n1 444 100 0 0 0 0 203 false 181 204 .none .none .none .none 445 100 n1 446
noncomputable def G0 (P:Params):Obj:=⟨(.type y2),none,.plain,⟨[(some (vR 205)),(some (vR 3)),(some (vR 202)),none,(some (vS n4 372)),none,(some (vR 0))]⟩⟩
noncomputable def Es (P:Params):Obj:=oD y3 [dE P n38 447 (vS n4 372),dE P n41 451 (vI 100 450),dE P n45 452 (vR 207),dE P n5 453 .none] 2
noncomputable def Er (P:Params):Obj:=⟨(.type y8),none,(.cls ⟨n67,[vR 160],[vR 209,vR 160,(.type y17),(.type y18),(.type y19),(.type y9)],208,n67,true,[],[],false,none,false⟩),⟨[(some (vR 200)),none,(some (vS n67 440)),(some (vS n67 448)),(some (.builtin y20)),(some (.bool true))]⟩⟩
noncomputable def GZ:=oF y15 [vR 209,vR 209,vR 209]
noncomputable def GY:=oF y6 [(.builtin y16),vR 209]
noncomputable def GX:=oN n69 n69 (top 27)
noncomputable def Ep (P:Params):Obj:=oC y1 n69 460 n69 461 n1 462 104 1 0 0 3 212 true 181 213 .none .none .none (vR 214) 463 104 n1 464
noncomputable def Eo:=oG n69 n69 (top 27) n72 456 215
noncomputable def MQ (P:Params):Obj:=oD y3 [dE P n3 165 (vS n65 466),dE P n5 166 .none,dE P n6 167 .none,dE P n7 168 (.builtin y4),dE P n8 169 .none,dE P n9 170 (vR 6),dE P n10 171 (vR 4),dE P n11 173 (vS n1 172),dE P n12 174 .none,dE P n13 193 (vR 21),dE P n14 206 (vR 28),dE P n15 215 (vR 35),dE P n16 224 (vR 42),dE P n17 234 (vR 49),dE P n18 242 (vR 56),dE P n19 251 (vR 63),dE P n20 298 (vR 94),dE P n21 305 (vR 105),dE P n22 311 (vR 110),dE P n23 320 (vR 117),dE P n24 328 (vR 122),dE P n25 340 (vR 129),dE P n26 352 (vR 136),dE P n27 361 (vR 143),dE P n28 371 (vR 150),dE P n62 391 (vR 160),dE P n63 407 (vR 173),dE P n64 423 (vR 185),dE P n66 439 (vR 197),dE P n67 455 (vR 209),dE P n68 459 (vI 8 458),dE P n69 465 (vR 216),dE P n70 469 (vI 90 468),dE P n71 471 (vI 12 470),dE P n73 645 (vR 345),dE P n74 652 (vR 356)] 36
noncomputable def MP:=oR [1,20,5,27,13,34,16,41,19,48,26,55,28,62,32,69,42,104,44,109,59,116,64,121,68,128,73,135,78,142,86,149,92,156,94,169,96,181,98,193,100,205,104,215,113,222,209,355]
noncomputable def J0 (P:Params):Obj:=oD y3 [dE P n38 479 (vS n65 466),dE P n40 481 (vS n73 480),dE P n41 483 (vI 113 482),dE P n42 491 (vR 230),dE P n75 501 (vR 237),dE P n76 509 (vR 244),dE P n77 520 (vR 251),dE P n78 528 (vR 258),dE P n79 538 (vR 265),dE P n80 547 (vR 272),dE P n81 556 (vR 279),dE P n82 565 (vR 286),dE P n83 574 (vR 293),dE P n84 582 (vR 300),dE P n85 590 (vR 307),dE P n86 598 (vR 314),dE P n87 606 (vR 321),dE P n88 614 (vR 328),dE P n89 622 (vR 335),dE P n90 630 (vR 342),dE P n45 638 (vR 343)] 21
noncomputable def JZ (P:Params):Obj:=⟨.none,none,(.fields ⟨[vI 115 0,vI 4 0,vR 229,vI 126 0,vI 4 0,vR 236,vI 137 0,vI 4 0,vR 243,vI 141 0,vI 4 0,vR 250,vI 153 0,vI 4 0,vR 257,vI 156 0,vI 4 0,vR 264,vI 159 0,vI 4 0,vR 271,vI 167 0,vI 4 0,vR 278,vI 175 0,vI 4 0,vR 285,vI 182 0,vI 4 0,vR 292,vI 185 0,vI 4 0,vR 299,vI 188 0,vI 4 0,vR 306,vI 192 0,vI 4 0,vR 313,vI 196 0,vI 4 0,vR 320,vI 199 0,vI 4 0,vR 327,vI 202 0,vI 4 0,vR 334,vI 206 0,vI 4 0,vR 341]⟩),⟨[]⟩⟩
noncomputable def JY (P:Params):Obj:=oC y1 n73 474 n73 475 n1 476 113 0 0 0 0 220 false 181 221 .none .none .none .none 477 113 n1 478
noncomputable def JX (P:Params):Obj:=⟨(.type y2),none,.plain,⟨[(some (vR 222)),(some (vR 3)),(some (vR 219)),none,(some (vS n65 466)),none,(some (vR 0))]⟩⟩
noncomputable def JW:=oQ y0 [vS n46 487,vS n91 488] 0
noncomputable def JV:=oN n42 n92 (inClass (top 31) 0)
noncomputable def GW:=oE n42 n92 484 115 2 224 489
noncomputable def GV:=oG n42 n92 (inClass (top 31) 0) n65 466 229
noncomputable def JU:=oQ y0 [vS n46 495,vS n36 496,vS n91 497,vS n31 498] 0
noncomputable def JT:=oN n75 n93 (inClass (top 31) 1)
noncomputable def GU:=oE n75 n93 492 126 3 231 499
noncomputable def GS:=oG n75 n93 (inClass (top 31) 1) n65 466 236
noncomputable def JS:=oQ y0 [vS n46 505,vS n31 506] 0
noncomputable def JR:=oN n76 n94 (inClass (top 31) 2)
noncomputable def GR:=oE n76 n94 502 137 2 238 507
noncomputable def GQ:=oG n76 n94 (inClass (top 31) 2) n65 466 243
noncomputable def JQ:=oQ y0 [vS n46 513,vS n36 514,vS n53 515,vS n91 516,vS n31 517] 0
noncomputable def JP:=oN n77 n95 (inClass (top 31) 3)
noncomputable def GP:=oE n77 n95 510 141 4 245 518
noncomputable def GO:=oG n77 n95 (inClass (top 31) 3) n65 466 250
noncomputable def JO:=oQ y0 [vS n46 524,vS n31 525] 0
noncomputable def JN:=oN n78 n96 (inClass (top 31) 4)
noncomputable def GN:=oE n78 n96 521 153 2 252 526
noncomputable def GL:=oG n78 n96 (inClass (top 31) 4) n65 466 257
noncomputable def JM:=oQ y0 [vS n46 532,vS n31 533,vS n36 534,vS n53 535] 0
noncomputable def JL:=oN n79 n97 (inClass (top 31) 5)
noncomputable def GK:=oE n79 n97 529 156 4 259 536
noncomputable def GJ:=oG n79 n97 (inClass (top 31) 5) n65 466 264
noncomputable def JK:=oQ y0 [vS n46 542,vS n31 543,vS n98 544] 0
noncomputable def JJ:=oN n80 n99 (inClass (top 31) 6)
noncomputable def GI:=oE n80 n99 539 159 3 266 545
noncomputable def GH:=oG n80 n99 (inClass (top 31) 6) n65 466 271
noncomputable def JI:=oQ y0 [vS n46 551,vS n31 552,vS n98 553] 0
noncomputable def JH:=oN n81 Kf (inClass (top 31) 7)
noncomputable def GG:=oE n81 Kf 548 167 3 273 554
noncomputable def GF:=oG n81 Kf (inClass (top 31) 7) n65 466 278
noncomputable def JG:=oQ y0 [vS n46 560,vS n31 561,vS LU 562] 0
noncomputable def JF:=oN n82 Ke (inClass (top 31) 8)
noncomputable def GD:=oE n82 Ke 557 175 3 280 563
noncomputable def GC:=oG n82 Ke (inClass (top 31) 8) n65 466 285
noncomputable def JE:=oQ y0 [vS n46 569,vS n31 570,vS LS 571] 0
noncomputable def JD:=oN n83 Kc (inClass (top 31) 9)
noncomputable def GB:=oE n83 Kc 566 182 3 287 572
noncomputable def GA:=oG n83 Kc (inClass (top 31) 9) n65 466 292
noncomputable def JC:=oQ y0 [vS n46 578,vS n31 579] 0
noncomputable def JB:=oN n84 Kb (inClass (top 31) 10)
noncomputable def Gz:=oE n84 Kb 575 185 2 294 580
noncomputable def Gy:=oG n84 Kb (inClass (top 31) 10) n65 466 299
noncomputable def JA:=oQ y0 [vS n46 586,vS n31 587] 0
noncomputable def Jz:=oN n85 Ka (inClass (top 31) 11)
noncomputable def Gx:=oE n85 Ka 583 188 2 301 588
noncomputable def Gw:=oG n85 Ka (inClass (top 31) 11) n65 466 306
noncomputable def Jy:=oQ y0 [vS n46 594,vS n31 595] 0
noncomputable def Jx:=oN n86 J9 (inClass (top 31) 12)
noncomputable def Gv:=oE n86 J9 591 192 2 308 596
noncomputable def Gu:=oG n86 J9 (inClass (top 31) 12) n65 466 313
noncomputable def Jw:=oQ y0 [vS n46 602,vS n31 603] 0
noncomputable def Jv:=oN n87 J8 (inClass (top 31) 13)
noncomputable def Gs:=oE n87 J8 599 196 2 315 604
noncomputable def Gr:=oG n87 J8 (inClass (top 31) 13) n65 466 320
noncomputable def Ju:=oQ y0 [vS n46 610,vS n31 611] 0
noncomputable def Jt:=oN n88 J7 (inClass (top 31) 14)
noncomputable def Gq:=oE n88 J7 607 199 2 322 612
noncomputable def Gp:=oG n88 J7 (inClass (top 31) 14) n65 466 327
noncomputable def Js:=oQ y0 [vS n46 618,vS n31 619] 0
noncomputable def Jr:=oN n89 J6 (inClass (top 31) 15)
noncomputable def Gn:=oE n89 J6 615 202 2 329 620
noncomputable def Gm:=oG n89 J6 (inClass (top 31) 15) n65 466 334
noncomputable def Jq:=oQ y0 [vS n46 626,vS n31 627] 0
noncomputable def Jp:=oN n90 J5 (inClass (top 31) 16)
noncomputable def Gk:=oE n90 J5 623 206 2 336 628
noncomputable def Gj:=oG n90 J5 (inClass (top 31) 16) n65 466 341
noncomputable def Gi:=oQ y0 [vS Nn 631,vS Nm 632,vS Nl 633,vS Nk 634,vS Nj 635,vS LS 636,vS LU 637] 0
noncomputable def Gh (P:Params):Obj:=oD y3 [dE P n38 479 (vS n65 466),dE P n41 483 (vI 113 482),dE P n42 491 (vR 230),dE P n75 501 (vR 237),dE P n76 509 (vR 244),dE P n77 520 (vR 251),dE P n78 528 (vR 258),dE P n79 538 (vR 265),dE P n80 547 (vR 272),dE P n81 556 (vR 279),dE P n82 565 (vR 286),dE P n83 574 (vR 293),dE P n84 582 (vR 300),dE P n85 590 (vR 307),dE P n86 598 (vR 314),dE P n87 606 (vR 321),dE P n88 614 (vR 328),dE P n89 622 (vR 335),dE P n90 630 (vR 342),dE P n45 638 (vR 343),dE P n51 640 (vR 346),dE P n52 642 (vR 347),dE P n5 643 .none] 4
noncomputable def Gg (P:Params):Obj:=⟨(.type y8),none,(.cls ⟨n73,[(.type y9)],[vR 345,(.type y9)],344,n73,true,[],[],false,none,false⟩),⟨[none,none,(some (vS n73 472)),(some (vS n73 480)),(some (.builtin y10)),(some (.bool true))]⟩⟩
noncomputable def Gf:=oF y11 [vS n51 639,vR 345,(.builtin y12),(.builtin y13)]
noncomputable def Ge:=oF y11 [vS n52 641,vR 345,(.builtin y14),.none]
noncomputable def Jo:=oF y15 [vR 345,vR 345,vR 345]
noncomputable def Jn:=oF y6 [(.builtin y16),vR 345]
noncomputable def Jm:=oQ y0 [vS n91 649] 0
noncomputable def Jl:=oN n74 n74 (top 32)
noncomputable def Gd:=oE n74 n74 646 209 1 350 650
noncomputable def Gc:=oG n74 n74 (top 32) n65 466 355
noncomputable def Jk (P:Params):Obj:=oD y3 [dE P n3 165 (vS mh 661),dE P n5 166 .none,dE P n6 167 .none,dE P n7 168 (.builtin y4),dE P n8 169 .none,dE P n9 170 (vR 6),dE P n10 171 (vR 4),dE P n11 173 (vS n1 172),dE P n12 174 .none,dE P n13 193 (vR 21),dE P n14 206 (vR 28),dE P n15 215 (vR 35),dE P n16 224 (vR 42),dE P n17 234 (vR 49),dE P n18 242 (vR 56),dE P n19 251 (vR 63),dE P n20 298 (vR 94),dE P n21 305 (vR 105),dE P n22 311 (vR 110),dE P n23 320 (vR 117),dE P n24 328 (vR 122),dE P n25 340 (vR 129),dE P n26 352 (vR 136),dE P n27 361 (vR 143),dE P n28 371 (vR 150),dE P n62 391 (vR 160),dE P n63 407 (vR 173),dE P n64 423 (vR 185),dE P n66 439 (vR 197),dE P n67 455 (vR 209),dE P n68 459 (vI 8 458),dE P n69 465 (vR 216),dE P n70 469 (vI 90 468),dE P n71 471 (vI 12 470),dE P n73 645 (vR 345),dE P n74 652 (vR 356),dE P BO 660 (vR 363),dE P BN 670 (vR 370),dE P BM 679 (vR 377),dE P BL 685 (vR 382),dE P BK 700 (vR 389),dE P BJ 707 (vR 396),dE P BI 716 (vR 403),dE P BH 727 (vR 410),dE P BG 737 (vR 417),dE P BF 756 (vR 424),dE P BE 771 (vR 431),dE P BD 784 (vR 438),dE P BC 790 (vR 443),dE P BB 802 (vR 450),dE P BA 815 (vR 457),dE P Bz 828 (vR 464),dE P By 834 (vR 469),dE P Bw 840 (vR 474),dE P Bv 846 (vR 479)] 55
noncomputable def LJ:=oR [1,20,5,27,13,34,16,41,19,48,26,55,28,62,32,69,42,104,44,109,59,116,64,121,68,128,73,135,78,142,86,149,92,156,94,169,96,181,98,193,100,205,104,215,113,222,209,355,212,362,216,369,220,376,223,381,227,388,236,395,238,402,245,409,253,416,258,423,277,430,301,437,318,442,325,449,330,456,344,463,353,468,366,473,381,478]
noncomputable def LI:=oQ y0 [vS n53 656,vS n37 657] 0
noncomputable def LH:=oN BO BO (top 33)
noncomputable def Jj:=oE BO BO 653 212 2 357 658
noncomputable def Ji:=oG BO BO (top 33) n65 466 362
noncomputable def LG:=oQ y0 [vS LR 666,vS J4 667] 0
noncomputable def LF:=oN BN BN (top 35)
noncomputable def Jh:=oE BN BN 663 216 2 364 668
noncomputable def Jg:=oG BN BN (top 35) mh 661 369
noncomputable def LD:=oQ y0 [vS Hc 674,vS Hb 675,vS LQ 676] 0
noncomputable def LC:=oN BM BM (top 36)
noncomputable def Jf:=oE BM BM 671 220 2 371 677
noncomputable def Je:=oG BM BM (top 36) mh 661 376
noncomputable def LB:=oN BL BL (top 37)
noncomputable def Jd (P:Params):Obj:=oC y1 BL 680 BL 681 n1 682 223 2 0 0 3 378 true 181 379 .none .none .none (vR 380) 683 223 n1 684
noncomputable def Jc:=oG BL BL (top 37) mh 661 381
noncomputable def LA:=oQ y0 [vS LR 689,vS Ni 690,vS Nh 691,vS De 692,vS Ha 693,vS J3 694,vS Ng 695,vS Nc 696,vS Nb 697] 0
noncomputable def Lz:=oN BK BK (top 38)
noncomputable def Jb:=oE BK BK 686 227 2 383 698
noncomputable def Ja:=oG BK BK (top 38) mh 661 388
noncomputable def Ly:=oQ y0 [vS LP 704] 0
noncomputable def Lx:=oN BJ BJ (top 39)
noncomputable def I9:=oE BJ BJ 701 236 1 390 705
noncomputable def I0:=oG BJ BJ (top 39) mh 661 395
noncomputable def Lw:=oQ y0 [vS LP 711,vS Na 712,vS J4 713] 0
noncomputable def Lv:=oN BI BI (top 40)
noncomputable def IZ:=oE BI BI 708 238 2 397 714
noncomputable def IY:=oG BI BI (top 40) mh 661 402
noncomputable def Lu:=oQ y0 [vS C9 720,vS EL 721,vS M9 722,vS M8 723,vS De 724] 0
noncomputable def Ls:=oN BH BH (top 41)
noncomputable def IX:=oE BH BH 717 245 2 404 725
noncomputable def IW:=oG BH BH (top 41) mh 661 409
noncomputable def Lr:=oQ y0 [vS Hc 731,vS Hb 732,vS M7 733,vS Ha 734] 0
noncomputable def Lq:=oN BG BG (top 42)
noncomputable def IV:=oE BG BG 728 253 3 411 735
noncomputable def IU:=oG BG BG (top 42) mh 661 416
noncomputable def Lp:=oQ y0 [vS M6 741,vS C9 742,vS EK 743,vS G9 744,vS LO 745,vS Hc 746,vS Hb 747,vS Ha 748,vS M5 749,vS LL 750,vS J3 751,vS M4 752,vS J4 753] 0
noncomputable def Lo:=oN BF BF (top 43)
noncomputable def IT:=oE BF BF 738 258 7 418 754
noncomputable def IS:=oG BF BF (top 43) mh 661 423
noncomputable def Ln:=oQ y0 [vS C9 760,vS EK 761,vS G9 762,vS M3 763,vS EL 764,vS LK 765,vS De 766,vS M2 767,vS J3 768] 0
noncomputable def Lm:=oN BE BE (top 44)
noncomputable def IQ:=oE BE BE 757 277 5 425 769
noncomputable def IP:=oG BE BE (top 44) mh 661 430
noncomputable def Ll:=oQ y0 [vS Hc 775,vS Hb 776,vS LO 777,vS Ha 778,vS LK 779,vS LQ 780,vS M0 781] 0
noncomputable def Lk:=oN BD BD (top 45)
noncomputable def IM:=oE BD BD 772 301 3 432 782
noncomputable def IL:=oG BD BD (top 45) mh 661 437
noncomputable def Lj:=oN BC BC (top 46)
noncomputable def IK (P:Params):Obj:=oC y1 BC 785 BC 786 n1 787 318 4 0 0 3 439 true 181 440 .none .none .none (vR 441) 788 318 n1 789
noncomputable def IJ:=oG BC BC (top 46) mh 661 442
noncomputable def Li:=oQ y0 [vS C9 794,vS EK 795,vS G9 796,vS MZ 797,vS EL 798,vS De 799] 0
noncomputable def Lh:=oN BB BB (top 47)
noncomputable def II:=oE BB BB 791 325 5 444 800
noncomputable def IH:=oG BB BB (top 47) mh 661 449
noncomputable def Lg:=oQ y0 [vS C9 806,vS EK 807,vS MY 808,vS De 809,vS EL 810,vS LL 811,vS MX 812] 0
noncomputable def Le:=oN BA BA (top 48)
noncomputable def IG:=oE BA BA 803 330 5 451 813
noncomputable def IF:=oG BA BA (top 48) mh 661 456
noncomputable def Ld:=oQ y0 [vS C9 819,vS EK 820,vS G9 821,vS MW 822,vS MV 823,vS EL 824,vS De 825] 0
noncomputable def Lc:=oN Bz Bz (top 49)
noncomputable def IE:=oE Bz Bz 816 344 6 458 826
noncomputable def ID:=oG Bz Bz (top 49) mh 661 463
noncomputable def Lb:=oN By By (top 50)
noncomputable def IC (P:Params):Obj:=oC y1 By 829 By 830 n1 831 353 4 0 0 3 465 true 181 466 .none .none .none (vR 467) 832 353 n1 833
noncomputable def IB:=oG By By (top 50) mh 661 468
noncomputable def La:=oN Bw Bw (top 51)
noncomputable def IA (P:Params):Obj:=oC y1 Bw 835 Bw 836 n1 837 366 5 0 0 3 470 true 181 471 .none .none .none (vR 472) 838 366 n1 839
noncomputable def Iz:=oG Bw Bw (top 51) mh 661 473
noncomputable def K9:=oN Bv Bv (top 52)
noncomputable def Iy (P:Params):Obj:=oC y1 Bv 841 Bv 842 n1 843 381 1 0 0 3 475 true 181 476 .none .none .none (vR 477) 844 381 n1 845
noncomputable def Iw:=oG Bv Bv (top 52) mh 661 478
noncomputable def lf0:Life:=⟨[],[],[],0,[],[],false,⟨[]⟩,[],0,false,false,false,(.ofNat 0),[(.ofNat 2000),(.ofNat 10),(.ofNat 10)],false,0,true,[],[],0,false⟩
noncomputable def hcd:Value:=(vR 13)
noncomputable def hq:Pos:=⟨0,0,0,0⟩
noncomputable def hE:Env:={ scope:=hp.main.scope,locals:=mainNs,globals:=mainNs,cells:=[],code:=hcd,frame:=some 14 }
noncomputable def hC:Code:=.body (behindTheImports hp) hE
noncomputable def hB:List Frame:=[topFrame hq]
noncomputable def hAn:Option Value:=(some (vR 6))
noncomputable def hA (P:Params):Heap:=⟨⟨(boot_o_0 P::boot_o_1 P::boot_o_2 P::boot_o_3 P::boot_o_4 P::boot_o_5 P::boot_o_6 P::boot_o_7 P::boot_o_8 P::boot_o_9 P::boot_o_10 P::o0 P::o1 P::o2 P::o3 P::[])⟩,lf0⟩
noncomputable def tr1:=(tN boot_o_0 (tN boot_o_1 (tN boot_o_3 (tL boot_o_7) (tL o0)) (tN boot_o_5 (tL boot_o_9) (tL o2))) (tN boot_o_2 (tN boot_o_4 (tL boot_o_8) (tL o1)) (tN boot_o_6 (tL boot_o_10) (tL o3))))
noncomputable def S1 (w:World) (os:OsState):SharedT:=⟨tr1 w.params,15,lf0,⟨[]⟩,⟨0,0,0,0⟩,187,os⟩
noncomputable def tr2:=(tN boot_o_0 (tN boot_o_1 (tN o4 (tN boot_o_7 (tN o0 (tN o14 (tN o33 (tL o73) tZ) (tL o54)) (tN o23 (tN o1 (tL o83) tZ) (tL o0))) (tN o1 (tN o0 (tN o0 (tL o78) tZ) (tL o59)) (tN o28 (tL o47) (tL o1)))) (tN o0 (tN o7 (tN o17 (tN o0 (tL o1) tZ) (tL o0)) (tN o1 (tN o45 (tL o0) tZ) (tL o66))) (tN o12 (tN o0 (tN o40 (tL o80) tZ) (tL o1)) (tN o30 (tL o50) (tL o0))))) (tN boot_o_5 (tN boot_o_9 (tN o6 (tN o15 (tN o34 (tL o75) tZ) (tL o56)) (tN o25 (tN o0 (tL o1) tZ) (tL o65))) (tN o0 (tN o20 (tN o39 (tL o0) tZ) (tL o61)) (tN o0 (tL o48) (tL o70)))) (tN o2 (tN o9 (tN o1 (tN o37 (tL o0) tZ) (tL o58)) (tN o0 (tN o0 (tL o86) tZ) (tL o68))) (tN o0 (tN o22 (tN o42 (tL o81) tZ) (tL o63)) (tN o31 (tL o52) (tL o72)))))) (tN boot_o_2 (tN boot_o_4 (tN boot_o_8 (tN o1 (tN o0 (tN o0 (tL o74) tZ) (tL o55)) (tN o24 (tN o43 (tL o0) tZ) (tL o1))) (tN o10 (tN o19 (tN o1 (tL o79) tZ) (tL o60)) (tN o29 (tL o0) (tL o69)))) (tN o5 (tN o8 (tN o0 (tN o36 (tL o76) tZ) (tL o1)) (tN o26 (tN o46 (tL o85) tZ) (tL o67))) (tN o13 (tN o1 (tN o41 (tL o0) tZ) (tL o62)) (tN o0 (tL o51) (tL o1))))) (tN boot_o_6 (tN boot_o_10 (tN o0 (tN o16 (tN o35 (tL o0) tZ) (tL o57)) (tN o0 (tN o44 (tL o84) tZ) (tL o0))) (tN o11 (tN o21 (tN o0 (tL o1) tZ) (tL o0)) (tN o1 (tL o49) (tL o71)))) (tN o3 (tN o0 (tN o18 (tN o38 (tL o77) tZ) (tL o0)) (tN o27 (tN o1 (tL o87) tZ) (tL o0))) (tN o1 (tN o0 (tN o0 (tL o82) tZ) (tL o64)) (tN o32 (tL o53) (tL o0)))))))
noncomputable def S2 (w:World) (os:OsState):SharedT:=⟨tr2 w.params,151,lf0,⟨[]⟩,⟨0,0,0,0⟩,374,os⟩
noncomputable def tr3:=(tN boot_o_0 (tN boot_o_1 (tN o88 (tN boot_o_7 (tN o0 (tN o14 (tN o33 (tL o73) tZ) (tN o54 (tL o94) tZ)) (tN o23 (tN o1 (tL o83) tZ) (tN o0 (tL EC) tZ))) (tN o1 (tN o0 (tN o0 (tL o78) tZ) (tN o59 (tL o0) tZ)) (tN o28 (tN o47 (tL o90) tZ) (tN o1 (tL o0) tZ)))) (tN o0 (tN o7 (tN o17 (tN o0 (tL o1) tZ) (tN o0 (tL o98) tZ)) (tN o1 (tN o45 (tL o0) tZ) (tN o66 (tL o0) tZ))) (tN o12 (tN o0 (tN o40 (tL o80) tZ) (tN o1 (tL o0) tZ)) (tN o30 (tN o50 (tL o1) tZ) (tN o0 (tL Ex) tZ))))) (tN boot_o_5 (tN boot_o_9 (tN o6 (tN o15 (tN o34 (tL o75) tZ) (tN o56 (tL o96) tZ)) (tN o25 (tN o0 (tL o1) tZ) (tN o65 (tL o34) tZ))) (tN o0 (tN o20 (tN o39 (tL o0) tZ) (tN o61 (tL EF) tZ)) (tN o0 (tN o48 (tL o91) tZ) (tN o70 (tL C4) tZ)))) (tN o2 (tN o9 (tN o1 (tN o37 (tL o0) tZ) (tN o58 (tL o34) tZ)) (tN o0 (tN o0 (tL o86) tZ) (tN o68 (tL EA) tZ))) (tN o0 (tN o22 (tN o42 (tL o81) tZ) (tN o63 (tL C6) tZ)) (tN o31 (tN o52 (tL o93) tZ) (tL o72)))))) (tN boot_o_2 (tN boot_o_4 (tN boot_o_8 (tN o1 (tN o0 (tN o0 (tL o74) tZ) (tN o55 (tL o95) tZ)) (tN o24 (tN o43 (tL o0) tZ) (tN o1 (tL o99) tZ))) (tN o10 (tN o19 (tN o1 (tL o79) tZ) (tN o60 (tL o1) tZ)) (tN o29 (tN o0 (tL o34) tZ) (tN o69 (tL C5) tZ)))) (tN o89 (tN o8 (tN o0 (tN o36 (tL o76) tZ) (tN o1 (tL o99) tZ)) (tN o26 (tN o46 (tL o85) tZ) (tN o67 (tL o1) tZ))) (tN o13 (tN o1 (tN o41 (tL o0) tZ) (tN o62 (tL C7) tZ)) (tN o0 (tN o51 (tL o92) tZ) (tL o1))))) (tN boot_o_6 (tN boot_o_10 (tN o0 (tN o16 (tN o35 (tL o0) tZ) (tN o57 (tL o97) tZ)) (tN o0 (tN o44 (tL o84) tZ) (tN o0 (tL EB) tZ))) (tN o11 (tN o21 (tN o0 (tL o1) tZ) (tN o0 (tL EE) tZ)) (tN o1 (tN o49 (tL o0) tZ) (tN o71 (tL Ey) tZ)))) (tN o3 (tN o0 (tN o18 (tN o38 (tL o77) tZ) (tN o0 (tL EG) tZ)) (tN o27 (tN o1 (tL o87) tZ) (tN o0 (tL Ez) tZ))) (tN o1 (tN o0 (tN o0 (tL o82) tZ) (tN o64 (tL ED) tZ)) (tN o32 (tN o53 (tL o0) tZ) (tL o0)))))))
noncomputable def S3 (w:World) (os:OsState):SharedT:=⟨tr3 w.params,188,lf0,⟨[]⟩,⟨0,0,0,0⟩,424,os⟩
noncomputable def tr4:=(tN boot_o_0 (tN boot_o_1 (tN MS (tN boot_o_7 (tN o0 (tN o14 (tN o33 (tL o73) (tL o0)) (tN o54 (tL o94) tZ)) (tN o23 (tN o1 (tL o83) (tL o0)) (tN o0 (tL EC) tZ))) (tN o1 (tN o0 (tN o0 (tL o78) (tL G3)) (tN o59 (tL o0) tZ)) (tN o28 (tN o47 (tL o90) (tL Ep)) (tN o1 (tL o0) tZ)))) (tN o0 (tN o7 (tN o17 (tN o0 (tL o1) (tL o0)) (tN o0 (tL o98) tZ)) (tN o1 (tN o45 (tL o0) (tL GY)) (tN o66 (tL o0) tZ))) (tN o12 (tN o0 (tN o40 (tL o80) (tL o0)) (tN o1 (tL o0) tZ)) (tN o30 (tN o50 (tL o1) tZ) (tN o0 (tL Ex) tZ))))) (tN boot_o_5 (tN boot_o_9 (tN o6 (tN o15 (tN o34 (tL o75) (tL G6)) (tN o56 (tL o96) tZ)) (tN o25 (tN o0 (tL o1) (tL Er)) (tN o65 (tL o34) tZ))) (tN o0 (tN o20 (tN o39 (tL o0) (tL o34)) (tN o61 (tL EF) tZ)) (tN o0 (tN o48 (tL o91) tZ) (tN o70 (tL C4) tZ)))) (tN o2 (tN o9 (tN o1 (tN o37 (tL o0) (tL Et)) (tN o58 (tL o34) tZ)) (tN o0 (tN o0 (tL o86) (tL o1)) (tN o68 (tL EA) tZ))) (tN o0 (tN o22 (tN o42 (tL o81) (tL G1)) (tN o63 (tL C6) tZ)) (tN o31 (tN o52 (tL o93) tZ) (tN o72 (tL o34) tZ)))))) (tN boot_o_2 (tN boot_o_4 (tN boot_o_8 (tN o1 (tN o0 (tN o0 (tL o74) (tL o1)) (tN o55 (tL Ew) tZ)) (tN o24 (tN o43 (tL o0) (tL Es)) (tN o1 (tL o99) tZ))) (tN o10 (tN o19 (tN o1 (tL o79) (tL o99)) (tN o60 (tL o1) tZ)) (tN o29 (tN o0 (tL o34) (tL Eo)) (tN o69 (tL C5) tZ)))) (tN MR (tN o8 (tN o0 (tN o36 (tL o76) (tL Eu)) (tN o1 (tL o99) tZ)) (tN o26 (tN o46 (tL o85) (tL o0)) (tN o67 (tL o1) tZ))) (tN o13 (tN o1 (tN o41 (tL o0) (tL o1)) (tN o62 (tL C7) tZ)) (tN o0 (tN o51 (tL o92) tZ) (tN o1 (tL o99) tZ))))) (tN boot_o_6 (tN boot_o_10 (tN o0 (tN o16 (tN o35 (tL o0) (tL G5)) (tN o57 (tL o97) tZ)) (tN o0 (tN o44 (tL o84) (tL GZ)) (tN o0 (tL EB) tZ))) (tN o11 (tN o21 (tN o0 (tL o1) (tL G2)) (tN o0 (tL EE) tZ)) (tN o1 (tN o49 (tL o0) tZ) (tN o71 (tL Ey) tZ)))) (tN o3 (tN o0 (tN o18 (tN o38 (tL o77) (tL G4)) (tN o0 (tL EG) tZ)) (tN o27 (tN o1 (tL o87) (tL GX)) (tN o0 (tL Ez) tZ))) (tN o1 (tN o0 (tN o0 (tL o82) (tL G0)) (tN o64 (tL ED) tZ)) (tN o32 (tN o53 (tL o0) tZ) (tN o0 (tL G7) tZ)))))))
noncomputable def S4 (w:World) (os:OsState):SharedT:=⟨tr4 w.params,217,lf0,⟨[]⟩,⟨0,0,0,0⟩,472,os⟩
noncomputable def tr5:=(tN boot_o_0 (tN boot_o_1 (tN MQ (tN boot_o_7 (tN o0 (tN o14 (tN o33 (tN o73 (tL o0) tZ) (tN o0 (tL Jv) tZ)) (tN o54 (tN o94 (tL o0) tZ) (tN JX (tL o1) tZ))) (tN o23 (tN o1 (tN o83 (tL GI) tZ) (tN o0 (tL Gm) tZ)) (tN o0 (tN EC (tL JA) tZ) (tL o1)))) (tN o1 (tN o0 (tN o0 (tN o78 (tL JL) tZ) (tN G3 (tL Gq) tZ)) (tN o59 (tN o0 (tL o1) tZ) (tL o0))) (tN o28 (tN o47 (tN o90 (tL GF) tZ) (tN Ep (tL Gi) tZ)) (tN o1 (tN o0 (tL o0) tZ) (tL JQ))))) (tN o0 (tN o7 (tN o17 (tN o0 (tN o1 (tL o0) tZ) (tN o0 (tL o1) tZ)) (tN o0 (tN o98 (tL JD) tZ) (tN o0 (tL Gd) tZ))) (tN o1 (tN o45 (tN o0 (tL JI) tZ) (tN GY (tL o0) tZ)) (tN o66 (tN o0 (tL Gw) tZ) (tL GR)))) (tN o12 (tN o0 (tN o40 (tN o80 (tL o1) tZ) (tN o0 (tL Js) tZ)) (tN o1 (tN o0 (tL Gz) tZ) (tL JT))) (tN o30 (tN o50 (tN o1 (tL o0) tZ) (tN J0 (tL Ge) tZ)) (tN o0 (tN Ex (tL o0) tZ) (tL GO)))))) (tN boot_o_5 (tN boot_o_9 (tN o6 (tN o15 (tN o34 (tN o75 (tL GN) tZ) (tN G6 (tL Gr) tZ)) (tN o56 (tN o96 (tL JE) tZ) (tN o1 (tL o0) tZ))) (tN o25 (tN o0 (tN o1 (tL o0) tZ) (tN Er (tL o1) tZ)) (tN o65 (tN o34 (tL Jz) tZ) (tL o0)))) (tN o0 (tN o20 (tN o39 (tN o0 (tL GJ) tZ) (tN o34 (tL o0) tZ)) (tN o61 (tN EF (tL o0) tZ) (tL JU))) (tN o0 (tN o48 (tN o91 (tL o1) tZ) (tN o0 (tL Gg) tZ)) (tN o70 (tN C4 (tL Gv) tZ) (tL JP))))) (tN o2 (tN o9 (tN o1 (tN o37 (tN o0 (tL JM) tZ) (tN Et (tL o0) tZ)) (tN o58 (tN o34 (tL GA) tZ) (tL GW))) (tN o0 (tN o0 (tN o86 (tL JH) tZ) (tN o1 (tL Gk) tZ)) (tN o68 (tN EA (tL o1) tZ) (tL o0)))) (tN o0 (tN o22 (tN o42 (tN o81 (tL o0) tZ) (tN G1 (tL Jr) tZ)) (tN o63 (tN C6 (tL o0) tZ) (tL GS))) (tN o31 (tN o52 (tN o93 (tL GD) tZ) (tN JZ (tL Jn) tZ)) (tN o72 (tN o34 (tL Jw) tZ) (tL o1))))))) (tN boot_o_2 (tN boot_o_4 (tN boot_o_8 (tN o1 (tN o0 (tN o0 (tN o74 (tL JN) tZ) (tN o1 (tL Gs) tZ)) (tN o55 (tN Ew (tL o1) tZ) (tN o0 (tL Jm) tZ))) (tN o24 (tN o43 (tN o0 (tL GH) tZ) (tN Es (tL o0) tZ)) (tN o1 (tN o99 (tL o0) tZ) (tL JS)))) (tN o10 (tN o19 (tN o1 (tN o79 (tL GK) tZ) (tN o99 (tL Gp) tZ)) (tN o60 (tN o1 (tL JC) tZ) (tL o1))) (tN o29 (tN o0 (tN o34 (tL o0) tZ) (tN Eo (tL Gh) tZ)) (tN o69 (tN C5 (tL Jx) tZ) (tL o0))))) (tN MP (tN o8 (tN o0 (tN o36 (tN o76 (tL o1) tZ) (tN Eu (tL Ju) tZ)) (tN o1 (tN o99 (tL GB) tZ) (tN JV (tL Gc) tZ))) (tN o26 (tN o46 (tN o85 (tL o0) tZ) (tN o0 (tL Jp) tZ)) (tN o67 (tN o1 (tL o0) tZ) (tL GQ)))) (tN o13 (tN o1 (tN o41 (tN o0 (tL JK) tZ) (tN o1 (tL o0) tZ)) (tN o62 (tN C7 (tL Gy) tZ) (tL GU))) (tN o0 (tN o51 (tN o92 (tL JF) tZ) (tN o0 (tL Jo) tZ)) (tN o1 (tN o99 (tL o1) tZ) (tL o0)))))) (tN boot_o_6 (tN boot_o_10 (tN o0 (tN o16 (tN o35 (tN o0 (tL GL) tZ) (tN G5 (tL o0) tZ)) (tN o57 (tN o97 (tL o0) tZ) (tN JW (tL Jl) tZ))) (tN o0 (tN o44 (tN o84 (tL o1) tZ) (tN GZ (tL Jq) tZ)) (tN o0 (tN EB (tL Gx) tZ) (tL JR)))) (tN o11 (tN o21 (tN o0 (tN o1 (tL o0) tZ) (tN G2 (tL o1) tZ)) (tN o0 (tN EE (tL JB) tZ) (tL o0))) (tN o1 (tN o49 (tN o0 (tL JG) tZ) (tN o34 (tL Gf) tZ)) (tN o71 (tN Ey (tL Gu) tZ) (tL GP))))) (tN o3 (tN o0 (tN o18 (tN o38 (tN o77 (tL o0) tZ) (tN G4 (tL Jt) tZ)) (tN o0 (tN EG (tL o0) tZ) (tL GV))) (tN o27 (tN o1 (tN o87 (tL GG) tZ) (tN GX (tL Gj) tZ)) (tN o0 (tN Ez (tL Jy) tZ) (tL o1)))) (tN o1 (tN o0 (tN o0 (tN o82 (tL JJ) tZ) (tN G0 (tL Gn) tZ)) (tN o64 (tN ED (tL o1) tZ) (tL o0))) (tN o32 (tN o53 (tN o0 (tL GC) tZ) (tN JY (tL o0) tZ)) (tN o0 (tN G7 (tL o0) tZ) (tL JO))))))))
noncomputable def S5 (w:World) (os:OsState):SharedT:=⟨tr5 w.params,357,lf0,⟨[]⟩,⟨0,0,0,0⟩,653,os⟩
noncomputable def tr6:=(tN boot_o_0 (tN boot_o_1 (tN Jk (tN boot_o_7 (tN o0 (tN o14 (tN o33 (tN o73 (tL o0) (tL o0)) (tN o0 (tL Jv) (tL o0))) (tN o54 (tN o94 (tL o0) (tL Lq)) (tN JX (tL o1) (tL Iw)))) (tN o23 (tN o1 (tN o83 (tL GI) (tL Lw)) (tN o0 (tL Gm) (tL IE))) (tN o0 (tN EC (tL JA) (tL IP)) (tN o1 (tL o0) tZ)))) (tN o1 (tN o0 (tN o0 (tN o78 (tL JL) (tL o1)) (tN G3 (tL Gq) (tL Le))) (tN o59 (tN o0 (tL o1) (tL IT)) (tN o0 (tL LI) tZ))) (tN o28 (tN o47 (tN o90 (tL GF) (tL o0)) (tN Ep (tL Gi) (tL o1))) (tN o1 (tN o0 (tL o0) (tL o0)) (tN JQ (tL LC) tZ))))) (tN o0 (tN o7 (tN o17 (tN o0 (tN o1 (tL o0) (tL Lz)) (tN o0 (tL o1) (tL o0))) (tN o0 (tN o98 (tL JD) (tL o1)) (tN o0 (tL Gd) tZ))) (tN o1 (tN o45 (tN o0 (tL JI) (tL IY)) (tN GY (tL o0) (tL Lb))) (tN o66 (tN o0 (tL Gw) (tL o0)) (tN GR (tL o0) tZ)))) (tN o12 (tN o0 (tN o40 (tN o80 (tL o1) (tL I9)) (tN o0 (tL Js) (tL o1))) (tN o1 (tN o0 (tL Gz) (tL Ln)) (tN JT (tL Ji) tZ))) (tN o30 (tN o50 (tN o1 (tL o0) (tL o0)) (tN J0 (tL Ge) (tL o0))) (tN o0 (tN Ex (tL o0) (tL IJ)) (tN GO (tL o1) tZ)))))) (tN boot_o_5 (tN boot_o_9 (tN o6 (tN o15 (tN o34 (tN o75 (tL GN) (tL LA)) (tN G6 (tL Gr) (tL II))) (tN o56 (tN o96 (tL JE) (tL IU)) (tN o1 (tL o0) tZ))) (tN o25 (tN o0 (tN o1 (tL o0) (tL Lv)) (tN Er (tL o1) (tL o0))) (tN o65 (tN o34 (tL Jz) (tL o1)) (tN o0 (tL Jh) tZ)))) (tN o0 (tN o20 (tN o39 (tN o0 (tL GJ) (tL o0)) (tN o34 (tL o0) (tL IF))) (tN o61 (tN EF (tL o0) (tL o0)) (tN JU (tL LH) tZ))) (tN o0 (tN o48 (tN o91 (tL o1) (tL IX)) (tN o0 (tL Gg) (tL IA))) (tN o70 (tN C4 (tL Gv) (tL Lj)) (tN JP (tL Je) tZ))))) (tN o2 (tN o9 (tN o1 (tN o37 (tN o0 (tL JM) (tL Ja)) (tN Et (tL o0) (tL Lg))) (tN o58 (tN o34 (tL GA) (tL o0)) (tN GW (tL o0) tZ))) (tN o0 (tN o0 (tN o86 (tL JH) (tL o1)) (tN o1 (tL Gk) (tL IB))) (tN o68 (tN EA (tL o1) (tL IM)) (tN o0 (tL LD) tZ)))) (tN o0 (tN o22 (tN o42 (tN o81 (tL o0) (tL o0)) (tN G1 (tL Jr) (tL o0))) (tN o63 (tN C6 (tL o0) (tL Lm)) (tN GS (tL o1) tZ))) (tN o31 (tN o52 (tN o93 (tL GD) (tL Lr)) (tN JZ (tL Jn) (tL K9))) (tN o72 (tN o34 (tL Jw) (tL o1)) (tN o1 (tL Jd) tZ))))))) (tN boot_o_2 (tN boot_o_4 (tN boot_o_8 (tN o1 (tN o0 (tN o0 (tN o74 (tL JN) (tL o1)) (tN o1 (tL Gs) (tL Lh))) (tN o55 (tN Ew (tL o1) (tL IV)) (tN o0 (tL Jm) tZ))) (tN o24 (tN o43 (tN o0 (tL GH) (tL o0)) (tN Es (tL o0) (tL ID))) (tN o1 (tN o99 (tL o0) (tL o0)) (tN JS (tL LF) tZ)))) (tN o10 (tN o19 (tN o1 (tN o79 (tL GK) (tL Ly)) (tN o99 (tL Gp) (tL IG))) (tN o60 (tN o1 (tL JC) (tL IS)) (tN o1 (tL o0) tZ))) (tN o29 (tN o0 (tN o34 (tL o0) (tL Ls)) (tN Eo (tL Gh) (tL La))) (tN o69 (tN C5 (tL Jx) (tL o1)) (tN o0 (tL Jf) tZ))))) (tN LJ (tN o8 (tN o0 (tN o36 (tN o76 (tL o1) (tL Jb)) (tN Eu (tL Ju) (tL o1))) (tN o1 (tN o99 (tL GB) (tL Lp)) (tN JV (tL Gc) tZ))) (tN o26 (tN o46 (tN o85 (tL o0) (tL o0)) (tN o0 (tL Jp) (tL IC))) (tN o67 (tN o1 (tL o0) (tL Lk)) (tN GQ (tL o1) tZ)))) (tN o13 (tN o1 (tN o41 (tN o0 (tL JK) (tL I0)) (tN o1 (tL o0) (tL Ld))) (tN o62 (tN C7 (tL Gy) (tL o0)) (tN GU (tL o0) tZ))) (tN o0 (tN o51 (tN o92 (tL JF) (tL o1)) (tN o0 (tL Jo) (tL o1))) (tN o1 (tN o99 (tL o1) (tL o0)) (tN o0 (tL LB) tZ)))))) (tN boot_o_6 (tN boot_o_10 (tN o0 (tN o16 (tN o35 (tN o0 (tL GL) (tL o0)) (tN G5 (tL o0) (tL IH))) (tN o57 (tN o97 (tL o0) (tL o0)) (tN JW (tL Jl) tZ))) (tN o0 (tN o44 (tN o84 (tL o1) (tL IZ)) (tN GZ (tL Jq) (tL o1))) (tN o0 (tN EB (tL Gx) (tL Ll)) (tN JR (tL Jg) tZ)))) (tN o11 (tN o21 (tN o0 (tN o1 (tL o0) (tL Lx)) (tN G2 (tL o1) (tL o0))) (tN o0 (tN EE (tL JB) (tL o1)) (tN o0 (tL Jj) tZ))) (tN o1 (tN o49 (tN o0 (tL JG) (tL IW)) (tN o34 (tL Gf) (tL Iz))) (tN o71 (tN Ey (tL Gu) (tL IK)) (tN GP (tL o0) tZ))))) (tN o3 (tN o0 (tN o18 (tN o38 (tN o77 (tL o0) (tL o0)) (tN G4 (tL Jt) (tL o0))) (tN o0 (tN EG (tL o0) (tL Lo)) (tN GV (tL o1) tZ))) (tN o27 (tN o1 (tN o87 (tL GG) (tL Lu)) (tN GX (tL Gj) (tL o0))) (tN o0 (tN Ez (tL Jy) (tL IL)) (tN o1 (tL o0) tZ)))) (tN o1 (tN o0 (tN o0 (tN o82 (tL JJ) (tL o1)) (tN G0 (tL Gn) (tL Lc))) (tN o64 (tN ED (tL o1) (tL IQ)) (tN o0 (tL LG) tZ))) (tN o32 (tN o53 (tN o0 (tL GC) (tL o0)) (tN JY (tL o0) (tL Iy))) (tN o0 (tN G7 (tL o0) (tL Li)) (tN JO (tL Jc) tZ))))))))
noncomputable def S6 (w:World) (os:OsState):SharedT:=⟨tr6 w.params,480,lf0,⟨[]⟩,⟨0,0,0,0⟩,847,os⟩
noncomputable def hF (P:Params):Heap:=⟨⟨(boot_o_0 P::boot_o_1 P::boot_o_2 P::Jk P::boot_o_4 P::boot_o_5 P::boot_o_6 P::boot_o_7 P::boot_o_8 P::boot_o_9 P::boot_o_10 P::o0 P::LJ P::o2 P::o3 P::o0 P::o1 P::o6 P::o0 P::o7 P::o8 P::o9 P::o0 P::o1 P::o10 P::o0 P::o11 P::o12 P::o13 P::o0 P::o1 P::o14 P::o0 P::o15 P::o16 P::o17 P::o0 P::o1 P::o18 P::o0 P::o19 P::o20 P::o21 P::o0 P::o1 P::o22 P::o0 P::o23 P::o24 P::o25 P::o0 P::o1 P::o26 P::o0 P::o27 P::o28 P::o29 P::o0 P::o1 P::o30 P::o0 P::o31 P::o32 P::o33 P::o0 P::o34 P::o35 P::o0 P::o36 P::o37 P::o38 P::o0 P::o1 P::o39 P::o0 P::o40 P::o41 P::o42 P::o0 P::o1 P::o43 P::o0 P::o44 P::o45 P::o46 P::o0 P::o1 P::o47 P::o0 P::o48 P::o49 P::o50 P::o51 P::o52 P::o53 P::o54 P::o55 P::o56 P::o57 P::o0 P::o1 P::o58 P::o0 P::o59 P::o60 P::o61 P::o0 P::o1 P::o62 P::o63 P::o64 P::o0 P::o1 P::o65 P::o0 P::o66 P::o67 P::o68 P::o0 P::o1 P::o69 P::o70 P::o71 P::o0 P::o1 P::o72 P::o0 P::o73 P::o74 P::o75 P::o0 P::o1 P::o76 P::o0 P::o77 P::o78 P::o79 P::o0 P::o1 P::o80 P::o0 P::o81 P::o82 P::o83 P::o0 P::o1 P::o84 P::o0 P::o85 P::o86 P::o87 P::o90 P::o34 P::o91 P::o0 P::o1 P::o92 P::o93 P::o0 P::o94 P::Ew P::o96 P::o97 P::o98 P::o99 P::o34 P::EG P::o0 P::o1 P::EF P::EE P::o0 P::C7 P::C6 P::ED P::EC P::o99 P::o34 P::EB P::o0 P::o1 P::EA P::Ez P::o0 P::C5 P::C4 P::Ey P::Ex P::o99 P::o34 P::G7 P::o0 P::o1 P::G6 P::G5 P::o0 P::Eu P::Et P::G4 P::G3 P::o99 P::o34 P::G2 P::o0 P::o1 P::G1 P::G0 P::o0 P::Es P::Er P::GZ P::GY P::o0 P::o1 P::GX P::Ep P::Eo P::o0 P::o34 P::J0 P::o0 P::JZ P::JY P::JX P::o0 P::o1 P::JW P::o0 P::JV P::GW P::GV P::o0 P::o1 P::JU P::o0 P::JT P::GU P::GS P::o0 P::o1 P::JS P::o0 P::JR P::GR P::GQ P::o0 P::o1 P::JQ P::o0 P::JP P::GP P::GO P::o0 P::o1 P::JO P::o0 P::JN P::GN P::GL P::o0 P::o1 P::JM P::o0 P::JL P::GK P::GJ P::o0 P::o1 P::JK P::o0 P::JJ P::GI P::GH P::o0 P::o1 P::JI P::o0 P::JH P::GG P::GF P::o0 P::o1 P::JG P::o0 P::JF P::GD P::GC P::o0 P::o1 P::JE P::o0 P::JD P::GB P::GA P::o0 P::o1 P::JC P::o0 P::JB P::Gz P::Gy P::o0 P::o1 P::JA P::o0 P::Jz P::Gx P::Gw P::o0 P::o1 P::Jy P::o0 P::Jx P::Gv P::Gu P::o0 P::o1 P::Jw P::o0 P::Jv P::Gs P::Gr P::o0 P::o1 P::Ju P::o0 P::Jt P::Gq P::Gp P::o0 P::o1 P::Js P::o0 P::Jr P::Gn P::Gm P::o0 P::o1 P::Jq P::o0 P::Jp P::Gk P::Gj P::Gi P::Gh P::Gg P::Gf P::Ge P::Jo P::Jn P::o0 P::o1 P::Jm P::o0 P::Jl P::Gd P::Gc P::o0 P::o1 P::LI P::o0 P::LH P::Jj P::Ji P::o0 P::o1 P::LG P::o0 P::LF P::Jh P::Jg P::o0 P::o1 P::LD P::o0 P::LC P::Jf P::Je P::o0 P::o1 P::LB P::Jd P::Jc P::o0 P::o1 P::LA P::o0 P::Lz P::Jb P::Ja P::o0 P::o1 P::Ly P::o0 P::Lx P::I9 P::I0 P::o0 P::o1 P::Lw P::o0 P::Lv P::IZ P::IY P::o0 P::o1 P::Lu P::o0 P::Ls P::IX P::IW P::o0 P::o1 P::Lr P::o0 P::Lq P::IV P::IU P::o0 P::o1 P::Lp P::o0 P::Lo P::IT P::IS P::o0 P::o1 P::Ln P::o0 P::Lm P::IQ P::IP P::o0 P::o1 P::Ll P::o0 P::Lk P::IM P::IL P::o0 P::o1 P::Lj P::IK P::IJ P::o0 P::o1 P::Li P::o0 P::Lh P::II P::IH P::o0 P::o1 P::Lg P::o0 P::Le P::IG P::IF P::o0 P::o1 P::Ld P::o0 P::Lc P::IE P::ID P::o0 P::o1 P::Lb P::IC P::IB P::o0 P::o1 P::La P::IA P::Iz P::o0 P::o1 P::K9 P::Iy P::Iw P::[])⟩,lf0⟩
noncomputable def SA (w:World) (os:OsState):Shared:=⟨hA w.params,⟨[]⟩,⟨0,0,0,0⟩,187,os⟩
noncomputable def SF (w:World) (os:OsState):Shared:=⟨hF w.params,⟨[]⟩,⟨0,0,0,0⟩,847,os⟩
noncomputable def S0 (w:World) (os:OsState):Shared:=⟨boot_heap w.params,⟨[]⟩,boot_drawn,boot_toks,os⟩
noncomputable def Mo:List Stmt:=[top 0,top 1,top 2,top 3,top 4,top 5,top 6,top 7,top 8,top 9,top 10,top 11,top 12,top 13,top 14,top 15,top 16,top 17,top 18,top 19]
noncomputable def Mn:List Stmt:=[top 20,top 21,top 22]
noncomputable def Mm:List Stmt:=[top 23,top 24,top 25,top 26,top 27,top 28,top 29,top 30]
noncomputable def Ml:List Stmt:=[top 31,top 32]
noncomputable def Mj:List Stmt:=[top 33,top 34,top 35,top 36,top 37,top 38,top 39,top 40,top 41,top 42,top 43,top 44,top 45,top 46,top 47,top 48,top 49,top 50,top 51,top 52]
noncomputable def hV:Program:={ hp with main:={ hp.main with body:=[top 0,top 2,top 3,top 4,top 5,top 6,top 7,top 9,top 10,top 11,top 12,top 14,top 15,top 16,top 17,top 18,top 20,top 21,top 22,top 23,top 24,top 26,top 27,top 29,top 30,top 31,top 32,top 33,top 35,top 36,top 37,top 38,top 39,top 40,top 41,top 42,top 43,top 44,top 45,top 46,top 47,top 48,top 49,top 50,top 51,top 52] } }
noncomputable def hAs:List Addr:=0::1::2::3::4::5::6::7::8::9::10::13::14::20::21::27::28::34::35::41::42::48::49::55::56::62::63::76::77::83::84::90::91::92::93::94::95::96::104::105::109::110::116::117::121::122::128::129::135::136::142::143::149::150::158::159::160::161::171::172::173::183::184::185::195::196::197::207::208::209::215::216::229::230::236::237::243::244::250::251::257::258::264::265::271::272::278::279::285::286::292::293::299::300::306::307::313::314::320::321::327::328::334::335::341::342::343::344::345::346::347::355::356::362::363::369::370::376::377::381::382::388::389::395::396::402::403::409::410::416::417::423::424::430::431::437::438::442::443::449::450::456::457::463::464::468::469::473::474::478::479::[]
noncomputable def hK:Params->W.Frag:=λ P=>((nat_lit 0,boot_o_0 P)::(nat_lit 1,boot_o_1 P)::(nat_lit 2,boot_o_2 P)::(nat_lit 3,Jk P)::(nat_lit 4,boot_o_4 P)::(nat_lit 5,boot_o_5 P)::(nat_lit 6,boot_o_6 P)::(nat_lit 7,boot_o_7 P)::(nat_lit 8,boot_o_8 P)::(nat_lit 9,boot_o_9 P)::(nat_lit 10,boot_o_10 P)::(nat_lit 13,o2 P)::(nat_lit 14,o3 P)::(nat_lit 20,o8 P)::(nat_lit 21,o9 P)::(nat_lit 27,o12 P)::(nat_lit 28,o13 P)::(nat_lit 34,o16 P)::(nat_lit 35,o17 P)::(nat_lit 41,o20 P)::(nat_lit 42,o21 P)::(nat_lit 48,o24 P)::(nat_lit 49,o25 P)::(nat_lit 55,o28 P)::(nat_lit 56,o29 P)::(nat_lit 62,o32 P)::(nat_lit 63,o33 P)::(nat_lit 76,o41 P)::(nat_lit 77,o42 P)::(nat_lit 83,o45 P)::(nat_lit 84,o46 P)::(nat_lit 90,o49 P)::(nat_lit 91,o50 P)::(nat_lit 92,o51 P)::(nat_lit 93,o52 P)::(nat_lit 94,o53 P)::(nat_lit 95,o54 P)::(nat_lit 96,o55 P)::(nat_lit 104,o60 P)::(nat_lit 105,o61 P)::(nat_lit 109,o63 P)::(nat_lit 110,o64 P)::(nat_lit 116,o67 P)::(nat_lit 117,o68 P)::(nat_lit 121,o70 P)::(nat_lit 122,o71 P)::(nat_lit 128,o74 P)::(nat_lit 129,o75 P)::(nat_lit 135,o78 P)::(nat_lit 136,o79 P)::(nat_lit 142,o82 P)::(nat_lit 143,o83 P)::(nat_lit 149,o86 P)::(nat_lit 150,o87 P)::(nat_lit 158,o0 P)::(nat_lit 159,o94 P)::(nat_lit 160,Ew P)::(nat_lit 161,o96 P)::(nat_lit 171,o0 P)::(nat_lit 172,C7 P)::(nat_lit 173,C6 P)::(nat_lit 183,o0 P)::(nat_lit 184,C5 P)::(nat_lit 185,C4 P)::(nat_lit 195,o0 P)::(nat_lit 196,Eu P)::(nat_lit 197,Et P)::(nat_lit 207,o0 P)::(nat_lit 208,Es P)::(nat_lit 209,Er P)::(nat_lit 215,Ep P)::(nat_lit 216,Eo P)::(nat_lit 229,GW P)::(nat_lit 230,GV P)::(nat_lit 236,GU P)::(nat_lit 237,GS P)::(nat_lit 243,GR P)::(nat_lit 244,GQ P)::(nat_lit 250,GP P)::(nat_lit 251,GO P)::(nat_lit 257,GN P)::(nat_lit 258,GL P)::(nat_lit 264,GK P)::(nat_lit 265,GJ P)::(nat_lit 271,GI P)::(nat_lit 272,GH P)::(nat_lit 278,GG P)::(nat_lit 279,GF P)::(nat_lit 285,GD P)::(nat_lit 286,GC P)::(nat_lit 292,GB P)::(nat_lit 293,GA P)::(nat_lit 299,Gz P)::(nat_lit 300,Gy P)::(nat_lit 306,Gx P)::(nat_lit 307,Gw P)::(nat_lit 313,Gv P)::(nat_lit 314,Gu P)::(nat_lit 320,Gs P)::(nat_lit 321,Gr P)::(nat_lit 327,Gq P)::(nat_lit 328,Gp P)::(nat_lit 334,Gn P)::(nat_lit 335,Gm P)::(nat_lit 341,Gk P)::(nat_lit 342,Gj P)::(nat_lit 343,Gi P)::(nat_lit 344,Gh P)::(nat_lit 345,Gg P)::(nat_lit 346,Gf P)::(nat_lit 347,Ge P)::(nat_lit 355,Gd P)::(nat_lit 356,Gc P)::(nat_lit 362,Jj P)::(nat_lit 363,Ji P)::(nat_lit 369,Jh P)::(nat_lit 370,Jg P)::(nat_lit 376,Jf P)::(nat_lit 377,Je P)::(nat_lit 381,Jd P)::(nat_lit 382,Jc P)::(nat_lit 388,Jb P)::(nat_lit 389,Ja P)::(nat_lit 395,I9 P)::(nat_lit 396,I0 P)::(nat_lit 402,IZ P)::(nat_lit 403,IY P)::(nat_lit 409,IX P)::(nat_lit 410,IW P)::(nat_lit 416,IV P)::(nat_lit 417,IU P)::(nat_lit 423,IT P)::(nat_lit 424,IS P)::(nat_lit 430,IQ P)::(nat_lit 431,IP P)::(nat_lit 437,IM P)::(nat_lit 438,IL P)::(nat_lit 442,IK P)::(nat_lit 443,IJ P)::(nat_lit 449,II P)::(nat_lit 450,IH P)::(nat_lit 456,IG P)::(nat_lit 457,IF P)::(nat_lit 463,IE P)::(nat_lit 464,ID P)::(nat_lit 468,IC P)::(nat_lit 469,IB P)::(nat_lit 473,IA P)::(nat_lit 474,Iz P)::(nat_lit 478,Iy P)::(nat_lit 479,Iw P)::[])
noncomputable abbrev hX:Shared->Bool:=λ s=>xlAt hV [] s&&recOk (RowW.records (OpenRow.toRowW (OpenLaw.row hl))) s
end HD16
end
section
namespace HD16
open PySem PySem.W PySem.W.X PyProof.Rows L2
set_option maxHeartbeats 0
theorem Ku:∀ w,(λ os=>topGo treeTable hp w 11 hAn 12 (S0 w os) (topStub hp))=λ os=>some (SA w os,⟨denote treeTable hC,hC,⟨0,0,0,0⟩,hB⟩):=by
 rewrite [PySem.W.Fast.te15667345088766844465,Z5,PySem.W.Fast.te11892475500146522536]
 intro w; kernel_rfl
theorem Kw:∀ w,(λ os=>segRun treeTable hp w 11 hAn 1 1 (SA w os) (blockOf (behindTheImports hp) hE hC ⟨0,0,0,0⟩ hB))=λ os=>some (Flow.next,(S1 w os).abs,hC,⟨0,0,0,0⟩):=by
 rewrite [PySem.W.Fast.te14374325043358763698,Z5]
 intro w; kernel_rfl
theorem Nz:∀ w,(λ os=>segRunT treeTable hp w 11 hAn 1 783 (S1 w os) (piecesOf Mo hE hC ⟨0,0,0,0⟩ hB))=λ os=>some (Flow.next,S2 w os,hC,⟨91,0,91,8⟩):=by
 rewrite [Yo,Z5]
 intro w; kernel_rfl
theorem Ny:∀ w,(λ os=>segRunT treeTable hp w 11 hAn 1 613 (S2 w os) (piecesOf Mn hE hC ⟨91,0,91,8⟩ hB))=λ os=>some (Flow.next,S3 w os,hC,⟨96,0,97,8⟩):=by
 rewrite [Yo,Z5]
 intro w; kernel_rfl
theorem Nw:∀ w,(λ os=>segRunT treeTable hp w 11 hAn 1 498 (S3 w os) (piecesOf Mm hE hC ⟨96,0,97,8⟩ hB))=λ os=>some (Flow.next,S4 w os,hC,⟨112,0,112,9⟩):=by
 rewrite [Yo,Z5]
 intro w; kernel_rfl
theorem Nv:∀ w,(λ os=>segRunT treeTable hp w 11 hAn 1 781 (S4 w os) (piecesOf Ml hE hC ⟨112,0,112,9⟩ hB))=λ os=>some (Flow.next,S5 w os,hC,⟨209,0,211,67⟩):=by
 rewrite [Yo,Z5]
 intro w; kernel_rfl
theorem Nu:∀ w,(λ os=>segRunT treeTable hp w 11 hAn 1 610 (S5 w os) (piecesOf Mj hE hC ⟨209,0,211,67⟩ hB))=λ os=>some (Flow.next,S6 w os,hC,⟨381,0,412,80⟩):=by
 rewrite [Yo,Z5]
 intro w; kernel_rfl
theorem Kv:∀ w,(λ os=>topRun treeTable hp w 11 hAn 2 (S6 w os).abs ⟨doneF .next,hC,⟨381,0,412,80⟩,hB⟩)=λ os=>some (SF w os):=by
 rewrite [PySem.W.Fast.te14082659384304107361,Z5]
 intro w; kernel_rfl
theorem Kt (w:World) (os:OsState):topRun treeTable hp w 11 hAn (12+(1+(783+(613+(498+(781+(610+(2)))))))) (S0 w os) (topStub hp)=some (SF w os):=go_top (congrFun (Ku w) os) (piece_block (congrFun (Kw w) os) (piece_app (segRun_of (congrFun (Nz w) os)) (piece_app (segRun_of (congrFun (Ny w) os)) (piece_app (segRun_of (congrFun (Nw w) os)) (piece_app (segRun_of (congrFun (Nv w) os)) (piece_app (segRun_of (congrFun (Nu w) os)) (congrFun (Kv w) os)))))))
theorem Fj:∀ w:World,((boot_heap w.params).isNs mainGlobals&&(⟨[]⟩:Array GenState).size == 0,(boot_heap w.params).objs.size,(boot_heap w.params).nsMap mainGlobals "__annotations__")=(true,11,hAn):=by
 rewrite [PySem.W.Fast.te8920871248978507458]
 intro w; kernel_rfl
theorem Fm:∀ w:World,(λ os=>((staticsOk (importedModules hp.main.body) (boot_heap w.params) (hF w.params)&&namesBound hp (hF w.params)&&gensDone (SF w os)&&laidKept (boot_heap w.params) (hF w.params)),openSeen hV [] (importedModules hp.main.body) hX true (SF w os),obsZ hAs (SF w os)))=λ _=>(true,openGood hV [],valZ hK 480 847 w):=by
 rewrite [PySem.W.Fast.te5923862056798008813,PySem.W.Fast.te4187177175401517315]
 intro w; kernel_rfl
theorem Fn:LeftO hp hV [] hX (obsZ hAs) (valZ hK 480 847) 6686:=LeftO.of_pieces (boot_open (p:=hp) (N:=6686) (by kernel_rfl) (by decide) (λ _=>by kernel_rfl)) Fj Kt (by decide) Fm
theorem Fk:PySem.Challenge.rw_stylehouse_k16_ends.wellSaid=true:=by kernel_rfl
theorem Fp (said:(OpenLaw.row PySem.Challenge.rw_stylehouse_k16_ends).wellSaid=true) (hw:(OpenRow.toRowW (OpenLaw.row PySem.Challenge.rw_stylehouse_k16_ends)).promised) {d:DefRec} {kwd:List (Str×Expr)} (hdef:defOf hV (OpenLaw.row PySem.Challenge.rw_stylehouse_k16_ends).name=some (d,kwd)) (hp':(OpenLaw.row PySem.Challenge.rw_stylehouse_k16_ends).prog.theDef (OpenLaw.row PySem.Challenge.rw_stylehouse_k16_ends).name=some (d.params,d.body,d.scope)) (hk:kwWritten? d.params.kwonlyargs d.params.kw_defaults=some kwd) (call:WalkX hV [] (XL hV []) (obsZ hAs) (valZ hK 480 847) (OpenRow.toRowW (OpenLaw.row PySem.Challenge.rw_stylehouse_k16_ends)) d kwd λ f vs=>PySem.call f vs):(OpenLaw.row PySem.Challenge.rw_stylehouse_k16_ends).Holds :=
 holds_openX (q:=hV) (loose:=[]) (Xt:=hX) (XP:=XL hV []) (Yf:=obsZ hAs) (Ya:=valZ hK 480 847) (N:=6686) Fn (λ s e=>xl_of s (Bool.and_eq_true_iff.mp e).1) XL.keeps hdef hp' hk (λ s e=>recFacts_of (Bool.and_eq_true_iff.mp e).2) rfl said (by decide +kernel) ⟨rfl,rfl,rfl,rfl,rfl,by decide +kernel⟩ hw call
end HD16
end
section
namespace L2
open PySem PySem.Spec PyProof.Rows
section
variable {X:Cx}
def Sz (i:Int):Prop:=i.natAbs < 2 ^ 4000
theorem Sz.bits (h:Sz i):Builtin.Int.intBits i<=2 ^ 20:=Z2 (PySem.intBits_le_iff.mpr h) (by decide)
theorem Sz.log (h:Sz i):i.natAbs.log2 < 9000:=by
 by_cases z:i.natAbs=0
 · rw [z]; decide
 · exact (Nat.log2_lt z).mpr (Nat.lt_trans h (Nat.pow_lt_pow_right (by decide) (by decide)))
theorem Bj:OpR X (binaryOp .FloorDiv) (rI (λ _ j=>j≠0/\Sz j) λ i j=>.int (i.fdiv j)):=opI λ _ _ _ _ _ _ _ hc q=>floordiv_int hc.1 q (.inl (PyProof.noPylong_of_log2 hc.2.log))
end
open PySem.W in
mutual
inductive RdD (K:W.Frag) (H:Hp):V->Dat->Prop where
 | non:RdD K H .non .none
 | int (i:Int):RdD K H (.int i) (.int i)
 | str (x:Str):RdD K H (.str x) (.str x)
 | tup {a:Addr} {xs:List V} {ds:List Dat} (h:SqT K H a xs) (r:xn K H xs ds):RdD K H (.ref a) (.tuple ds)
 | lst {a:Addr} {xs:List V} {ds:List Dat} (h:SqL K H a xs) (r:xn K H xs ds):RdD K H (.ref a) (.list ds)
inductive xn (K:W.Frag) (H:Hp):List V->List Dat->Prop where
 | nil:xn K H [] []
 | cons {x:V} {d:Dat} {xs:List V} {ds:List Dat} (h:RdD K H x d) (r:xn K H xs ds):xn K H (x::xs) (d::ds)
end
section
open PySem.W
variable {X:Cx} {pins:List (Addr×Obj)} {σ:St} {H:Hp} {s:Shared}
mutual
theorem RdD.reads (I:Inv X pins σ H s):∀ {v:V} {d:Dat} {u:Value},RdD X.K H v d->RelV v u->∃ as,Reads s.heap u (kqdP d) as
 | _,_,u,.non,rv=>by cases (show u=Value.none from rv); exact ⟨_,Reads.none⟩
 | _,_,u,.int i,rv=>by obtain ⟨t,rfl⟩:=(show ∃ t,u=Value.int i t from rv); exact ⟨_,Reads.int i t⟩
 | _,_,u,.str x,rv=>by obtain ⟨t,rfl⟩:=(show ∃ t,u=Value.str x t from rv); exact ⟨_,Reads.str x t⟩
 | _,_,u,@RdD.tup _ _ a xs ds h r,rv=>by
  cases (show u=Value.ref a from rv);obtain ⟨its,vs,p,_⟩:=I.tuple h;obtain ⟨as,q⟩:=xn.reads I r vs;obtain ⟨o,h1,h2,n,h3⟩:=p;rw [kqdP];exact ⟨as,reads_tuple_at h1 h2 h3 (by simpa using q)⟩
 | _,_,u,@RdD.lst _ _ a xs ds h r,rv=>by
  cases (show u=Value.ref a from rv);obtain ⟨its,vs,p,_⟩:=I.list h;obtain ⟨as,q⟩:=xn.reads I r vs;obtain ⟨o,h1,h2,n,h3⟩:=p.isList;rw [kqdP];exact ⟨a::as,reads_list_at h1 h2 h3 (by simpa using q)⟩
theorem xn.reads (I:Inv X pins σ H s):∀ {vs:List V} {ds:List Dat} {us:List Value},xn X.K H vs ds->bG vs us->∃ as,ReadsAll s.heap us (kqdPs ds) as
 | _,_,_,.nil,.nil=>by rw [kqdPs]; exact ⟨_,ReadsAll.nil⟩
 | _,_,_,.cons h r,.cons rv rs=>by
  obtain ⟨as,q⟩:=RdD.reads I h rv;obtain ⟨bs,p⟩:=xn.reads I r rs;rw [kqdPs];exact ⟨_,ReadsAll.cons q p⟩
end
theorem gw (h:kqdOk 9 d=true):SeqAt.shaped (kqdP d)=true:=by
 have la:=kqd_lay 9 d h;unfold SeqAt.shaped;rw [la.1,Bool.true_and];exact Zq (Z2 la.2 (by decide))
open Classical in
theorem wA (h:kqdOk 9 d=true) (h':kqdOk 9 e=true):PyData.eqv (kqdP d) (kqdP e)=decide (d=e):=by
 have q:=kqd_eqv 9 d e 9 h h'
 by_cases hq:d=e
 · rw [Zq hq]; exact q.mpr hq
 · rw [Zn hq]; exact Bool.eq_false_iff.mpr λ x=>hq (q.mp x)
open Classical in
noncomputable def eqD (d e:Dat):Bool:=decide (d=e)
open Classical in
theorem yT (h:d=e):eqD d e=true:=Zq h
open Classical in
theorem wB (h:d≠e):eqD d e=false:=Zn h
def MJ (K:W.Frag):R2:=λ x y H Q=>∃ d e,RdD K H x d/\RdD K H y e/\kqdOk 9 d=true/\kqdOk 9 e=true/\Q (.bl (eqD d e)) H
def MF (K:W.Frag):R2:=λ x y H Q=>∃ d e,RdD K H x d/\RdD K H y e/\kqdOk 9 d=true/\kqdOk 9 e=true/\Q (.bl (!eqD d e)) H
theorem Eh (hu:X.A.units+64 < cLine):OpR X (compareOp .Eq) (MJ X.K):=by
 intro pins s σ H x y v u Q I rx ry h;obtain ⟨d,e,hd,he,kd,ke,q⟩:=h;obtain ⟨as,ra⟩:=hd.reads I rx;obtain ⟨bs,rb⟩:=he.reads I ry;refine eq_dataH ra rb (gw kd) (gw ke) hu ⟨.bl _,H,I,rfl,?_⟩;rw [wA kd ke];exact q
theorem Ef (hu:X.A.units+64 < cLine):OpR X (compareOp .NotEq) (MF X.K):=by
 intro pins s σ H x y v u Q I rx ry h;obtain ⟨d,e,hd,he,kd,ke,q⟩:=h;obtain ⟨as,ra⟩:=hd.reads I rx;obtain ⟨bs,rb⟩:=he.reads I ry;refine ne_dataH ra rb (gw kd) (gw ke) hu ⟨.bl _,H,I,rfl,?_⟩;rw [wA kd ke];exact q
end
theorem bU.tup {K:W.Frag} {H H':Hp} {a:Addr} {xs:List V} (e:bU H H') (h:SqT K H a xs):SqT K H' a xs:=by
 rcases h with (h | ⟨o,h⟩) | h
 · exact .inl (.inl (e _ _ h))
 · exact .inl (.inr ⟨o,e _ _ h⟩)
 · exact .inr h
theorem aC (h:H p=none) (o:HO):bU H (upd H p o):=λ b u q=>by rw [ar (du q h)]; exact q
end L2
end
section
namespace L2
open PySem PySem.Spec PyProof.Rows
section
variable {prog:Program} {w:World} {A:Around} {R:Result->Shared->Prop} {s:Shared}
theorem oH (I:Nat->Shared->Prop)
  (turn:∀ n s,I n s->wpAny (model prog w) A (pyNext it) (λ r s₁=>match r with
    | none=>R (.ok .next) s₁
    | some v=>wpAny (model prog w) A (letOwnedTupleGo target it v) (λ _ s₁'=>wpAny (model prog w) A (assign target env v) (λ _ s₂=>wpAny (model prog w) A (eval elt env) (λ x s₃ =>
     wpAny (model prog w) A (call (.builtin "list.append") [acc,x]) (λ _ s₄=>∃ m,m < n/\I m s₄) (λ _ _=>False) s₃) (λ _ _=>False) s₂) (λ _ _=>False) s₁') (λ _ _=>False) s₁) (λ _ _=>False) s)
  (n:Nat) (h:I n s) :
  codeAny (model prog w) A (.compLoop (.ListComp elt [⟨target,iter,[],0⟩] scope pos) 0 it acc env) R s:=by
 refine codeAny_loop rfl I (λ n s hI=>?_) n h;refine wpAny_noted ?_
 rw [compTurn_list1];refine Zo (wpAny_standAt (Zo (Yr (turn n s hI) (λ r s₁ h₁=>?_) λ _ _ h'=>h'.elim)))
 cases r with
 | none=>exact Z3 h₁
 | some v =>
  refine Zo (Yr h₁ (λ _ s₁' h₁'=>?_) λ _ _ h'=>h'.elim)
  exact Zo (Yr h₁' (λ _ s₂ h₂=>Zo (Zo (Yr h₂ (λ x s₃ h₃=>Zo (Yr h₃
    (λ _ s₄ h₄=>Z3 (Z3 ⟨rfl,h₄⟩)) λ _ _ h'=>h'.elim)) λ _ _ h'=>h'.elim))) λ _ _ h'=>h'.elim)
end
def bW (X:Cx) (scope:Scope) (cl:List (Str×Addr)) (N:List Str) (s:Shared) (H:Hp) (fp:List Addr) (C:Addr):Cx where
 prog:=X.prog
 w:=X.w
 K:=X.K
 mg:=X.mg
 base:=X.base
 A:=X.A
 N:=N
 s₀:=s
 H₀:=H
 env:=compEnvC scope cl C X.env
 outer:=X.stack
 stack:=X.stack
 ex:=fp
 calm:=X.calm
 fn:=λ _=>false
 pn:=[]
 xe:=λ _ _=>False
structure cY (X:Cx) (scope:Scope) (cl:List (Str×Addr)) (x:Str) (cs:List (Str×Nat)):Prop where
 ze:closureFor scope X.env=pure cl
 kind:scope.kind=.function
 rz:∀ y ∈ scope.names,y.2≠.cell
 names:∀ y ∈ scope.names,y.2=.local->scope.names.lookup y.1=some .local
 own:scope.names.lookup x=some .local
 sub:∀ y c,cl.lookup y=some c->X.env.cells.lookup y=some c
 has:∀ y,((relabel scope X.env).names.lookup y=some .cell\/(relabel scope X.env).names.lookup y=some .free)->∃ c,cl.lookup y=some c
 Dk:∀ p ∈ cs,X.N[p.2]?=some p.1/\(X.env.kindOf p.1=some .cell\/X.env.kindOf p.1=some .free)/\((relabel scope X.env).names.lookup p.1=some .cell\/(relabel scope X.env).names.lookup p.1=some .free)
 nd:(x::cs.map (·.1)).Nodup
def aG (σ:St) (cs:List (Str×Nat)):St:=cs.map λ p=>(σ[p.2]?).join
section
variable {X:Cx} {pins:List (Addr×Obj)} {σ:St} {H:Hp} {s:Shared} {scope:Scope} {cl:List (Str×Addr)} {x:Str} {cs:List (Str×Nat)} {fp:List Addr} {C:Addr} {h':Heap} {t':Nat}
theorem lO (O:cY X scope cl x cs) (I:Inv X pins σ H s) (f2:∀ b ∈ fp,pj X pins H b) (there:∀ b ∈ fp,b < s.heap.objs.size) (hC:s.heap.objs.size<=C)
  (old:∀ b o,s.heap.get? b=some o->h'.get? b=some o) (hn:h'.Ns C λ _=>none) :
  Inv (bW X scope cl (x::cs.map (·.1)) s H fp C) [] (none::aG σ cs) H { s with heap:=h',toks:=t' }:=by
 refine ⟨⟨I.ok.mod,O.kind,I.ok.glob,I.ok.blt,hC,λ y z c h1 h2=>I.ok.inj y z c (O.sub y c h1) (O.sub z c h2),λ y hy=>O.has y hy,λ _ _ h=>absurd (h) Zf,I.ok.hd,I.ok.frames,.inl rfl,
   λ b hb=>⟨Zx (Zv (there b hb) hC),λ y c e=>(f2 b hb).2.2.2.2.1 y c (O.sub y c e)⟩,I.bs,Z2 I.ok.bsz I.sz,λ b o e hb=>?_,λ b hb z=>?_,I.stack,I.pA⟩,
  rfl,I.bare,Un.kept old,⟨_,hn,λ i y v e1 e2 e3=>?_⟩,λ y c e=>?_,I.hok.fresh hC,λ y c e=>I.j9 y c (O.sub y c e),λ p hp=>absurd (show p ∈ ([]:List (Addr×Obj)) from hp) (by simp),I.hok.kept old,?_⟩
 ·rcases (f2 b hb).2.2.2.1 with z | z
  · exact I.ok.C8 b o e z
  · exact absurd (Zv (Zs e) (Z2 I.ok.bsz z)) (Ym _)
 · exact (Zi.mp (I.lq b z)).elim (f2 b hb).2.1 (f2 b hb).2.2.1
 ·cases i with
  | zero=>simp at e2
  | succ j =>
   have e1':(cs.map (·.1))[j]?=some y:=by simpa [bW] using e1
   have e2':(aG σ cs)[j]?=some (some v):=by simpa using e2
   unfold aG at e2';rw [List.getElem?_map] at e1' e2'
   cases q:cs[j]? with
   | none=>rw [q] at e1'; cases e1'
   | some p =>
    rw [q] at e1' e2';have ey:p.1=y:=by simpa using e1'
    have ev:(σ[p.2]?).join=some v:=by simpa using e2'
    have ev':σ[p.2]?=some (some v):=by
     cases z:σ[p.2]? with
     | none=>rw [z] at ev; cases ev
     | some o=>rw [z] at ev; exact Z9 some ev
    obtain ⟨c1,c2,c3⟩:=O.Dk p (List.mem_of_getElem? q);subst ey;obtain ⟨m,hm,hl⟩:=I.loc
    obtain ⟨u,ru,lk⟩:=hl p.2 p.1 v c1 ev' (by
     rcases c2 with c2 | c2
     · exact .inr (.inl c2)
     · exact .inr (.inr c2))
    obtain ⟨c',ec'⟩:=O.has p.1 c3;refine ⟨u,ru,.inr ⟨c3,c',ec',?_⟩⟩;rcases lk with ⟨k,_⟩ | ⟨_,c,ec,o,ho,hd⟩
    ·rcases c2 with c2 | c2
     · rw [c2] at k; cases k
     · rw [c2] at k; cases k
    ·have:=O.sub p.1 c' ec'
     rw [ec] at this;cases this;exact ⟨o,old _ o ho,hd⟩
 ·obtain ⟨v,o,ho,hd⟩:=I.cell y c (O.sub y c e)
  exact ⟨v,o,old c o ho,hd⟩
 · simp [bW,aG]
end
def DF (J:It) (te:TE) (cs:List (Str×Nat)) (σ:St) (Q:VK) (H1:Hp):Prop:=∃ W:Nat->Nat->List V->Hp->Prop,(∃ m,W 0 m [] H1)/\∀ i m ys H',W i m ys H' ->
 (J.stop i H'/\ys.length<=sizeLine/\∀ p,H' p=none->Q (.ref p) (upd H' p (.lst ys))) \/
 (J.go i H'/\ys.length < sizeLine/\∀ v H2,J.yld i H' v H2->te (some v::aG σ cs) H2 λ y H3=>∃ m',m' < m/\W (i+1) m' (ys++[y]) H3)
def xG (wi:TI) (te:TE) (cs:List (Str×Nat)):TE:=λ σ H Q=>wi σ H λ J H1=>DF J te cs σ Q H1
section
variable {X:Cx}
theorem oB {elt iter:Expr} {x:Str} {px pos:Pos} {scope:Scope} {cs:List (Str×Nat)} {te:TE} {pins:List (Addr×Obj)} {σ:St} {H:Hp} {s s1:Shared} {Q:VK} {it:Addr} {fp:List Addr} {tn:Nat->Heap->Prop} {J:It}
  {RR:Value->Addr->Result->Shared->Prop} {Y:Cx} {ev:Env} {C D:Addr} {W:Nat->Nat->List V->Hp->Prop} {m0:Nat} (hc:X.calm=true)
  (I:Inv X pins σ H s) (T:Turn X.prog X.w X.K (.Name x px) J fp it tn) (f2:∀ b ∈ fp,pj X pins H b) (there:∀ b ∈ fp,b < s.heap.objs.size) (w0:W 0 m0 [] H)
  (turn:∀ i m ys H',W i m ys H' ->
    (J.stop i H'/\ys.length<=sizeLine/\∀ p,H' p=none->Q (.ref p) (upd H' p (.lst ys))) \/
    (J.go i H'/\ys.length < sizeLine/\∀ v H2,J.yld i H' v H2->te (some v::aG σ cs) H2 λ y H3=>∃ m',m' < m/\W (i+1) m' (ys++[y]) H3))
  (hRR:∀ D C s' H' ys,s.heap.objs.size<=D->s.heap.objs.size<=C->D≠C->(∃ m,s'.heap.Ns C m)->Inv X pins σ (upd H' D (.lst ys)) s'->H' C=none->Q (.ref D) (upd H' D (.lst ys))->RR (.ref D) C (.ok .next) s')
  (hD:s.heap.objs.size=D) (hDC:D≠C) (hCle:D<=C) (st1:tn 0 s1.heap) (hacc:s1.heap.get? D=some { cls:=.type "list",data:=.seq ([]:List Value).toArray 0 }) (I1:Inv Y [] (none::aG σ cs) H s1) (pgx:PG Y (.Name x px) (k6 0)) (peY:PE Y elt te)
  (Yx:Y.prog=X.prog/\Y.w=X.w/\Y.K=X.K/\Y.A=X.A/\Y.env=ev/\Y.calm=X.calm/\Y.xe=(λ _ _=>False)/\Y.pn=[]/\Y.ex=fp/\Y.fs=frs X.stack/\Y.s₀=s/\Y.H₀=H) (yl0:ev.locals=C) (yc:∀ z c,Y.env.cells.lookup z=some c->D < c\/X.env.cells.lookup z=some c) :
  codeAny (model X.prog X.w) X.A (.compStart (.ListComp elt [⟨.Name x px,iter,[],0⟩] scope pos) 0 (.ref it) (.ref D) ev) (RR (.ref D) C) s1:=by
 have FD:=I.tK (b:=D) (by rw [<- hD]; exact Zl _) (I.hok.fresh (by rw [<- hD]; exact Zl _));have nfpD:∀ b ∈ fp,b≠D:=λ b hb=>by rw [<- hD]; exact Zx (there b hb)
 have nfpC:∀ b ∈ fp,b≠C:=λ b hb=>Zx (Zv (there b hb) (by rw [hD]; exact hCle))
 obtain ⟨y1,y2,y3,y4,y5,y6,y7,y8,y9,y10,y11,y12⟩:=Yx;have nstk:∀ b,b≠X.env.locals->b ∉ X.fs->b ∉ Y.fs:=λ b h1 h2 z=>by rw [y10] at z; exact (Zi.mp (I.lq b z)).elim h1 h2
 have yl:Y.env.locals=C:=by rw [y5]; exact yl0
 have stat:∀ {ps:List (Addr×Obj)} {H':Hp},(∀ b ∈ fp,H' b=none)->(∀ p ∈ ps,p.1=D)->∀ b ∈ fp,pj Y ps H' b:=λ {ps H'} hn hp b hb =>
  ⟨hn b hb,by rw [yl]; exact nfpC b hb,nstk b (f2 b hb).2.1 (f2 b hb).2.2.1,.inl (by rw [y9]; exact hb),λ z c e=>(yc z c e).elim (λ e=>Nat.ne_of_gt (Nat.lt_trans (hD ▸ there b hb) e)) ((f2 b hb).2.2.2.2.1 z c),λ p hq=>by
    rw [y8,List.nil_append] at hq;rw [hp p hq]
    exact Ne.symm (nfpD b hb)⟩
 have pinD:∀ {σ':St} {H':Hp} {s':Shared} {ob:Obj},Inv Y [] σ' H' s'->H' D=none->s'.heap.get? D=some ob->(∀ v,ob.data≠.cell v)->Inv Y [(D,ob)] σ' H' s':=λ {σ' H' s' ob} I' hn e hd =>
  I'.gK λ p hp=>by
    have e1:p=(D,ob):=by simpa using hp
    subst e1;exact ⟨e,hn,by rw [yl]; exact hDC,nstk D FD.2.1 FD.2.2.1,hd⟩
 have loop:∀ s₃:Shared,s₃=s1 ->
    codeAny (model X.prog X.w) X.A (.compLoop (.ListComp elt [⟨.Name x px,iter,[],0⟩] scope pos) 0 (.ref it) (.ref D) ev) (RR (.ref D) C) s₃:=by
  rintro s₃ rfl
  refine oH (λ n s'=>∃ i o H' ys its k,Inv Y [] (o::aG σ cs) H' s'/\tn i s'.heap/\(∀ b ∈ fp,H' b=none)/\H' D=none/\s'.heap.get? D=some { cls:=.type "list",data:=.seq (its:List Value).toArray k }/\bG ys its/\W i n ys H') ?_ m0
    ⟨0,none,H,[],[],0,I1,st1,λ b hb=>(f2 b hb).1,FD.1,hacc,.nil,w0⟩
  rintro n s3 ⟨i,o,H3,ys,its,k,I3,st3,fr3,frD,e3,vs3,w3⟩
  have I3p:=pinD I3 frD e3 (by intro v z; cases z)
  have onlyD:∀ p ∈ [(D,({ cls:=.type "list",data:=.seq its.toArray k }:Obj))],p.1=D:=λ p hp=>by
    have e1:=Zr.mp hp;rw [e1]
  rcases turn i n ys H3 w3 with ⟨stop,hz,q⟩ | ⟨go,hz,step⟩
  · have dn:=T.done Y y1 y2 y3 (by rw [y6]; exact hc) i _ s3 (o::aG σ cs) H3 (λ _ _=>False) I3p (stat fr3 onlyD) st3 stop
    rw [y4] at dn;refine thn dn λ r s4 ⟨hr,I4⟩=>?_
    subst hr;obtain ⟨e4,_⟩:=I4.pin (D,_) (Zc _ (Zr.mpr rfl));have b4:=I4.base;rw [y9,y10,y11,y12] at b4;have hk4:=I4.hok;rw [y1,y2] at hk4;have hCn:H3 C=none:=by have:=I4.free; rw [yl] at this; exact this
    refine hRR D C s4 H3 ys (by rw [<- hD]; exact Zl _) (by rw [hD]; exact hCle) hDC (by obtain ⟨m,hm,_⟩:=I4.loc; rw [yl] at hm; exact ⟨m,hm⟩) ?_ hCn (q D frD);have neD:∀ b o,s.heap.get? b=some o->b≠D:=λ b o e=>by rw [<- hD]; exact Zx (Zs e)
    have neDH:∀ b u,H b=some u->b≠D:=λ b u e=>by rw [<- hD]; exact Zx (I.hok.lt e)
    refine I.FT (by have:=I4.os; rw [y11] at this; exact this) ⟨b4.keep,b4.slot,λ b o e n hx=>?_,b4.there,λ b xs e=>?_,λ b o u e=>?_,λ b ps e=>?_⟩ (λ b u e=>?_) I4.bare λ b hb=>?_
    · rw [ar (neD b o e)]; exact b4.free b o e n hx
    · rw [ar (neDH b _ e)]; exact b4.xr b xs e
    · rw [ar (neDH b _ e)]; exact b4.wc b o u e
    · rw [ar (neDH b _ e)]; exact b4.xt b ps e
    ·have t1:∀ c u,H3 c=some u->upd H3 D (.lst ys) c=some u:=λ c u z=>by
      rw [ar (λ zz=>by rw [zz,frD] at z; cases z)];exact z
     by_cases hb:b=D
     ·subst hb
      rw [aw] at e;cases e;exact ⟨hz,its,k,vs3,e4⟩
     ·rw [ar hb] at e
      exact (hk4 b u e).ux (λ _ _ _ z=>z) (λ c z=>t1 c _ z) λ c xs z=>t1 c _ z
    · exact ⟨(f2 b hb).2.2.2.1,(f2 b hb).2.1,(f2 b hb).2.2.2.2.1,(f2 b hb).2.2.2.2.2⟩
  · have im:=T.item Y y1 y2 y3 (by rw [y6]; exact hc) i _ s3 (o::aG σ cs) H3 (λ _ _=>False) I3p (stat fr3 onlyD) st3 go
    rw [y4] at im;refine thn im λ r s4 ⟨u,hr,h4⟩=>?_
    subst hr;refine thn h4 λ _ s5 ⟨v,H5,I5,r5,y5',st5,fr5⟩=>?_
    have I5':=I5.pinned (stat fr5 onlyD) (T.obj _ _ st5);have as:=pgx _ s5 (o::aG σ cs) H5 v u _ I5' r5 (show k6 0 v (o::aG σ cs) H5 (λ σ' H'=>σ'=some v::aG σ cs/\H'=H5) from ⟨rfl,rfl⟩);rw [y1,y2,y4,y5,y7] at as;refine thn as λ _ s6 ⟨σ6,H6,I6,e6,e6'⟩=>?_
    subst e6 e6';have el:=peY _ s6 _ H6 _ I6 (step v H6 y5');rw [y1,y2,y4,y5,y7] at el;refine thn el λ u7 s7 ⟨y7',H7,I7,r7,m',hm',w7⟩=>?_
    obtain ⟨e7,n7,_⟩:=I7.pin (D,_) (Zc _ (Zp _ (Zr.mpr rfl)));have hl3:=vs3.length;refine Xq F.slot_list_append ⟨_,e7,rfl⟩ F.entry_list_append (F.args_list_append_2 _ _) (PySem.list_append D its.toArray k u7 (by rw [Zt]; omega)) ⟨e7,?_⟩;obtain ⟨k',up⟩:∃ k',(s7.heap.update D (Obj.mapSeq (·.push u7))).get? D=some { cls:=.type "list",data:=.seq (its.toArray.push u7) k' }:=⟨_,PySem.IsL.update e7 (·.push u7)⟩
    have fpk:∀ b ∈ fp,∀ o,s5.heap.get? b=some o->s7.heap.get? b=some o/\H7 b=none:=λ b hb o e=>by
     obtain ⟨z1,z2,_⟩:=I7.pin (b,o) (Zc _ (Zc _ (eL hb e)));exact ⟨z1,z2⟩
    have I7n:Inv Y [] (some v::aG σ cs) H7 s7:=I7.gK λ p hp=>absurd hp (by simp)
    refine ⟨m',hm',i+1,some v,H7,ys++[y7'],its++[u7],k',?_,?_,?_,n7,?_,vs3.append (.cons r7 .nil),w7⟩
    ·refine I7n.turned (λ b o hb e=>(Heap.get?_update_other s7.heap (Obj.mapSeq (·.push u7)) (Ne.symm hb)).trans e) n7 (by rw [yl]; exact hDC) (.inr (by rw [y11,<- hD]; exact Zl _)) (λ z c e=>(yc z c e).elim Nat.ne_of_gt (FD.2.2.2.2.1 z c)) λ p hp=>?_
     rw [y8] at hp;exact absurd hp (by simp)
    ·refine T.keep _ _ _ st5 λ b hb o e=>?_
     exact (Heap.get?_update_other s7.heap (Obj.mapSeq (·.push u7)) (Ne.symm (nfpD b hb))).trans (fpk b hb o e).1
    ·intro b hb
     obtain ⟨o',e',_⟩:=T.obj _ _ st5 b hb;exact (fpk b hb o' e').2
    ·rw [List.push_toArray] at up
     exact up
 exact codeAny_compStart_list (loop _ rfl) (T.self _ 0 _ _ _ st1 (loop _ rfl))
theorem lP {elt iter:Expr} {x:Str} {px pos:Pos} {scope:Scope} {cl:List (Str×Addr)} {cs:List (Str×Nat)} {te:TE} {pins:List (Addr×Obj)} {σ:St} {H:Hp} {s:Shared} {Q:VK} {it:Addr} {fp:List Addr} {tn:Nat->Heap->Prop} {J:It}
  {RR:Value->Addr->Result->Shared->Prop} {E:Value->Shared->Prop} (hc:X.calm=true) (O:cY X scope cl x cs) (he:∀ s H fp C,PE (bW X scope cl (x::cs.map (·.1)) s H fp C) elt te)
  (I:Inv X pins σ H s) (T:Turn X.prog X.w X.K (.Name x px) J fp it tn) (st:tn 0 s.heap) (f2:∀ b ∈ fp,pj X pins H b)
  (h : ∃ W:Nat->Nat->List V->Hp->Prop,(∃ m,W 0 m [] H)/\∀ i m ys H',W i m ys H' ->
    (J.stop i H'/\ys.length<=sizeLine/\∀ p,H' p=none->Q (.ref p) (upd H' p (.lst ys))) \/
    (J.go i H'/\ys.length < sizeLine/\∀ v H2,J.yld i H' v H2->te (some v::aG σ cs) H2 λ y H3=>∃ m',m' < m/\W (i+1) m' (ys++[y]) H3))
  (hRR:∀ D C s' H' ys,s.heap.objs.size<=D->s.heap.objs.size<=C->D≠C->(∃ m,s'.heap.Ns C m)->Inv X pins σ (upd H' D (.lst ys)) s'->H' C=none->Q (.ref D) (upd H' D (.lst ys))->RR (.ref D) C (.ok .next) s') :
  wpAny (model X.prog X.w) X.A (newList []) (λ acc s₃=>wpAny (model X.prog X.w) X.A (newFunctionEnv scope X.env.globals cl [] X.env.qual none .none (some X.env)) (λ cenv s₄ =>
    codeAny (model X.prog X.w) X.A (.compStart (.ListComp elt [⟨.Name x px,iter,[],0⟩] scope pos) 0 (.ref it) acc { cenv with scope:=relabel scope X.env }) (RR acc cenv.locals) s₄) E s₃) E s:=by
 obtain ⟨W,⟨m0,w0⟩,turn⟩:=h;refine Xw (wpAny_newFunctionEnv O.rz (by intro y hy; simp at hy) (λ h₁ hns₁ hsb₁=>?_) O.kind);generalize hH2:s.heap.push { cls:=.type "list",dict:=none,data:=.seq ([]:List Value).toArray }=H2 at hns₁ hsb₁ ⊢
 have hC:H2.objs.size=s.heap.objs.size+1:=by rw [<- hH2,Y7]
 have hDC:s.heap.objs.size≠H2.objs.size:=by rw [hC]; exact Zx (Xa _)
 have hCle:s.heap.objs.size<=H2.objs.size:=by rw [hC]; exact Nat.le_succ _
 have neC:∀ b,b < s.heap.objs.size->b≠H2.objs.size:=λ b hb=>by rw [hC]; exact Zx (Nat.lt_succ_of_lt hb)
 have old:∀ b o,s.heap.get? b=some o->h₁.get? b=some o:=λ b o e=>hsb₁.extBut b o (neC b (Zs e)) (Heap.get?_push_of_some _ (hH2 ▸ Heap.get?_push_of_some _ e))
 have hacc:=hsb₁.extBut _ _ hDC (Heap.get?_push_of_some _ (hH2 ▸ Heap.get?_push_size _ rfl))
 have there:∀ b ∈ fp,b < s.heap.objs.size:=λ b hb=>by
  obtain ⟨o,e,_⟩:=T.obj _ _ st b hb;exact Zs e
 have hns:h₁.Ns H2.objs.size λ _=>none:=by
  have e:(λ x=>List.lookup x ([]:List (Str×Value)).reverse)=λ _=>none:=by funext y; rfl
  rw [e] at hns₁
  exact hns₁
 generalize hD:s.heap.objs.size=D at hDC hCle hacc;generalize hCC:H2.objs.size=C at hDC hCle hns ⊢;have st1:=T.keep _ _ _ st λ b _ o e=>old b o e
 have I1:Inv (bW X scope cl (x::cs.map (·.1)) s H fp C) [] (none::aG σ cs) H { s with heap:=h₁,toks:=s.toks+([]:List (Str×Value)).length } :=
  lO O I f2 there (by rw [hD]; exact hCle) old hns
 exact oB hc I T f2 there w0 turn hRR hD hDC hCle st1 hacc I1 (gL O.nd rfl (.inl (Xy O.own)) (.inr (Xy O.own))) (he _ _ _ _) ⟨rfl,rfl,rfl,rfl,rfl,rfl,rfl,rfl,rfl,rfl,rfl,rfl⟩ rfl λ z c e=>.inr (O.sub z c e)
theorem A8 {elt iter:Expr} {x:Str} {px pos:Pos} {scope:Scope} {cl:List (Str×Addr)} {cs:List (Str×Nat)} {wi:TI} {te:TE} (hc:X.calm=true) (O:cY X scope cl x cs) (hi:PI X (.Name x px) iter wi)
  (he:∀ s H fp C,PE (bW X scope cl (x::cs.map (·.1)) s H fp C) elt te) (hs:∀ x,foldedSetIterable iter X.env x=pure x:=by intro _; rfl) :
  PE X (.ListComp elt [⟨.Name x px,iter,[],0⟩] scope pos) (xG wi te cs):=by
 intro pins s σ H Q I h;rw [eval_ListComp];refine Y5 rfl hs O.ze O.kind O.names (thn (hi pins s σ H _ I h) λ v s1 h1=>thn h1 λ itv s2 h2=>?_);obtain ⟨it,fp,tn,J,H2,rfl,I2,T,st2,f2,hw⟩:=h2;refine lP hc O he I2 T st2 f2 hw λ D C s' H' ys hD hC hDC ⟨m,hm⟩ I' hn q=>?_
 refine ⟨m,hm,λ h' hs'=>?_⟩;have hn':upd H' D (.lst ys) C=none:=by rw [ar (Ne.symm hDC)]; exact hn
 have FC:=I2.tK hC hn';exact ⟨.ref D,upd H' D (.lst ys),I'.turned (λ b o hb e=>(hs'.2 b hb).trans e) hn' FC.2.1 FC.2.2.2.1 FC.2.2.2.2.1 FC.2.2.2.2.2,rfl,q⟩
theorem AW {elt iter:Expr} {x y:Str} {px py pos spos:Pos} {i:Nat} {scope:Scope} {cl:List (Str×Addr)} {cs:List (Str×Nat)} {wi:TI} {te:TE} (hN:X.N.Nodup) (hy:X.N[i]?=some y) (hx:Loc X.env.scope y)
  (hc:X.calm=true) (O:cY X scope cl x cs) (hi:PI X (.Name x px) iter wi)
  (he:∀ s H fp C,PE (bW X scope cl (x::cs.map (·.1)) s H fp C) elt te) (hs:∀ x,foldedSetIterable iter X.env x=pure x:=by intro _; rfl)
  (hsw:swapsWith (.ListComp elt [⟨.Name x px,iter,[],0⟩] scope pos) (some (.Name y py)) spos.line X.env=pure true:=by rfl)
  (hf:X.fn y=true\/X.env.scope.names.lookup y=some .local:=by first | exact .inl rfl | exact .inr rfl | assumption) :
  PS X (.Assign [.Name y py] (.ListComp elt [⟨.Name x px,iter,[],0⟩] scope pos) spos) (HH (xG wi te cs) (k6 i)):=by
 intro pins s σ H Dd I h;rw [exec_Assign_Name_used _ _ _ _ hsw];refine Zo (wpAny_standAt (Zo ?_))
 refine Zo (Yr (Y5 rfl hs O.ze O.kind O.names (thn (hi pins s σ H _ I h) λ v s1 h1=>thn h1 λ itv s2 h2=>?_))
  (λ _ s' hq=>Z3 (Z3 hq)) λ _ _ e=>e)
 obtain ⟨it,fp,tn,J,H2,rfl,I2,T,st2,f2,hw⟩:=h2;refine lP (Q:=λ v H1=>k6 i v σ H1 Dd.nx) hc O he I2 T st2 f2 hw λ D C s' H' ys hD hC hDC ⟨m,hm⟩ I' hn q=>?_
 have hn':upd H' D (.lst ys) C=none:=by rw [ar (Ne.symm hDC)]; exact hn
 have FC:=I2.tK hC hn';refine wpAny_assign_Name (jG I' hN hy hx (v:=.ref D) rfl (λ s'' I'' ⟨a,hsb,ha⟩=>?_) hf)
 have na:C≠a:=by
  rcases ha with ha | ha
  · rw [ha]; exact FC.2.1
  · exact Ne.symm (FC.2.2.2.2.1 y a ha)
 refine ⟨m,hm.sameBut hsb na,λ h' hs'=>?_⟩;exact ⟨σ.set i (some (.ref D)),upd H' D (.lst ys),I''.turned (λ b o hb e=>(hs'.2 b hb).trans e) hn' FC.2.1 FC.2.2.2.1 FC.2.2.2.2.1 FC.2.2.2.2.2,q⟩
end
theorem CI (h1:scope.kind=.function) (h2:∀ y ∈ scope.names,y.2≠.cell) (h3:∀ y ∈ scope.names,y.2≠.free) (h4:∀ y ∈ scope.names,y.2=.local->scope.names.lookup y.1=some .local) (h5:scope.names.lookup x=some .local) :
  cY X scope [] x [] where
 ze:=closureFor_none h3
 kind:=h1
 rz:=h2
 names:=h4
 own:=h5
 sub:=λ _ _ e=>by cases e
 has := λ y hy=>by
  have rel:(relabel scope X.env).names=scope.names:=by
   exact map_eq_self λ z hz=>by
    obtain ⟨n,k⟩:=z;have:(k == NameKind.free)=false:=by simpa using h3 _ hz
    simp [this]
  rw [rel] at hy;rcases hy with hy | hy
  · exact absurd rfl (h2 _ (Yg hy))
  · exact absurd rfl (h3 _ (Yg hy))
 Dk:=λ _ h=>by cases h
 nd:=by simp
section
variable {κ:Type} [DecidableEq κ]
def cH (kvs:List (κ×V)) (k:κ):Option V:=(kvs.find? λ kv=>decide (kv.1=k)).map (·.2)
def putK (kvs:List (κ×V)) (k:κ) (v:V):List (κ×V) :=
 if (kvs.any λ kv=>decide (kv.1=k))=true then kvs.map (λ kv=>if kv.1=k then (kv.1,v) else kv) else kvs++[(k,v)]
def qq (kvs:List (κ×V)) (k:κ):List (κ×V):=kvs.filter λ kv=>decide (kv.1≠k)
theorem b6 {p:κ×V} {r:List (κ×V)} {k:κ} (e:p.1=k):cH (p::r) k=some p.2:=by simp [cH,List.find?_cons,e]
theorem b7 {p:κ×V} {r:List (κ×V)} {k:κ} (e:¬ p.1=k):cH (p::r) k=cH r k:=by simp [cH,List.find?_cons,e]
theorem gu (k:κ):∀ kvs:List (κ×V),(kvs.any λ kv=>decide (kv.1=k))=(cH kvs k).isSome
 | []=>rfl
 | p::r=>by
  rw [Y4]
  by_cases e:p.1=k
  · simp only [b6 e,Zq e,Bool.true_or,Option.isSome_some]
  · rw [b7 e,Zn e,Bool.false_or]; exact gu k r
theorem qL (k j:κ) (y:V):∀ kvs:List (κ×V),cH (kvs.map λ kv=>if kv.1=k then (kv.1,y) else kv) j=(cH kvs j).map λ x=>if j=k then y else x
 | []=>rfl
 | p::r=>by
  have ih:=qL k j y r;rw [Zh]
  by_cases h:p.1=k
  ·rw [if_pos h]
   by_cases e:p.1=j
   · rw [b6 (p:=(p.1,y)) e,b6 e,Xs,if_pos (e.symm.trans h)]
   · rw [b7 (p:=(p.1,y)) e,b7 e,ih]
  ·rw [if_neg h]
   by_cases e:p.1=j
   · rw [b6 (p:=p) e,b6 e,Xs,if_neg (λ z=>h (e.trans z))]
   · rw [b7 (p:=p) e,b7 e,ih]
theorem m3 (k j:κ) (y:V):∀ kvs:List (κ×V),cH kvs k=none->cH (kvs++[(k,y)]) j=if j=k then some y else cH kvs j
 | [],_=>by
  by_cases e:k=j
  · rw [if_pos e.symm]; exact b6 (p:=(k,y)) e
  · rw [if_neg (λ z=>e z.symm)]; exact b7 (p:=(k,y)) e
 | p::r,hn=>by
  rw [List.cons_append];have hk:¬ p.1=k:=λ z=>by rw [b6 z] at hn; cases hn
  rw [b7 hk] at hn;have ih:=m3 k j y r hn
  by_cases e:p.1=j
  · rw [b6 e,b6 e,if_neg (λ z=>hk (e.trans z))]
  · rw [b7 e,b7 e,ih]
theorem xD (kvs:List (κ×V)) (k j:κ) (y:V):cH (putK kvs k y) j=if j=k then some y else cH kvs j:=by
 unfold putK
 by_cases a:(kvs.any λ kv=>decide (kv.1=k))=true
 ·rw [if_pos a,qL]
  rw [gu] at a
  by_cases e:j=k
  ·obtain ⟨x,hx⟩:=Yu.mp a
   rw [if_pos e,e,hx,Xs,if_pos rfl]
  ·rw [if_neg e]
   cases cH kvs j with
   | none=>rfl
   | some x=>rw [Xs,if_neg e]
 ·rw [if_neg a]
  refine m3 k j y kvs ?_
  rw [gu] at a
  cases q:cH kvs k with
  | none=>rfl
  | some x=>rw [q] at a; exact (a rfl).elim
theorem gO (kvs:List (κ×V)) (k:κ) (v:V):(putK kvs k v).length<=kvs.length+1:=by
 unfold putK;split
 · rw [Za]; omega
 · rw [Z0,Zy,X5]; omega
theorem pe.fS {o:Option V} {u:Option Value} (r:pe o u):o.isSome=u.isSome:=by
 cases o with
 | none=>cases u with
  | none=>rfl
  | some _=>exact (show False from r).elim
 | some _=>cases u with
  | none=>exact (show False from r).elim
  | some _=>rfl
theorem KV.val {kvs:List (κ×V)} {vs:List (κ×Value)} (r:KV kvs vs) (k:κ):pe (cH kvs k) (valueAt vs k):=by
 unfold KV at r
 induction r with
 | nil=>exact True.intro
 | @cons p q ps qs h t ih =>
  obtain ⟨h1,h2⟩:=h
  by_cases e:p.1=k
  ·have e':q.1=k:=h1.symm.trans e
   have b:valueAt (q::qs) k=some q.2:=by simp [valueAt,List.find?_cons,e']
   rw [b6 e,b]; exact h2
  ·have e':¬ q.1=k:=λ z=>e (h1.trans z)
   have b:valueAt (q::qs) k=valueAt qs k:=by simp [valueAt,List.find?_cons,e']
   rw [b7 e,b]; exact ih
theorem KV.any {kvs:List (κ×V)} {vs:List (κ×Value)} (r:KV kvs vs) (k:κ):(kvs.any λ kv=>decide (kv.1=k))=vs.any λ kv=>decide (kv.1=k):=by
 unfold KV at r
 induction r with
 | nil=>rfl
 | cons h t ih=>rw [Y4,Y4,ih,h.1]
theorem KV.HQ {kvs:List (κ×V)} {vs:List (κ×Value)} (r:KV kvs vs) (k:κ) {y:V} {u:Value} (ry:RelV y u) :
  KV (kvs.map λ kv=>if kv.1=k then (kv.1,y) else kv) (vs.map λ kv=>if kv.1=k then (kv.1,u) else kv):=by
 unfold KV at r ⊢
 induction r with
 | nil=>exact .nil
 | @cons p q ps qs h t ih =>
  rw [Zh,Zh];refine .cons ?_ ih;obtain ⟨h1,h2⟩:=h
  by_cases e:p.1=k
  · rw [if_pos e,if_pos (h1.symm.trans e)]; exact ⟨h1,ry⟩
  · rw [if_neg e,if_neg (λ z=>e (h1.trans z))]; exact ⟨h1,h2⟩
theorem KV.put {kvs:List (κ×V)} {vs:List (κ×Value)} (r:KV kvs vs) (k:κ) {y:V} {u:Value} (ry:RelV y u):KV (putK kvs k y) (stored vs k u):=by
 unfold putK stored;rw [r.any k]
 by_cases e:(vs.any λ kv=>decide (kv.1=k))=true
 · rw [if_pos e,if_pos e]; exact r.HQ k ry
 · rw [if_neg e,if_neg e]; exact Paired.snoc r ⟨rfl,ry⟩
theorem KV.drop {kvs:List (κ×V)} {vs:List (κ×Value)} (r:KV kvs vs) (k:κ):KV (qq kvs k) (without vs k):=by
 unfold KV at r ⊢;unfold qq without
 induction r with
 | nil=>exact .nil
 | @cons p q ps qs h t ih =>
  obtain ⟨h1,h2⟩:=h;rw [List.filter_cons,List.filter_cons]
  by_cases e:p.1=k
  ·have a:¬ decide (p.1≠k)=true:=by simp [e]
   have b:¬ decide (q.1≠k)=true:=by simp [h1.symm.trans e]
   rw [if_neg a,if_neg b]; exact ih
  ·have e':¬ q.1=k:=λ z=>e (h1.trans z)
   have a:decide (p.1≠k)=true:=by simp [e]
   have b:decide (q.1≠k)=true:=by simp [e']
   rw [if_pos a,if_pos b]; exact .cons ⟨h1,h2⟩ ih
theorem KV.length {kvs:List (κ×V)} {vs:List (κ×Value)} (r:KV kvs vs):kvs.length=vs.length:=Paired.length r
theorem yY (kvs:List (κ×V)) (k:κ):(qq kvs k).length<=kvs.length:=Y2 _ _
end
theorem p9 {P:Program} {w:World} {k:Key} {u:Value} (r:RelV (kV k) u):(bO P w).is k u=true:=by
 cases k with
 | inl i=>obtain ⟨t,e⟩:=(show ∃ t,u=Value.int i t from r); subst e; exact pW P w i t
 | inr x=>obtain ⟨t,e⟩:=(show ∃ t,u=Value.str x t from r); subst e; exact pV P w x t
theorem nW {P:Program} {w:World}:∀ {ks:List Key} {us:List Value},bG (ks.map kV) us->ItemsAre (bO P w) ks us
 | [],_,r=>by rw [List.map_nil] at r; cases r; exact .nil
 | k::ks,_,r=>by
  rw [Zh] at r
  cases r with
  | cons h t=>exact .cons (p9 h) (nW t)
abbrev KT (H:Hp):List (List Key×V)->List (List Key×Addr×Value)->Prop:=Paired λ p q=>p.1=q.1/\H q.2.1=some (.tup (p.1.map kV))/\RelV p.2 q.2.2
theorem KT.val {H:Hp} {kvs:List (List Key×V)} {xs:List (List Key×Addr×Value)} (r:KT H kvs xs) (k:List Key):pe (cH kvs k) ((atKey xs k).map (·.2)):=by
 induction r with
 | nil=>exact True.intro
 | @cons p q ps qs h t ih =>
  obtain ⟨h1,_,h2⟩:=h
  by_cases e:p.1=k
  ·have e':q.1=k:=h1.symm.trans e
   have b:atKey (q::qs) k=some q.2:=by simp [atKey,List.find?_cons,e']
   rw [b6 e,b]; exact h2
  ·have e':¬ q.1=k:=λ z=>e (h1.trans z)
   have b:atKey (q::qs) k=atKey qs k:=by simp [atKey,List.find?_cons,e']
   rw [b7 e,b]; exact ih
theorem KT.HQ {H:Hp} {kvs:List (List Key×V)} {xs:List (List Key×Addr×Value)} (r:KT H kvs xs) (k:List Key) {y:V} {u:Value} (ry:RelV y u) :
  KT H (kvs.map λ kv=>if kv.1=k then (kv.1,y) else kv) (xs.map (putAt k u)):=by
 induction r with
 | nil=>exact .nil
 | @cons p q ps qs h t ih =>
  rw [Zh,Zh];refine .cons ?_ ih;obtain ⟨h1,h2,h3⟩:=h;unfold putAt
  by_cases e:p.1=k
  · rw [if_pos e,if_pos (h1.symm.trans e)]; exact ⟨h1,h2,ry⟩
  · rw [if_neg e,if_neg (λ z=>e (h1.trans z))]; exact ⟨h1,h2,h3⟩
theorem KT.put {H:Hp} {kvs:List (List Key×V)} {xs:List (List Key×Addr×Value)} (r:KT H kvs xs) (k:List Key) {b:Addr} {y:V} {u:Value} (hb:H b=some (.tup (k.map kV))) (ry:RelV y u) :
  KT H (putK kvs k y) (storedH xs k b u):=by
 have e:(kvs.any λ kv=>decide (kv.1=k))=(atKey xs k).isSome:=by
  rw [gu,(r.val k).fS,Option.isSome_map]
 unfold putK storedH;rw [e]
 by_cases q:(atKey xs k).isSome=true
 · rw [if_pos q,if_pos q]; exact r.HQ k ry
 · rw [if_neg q,if_neg q]; exact Paired.snoc r ⟨rfl,hb,ry⟩
theorem KT.keeps {H H':Hp} {kvs:List (List Key×V)} {xs:List (List Key×Addr×Value)} (r:KT H kvs xs) (ht:∀ b ys,H b=some (.tup ys)->H' b=some (.tup ys)):KT H' kvs xs :=
 Paired.Kg r λ _ _ z=>⟨z.1,ht _ _ z.2.1,z.2.2⟩
section
variable {P:Program} {w:World} {H:Hp} {h:Heap} {a:Addr}
theorem DW {u:HO} (ok:HOk P w H h) (e:Rd H a u):cw P w H h a u:=e.ok ok
theorem qr {kvs:List (Key×V)} (ok:HOk P w H h) (e:Rd H a (.dK kvs)):kvs.length<=sizeLine/\(a == sysModules)=false/\∃ vs,KV kvs vs/\h.DictOf (bO P w) a vs :=
 show cw P w H h a (.dK kvs) from DW ok e
theorem yZ {kvs:List (Key×V)} (ok:HOk P w H h) (e:H a=some (.dK kvs)):kvs.length<=sizeLine/\(a == sysModules)=false/\∃ vs,KV kvs vs/\h.DictOf (bO P w) a vs:=qr ok (.inl e)
theorem nU {ks:List Key} (ok:HOk P w H h) (e:H a=some (.tup (ks.map kV))):(tupleKind (bO P w)).is h ks a:=by
 obtain ⟨_,its,r,o,h1,h2,n,h3⟩:=(show cw P w H h a (.tup (ks.map kV)) from ok a _ e)
 exact ⟨o,its.toArray,n,h1,h2,h3,by simpa using nW r⟩
theorem tV {kvs:List (List Key×V)} (ok:HOk P w H h) (e:Rd H a (.dT kvs)):kvs.length<=sizeLine/\(a == sysModules)=false /\
  ∃ xs,KT H kvs xs/\h.DictOfH (tupleKind (bO P w)) a xs:=by
 obtain ⟨z,y,xs,r,o,es,ep,h1,h2,h3,h4,h5⟩:=(show cw P w H h a (.dT kvs) from DW ok e)
 refine ⟨z,y,xs,r,o,es,ep,h1,h2,h3,h4,λ x hx=>?_,h5⟩
 have all:∀ {l:List (List Key×V)} {m:List (List Key×Addr×Value)},KT H l m->∀ x ∈ m,(tupleKind (bO P w)).is h x.1 x.2.1:=by
  intro l m q
  induction q with
  | nil=>intro x hx; exact nomatch hx
  | @cons p q ps qs hq t ih =>
   intro x hx;rcases Zi.mp hx with e | hx
   ·subst e
    exact nU ok (by rw [<- hq.1]; exact hq.2.1)
   · exact ih x hx
 exact all r x hx
theorem KC {kvs:List (List Key×V)} (ok:HOk P w H h) (e:H a=some (.dT kvs)):kvs.length<=sizeLine/\(a == sysModules)=false /\
 ∃ xs,KT H kvs xs/\h.DictOfH (tupleKind (bO P w)) a xs:=tV ok (.inl e)
end
def mW (H:Hp) (a:Addr) (y:V) (r:Option V):Prop :=
 (∃ kvs k,Rd H a (.dK kvs)/\y=kV k/\r=cH kvs k)\/∃ kvs k b,Rd H a (.dT kvs)/\y=.ref b/\H b=some (.tup (k.map kV))/\r=cH kvs k
def zt (H:Hp) (a:Addr) (y v:V) (H':Hp):Prop :=
 (∃ kvs k,H a=some (.dK kvs)/\y=kV k/\kvs.length < sizeLine/\H'=upd H a (.dK (putK kvs k v))) \/
 ∃ kvs k b,H a=some (.dT kvs)/\y=.ref b/\H b=some (.tup (k.map kV))/\kvs.length < sizeLine/\H'=upd H a (.dT (putK kvs k v))
theorem mW.k {H:Hp} {a:Addr} {kvs:List (Key×V)} {k:Key} (e:H a=some (.dK kvs)):mW H a (kV k) (cH kvs k):=.inl ⟨kvs,k,.inl e,rfl,rfl⟩
theorem mW.t {H:Hp} {a b:Addr} {kvs:List (List Key×V)} {k:List Key} (e:H a=some (.dT kvs)) (eb:H b=some (.tup (k.map kV))):mW H a (.ref b) (cH kvs k):=.inr ⟨kvs,k,b,.inl e,rfl,eb,rfl⟩
theorem zt.k {H:Hp} {a:Addr} {kvs:List (Key×V)} {k:Key} {v:V} (e:H a=some (.dK kvs)) (hl:kvs.length < sizeLine):zt H a (kV k) v (upd H a (.dK (putK kvs k v))):=.inl ⟨kvs,k,e,rfl,hl,rfl⟩
theorem zt.t {H:Hp} {a b:Addr} {kvs:List (List Key×V)} {k:List Key} {v:V} (e:H a=some (.dT kvs)) (eb:H b=some (.tup (k.map kV))) (hl:kvs.length < sizeLine) :
 zt H a (.ref b) v (upd H a (.dT (putK kvs k v))):=.inr ⟨kvs,k,b,e,rfl,eb,hl,rfl⟩
section
variable {X:Cx} {pins:List (Addr×Obj)} {σ:St} {H:Hp} {s:Shared} {a:Addr} {y v:V} {u r:Value} {o:Option V} {A:Around} {E:Value->Shared->Prop}
theorem Inv.big (I:Inv X pins σ H s):sysModules < s.heap.objs.size:=by
 have h:mainGlobals < s.heap.objs.size:=(I.mod.glob.keeps I.bk).lt;exact Nat.lt_trans (by decide) h
theorem wL {Q:Value->Shared->Prop} (hu:A.units+1 < cLine) (I:Inv X pins σ H s) (g:mW H a y (some v)) (ry:RelV y u) (h:∀ w' s',Inv X pins σ H s'->RelV v w'->Q w' s') :
  wpAny (model X.prog X.w) A (getItem (.ref a) u) Q E s:=by
 rcases g with ⟨kvs,k,e,ey,l⟩ | ⟨kvs,k,b,e,ey,eb,l⟩
 ·subst ey
  obtain ⟨z,hd,vs,rel,dd⟩:=qr I.hok e;obtain ⟨w',hw,rw'⟩:=pe.some_of (v:=v) (o:=valueAt vs k) (by rw [l]; exact rel.val k);exact wpAny_getItem_of (p9 ry) dd.mapOf hw (h w' _ (I.tok _) rw')
 ·subst ey
  cases (show u=Value.ref b from ry);obtain ⟨z,hd,xs,rel,dd⟩:=tV I.hok e;obtain ⟨w',hw,rw'⟩:=pe.some_of (v:=v) (o:=(atKey xs k).map (·.2)) (by rw [l]; exact rel.val k);obtain ⟨p,hp,hp2⟩:=Zm hw;refine wpAny_getItem_heap (tupleKind_room_in1 hu) (nU I.hok eb) dd hp ?_
  rw [hp2];exact h w' _ (I.tok _) rw'
theorem ND {Q:Value->Shared->Prop} (hu:A.units+1 < cLine) (I:Inv X pins σ H s) (g:mW H a y o) (ry:RelV y u) (h:∀ s',Inv X pins σ H s'->Q (.bool o.isSome) s') :
  wpAny (model X.prog X.w) A (compareOp .In u (.ref a)) Q E s:=by
 rcases g with ⟨kvs,k,e,ey,l⟩ | ⟨kvs,k,b,e,ey,eb,l⟩
 ·subst ey
  obtain ⟨z,hd,vs,rel,dd⟩:=qr I.hok e;refine wpAny_in_of (p9 ry) hd dd.mapOf ?_
  rw [<- (rel.val k).fS,<- l];exact h _ (I.tok _)
 ·subst ey
  cases (show u=Value.ref b from ry);obtain ⟨z,hd,xs,rel,dd⟩:=tV I.hok e;refine wpAny_in_heap (tupleKind_room_in1 hu) (nU I.hok eb) hd dd ?_
  have q:=(rel.val k).fS;rw [Option.isSome_map] at q;rw [<- q,<- l];exact h _ (I.tok _)
theorem CA {Q:Value->Shared->Prop} (hu:A.units+1 < cLine) (I:Inv X pins σ H s) (g:mW H a y o) (ry:RelV y u) (h:∀ s',Inv X pins σ H s'->Q (.bool (!o.isSome)) s') :
  wpAny (model X.prog X.w) A (compareOp .NotIn u (.ref a)) Q E s:=by
 rcases g with ⟨kvs,k,e,ey,l⟩ | ⟨kvs,k,b,e,ey,eb,l⟩
 ·subst ey
  obtain ⟨z,hd,vs,rel,dd⟩:=qr I.hok e;refine wpAny_notIn_of (p9 ry) hd dd.mapOf ?_
  rw [<- (rel.val k).fS,<- l];exact h _ (I.tok _)
 ·subst ey
  cases (show u=Value.ref b from ry);obtain ⟨z,hd,xs,rel,dd⟩:=tV I.hok e;refine wpAny_notIn_heap (tupleKind_room_in1 hu) (nU I.hok eb) hd dd ?_
  have q:=(rel.val k).fS;rw [Option.isSome_map] at q;rw [<- q,<- l];exact h _ (I.tok _)
theorem mC {h':Heap} {t':Nat} {ob:HO} (I:Inv X pins σ H s) (mu:Mut (H a)) (hs:Heap.SameBut a s.heap h') (he:∃ q,h'.get? a=some q) (new:cw X.prog X.w (upd H a ob) h' a ob) :
  Inv X pins σ (upd H a ob) { s with heap:=h',toks:=t' } :=
 I.write (x:=a) (e:=a) mu (.inl rfl) (λ b q hb z=>(hs.2 b hb).trans z) he new
theorem wF {P:Program} {w:World} {H':Hp} {h':Heap} {kvs:List (Key×V)} {vs:List (Key×Value)} (z:kvs.length<=sizeLine) (hd:(a == sysModules)=false) (rel:KV kvs vs) (dd:h'.DictOf (bO P w) a vs) :
 cw P w H' h' a (.dK kvs):=⟨z,hd,vs,rel,dd⟩
theorem wK {H':Hp} {Q:Unit->Shared->Prop} (hu:A.units+1 < cLine) (I:Inv X pins σ H s) (g:zt H a y v H') (ry:RelV y u) (rv:RelV v r) (h:∀ s',Inv X pins σ H' s'->Q () s') :
  wpAny (model X.prog X.w) A (setItem (.ref a) u r) Q E s:=by
 rcases g with ⟨kvs,k,e,ey,l,eH⟩ | ⟨kvs,k,b,e,ey,eb,l,eH⟩
 ·subst ey eH
  obtain ⟨z,hd,vs,rel,dd⟩:=yZ I.hok e;have hz:vs.length<=sizeLine:=by rw [<- rel.length]; exact z
  have hl:(putK kvs k v).length<=sizeLine:=by have:=gO kvs k v; omega
  refine wpAny_setItem_pairs (hsz:=hz) (p9 ry) dd λ h' dd' hs=>h _ ?_
  have he:∃ q,h'.get? a=some q:=let ⟨q,_,_,hq,_⟩:=dd'; ⟨q,hq⟩
  exact mC I (by rw [e]; exact True.intro) hs he (wF hl hd (rel.put k rv) dd')
 ·subst ey eH
  cases (show u=Value.ref b from ry);obtain ⟨z,hd,xs,rel,dd⟩:=KC I.hok e;have hz:xs.length<=sizeLine:=by rw [<- Paired.length rel]; exact z
  have hl:(putK kvs k v).length<=sizeLine:=by have:=gO kvs k v; omega
  refine wpAny_setItem_heap (hsz:=hz) (tupleKind_room_in1 hu) (nU I.hok eb) dd λ h' dd' hs=>h _ ?_
  obtain ⟨q,es,ep,hq,h2,h3,h4,_,h5⟩:=dd';refine mC I (by rw [e]; exact True.intro) hs ⟨q,hq⟩ ⟨hl,hd,_,(rel.put k eb rv).keeps λ c ys ec=>?_,q,es,ep,hq,h2,h3,h4,h5⟩;rw [ar (J1 ec e (λ z=>nomatch z))];exact ec
end
section
variable {X:Cx} {pins:List (Addr×Obj)} {σ:St} {H:Hp} {s:Shared} {a:Addr} {kvs:List (Key×V)} {k:Key} {u:Value} {A:Around} {E:Value->Shared->Prop}
theorem KD {v:V} {more:List Value} {Q:Value->Shared->Prop} (I:Inv X pins σ H s) (e:H a=some (.dK kvs)) (ry:RelV (kV k) u) (l:cH kvs k=some v) (hm:more=[]\/∃ x,more=[x])
  (h:∀ w' s',Inv X pins σ (upd H a (.dK (qq kvs k))) s'->RelV v w'->Q w' s'):wpAny (model X.prog X.w) A (call (.builtin "dict.pop") (.ref a::u::more)) Q E s:=by
 obtain ⟨z,hd,vs,rel,dd⟩:=yZ I.hok e;obtain ⟨w',hw,rw'⟩:=pe.some_of (v:=v) (o:=valueAt vs k) (by rw [<- l]; exact rel.val k)
 have hp:(keyPart u).isSome=true:=by
  cases k with
  | inl i=>obtain ⟨t,q⟩:=(show ∃ t,u=Value.int i t from ry); subst q; rfl
  | inr x=>obtain ⟨t,q⟩:=(show ∃ t,u=Value.str x t from ry); subst q; rfl
 have ha:argsOk "dict.pop" ⟨.ref a::u::more,[]⟩:=by
  rcases hm with q | ⟨x,q⟩
  · subst q; exact PySem.F.args_dict_pop_2 _ _
  · subst q; exact PySem.F.args_dict_pop_3 _ _ _
 refine call_meetsIn PySem.F.slot_dict_pop dd.typeIs PySem.F.entry_dict_pop ha (meets_dict_pop_there (bO X.prog X.w) a (p9 ry) more hm hp)
  ⟨vs,w',dd,by rw [<- rel.length]; exact z,hw,λ h' dd' hs=>h w' _ ?_ rw'⟩
 have he:∃ q,h'.get? a=some q:=let ⟨q,_,_,hq,_⟩:=dd'; ⟨q,hq⟩
 exact mC I (by rw [e]; exact True.intro) hs he (wF (Z2 (yY kvs k) z) hd (rel.drop k) dd')
theorem KG {Q:Value->Shared->Prop} (I:Inv X pins σ H s) (e:Rd H a (.dK kvs)) (h:∀ t s',Inv X pins σ H s'->Q (.int kvs.length t) s'):wpAny (model X.prog X.w) A (call (.builtin "len") [.ref a]) Q E s:=by
 obtain ⟨z,hd,vs,rel,dd⟩:=qr I.hok e;refine call_len_dict hd dd (by rw [<- rel.length]; rw [Y0] at z; omega) ?_
 rw [<- rel.length];exact h _ _ (I.tok _)
end
def Hj (i:Expr):Prop:=∀ ov iv,subscripted i false ov iv=operate [ov,iv] (getItem ov iv)
theorem AA {prog:Program} {w:World} {A:Around} {E:Value->Shared->Prop} {s:Shared} {env:Env} {value slice:Expr} {pos:Pos} {T id:String} {Q:Value->Shared->Prop}
  (hl:typeLookup (.type T) "__getitem__"=pure (some (.builtin id))) (hs:Hj slice)
  (h:wpAny (model prog w) A (eval value env) (λ o s₁=>wpAny (model prog w) A (eval slice env) (λ i s₂=>s₂.TypeIs o T/\wpAny (model prog w) A (getItem o i) Q E s₂) E s₁) E s) :
  wpAny (model prog w) A (eval (.Subscript value slice pos) env) Q E s:=by
 refine Subscript_ (Yr h (λ o s₁ h₁=>Yr h₁ (λ i s₂ h₂=>?_) λ _ _ x=>x) λ _ _ x=>x);obtain ⟨hT,h₂⟩:=h₂;unfold subscriptTail;refine Zo ?_
 rw [getitemInPython_of_ne hT.not_modules];refine Zo (wpAny_specialOf hT hl ?_)
 have fin:wpAny (model prog w) A (subscripted slice false o i) (λ r s₃=>wpAny (model prog w) A (letTemporaryGo value o r >>= λ _=>pure r) Q E s₃) E s₂:=by
  rw [hs o i];exact wpAny_operating (Yr h₂ (λ r s₃ h₃=>Zo (wpAny_letTemporaryGo (Z3 h₃))) λ _ _ x=>x)
 first
  | exact Z3 (Zo fin)
  | exact Zo (Z3 (Zo fin))
  | exact Zo fin
theorem qt {X:Cx} {pins:List (Addr×Obj)} {σ:St} {H:Hp} {s:Shared} {a:Addr} {y:V} {o:Option V} (I:Inv X pins σ H s) (g:mW H a y o):s.TypeIs (.ref a) "dict":=by
 rcases g with ⟨kvs,k,e,_,_⟩ | ⟨kvs,k,b,e,_,_,_⟩
 ·obtain ⟨_,_,vs,_,dd⟩:=qr I.hok e
  exact dd.typeIs
 ·obtain ⟨_,_,xs,_,dd⟩:=tV I.hok e
  exact dd.typeIs
def HG (td ty:TE):TE:=λ σ H Q=>td σ H λ x H1=>ty σ H1 λ y H2=>∃ a v,x=.ref a/\mW H2 a y (some v)/\Q v H2
def Mh (ty td:TE):TE:=λ σ H Q=>ty σ H λ y H1=>td σ H1 λ x H2=>∃ a o,x=.ref a/\mW H2 a y o/\Q (.bl o.isSome) H2
def Aw (ty td:TE):TE:=λ σ H Q=>ty σ H λ y H1=>td σ H1 λ x H2=>∃ a o,x=.ref a/\mW H2 a y o/\Q (.bl (!o.isSome)) H2
def HN (td ty tv:TE):TS:=λ D σ H=>tv σ H λ v H1=>td σ H1 λ x H2=>ty σ H2 λ y H3=>∃ a H4,x=.ref a/\zt H3 a y v H4/\D.nx σ H4
section
variable {X:Cx} {o i e value:Expr} {pos pos' tpos:Pos} {td ty tv:TE}
theorem pN (hu:X.A.units+1 < cLine) (ho:PE X o td) (hi:PE X i ty) (hs:Hj i):PE X (.Subscript o i pos) (HG td ty):=by
 intro pins s σ H Q I h;refine AA PySem.F.slot_dict_getitem.lookup hs (thn (ho pins s σ H _ I h) λ u s1 ⟨x,H1,I1,rx,q1⟩=>thn (hi pins s1 σ H1 _ I1 q1) λ iv s2 ⟨y,H2,I2,ry,a,v,ex,g,q2⟩=>?_);subst ex;obtain rfl:u=Value.ref a:=rx;exact ⟨qt I2 g,wL hu I2 g ry λ w' s3 I3 rw'=>⟨v,H2,I3,rw',q2⟩⟩
theorem Ec (hu:X.A.units+1 < cLine) (hi:PE X i ty) (ho:PE X o td):PC X .In i o (Mh ty td):=by
 intro pins s σ H Q I h;refine thn (hi pins s σ H _ I h) λ iv s1 ⟨y,H1,I1,ry,q1⟩=>thn (ho pins s1 σ H1 _ I1 q1) λ u s2 ⟨x,H2,I2,rx,a,ov,ex,g,q2⟩=>?_
 subst ex;obtain rfl:u=Value.ref a:=rx;exact ND hu I2 g ry λ s3 I3=>⟨.bl ov.isSome,H2,I3,rfl,q2⟩
theorem nu (hu:X.A.units+1 < cLine) (hi:PE X i ty) (ho:PE X o td):PC X .NotIn i o (Aw ty td):=by
 intro pins s σ H Q I h;refine thn (hi pins s σ H _ I h) λ iv s1 ⟨y,H1,I1,ry,q1⟩=>thn (ho pins s1 σ H1 _ I1 q1) λ u s2 ⟨x,H2,I2,rx,a,ov,ex,g,q2⟩=>?_
 subst ex;obtain rfl:u=Value.ref a:=rx;exact CA hu I2 g ry λ s3 I3=>⟨.bl (!ov.isSome),H2,I3,rfl,q2⟩
theorem uQ (hu:X.A.units+1 < cLine) (ho:PE X o td) (hi:PE X i ty) (hv:PE X value tv) (hs:swapsWith value (some (.Subscript o i pos')) pos.line X.env=pure false) :
  PS X (.Assign [.Subscript o i pos'] value pos) (HN td ty tv):=by
 intro pins s σ H D I h;refine wpAny_Assign_Subscript (thn (hv pins s σ H _ I h) λ r s1 ⟨v,H1,I1,rv,q1⟩=>thn (ho pins s1 σ H1 _ I1 q1) λ u s2 ⟨x,H2,I2,rx,q2⟩=>thn (hi pins s2 σ H2 _ I2 q2) λ iv s3 ⟨y,H3,I3,ry,a,H4,ex,g,q3⟩=>?_) hs;subst ex;obtain rfl:u=Value.ref a:=rx;exact wK hu I3 g ry rv λ s4 I4=>⟨σ,H4,I4,q3⟩
end
theorem rY {P:Program} {w:World} {H:Hp} (h:Heap) (hb:sysModules < h.objs.size):cw P w H (h.push { cls:=.type "dict",data:=.dict #[] }) h.objs.size (.dK []) :=
 ⟨Z4 _,Y9.mpr (Ne.symm (Zx hb)),[],.nil,Heap.DictOf.new h⟩
theorem yX {P:Program} {w:World} {H:Hp} (h:Heap) (hb:sysModules < h.objs.size):cw P w H (h.push { cls:=.type "dict",data:=.dict #[] }) h.objs.size (.dT []) :=
 ⟨Z4 _,Y9.mpr (Ne.symm (Zx hb)),[],.nil,_,#[],0,Heap.get?_push_size _ rfl,⟨rfl,rfl,rfl⟩,rfl,rfl,Xc⟩
def DD:TE:=λ _ H Q=>∀ p,H p=none->Q (.ref p) (upd H p (.dK []))
def DC:TE:=λ _ H Q=>∀ p,H p=none->Q (.ref p) (upd H p (.dT []))
section
variable {X:Cx} {pos:Pos}
theorem yg:PE X (.Dict [] [] pos) DD:=λ pins s σ H Q I h =>
 wpAny_Dict_empty ⟨.ref s.heap.objs.size,_,I.laid (a:=s.heap.objs.size) (o:=.dK []) (t':=s.toks) (λ _ _ q=>Heap.get?_push_of_some _ q) (Zl _) (rY s.heap I.big),rfl,h _ (I.hok.fresh (Zl _))⟩
theorem yf:PE X (.Dict [] [] pos) DC:=λ pins s σ H Q I h =>
 wpAny_Dict_empty ⟨.ref s.heap.objs.size,_,I.laid (a:=s.heap.objs.size) (o:=.dT []) (t':=s.toks) (λ _ _ q=>Heap.get?_push_of_some _ q) (Zl _) (yX s.heap I.big),rfl,h _ (I.hok.fresh (Zl _))⟩
end
def ur:List (TE×TE)->St->Hp->(List (V×V)->Hp->Prop)->Prop
 | [],_,H,Q=>Q [] H
 | (tk,tv)::r,σ,H,Q=>tk σ H λ x H1=>tv σ H1 λ y H2=>ur r σ H2 λ ps H3=>Q ((x,y)::ps) H3
abbrev VV:List (V×V)->List (Value×Value)->Prop:=Paired λ p q=>RelV p.1 q.1/\RelV p.2 q.2
def PPs (X:Cx) (pos:Pos) (keys:List (Option Expr)) (values:List Expr) (trs:List (TE×TE)):Prop :=
  ∀ (pins:List (Addr×Obj)) (s:Shared) (σ:St) (H:Hp) (Q:List (V×V)->Hp->Prop),Inv X pins σ H s->ur trs σ H Q ->
    wpAny (model X.prog X.w) X.A (evalPairs (pairTrees keys values X.env pos)) (λ vs s'=>∃ ps H',Inv X pins σ H' s'/\VV ps vs/\Q ps H') X.xe s
theorem AX {X:Cx} {pos:Pos}:PPs X pos [] [] []:=λ pins s σ H Q I h=>pairTrees_nil_walk ⟨[],H,I,.nil,h⟩
theorem xY {X:Cx} {pos:Pos} {k v:Expr} {ks:List (Option Expr)} {vs:List Expr} {tk tv:TE} {trs:List (TE×TE)} (hk:PE X k tk) (hv:PE X v tv) (hr:PPs X pos ks vs trs) :
  PPs X pos (some k::ks) (v::vs) ((tk,tv)::trs):=λ pins s σ H Q I h =>
 pairTrees_cons_walk (thn (hk pins s σ H _ I h) λ u s1 ⟨x,H1,I1,rx,q1⟩=>thn (hv pins s1 σ H1 _ I1 q1) λ w2 s2 ⟨y,H2,I2,ry,q2⟩ =>
  thn (hr pins s2 σ H2 _ I2 q2) λ ws s3 ⟨ps,H3,I3,rel,q3⟩=>⟨(x,y)::ps,H3,I3,.cons ⟨rx,ry⟩ rel,q3⟩)
def nL (kvs more:List (Key×V)):List (Key×V):=more.foldl (λ acc kv=>putK acc kv.1 kv.2) kvs
theorem KV.merge:∀ {more:List (Key×V)} {rs:List (Key×Value)} {kvs:List (Key×V)} {vs:List (Key×Value)},KV more rs->KV kvs vs->KV (nL kvs more) (merged vs rs):=by
 intro more rs kvs vs r;unfold KV at r
 induction r generalizing kvs vs with
 | nil=>intro q; exact q
 | @cons p q ps qs h t ih =>
  intro r0
  have e:KV (putK kvs p.1 p.2) (stored vs q.1 q.2):=by
   have:=r0.put p.1 h.2;rw [<- h.1]; exact this
  exact ih e
theorem ij:∀ (more kvs:List (Key×V)),(nL kvs more).length<=kvs.length+more.length
 | [],kvs=>by show kvs.length<=kvs.length+0; omega
 | p::r,kvs=>by
  have h1:=ij r (putK kvs p.1 p.2);have h2:=gO kvs p.1 p.2;show (nL (putK kvs p.1 p.2) r).length<=_;rw [Zy]; omega
theorem lQ {P:Program} {w:World}:∀ {kvs:List (Key×V)} {ws:List (Value×Value)},VV (kvs.map λ kv=>(kV kv.1,kv.2)) ws->∃ rs,Carries (bO P w) ws rs/\KV kvs rs
 | [],_,r=>by rw [List.map_nil] at r; cases r; exact ⟨[],True.intro,.nil⟩
 | p::kvs,_,r=>by
  rw [Zh] at r
  cases r with
  | @cons a b as bs h t =>
   obtain ⟨rs,c,q⟩:=lQ (P:=P) (w:=w) t;obtain ⟨b1,b2⟩:=b;exact ⟨(p.1,b2)::rs,⟨p9 h.1,rfl,c⟩,.cons ⟨rfl,h.2⟩ q⟩
def HF (trs:List (TE×TE)):TE:=λ σ H Q=>∀ p,H p=none->ur trs σ (upd H p (.dK [])) λ ps H2=>H2 p=some (.dK [])/\∃ kvs:List (Key×V),ps=kvs.map (λ kv=>(kV kv.1,kv.2))/\kvs.length<=15/\Q (.ref p) (upd H2 p (.dK (nL [] kvs)))
theorem A7 {X:Cx} {pos:Pos} {keys:List (Option Expr)} {values:List Expr} {trs:List (TE×TE)} (h:PPs X pos keys values trs) (hall:keys.all (·.isSome)=true) (hl:keys.length=values.length) (h0:keys≠[])
  (h15:keys.length<=15):PE X (.Dict keys values pos) (HF trs):=by
 intro pins s σ H Q I q;have hn:=I.hok.fresh (Zl s.heap.objs.size);have I1:=I.laid (a:=s.heap.objs.size) (o:=.dK []) (h':=s.heap.push { cls:=.type "dict",data:=.dict #[] }) (t':=s.toks) (λ _ _ q=>Heap.get?_push_of_some _ q) (Zl _) (rY s.heap I.big);refine wpAny_Dict_walk (knd:=bO X.prog X.w) hall hl h0 h15 (thn (h pins _ σ _ _ I1 (q _ hn)) λ ws s2 ⟨ps,H2,I2,rel,e,kvs,ep,lk,q2⟩=>?_);subst ep;obtain ⟨rs,c,rk⟩:=lQ (P:=X.prog) (w:=X.w) rel;obtain ⟨z,hd,vs0,r0,dd⟩:=yZ I2.hok e;cases r0;refine ⟨rs,c,dd,λ h' dd' hs=>⟨.ref s.heap.objs.size,_,?_,rfl,q2⟩⟩
 have hz:(nL [] kvs).length<=sizeLine:=by
  have h1:=ij kvs [];rw [X5] at h1;rw [Y0]; omega
 have he:∃ q,h'.get? s.heap.objs.size=some q:=let ⟨q,_,_,hq,_⟩:=dd'; ⟨q,hq⟩
 exact mC I2 (by rw [e]; exact True.intro) hs he (wF hz hd (rk.merge .nil) dd')
structure M1 (X:Cx) (o:Expr) (m:Str) (apos:Pos) (e:Expr) (cpos:Pos):Prop where
 base:attributeBase o m X.env (eval o X.env)=eval o X.env
 few:((backTo cpos (starEach [e] X.env)).all (λ x=>!x.1)&&(backToKw cpos (keywordEach [] X.env)).all (λ x=>x.1.isSome)
  && decide (([e]:List Expr).length+([]:List Keyword).length+(if ([]:List Keyword).isEmpty then 0 else 1) < 30))=true
 line:(apos.endLine == cpos.line)=true
 trees:backTo cpos (starEach [e] X.env)=[(false,eval e X.env)]
def IsD (H:Hp) (a:Addr):Prop:=(∃ kvs,Rd H a (.dK kvs))\/∃ kvs,Rd H a (.dT kvs)
theorem Fc {X:Cx} {pins:List (Addr×Obj)} {σ:St} {H:Hp} {s:Shared} {a:Addr} (I:Inv X pins σ H s) (d:IsD H a) :
  s.TypeIs (.ref a) "dict"/\(∀ b,Value.ref a=.ref b->∃ ob,s.heap.get? b=some ob/\ob.dict=none)/\(a == sysModules)=false:=by
 rcases d with ⟨kvs,e⟩ | ⟨kvs,e⟩
 ·obtain ⟨_,hd,vs,_,dd⟩:=qr I.hok e
  refine ⟨dd.typeIs,λ b q=>?_,hd⟩;cases q;obtain ⟨ob,_,_,h1,h2,_⟩:=dd;exact ⟨ob,h1,h2.2.1⟩
 ·obtain ⟨_,hd,xs,_,dd⟩:=tV I.hok e
  refine ⟨dd.typeIs,λ b q=>?_,hd⟩;cases q;obtain ⟨ob,_,_,h1,h2,_⟩:=dd;exact ⟨ob,h1,h2.2.1⟩
def DB (td ty:TE):TE:=λ σ H Q=>td σ H λ x H1=>∃ a,x=.ref a/\IsD H1 a/\ty σ H1 λ y H2=>∃ kvs k v,H2 a=some (.dK kvs)/\y=kV k/\cH kvs k=some v/\Q v (upd H2 a (.dK (qq kvs k)))
section
variable {X:Cx} {o e f:Expr} {apos cpos:Pos} {td ty tx:TE}
theorem ye (ho:PE X o td) (he:PE X e ty) (m:M1 X o "pop" apos e cpos):PE X (.Call (.Attribute o "pop" apos) [e] [] cpos) (DB td ty):=by
 intro pins s σ H Q I h;refine wpAny_Call_method m.base m.few m.line PySem.F.plainAttrs_dict PySem.F.slot_dict_pop PySem.F.type_dict_pop (thn (ho pins s σ H _ I h) λ u s1 ⟨x,H1,I1,rx,a,ex,d,q1⟩=>?_);subst ex;obtain rfl:u=Value.ref a:=rx;obtain ⟨t1,t2,_⟩:=Fc I1 d;refine ⟨t1,t2,?_⟩;rw [m.trees];refine Calls.callWith_builtin rfl (Calls.evalArgs_plain (Calls.spliced_cons (thn (he pins s1 σ H1 _ I1 q1) λ iv s2 ⟨y,H2,I2,ry,kvs,k,v,ea,ey,l,q2⟩=>Calls.spliced_nil ?_)));subst ey;exact KD I2 ea ry l (.inl rfl) λ w' s3 I3 rw'=>⟨v,_,I3,rw',q2⟩
end
def Its (z:Str):It:=⟨λ i _=>i < z.cps.size,λ i H x H'=>H'=H/\∃ c,z.cps[i]?=some c/\x=.str ⟨#[c]⟩,λ i _=>z.cps.size<=i⟩
theorem sF {P:Program} {w:World} {K:W.Frag} {tg:Expr} (it:Addr) (z:Str) (t:Tok):Turn P w K tg (Its z) [it] it (λ i h=>h.IsStrIter it "str_ascii_iterator" z t i) where
 mem:=by simp
 obj:=λ i h st b hb=>by
  have e:b=it:=by simpa using hb
  subst e;obtain ⟨o,e,c,d⟩:=st;exact ⟨o,e,λ v z=>by rw [d] at z; cases z⟩
 keep:=λ i h h' st k=>let ⟨o,ho,r⟩:=st; ⟨o,k it (by simp) o ho,r⟩
 item:=by
  intro X hP hw hK hc i pins s σ H E I hf st hg;subst hP hw hK;obtain ⟨f0,f1,f2,f3,f4,f5⟩:=hf it (by simp);have hg':i < z.cps.size:=hg;have hx:z.cps[i]?=some z.cps[i]:=by simp [hg']
  refine wpAny_pyNext_ascii_item st hx λ h' st' sb=>?_
  have I1:Inv X pins σ H { s with heap:=h',toks:=s.toks+1 }:=I.turned (λ b o hb e=>(sb.2 b hb).trans e) f0 f1 f3 f4 f5;obtain ⟨o,e,c,d⟩:=id st';exact ⟨_,rfl,wa e c d (by decide) ⟨.str ⟨#[z.cps[i]]⟩,H,I1,⟨_,rfl⟩,⟨rfl,_,hx,rfl⟩,st',λ b hb=>(hf b hb).1⟩⟩
 done:=by
  intro X hP hw hK hc i pins s σ H E I hf st hg;subst hP hw hK;obtain ⟨f0,f1,f2,f3,f4,f5⟩:=hf it (by simp);have hg':z.cps.size<=i:=hg;exact wpAny_pyNext_ascii_end (I.ok.hd hc) st (by simp [hg']) λ h' eb=>⟨rfl,I.turned (λ b o hb e=>eb b o hb e) f0 f1 f3 f4 f5⟩
 self:=λ _ _ _ _ _ st h=>wpAny_pyIter_striter_ascii st h
theorem uj {P:Program} {w:World} {K:W.Frag} {tg:Expr} (it:Addr) (z:Str) (t:Tok):Turn P w K tg (Its z) [it] it (λ i h=>h.IsStrIter it "str_iterator" z t i) where
 mem:=by simp
 obj:=λ i h st b hb=>by
  have e:b=it:=by simpa using hb
  subst e;obtain ⟨o,e,c,d⟩:=st;exact ⟨o,e,λ v z=>by rw [d] at z; cases z⟩
 keep:=λ i h h' st k=>let ⟨o,ho,r⟩:=st; ⟨o,k it (by simp) o ho,r⟩
 item:=by
  intro X hP hw hK hc i pins s σ H E I hf st hg;subst hP hw hK;obtain ⟨f0,f1,f2,f3,f4,f5⟩:=hf it (by simp);have hg':i < z.cps.size:=hg;have hx:z.cps[i]?=some z.cps[i]:=by simp [hg']
  refine wpAny_pyNext_wide_item st hx λ h' st' sb=>?_
  have I1:Inv X pins σ H { s with heap:=h',toks:=s.toks+1 }:=I.turned (λ b o hb e=>(sb.2 b hb).trans e) f0 f1 f3 f4 f5;obtain ⟨o,e,c,d⟩:=id st';exact ⟨_,rfl,wa e c d (by decide) ⟨.str ⟨#[z.cps[i]]⟩,H,I1,⟨_,rfl⟩,⟨rfl,_,hx,rfl⟩,st',λ b hb=>(hf b hb).1⟩⟩
 done:=by
  intro X hP hw hK hc i pins s σ H E I hf st hg;subst hP hw hK;obtain ⟨f0,f1,f2,f3,f4,f5⟩:=hf it (by simp);have hg':z.cps.size<=i:=hg;exact wpAny_pyNext_wide_end (I.ok.hd hc) st (by simp [hg']) λ h' eb=>⟨rfl,I.turned (λ b o hb e=>eb b o hb e) f0 f1 f3 f4 f5⟩
 self:=λ _ _ _ _ _ st h=>wpAny_pyIter_striter_wide st h
section
variable {X:Cx} {tg:Expr}
def Nt (tl:TE):TI:=λ σ H R=>tl σ H λ x H1=>∃ z,x=.str z/\R (Its z) H1
theorem D2 {l:Expr} {tl:TE} (hl:PE X l tl):PI X tg l (Nt tl):=by
 intro pins s σ H R I h;refine thn (hl pins s σ H _ I h) λ v s1 ⟨x,H1,I1,r1,q1⟩=>?_
 obtain ⟨z,e,q⟩:=q1;subst e;obtain ⟨t,rfl⟩:=r1
 have fp:∀ b ∈ [s1.heap.objs.size],pj X pins H1 b:=λ b hb=>by
  have e:b=s1.heap.objs.size:=by simpa using hb
  subst e;exact I1.tK (Zl _) (I1.hok.fresh (Zl _))
 cases ha:z.cps.all (· < 128)
 ·refine wpAny_pyIter_wide ha ?_
  exact ⟨s1.heap.objs.size,[s1.heap.objs.size],_,_,H1,rfl,I1.kept λ b o e=>Heap.get?_push_of_some _ e,uj _ z t,⟨_,Heap.get?_push_size _ rfl,rfl,rfl⟩,fp,q⟩
 ·refine wpAny_pyIter_ascii ha ?_
  exact ⟨s1.heap.objs.size,[s1.heap.objs.size],_,_,H1,rfl,I1.kept (t':=s1.toks) λ b o e=>Heap.get?_push_of_some _ e,sF _ z t,⟨_,Heap.get?_push_size _ rfl,rfl,rfl⟩,fp,q⟩
theorem uY:OpR X (compareOp .LtE) (λ x y H Q=>∃ i j,x=.str i/\y=.str j/\Q (.bl (!decide (j.cps.toList < i.cps.toList))) H):=by
 intro pins s σ H x y v u Q I rx ry h;obtain ⟨i,j,rfl,rfl,q⟩:=h;obtain ⟨t,rfl⟩:=rx;obtain ⟨t',rfl⟩:=ry;exact PySem.P.le_str (a8 I q (by simp))
theorem mO:∀ {bs:List Bool} {us:List Value},bG (bs.map V.bl) us->∀ (i:Nat) (v:Value),us[i]?=some v->∃ b,bs[i]?=some b/\v=Value.bool b
 | [],_,.nil,i,v,e=>by simp at e
 | b::bs,_,.cons r t,0,v,e=>by
  simp at e;subst e;exact ⟨b,by simp,r⟩
 | b::bs,_,.cons r t,i+1,v,e=>by
  obtain ⟨c,h1,h2⟩:=mO t i v (by simpa using e);exact ⟨c,by simpa using h1,h2⟩
theorem zi (hc:X.calm=true):fC X (.builtin "all") (λ xs H Q=>∃ (p:Addr) (bs:List Bool),xs=[.ref p]/\SqL X.K H p (bs.map V.bl)/\Q (.bl (bs.all id)) H):=by
 intro pins s σ H xs us Q I r h;obtain ⟨p,bs,rfl,hL,q⟩:=h;obtain ⟨u,rfl,ru⟩:=vals1 r;cases (ru);obtain ⟨its,rv,pl,hz⟩:=I.list hL;have hl:=pl.isList;have hlen:=rv.length;rw [Za] at hlen;have hlt:p < s.heap.objs.size:=by obtain ⟨_,e,_⟩:=hl; exact Zs e
 refine call_all_walk (wpAny_pyIter_list hl ?_)
 refine ⟨s.heap.objs.size,[s.heap.objs.size,p],[s.heap.objs.size],its.toArray.size,_,_,λ i=>(bs[i]?).getD true,rfl,Walks.list (A:=X.A.in1) (I.ok.hd hc) _ p (Zx hlt) its.toArray,
  ⟨⟨_,Heap.get?_push_size _ rfl,rfl,rfl⟩,hl.push _⟩,λ i v s' Q' E' hP hQ=>?_,λ h' tk hk=>?_⟩
 ·obtain ⟨b,e,rfl⟩:=mO rv i v (by simpa using hP)
  simp only [e,Option.getD_some] at hQ;exact Yk hQ
 ·have e:((List.range its.toArray.size).all λ i=>(bs[i]?).getD true)=bs.all id:=by
   rw [Zt,<- hlen,Y8,Yy,Yy];constructor
   ·intro hh b hb
    obtain ⟨i,hi,rfl⟩:=List.getElem_of_mem hb;have:=hh i (Xm.mpr hi)
    simpa [List.getElem?_eq_getElem hi] using this
   ·intro hh i hi
    have hi':=Xm.mp hi;simp only [List.getElem?_eq_getElem hi',Option.getD_some];exact hh _ (Xn hi')
  rw [e];refine ⟨.bl _,H,I.kept λ b x ex=>hk b x (λ hm=>?_) (Heap.get?_push_of_some _ ex),rfl,q⟩;rw [Zr.mp hm] at ex;exact Ym _ (Zs ex)
theorem jE:∀ {ts:List Str} {us:List Value},bG (ts.map V.str) us->StrsAre us ts
 | [],_,.nil=>.nil
 | x::ts,_,.cons r t=>by
  obtain ⟨tk,rfl⟩:=r;exact .cons x tk (jE t)
theorem BP:MtR X "str.join" (λ x xs H Q=>∃ (z:Str) (p:Addr) (ts:List Str),x=.str z/\xs=[.ref p]/\SqL X.K H p (ts.map V.str)/\(ts.map (·.length)).sum+ts.length * z.length<=16777216/\Q (.str (Txt.join z ts)) H):=by
 intro pins s σ H x xs v us Q I rx rv h;obtain ⟨z,p,ts,rfl,rfl,hL,hz,q⟩:=h;obtain ⟨t,rfl⟩:=rx;obtain ⟨u,rfl,ru⟩:=vals1 rv;cases (ru);obtain ⟨its,rv',pl,_⟩:=I.list hL;exact join_list pl.isList (by simpa using jE rv') hz λ t' k=>⟨.str _,H,I.tok k,⟨_,rfl⟩,q⟩
end
theorem CH (h0:closureFor scope X.env=pure cl) (h1:scope.kind=.function) (h2:(scope.names.all λ y=>!(y.2 == .cell))=true)
  (h3:(scope.names.all λ y=>!(y.2 == .local)||(scope.names.lookup y.1 == some .local))=true) (h4:scope.names.lookup x=some .local) (h5:∀ p ∈ cl,X.env.cells.lookup p.1=some p.2)
  (h6:((relabel scope X.env).names.all λ p=>!(p.2 == .cell||p.2 == .free)||(cl.lookup p.1).isSome)=true)
  (h7:∀ p ∈ cs,X.N[p.2]?=some p.1/\X.env.kindOf p.1=some .cell/\(relabel scope X.env).names.lookup p.1=some .cell) (h8:(x::cs.map (·.1)).Nodup):cY X scope cl x cs where
 ze:=h0
 kind:=h1
 rz:=λ y hy z=>by
  have:=Yy.mp h2 y hy;rw [z] at this;exact absurd this (by decide)
 names:=λ y hy z=>by
  have:=Yy.mp h3 y hy;rw [z] at this
  simpa using this
 own:=h4
 sub:=λ y c e=>h5 (y,c) (Yg e)
 has:=λ y hy=>by
  have key:∀ k,(relabel scope X.env).names.lookup y=some k->(k=.cell\/k=.free)->∃ c,cl.lookup y=some c:=λ k e hk=>by
   have:=Yy.mp h6 (y,k) (Yg e);rcases hk with rfl | rfl
   · exact Yu.mp (by simpa using this)
   · exact Yu.mp (by simpa using this)
  rcases hy with hy | hy
  · exact key _ hy (.inl rfl)
  · exact key _ hy (.inr rfl)
 Dk:=λ p hp=>⟨(h7 p hp).1,.inl (h7 p hp).2.1,.inl (h7 p hp).2.2⟩
 nd:=h8
def CU (X:Cx):List (Str×Addr)->Prop
 | []=>True
 | p::r=>X.env.cells.lookup p.1=some p.2/\CU X r
def AllP (X:Cx) (scope:Scope):List (Str×Nat)->Prop
 | []=>True
 | p::r=>(X.N[p.2]?=some p.1/\X.env.kindOf p.1=some .cell/\(relabel scope X.env).names.lookup p.1=some .cell)/\AllP X scope r
theorem CU.all:∀ {cl:List (Str×Addr)},CU X cl->∀ p ∈ cl,X.env.cells.lookup p.1=some p.2
 | [],_,p,h=>by cases h
 | q::r,a,p,h=>by
  rcases Zi.mp h with rfl | h
  · exact a.1
  · exact CU.all a.2 p h
theorem AllP.all:∀ {cs:List (Str×Nat)},AllP X scope cs->∀ p ∈ cs,X.N[p.2]?=some p.1/\X.env.kindOf p.1=some .cell/\(relabel scope X.env).names.lookup p.1=some .cell
 | [],_,p,h=>by cases h
 | q::r,a,p,h=>by
  rcases Zi.mp h with rfl | h
  · exact a.1
  · exact AllP.all a.2 p h
theorem CG (cs:List (Str×Nat)) (h0:closureFor scope X.env=pure cl) (h1:scope.kind=.function) (h2:(scope.names.all λ y=>!(y.2 == .cell))=true)
 (h3:(scope.names.all λ y=>!(y.2 == .local)||(scope.names.lookup y.1 == some .local))=true) (h4:scope.names.lookup x=some .local) (h5:CU X cl)
 (h6:((relabel scope X.env).names.all λ p=>!(p.2 == .cell||p.2 == .free)||(cl.lookup p.1).isSome)=true)
 (h7:AllP X scope cs) (h8:(x::cs.map (·.1)).Nodup):cY X scope cl x cs:=CH h0 h1 h2 h3 h4 h5.all h6 h7.all h8
inductive D where
 | non | bl (b:Bool) | int (i:Int) | str (x:Str) | ty (n:String)
 | tup (ds:List D) | lst (ds:List D) | fz (ds:List D) | dct (kvs:List (Key×D)) | obj (C:Addr) (fs:List (Str×D)) | cls (C:Addr) | dfz (kvs:List (Key×D))
mutual
inductive Rp (K:W.Frag) (H:Hp):V->D->Prop where
 | non:Rp K H .non .non
 | bl (b:Bool):Rp K H (.bl b) (.bl b)
 | int (i:Int):Rp K H (.int i) (.int i)
 | str (x:Str):Rp K H (.str x) (.str x)
 | ty (n:String):Rp K H (.ty n) (.ty n)
 | cls (C:Addr):Rp K H (.ref C) (.cls C)
 | tup {a:Addr} {xs:List V} {ds:List D} (h:SqT K H a xs) (r:Rps K H xs ds):Rp K H (.ref a) (.tup ds)
 | lst {a:Addr} {xs:List V} {ds:List D} (h:H a=some (.lst xs)) (r:Rps K H xs ds):Rp K H (.ref a) (.lst ds)
 | fz {a:Addr} {xs:List V} {ds:List D} (h:SqL K H a xs) (r:Rps K H xs ds):Rp K H (.ref a) (.fz ds)
 | dct {a:Addr} {kvs:List (Key×V)} {ds:List (Key×D)} (h:H a=some (.dK kvs)) (r:RpK K H kvs ds):Rp K H (.ref a) (.dct ds)
 | obj {a C dx:Addr} {fs:List (Str×V)} {ds:List (Str×D)} (h:H a=some (.ins C dx fs)) (r:RpF K H fs ds):Rp K H (.ref a) (.obj C ds)
 | dfz {a:Addr} {kvs:List (Key×V)} {ds:List (Key×D)} (h:Rd H a (.dK kvs)) (r:RpK K H kvs ds):Rp K H (.ref a) (.dfz ds)
inductive Rps (K:W.Frag) (H:Hp):List V->List D->Prop where
 | nil:Rps K H [] []
 | cons {x:V} {d:D} {xs:List V} {ds:List D} (h:Rp K H x d) (r:Rps K H xs ds):Rps K H (x::xs) (d::ds)
inductive RpK (K:W.Frag) (H:Hp):List (Key×V)->List (Key×D)->Prop where
 | nil:RpK K H [] []
 | cons {k:Key} {x:V} {d:D} {xs:List (Key×V)} {ds:List (Key×D)} (h:Rp K H x d) (r:RpK K H xs ds):RpK K H ((k,x)::xs) ((k,d)::ds)
inductive RpF (K:W.Frag) (H:Hp):List (Str×V)->List (Str×D)->Prop where
 | nil:RpF K H [] []
 | cons {k:Str} {x:V} {d:D} {xs:List (Str×V)} {ds:List (Str×D)} (h:Rp K H x d) (r:RpF K H xs ds):RpF K H ((k,x)::xs) ((k,d)::ds)
end
section
variable {K:W.Frag} {H H':Hp}
mutual
theorem Rp.same (g:bU H H'):∀ {v:V} {d:D},Rp K H v d->Rp K H' v d
 | _,_,.non=>.non
 | _,_,.bl b=>.bl b
 | _,_,.int i=>.int i
 | _,_,.str x=>.str x
 | _,_,.ty n=>.ty n
 | _,_,.cls n=>.cls n
 | _,_,.tup h r=>.tup (g.tup h) (Rps.same g r)
 | _,_,.lst h r=>.lst (g _ _ h) (Rps.same g r)
 | _,_,.fz h r=>.fz (g.seq h) (Rps.same g r)
 | _,_,.dct h r=>.dct (g _ _ h) (RpK.same g r)
 | _,_,.obj h r=>.obj (g _ _ h) (RpF.same g r)
 | _,_,.dfz h r=>.dfz (h.elim (λ z=>.inl (g _ _ z)) λ ⟨o,z⟩=>.inr ⟨o,g _ _ z⟩) (RpK.same g r)
theorem Rps.same (g:bU H H'):∀ {v:List V} {d:List D},Rps K H v d->Rps K H' v d
 | _,_,.nil=>.nil
 | _,_,.cons h r=>.cons (Rp.same g h) (Rps.same g r)
theorem RpK.same (g:bU H H'):∀ {v:List (Key×V)} {d:List (Key×D)},RpK K H v d->RpK K H' v d
 | _,_,.nil=>.nil
 | _,_,.cons h r=>.cons (Rp.same g h) (RpK.same g r)
theorem RpF.same (g:bU H H'):∀ {v:List (Str×V)} {d:List (Str×D)},RpF K H v d->RpF K H' v d
 | _,_,.nil=>.nil
 | _,_,.cons h r=>.cons (Rp.same g h) (RpF.same g r)
end
theorem Rps.length:∀ {xs:List V} {ds:List D},Rps K H xs ds->xs.length=ds.length
 | _,_,.nil=>rfl
 | _,_,.cons _ r=>Z9 (·+1) r.length
theorem Rps.get:∀ {xs:List V} {ds:List D} {i:Nat} {d:D},Rps K H xs ds->ds[i]?=some d->∃ x,xs[i]?=some x/\Rp K H x d
 | _,_,_,_,.nil,e=>by simp at e
 | _,_,0,_,.cons h _,e=>by simp at e; subst e; exact ⟨_,by simp,h⟩
 | _,_,i+1,d,.cons _ r,e=>by
  obtain ⟨x,h1,h2⟩:=Rps.get (i:=i) (d:=d) r (by simpa using e);exact ⟨x,by simpa using h1,h2⟩
theorem Rps.append:∀ {xs ys:List V} {ds es:List D},Rps K H xs ds->Rps K H ys es->Rps K H (xs++ys) (ds++es)
 | _,_,_,_,.nil,h=>h
 | _,_,_,_,.cons h r,h'=>.cons h (Rps.append r h')
theorem Rps.take:∀ {xs:List V} {ds:List D} (n:Nat),Rps K H xs ds->Rps K H (xs.take n) (ds.take n)
 | _,_,0,_=>.nil
 | _,_,_+1,.nil=>.nil
 | _,_,n+1,.cons h r=>.cons h (Rps.take n r)
theorem Rps.drop:∀ {xs:List V} {ds:List D} (n:Nat),Rps K H xs ds->Rps K H (xs.drop n) (ds.drop n)
 | _,_,0,h=>h
 | _,_,_+1,.nil=>.nil
 | _,_,n+1,.cons _ r=>Rps.drop n r
theorem Rps.ints:∀ (ns:List Int),Rps K H (ns.map V.int) (ns.map D.int)
 | []=>.nil
 | n::ns=>.cons (.int n) (Rps.ints ns)
theorem Rps.strs:∀ (ns:List Str),Rps K H (ns.map V.str) (ns.map D.str)
 | []=>.nil
 | n::ns=>.cons (.str n) (Rps.strs ns)
end
structure Ext (Hs H Hs' H':Hp):Prop where
 ss:bU Hs Hs'
 sh:bU Hs' H'
 hh:bU H H'
 fr:∀ b,Hs b=none->H b≠none->Hs' b=none
theorem Ext.refl (h:bU Hs H):Ext Hs H Hs H:=⟨.refl _,h,.refl _,λ _ h _=>h⟩
theorem gJ {α:Type} {o:Option α} {x:α} (h:o=some x):o≠none:=by rw [h]; simp
theorem bU.live (g:bU H H') (h:H b≠none):H' b≠none:=by
 cases q:H b with
 | none=>exact absurd q h
 | some o=>rw [g _ _ q]; simp
theorem Ext.trans (a:Ext Hs H Hs1 H1) (b:Ext Hs1 H1 Hs2 H2):Ext Hs H Hs2 H2 :=
 ⟨a.ss.trans b.ss,b.sh,a.hh.trans b.hh,λ c h1 h2=>b.fr c (a.fr c h1 h2) (a.hh.live h2)⟩
theorem Ext.new (h:bU Hs H) (hp:H p=none) (o:HO):Ext Hs H (upd Hs p o) (upd H p o):=by
 refine ⟨aC (h.free hp) o,λ b u q=>?_,aC hp o,λ b h1 h2=>?_⟩
 ·by_cases e:b=p
  · subst e; rw [aw] at q ⊢; exact q
  · rw [ar e] at q ⊢; exact h _ _ q
 ·by_cases e:b=p
  · subst e; exact absurd hp h2
  · rw [ar e]; exact h1
inductive Sl where
 | no | shr (d:D) | own (d:D)
inductive Ow (K:W.Frag) (Hs H:Hp) (a:Addr):D->Prop where
 | lst {xs:List V} {ds:List D} (h:H a=some (.lst xs)) (n:Hs a=none) (r:Rps K Hs xs ds):Ow K Hs H a (.lst ds)
 | dct {kvs:List (Key×V)} {ds:List (Key×D)} (h:H a=some (.dK kvs)) (n:Hs a=none) (r:RpK K Hs kvs ds):Ow K Hs H a (.dct ds)
theorem Ow.hid {K:W.Frag} {Hs H:Hp} {a:Addr} {d:D} (h:Ow K Hs H a d):Hs a=none:=by cases h <;> assumption
theorem Ow.live {K:W.Frag} {Hs H:Hp} {a:Addr} {d:D} (h:Ow K Hs H a d):H a≠none:=by
 cases h with
 | lst h _ _=>exact gJ h
 | dct h _ _=>exact gJ h
theorem Ow.ext {K:W.Frag} {Hs H Hs' H':Hp} {a:Addr} {d:D} (g:Ext Hs H Hs' H') (h:Ow K Hs H a d):Ow K Hs' H' a d:=by
 have n':=g.fr a h.hid h.live
 cases h with
 | lst h n r=>exact .lst (g.hh _ _ h) n' (r.same g.ss)
 | dct h n r=>exact .dct (g.hh _ _ h) n' (r.same g.ss)
theorem Ow.off {K:W.Frag} {Hs H H':Hp} {a:Addr} {d:D} (h:Ow K Hs H a d) (e:H' a=H a):Ow K Hs H' a d:=by
 cases h with
 | lst h n r=>exact .lst (e.trans h) n r
 | dct h n r=>exact .dct (e.trans h) n r
inductive StR (K:W.Frag) (H0 Hs H:Hp):List (Option V)->List Sl->List Addr->Prop where
 | nil:StR K H0 Hs H [] [] []
 | no {o:Option V} {σ:List (Option V)} {τ:List Sl} {fp:List Addr} (r:StR K H0 Hs H σ τ fp):StR K H0 Hs H (o::σ) (.no::τ) fp
 | shr {v:V} {d:D} {σ:List (Option V)} {τ:List Sl} {fp:List Addr} (h:Rp K Hs v d) (r:StR K H0 Hs H σ τ fp):StR K H0 Hs H (some v::σ) (.shr d::τ) fp
 | own {a:Addr} {d:D} {σ:List (Option V)} {τ:List Sl} {fp:List Addr} (h:Ow K Hs H a d) (z:H0 a=none) (m:a ∉ fp) (r:StR K H0 Hs H σ τ fp):StR K H0 Hs H (some (.ref a)::σ) (.own d::τ) (a::fp)
section
variable {K:W.Frag} {H0 Hs H Hs' H':Hp} {σ:List (Option V)} {τ:List Sl} {fp:List Addr}
theorem StR.ext (g:Ext Hs H Hs' H') (h:StR K H0 Hs H σ τ fp):StR K H0 Hs' H' σ τ fp:=by
 induction h with
 | nil=>exact .nil
 | no _ ih=>exact .no ih
 | shr h _ ih=>exact .shr (h.same g.ss) ih
 | own h z m _ ih=>exact .own (h.ext g) z m ih
theorem StR.off (h:StR K H0 Hs H σ τ fp) (m:a ∉ fp):StR K H0 Hs (upd H a o) σ τ fp:=by
 induction h with
 | nil=>exact .nil
 | no _ ih=>exact .no (ih m)
 | shr h _ ih=>exact .shr h (ih m)
 | @own b d σ τ fp h z n _ ih =>
  have ne:b≠a:=λ e=>m (by rw [e]; exact Ze ..)
  exact .own (h.off (ar ne)) z n (ih (λ q=>m (Zd _ q)))
theorem StR.Cq (h:StR K H0 Hs H σ τ fp):∀ a ∈ fp,Hs a=none/\H0 a=none/\H a≠none:=by
 induction h with
 | nil=>intro a h; cases h
 | no _ ih=>exact ih
 | shr _ _ ih=>exact ih
 | own h z m _ ih =>
  intro b hb;rcases Zi.mp hb with e | e
  · subst e; exact ⟨h.hid,z,h.live⟩
  · exact ih b e
theorem StR.get {i:Nat} {d:D} (h:StR K H0 Hs H σ τ fp):τ[i]?=some (.shr d)->∃ v,σ[i]?=some (some v)/\Rp K Hs v d:=by
 induction h generalizing i with
 | nil=>intro e; simp at e
 | no _ ih =>
  intro e
  cases i with
  | zero=>simp at e
  | succ i=>exact ih (by simpa using e)
 | shr h _ ih =>
  intro e
  cases i with
  | zero=>simp at e; subst e; exact ⟨_,rfl,h⟩
  | succ i=>exact ih (by simpa using e)
 | own _ _ _ _ ih =>
  intro e
  cases i with
  | zero=>simp at e
  | succ i=>exact ih (by simpa using e)
theorem StR.Cp {i:Nat} {d:D} (h:StR K H0 Hs H σ τ fp):τ[i]?=some (.own d)->∃ a,σ[i]?=some (some (.ref a))/\Ow K Hs H a d/\H0 a=none/\a ∈ fp:=by
 induction h generalizing i with
 | nil=>intro e; simp at e
 | no _ ih =>
  intro e
  cases i with
  | zero=>simp at e
  | succ i=>exact ih (by simpa using e)
 | shr h _ ih =>
  intro e
  cases i with
  | zero=>simp at e
  | succ i=>exact ih (by simpa using e)
 | own h z m _ ih =>
  intro e
  cases i with
  | zero=>simp at e; subst e; exact ⟨_,rfl,h,z,Ze ..⟩
  | succ i =>
   obtain ⟨a,h1,h2,h3,h4⟩:=ih (by simpa using e);exact ⟨a,h1,h2,h3,Zd _ h4⟩
theorem StR.xK (hv:Rp K Hs v d) (h:StR K H0 Hs H σ τ fp):∃ fp',(∀ a ∈ fp',a ∈ fp)/\StR K H0 Hs H (σ.set i (some v)) (τ.set i (.shr d)) fp':=by
 induction h generalizing i with
 | nil=>exact ⟨[],λ _ h=>h,.nil⟩
 | no r ih =>
  cases i with
  | zero=>exact ⟨_,λ _ h=>h,.shr hv r⟩
  | succ i=>obtain ⟨fp',h1,h2⟩:=ih; exact ⟨fp',h1,.no h2⟩
 | shr h r ih =>
  cases i with
  | zero=>exact ⟨_,λ _ h=>h,.shr hv r⟩
  | succ i=>obtain ⟨fp',h1,h2⟩:=ih (i:=i); exact ⟨fp',h1,.shr h h2⟩
 | own h z m r ih =>
  cases i with
  | zero=>exact ⟨_,λ _ h=>Zd _ h,.shr hv r⟩
  | succ i =>
   obtain ⟨fp',h1,h2⟩:=ih (i:=i);exact ⟨_::fp',λ b hb=>(Zi.mp hb).elim (λ e=>by subst e; exact Ze ..) λ e=>Zd _ (h1 b e),.own h z (λ q=>m (h1 _ q)) h2⟩
theorem StR.Mq (hv:Ow K Hs H a d) (z0:H0 a=none) (h:StR K H0 Hs H σ τ fp) (m0:a ∉ fp) (hi:i < τ.length) :
  ∃ fp',(∀ b ∈ fp',b=a\/b ∈ fp)/\StR K H0 Hs H (σ.set i (some (.ref a))) (τ.set i (.own d)) fp':=by
 induction h generalizing i with
 | nil=>exact absurd hi (by simp)
 | @no o σ τ fp r ih =>
  cases i with
  | zero=>exact ⟨a::fp,λ b h=>Zi.mp h,.own hv z0 m0 r⟩
  | succ i=>obtain ⟨fp',h1,h2⟩:=ih m0 (by simpa using hi); exact ⟨fp',h1,.no h2⟩
 | @shr v d σ τ fp h r ih =>
  cases i with
  | zero=>exact ⟨a::fp,λ b h=>Zi.mp h,.own hv z0 m0 r⟩
  | succ i=>obtain ⟨fp',h1,h2⟩:=ih m0 (i:=i) (by simpa using hi); exact ⟨fp',h1,.shr h h2⟩
 | @own b d' σ τ fp h z m r ih =>
  have m1:a ∉ fp:=λ q=>m0 (Zd _ q)
  cases i with
  | zero=>exact ⟨a::fp,λ c hc=>(Zi.mp hc).imp id λ e=>Zd _ e,.own hv z0 m1 r⟩
  | succ i =>
   obtain ⟨fp',h1,h2⟩:=ih m1 (i:=i) (by simpa using hi);refine ⟨b::fp',λ c hc=>?_,.own h z (λ q=>?_) h2⟩
   ·rcases Zi.mp hc with e | e
    · exact .inr (by subst e; exact Ze ..)
    · exact (h1 c e).imp id λ e=>Zd _ e
   ·rcases h1 _ q with e | e
    · exact m0 (by rw [<- e]; exact Ze ..)
    · exact m e
theorem StR.mut {i:Nat} {a:Addr} {d d':D} {o:HO} (h:StR K H0 Hs H σ τ fp):τ[i]?=some (.own d)->σ[i]?=some (some (.ref a))->Ow K Hs (upd H a o) a d'->StR K H0 Hs (upd H a o) σ (τ.set i (.own d')) fp:=by
 induction h generalizing i with
 | nil=>intro e; simp at e
 | no _ ih =>
  intro e e2 hv
  cases i with
  | zero=>simp at e
  | succ i=>exact .no (ih (by simpa using e) (by simpa using e2) hv)
 | shr h _ ih =>
  intro e e2 hv
  cases i with
  | zero=>simp at e
  | succ i=>exact .shr h (ih (by simpa using e) (by simpa using e2) hv)
 | @own b d1 σ τ fp h z m r ih =>
  intro e e2 hv
  cases i with
  | zero =>
   have q:b=a:=by simpa using e2
   subst q;exact .own hv z m (r.off m)
  | succ i =>
   have e':τ[i]?=some (.own d):=by simpa using e
   have e2':σ[i]?=some (some (.ref a)):=by simpa using e2
   obtain ⟨c,h1,h2,h3,h4⟩:=r.Cp e';have q:c=a:=by rw [e2'] at h1; simpa using h1.symm
   subst q;have ne:b≠c:=λ e=>m (by rw [e]; exact h4)
   exact .own (h.off (ar ne)) z m (ih e' e2' hv)
end
theorem Ow.rp {K:W.Frag} {Hs H:Hp} {a:Addr} {d:D} (h:Ow K Hs H a d):∃ o,H a=some o/\Rp K (upd Hs a o) (.ref a) d:=by
 cases h with
 | lst h n r=>exact ⟨_,h,.lst aw (r.same (aC n _))⟩
 | dct h n r=>exact ⟨_,h,.dct aw (r.same (aC n _))⟩
section
variable {K:W.Frag} {H0 Hs H Hs' H':Hp} {σ:List (Option V)} {τ:List Sl} {fp:List Addr}
theorem StR.NC (h:StR K H0 Hs H σ τ fp) (n:Hs a=none) (m:a ∉ fp):StR K H0 (upd Hs a o) H σ τ fp:=by
 induction h with
 | nil=>exact .nil
 | no _ ih=>exact .no (ih m)
 | shr h _ ih=>exact .shr (h.same (aC n o)) (ih m)
 | @own b d σ τ fp h z k _ ih =>
  have ne:b≠a:=λ e=>m (by rw [e]; exact Ze ..)
  refine .own ?_ z k (ih (λ q=>m (Zd _ q)))
  cases h with
  | lst h n' r=>exact .lst h (by rw [ar ne]; exact n') (r.same (aC n o))
  | dct h n' r=>exact .dct h (by rw [ar ne]; exact n') (r.same (aC n o))
theorem StR.frz {i:Nat} {d:D} (h:StR K H0 Hs H σ τ fp):τ[i]?=some (.own d)->∃ a o fp',H a=some o/\Hs a=none/\H0 a=none/\StR K H0 (upd Hs a o) H σ (τ.set i (.shr d)) fp'/\a ∉ fp'/\(∀ b ∈ fp',b ∈ fp)/\σ[i]?=some (some (.ref a))/\Ow K Hs H a d:=by
 induction h generalizing i with
 | nil=>intro e; simp at e
 | no _ ih =>
  intro e
  cases i with
  | zero=>simp at e
  | succ i =>
   obtain ⟨a,o,fp',h1,h2,h3,h4,h5,h6,h7,h8⟩:=ih (by simpa using e);exact ⟨a,o,fp',h1,h2,h3,.no h4,h5,h6,h7,h8⟩
 | shr h _ ih =>
  intro e
  cases i with
  | zero=>simp at e
  | succ i =>
   obtain ⟨a,o,fp',h1,h2,h3,h4,h5,h6,h7,h8⟩:=ih (i:=i) (by simpa using e);exact ⟨a,o,fp',h1,h2,h3,.shr (h.same (aC h2 o)) h4,h5,h6,h7,h8⟩
 | @own b d1 σ τ fp h z m r ih =>
  intro e
  cases i with
  | zero =>
   simp at e;subst e;obtain ⟨o,h1,h2⟩:=h.rp;exact ⟨b,o,fp,h1,h.hid,z,.shr h2 (r.NC h.hid m),m,λ _ q=>Zd _ q,rfl,h⟩
  | succ i =>
   obtain ⟨a,o,fp',h1,h2,h3,h4,h5,h6,h7,h8⟩:=ih (i:=i) (by simpa using e);obtain ⟨c,k1,k2,k3,k4⟩:=r.Cp (i:=i) (by simpa using e);have q:c=a:=by rw [h7] at k1; simpa using k1.symm
   subst q;have ne:b≠c:=λ e=>m (by rw [e]; exact k4)
   refine ⟨c,o,b::fp',h1,h2,h3,.own ?_ z (λ q=>m (h6 _ q)) h4,?_,?_,h7,h8⟩
   ·cases h with
    | lst h n' r=>exact .lst h (by rw [ar ne]; exact n') (r.same (aC h2 o))
    | dct h n' r=>exact .dct h (by rw [ar ne]; exact n') (r.same (aC h2 o))
   ·intro q
    rcases Zi.mp q with e | e
    · exact ne e.symm
    · exact h5 e
   ·intro c' hc
    rcases Zi.mp hc with e | e
    · subst e; exact Ze ..
    · exact Zd _ (h6 _ e)
end
abbrev DE:=List Sl->Option D
abbrev DT:=List Sl->Option Bool
abbrev DA:=List Sl->Option (List D)
inductive Out where
 | next (τ:List Sl) | ret (s:Sl) | brk (τ:List Sl) | cnt (τ:List Sl)
abbrev DS:=List Sl->Option Out
def SlV (K:W.Frag) (H0 Hs H:Hp) (v:V):Sl->Prop
 | .no=>False
 | .shr d=>Rp K Hs v d
 | .own d=>∃ a,v=.ref a/\Ow K Hs H a d/\H0 a=none
structure Rep (K:W.Frag) (Hs0 H0 Hs H:Hp) (σ:St) (τ:List Sl):Prop where
 ext:Ext Hs0 H0 Hs H
 st:∃ fp,StR K H0 Hs H σ τ fp
def rdE (K:W.Frag) (f:DE):TE:=λ σ H Q=>∃ H0 Hs τ fp d,StR K H0 Hs H σ τ fp/\bU Hs H/\f τ=some d/\∀ v Hs' H',Ext Hs H Hs' H'->Rp K Hs' v d->Q v H'
def rdT (K:W.Frag) (f:DT):TT:=λ σ H Q=>∃ H0 Hs τ fp d,StR K H0 Hs H σ τ fp/\bU Hs H/\f τ=some d/\∀ Hs' H',Ext Hs H Hs' H'->Q d H'
def rdA (K:W.Frag) (f:DA):TA:=λ σ H Q=>∃ H0 Hs τ fp d,StR K H0 Hs H σ τ fp/\bU Hs H/\f τ=some d/\∀ v Hs' H',Ext Hs H Hs' H'->Rps K Hs' v d->Q v H'
def rdO (K:W.Frag) (f:DE):TE:=λ σ H Q=>∃ H0 Hs τ fp d,StR K H0 Hs H σ τ fp/\bU Hs H/\f τ=some d/\∀ a Hs' H',Ext Hs H Hs' H'->Ow K Hs' H' a d->H a=none->Q (.ref a) H'
def PEd (X:Cx) (e:Expr) (f:DE):Prop:=PE X e (rdE X.K f)
def PEo (X:Cx) (e:Expr) (f:DE):Prop:=PE X e (rdO X.K f)
def PTd (X:Cx) (e:Expr) (f:DT):Prop:=PT X e (rdT X.K f)
def PAd (X:Cx) (es:List Expr) (f:DA):Prop:=PA X es (rdA X.K f)
def Fin (K:W.Frag) (Hs0 H0:Hp) (E:Ends):Out->Prop
 | .next τ=>∀ σ Hs H,Rep K Hs0 H0 Hs H σ τ->E.nx σ H
 | .brk τ=>∀ σ Hs H,Rep K Hs0 H0 Hs H σ τ->E.bk σ H
 | .cnt τ=>∀ σ Hs H,Rep K Hs0 H0 Hs H σ τ->E.ct σ H
 | .ret s=>∀ v Hs H,Ext Hs0 H0 Hs H->SlV K H0 Hs H v s->E.rt v H
def rdS (K:W.Frag) (f:DS):TS:=λ E σ H=>∃ Hs0 H0 Hs τ o,Rep K Hs0 H0 Hs H σ τ/\f τ=some o/\Fin K Hs0 H0 E o
def PSd (X:Cx) (s:Stmt) (f:DS):Prop:=PS X s (rdS X.K f)
def xp (X:Cx) (s:List Stmt) (f:DS):Prop:=PSs X s (rdS X.K f)
theorem PE.imp (h:PE X e t) (hi:∀ σ H Q,t' σ H Q->t σ H Q):PE X e t':=λ pins s σ H Q I q=>h pins s σ H Q I (hi _ _ _ q)
theorem PT.imp (h:PT X e t) (hi:∀ σ H Q,t' σ H Q->t σ H Q):PT X e t':=λ pins s σ H Q I q=>h pins s σ H Q I (hi _ _ _ q)
theorem PA.imp (h:PA X e t) (hi:∀ σ H Q,t' σ H Q->t σ H Q):PA X e t':=λ pos pins s σ H Q I q=>h pos pins s σ H Q I (hi _ _ _ q)
theorem PS.imp (h:PS X e t) (hi:∀ E σ H,t' E σ H->t E σ H):PS X e t':=λ pins s σ H E I q=>h pins s σ H E I (hi _ _ _ q)
theorem PSs.imp (h:PSs X e t) (hi:∀ E σ H,t' E σ H->t E σ H):PSs X e t':=λ pins s σ H E I q=>h pins s σ H E I (hi _ _ _ q)
def aB (i:Nat):DE:=λ τ=>match τ[i]? with | some (.shr d)=>some d | _=>none
def dC (d:D):DE:=λ _=>some d
def dOp (o:D->D->Option D) (f g:DE):DE:=λ τ=>(f τ).bind λ x=>(g τ).bind λ y=>o x y
def dUn (o:D->Option D) (f:DE):DE:=λ τ=>(f τ).bind o
def c5:DA:=λ _=>some []
def ay (f:DE) (g:DA):DA:=λ τ=>(f τ).bind λ x=>(g τ).bind λ xs=>some (x::xs)
def jr (o:List D->Option D) (f:DA):DE:=λ τ=>(f τ).bind o
def KI (f:DA):DE:=λ τ=>(f τ).bind λ ds=>if ds.length<=100000 then some (.tup ds) else none
def Hf (f:DA):DE:=λ τ=>(f τ).bind λ ds=>if ds.length<=100000 then some (.lst ds) else none
def dIf (c:DT) (f g:DE):DE:=λ τ=>(c τ).bind λ b=>if b=true then f τ else g τ
def tY (f g:DE):DE:=λ τ=>(f τ).bind λ x=>match x with | .bl true=>g τ | .bl false=>some (.bl false) | _=>none
def KL (f g:DE):DE:=λ τ=>(f τ).bind λ x=>match x with | .bl true=>some (.bl true) | .bl false=>g τ | _=>none
def CC (f:DE):DE:=λ τ=>(f τ).bind λ x=>match x with | .bl b=>some (.bl (!b)) | _=>none
def dT (f:DE):DT:=λ τ=>(f τ).bind λ x=>match x with | .bl b=>some b | _=>none
def dOr (f g:DT):DT:=λ τ=>(f τ).bind λ b=>if b=true then some true else g τ
def Ai (f:DT):DT:=λ τ=>(f τ).map (!·)
theorem le5 (h:n<=100000):n < sizeLine:=Nat.lt_of_le_of_lt h (by rw [Y0]; decide)
theorem ue (h:n<=100000):n<=sizeLine:=Yz (le5 h)
theorem nn {α:Type} {d:α} {p:Prop} (h:(none:Option α)=some d):p:=nomatch h
theorem bind_some {α β:Type} {o:Option α} {f:α->Option β} {b:β} (h:o.bind f=some b):∃ a,o=some a/\f a=some b:=Option.bind_eq_some_iff.mp h
section
variable {X:Cx} {a b c e:Expr} {es:List Expr} {pos:Pos} {f g h:DE}
theorem gy (h:PE X e (tC v)) (r:∀ H,Rp X.K H v d):PEd X e (dC d) :=
 h.imp λ σ H Q ⟨H0,Hs,τ,fp,d',st,sm,e,k⟩=>by
  have e':=Zj e;subst e';exact k v Hs H (.refl sm) (r Hs)
theorem Bd (hg:Gl X x) (hm:X.mg x=some u) (r:RelV v u) (rd:∀ H,Rp X.K H v d) (hd:(x == ("__debug__":Str))=false:=by decide):PEd X (.Name x pos) (dC d):=gy (A6 hg hm r hd) rd
def rdR (K:W.Frag) (o:D->D->Option D):R2:=λ x y H Q=>∃ Hs dx dy d,bU Hs H/\Rp K Hs x dx/\Rp K Hs y dy/\o dx dy=some d/\∀ v Hs' H',Ext Hs H Hs' H'->Rp K Hs' v d->Q v H'
def rdU (K:W.Frag) (o:D->Option D):V->Hp->VK->Prop:=λ x H Q=>∃ Hs dx d,bU Hs H/\Rp K Hs x dx/\o dx=some d/\∀ v Hs' H',Ext Hs H Hs' H'->Rp K Hs' v d->Q v H'
def rdL (K:W.Frag) (o:List D->Option D):List V->Hp->VK->Prop:=λ xs H Q=>∃ Hs ds d,bU Hs H/\Rps K Hs xs ds/\o ds=some d/\∀ v Hs' H',Ext Hs H Hs' H'->Rp K Hs' v d->Q v H'
theorem lp (K:W.Frag) (hh:rdE K (dOp o f g) σ H Q):tOp (rdR K o) (rdE K f) (rdE K g) σ H Q:=by
 obtain ⟨H0,Hs,τ,fp,d,st,sm,e,k⟩:=hh;obtain ⟨x,e1,e⟩:=bind_some e;obtain ⟨y,e2,e⟩:=bind_some e;refine ⟨H0,Hs,τ,fp,x,st,sm,e1,λ v Hs1 H1 g1 r1=>?_⟩;refine ⟨H0,Hs1,τ,fp,y,st.ext g1,g1.sh,e2,λ u Hs2 H2 g2 r2=>?_⟩;exact ⟨Hs2,x,y,d,g2.sh,r1.same g2.ss,r2,e,λ w Hs3 H3 g3 r3=>k w Hs3 H3 ((g1.trans g2).trans g3) r3⟩
theorem PEo.shr (h:PEo X e f):PEd X e f :=
 PE.imp h λ σ H Q ⟨H0,Hs,τ,fp,d,st,sm,e,k⟩=>⟨H0,Hs,τ,fp,d,st,sm,e,λ a Hs' H' g o z=>by
  obtain ⟨ob,h1,h2⟩:=o.rp;refine k _ (upd Hs' a ob) H' ⟨g.ss.trans (aC o.hid ob),λ b u q=>?_,g.hh,λ b h3 h4=>?_⟩ h2
  ·by_cases eb:b=a
   · subst eb; rw [aw] at q; rw [h1]; exact q
   · rw [ar eb] at q; exact g.sh _ _ q
  ·by_cases eb:b=a
   · subst eb; exact absurd z h4
   · rw [ar eb]; exact g.fr b h3 h4⟩
def PWd (X:Cx) (e:Expr) (f:DT):Prop:=PW X e (rdT X.K f)
theorem PW.imp (h:PW X e t) (hi:∀ σ H Q,t' σ H Q->t σ H Q):PW X e t':=λ wh pins s σ H Q I q=>h wh pins s σ H Q I (hi _ _ _ q)
theorem PWd.ptd {f:DT} (h:PWd X e f):PTd X e f:=PW.pt h
end
instance {i j:Int}:Decidable (An i j):=by unfold An; infer_instance
instance {i:Int}:Decidable (Sz i):=by unfold Sz; infer_instance
instance {i j:Int}:Decidable (Hm i j):=by unfold Hm; infer_instance
def i0:D->D->Option D
 | .int i,.int j=>some (.int (i+j))
 | .str x,.str y=>if x.length+y.length<=100000 then some (.str (x++y)) else none
 | .lst x,.lst y=>if x.length+y.length<=100000 then some (.lst (x++y)) else none
 | _,_=>none
def CZ:D->D->Option D
 | .int i,.int j=>some (.int (i - j))
 | _,_=>none
def vh:D->D->Option D
 | .int i,.int j=>if An i j\/(Sz i/\Sz j) then some (.int (i * j)) else none
 | _,_=>none
def oDiv:D->D->Option D
 | .int i,.int j=>if j≠0/\Sz j then some (.int (i.fdiv j)) else none
 | _,_=>none
def oMod:D->D->Option D
 | .int i,.int j=>if j≠0 then some (.int (i.fmod j)) else none
 | _,_=>none
def Iu:D->D->Option D
 | .int i,.int j=>if Hm i j then some (.int (i ^ j.toNat)) else none
 | _,_=>none
def Ga:D->Option D
 | .int i=>some (.int (-i))
 | _=>none
def oLt:D->D->Option D
 | .int i,.int j=>some (.bl (decide (i < j)))
 | .str i,.str j=>some (.bl (decide (i.cps.toList < j.cps.toList)))
 | _,_=>none
def oLe:D->D->Option D
 | .int i,.int j=>some (.bl (decide (i<=j)))
 | _,_=>none
def oGt:D->D->Option D
 | .int i,.int j=>some (.bl (decide (j < i)))
 | _,_=>none
def Gb:D->D->Option D
 | .non,.non=>some (.bl true)
 | _,.non=>some (.bl false)
 | _,_=>none
def kZ:D->D->Option D
 | .non,.non=>some (.bl false)
 | _,.non=>some (.bl true)
 | _,_=>none
def eqS:D->D->Option Bool
 | .non,.non=>some true | .non,.int _=>some false | .int _,.non=>some false | .non,.bl _=>some false | .bl _,.non=>some false | .non,.str _=>some false | .str _,.non=>some false
 | .int i,.int j=>some (decide (i=j)) | .bl i,.bl j=>some (decide (i=j)) | .str i,.str j=>some (decide (i=j))
 | .int _,.str _=>some false | .str _,.int _=>some false | .bl _,.str _=>some false | .str _,.bl _=>some false
 | _,_=>none
mutual
def jf:D->PySem.W.Dat
 | .non=>.none | .bl b=>.bool b | .int i=>.int i | .str x=>.str x | .ty _=>.bytes #[]
 | .tup ds=>.tuple (il ds) | .lst ds=>.list (il ds) | .fz _=>.bytes #[] | .dct _=>.bytes #[] | .obj _ _=>.bytes #[] | .cls _=>.bytes #[] | .dfz _=>.bytes #[]
def il:List D->List PySem.W.Dat
 | []=>[]
 | d::ds=>jf d::il ds
end
mutual
def okD:Nat->D->Bool
 | _,.non=>true
 | _,.int _=>true
 | _,.str x=>PyData.strOk x
 | n+1,.tup ds=>xw n ds
 | n+1,.lst ds=>xw n ds
 | _,_=>false
def xw:Nat->List D->Bool
 | _,[]=>true
 | n,d::ds=>okD n d&&xw n ds
end
open PySem.W in
mutual
theorem jO:∀ (n:Nat) (d:D),okD n d=true->kqdOk n (jf d)=true
 | _,.non,_=>by simp [jf,kqdOk]
 | _,.int _,_=>by simp [jf,kqdOk]
 | n,.str x,h=>by simp [okD] at h; simp [jf,kqdOk,h]
 | n+1,.tup ds,h=>by
  simp [okD] at h;rw [jf,kqdOk];exact l9 n ds h
 | n+1,.lst ds,h=>by
  simp [okD] at h;rw [jf,kqdOk];exact l9 n ds h
 | _,.bl _,h=>by simp [okD] at h
 | _,.ty _,h=>by simp [okD] at h
 | _,.cls _,h=>by simp [okD] at h
 | _,.dct _,h=>by simp [okD] at h
 | _,.fz _,h=>by simp [okD] at h
 | _,.obj _ _,h=>by simp [okD] at h
 | _,.dfz _,h=>by simp [okD] at h
 | 0,.tup _,h=>by simp [okD] at h
 | 0,.lst _,h=>by simp [okD] at h
theorem l9:∀ (n:Nat) (ds:List D),xw n ds=true->(il ds).all (kqdOk n)=true
 | _,[],_=>by simp [il]
 | n,d::ds,h=>by
  simp [xw] at h;simp only [il,X2,Yw];exact ⟨jO n d h.1,l9 n ds h.2⟩
end
mutual
theorem rZ:∀ (n:Nat) (d e:D),okD n d=true->okD n e=true->jf d=jf e->d=e
 | _,.non,e,_,h,q=>by cases e <;> simp [jf] at q <;> simp [okD] at h <;> rfl
 | _,.int _,e,_,h,q=>by cases e <;> simp [jf] at q <;> simp [okD] at h <;> rw [q]
 | _,.str x,e,_,h,q=>by cases e <;> simp [jf] at q <;> simp [okD] at h <;> rw [q]
 | n+1,.tup ds,e,h1,h,q=>by
  cases e <;> simp [jf] at q <;> simp [okD] at h
  simp [okD] at h1;rw [kl n _ _ h1 h q]
 | n+1,.lst ds,e,h1,h,q=>by
  cases e <;> simp [jf] at q <;> simp [okD] at h
  simp [okD] at h1;rw [kl n _ _ h1 h q]
 | _,.bl _,_,h,_,_=>by simp [okD] at h
 | _,.ty _,_,h,_,_=>by simp [okD] at h
 | _,.cls _,_,h,_,_=>by simp [okD] at h
 | _,.dct _,_,h,_,_=>by simp [okD] at h
 | _,.fz _,_,h,_,_=>by simp [okD] at h
 | _,.obj _ _,_,h,_,_=>by simp [okD] at h
 | _,.dfz _,_,h,_,_=>by simp [okD] at h
 | 0,.tup _,_,h,_,_=>by simp [okD] at h
 | 0,.lst _,_,h,_,_=>by simp [okD] at h
theorem kl:∀ (n:Nat) (d e:List D),xw n d=true->xw n e=true->il d=il e->d=e
 | _,[],e,_,h,q=>by cases e <;> simp [il] at q; rfl
 | n,d::ds,e,h1,h,q=>by
  cases e with
  | nil=>simp [il] at q
  | cons e es =>
   simp [il] at q;simp [xw] at h h1;rw [rZ n d e h1.1 h.1 q.1,kl n ds es h1.2 h.2 q.2]
end
section
variable {K:W.Frag} {H:Hp}
mutual
theorem Rp.rdD:∀ {v:V} {d:D} (n:Nat),Rp K H v d->okD n d=true->RdD K H v (jf d)
 | _,_,_,.non,_=>by rw [jf]; exact .non
 | _,_,_,.int i,_=>by rw [jf]; exact .int i
 | _,_,_,.str i,_=>by rw [jf]; exact .str i
 | _,_,n,.tup h r,o=>by
  cases n with
  | zero=>simp [okD] at o
  | succ n=>simp [okD] at o; rw [jf]; exact .tup h (Rps.rdD n r o)
 | _,_,n,.lst h r,o=>by
  cases n with
  | zero=>simp [okD] at o
  | succ n=>simp [okD] at o; rw [jf]; exact .lst (SqL.of h) (Rps.rdD n r o)
 | _,_,_,.bl _,o=>by simp [okD] at o
 | _,_,_,.ty _,o=>by simp [okD] at o
 | _,_,_,.cls _,o=>by simp [okD] at o
 | _,_,_,.dct _ _,o=>by simp [okD] at o
 | _,_,_,.fz _ _,o=>by simp [okD] at o
 | _,_,_,.obj _ _,o=>by simp [okD] at o
 | _,_,_,.dfz _ _,o=>by simp [okD] at o
theorem Rps.rdD:∀ {v:List V} {d:List D} (n:Nat),Rps K H v d->xw n d=true->xn K H v (il d)
 | _,_,_,.nil,_=>by rw [il]; exact .nil
 | _,_,n,.cons h r,o=>by
  simp [xw] at o;rw [il];exact .cons (Rp.rdD n h o.1) (Rps.rdD n r o.2)
end
end
open Classical in
noncomputable def eqB (d e:D):Bool:=decide (d=e)
theorem yU (d:D):eqB d d=true:=by unfold eqB; simp
theorem FH (h:d≠e):eqB d e=false:=by unfold eqB; simp [h]
noncomputable def eqO (d e:D):Option Bool:=match eqS d e with
 | some b=>some b
 | none=>if okD 9 d=true/\okD 9 e=true then some (eqB d e) else none
noncomputable def oEq (d e:D):Option D:=(eqO d e).map D.bl
noncomputable def oNe (d e:D):Option D:=(eqO d e).map λ b=>.bl (!b)
section
variable {X:Cx}
theorem OpR.imp (h:OpR X fn r) (hi:∀ x y H Q,r' x y H Q->r x y H Q):OpR X fn r':=λ pins s σ H x y v u Q I rx ry q=>h pins s σ H x y v u Q I rx ry (hi _ _ _ _ q)
theorem Ir : OpR X (binaryOp .Add) (rdR X.K i0) :=
  ((Ei.or sT).or zP).imp λ x y H Q ⟨Hs,dx,dy,d,sm,rx,ry,e,k⟩=>by
    cases rx with
    | int i => cases ry with
      | int j => have e':D.int (i+j)=d:=by simpa [i0] using e
                 subst e';exact .inl (.inl ⟨i,j,rfl,rfl,k _ Hs H (.refl sm) (.int _)⟩)
      | _=>exact nn e
    | str x=>cases ry with
      | str y =>
        by_cases hl:x.length+y.length<=100000
        · have e':D.str (x++y)=d:=by simpa [i0,hl] using e
          subst e';exact .inl (.inr ⟨x,y,rfl,rfl,ue hl,k _ Hs H (.refl sm) (.str _)⟩)
        · simp [i0,hl] at e
      | _=>exact nn e
    | @lst a xs ds h r=>cases ry with
      | @lst b ys es h' r' =>
        by_cases hl:ds.length+es.length<=100000
        · have e':D.lst (ds++es)=d:=by simpa [i0,hl] using e
          subst e';refine .inr ⟨a,b,xs,ys,rfl,rfl,sm _ _ h,sm _ _ h',by rw [r.length,r'.length]; exact ue hl,λ p hp=>?_⟩;have g:=Ext.new sm hp (.lst (xs++ys));exact k _ _ _ g (.lst aw ((r.same g.ss).append (r'.same g.ss)))
        · simp [i0,hl] at e
      | _=>exact nn e
    | _=>exact nn e
theorem pP {fn:Value->Value->Sem Value} {C:Int->Int->Prop} [∀ i j,Decidable (C i j)] {gv:Int->Int->V} {gd:Int->Int->D} {o:D->D->Option D} (h:OpR X fn (rI C gv)) (hg:∀ i j H,Rp X.K H (gv i j) (gd i j))
  (ho:∀ x y d,o x y=some d->∃ i j,x=.int i/\y=.int j/\C i j/\d=gd i j):OpR X fn (rdR X.K o) :=
 h.imp λ x y H Q ⟨Hs,dx,dy,d,sm,rx,ry,e,k⟩=>by
  obtain ⟨i,j,rfl,rfl,c,rfl⟩:=ho _ _ _ e;cases rx;cases ry;exact ⟨i,j,rfl,rfl,c,k _ Hs H (.refl sm) (hg i j Hs)⟩
theorem HU (h:OpR X fn (rI0 g)):OpR X fn (rI (λ _ _=>True) g):=h.imp λ x y H Q ⟨i,j,h1,h2,_,q⟩=>⟨i,j,h1,h2,q⟩
theorem Ij:OpR X (binaryOp .Sub) (rdR X.K CZ):=pP (HU zO) (λ _ _ _=>.int _) λ x y d e=>by
 unfold CZ at e;split at e
 · exact ⟨_,_,rfl,rfl,trivial,(Zj e).symm⟩
 · cases e
theorem Bh:OpR X (binaryOp .Mult) (rI (λ i j=>An i j\/(Sz i/\Sz j)) λ i j=>.int (i * j)):=opI λ _ _ _ _ _ _ _ hc q=>mul_int q (hc.elim (·.ok) λ h=>PySem.IntMulOk.of_bits h.1.bits h.2.bits)
theorem Im:OpR X (binaryOp .Mult) (rdR X.K vh):=pP Bh (λ _ _ _=>.int _) λ x y d e=>by
 unfold vh at e;split at e
 ·split at e
  ·rename_i c
   exact ⟨_,_,rfl,rfl,c,(Zj e).symm⟩
  · cases e
 · cases e
theorem Iq:OpR X (binaryOp .FloorDiv) (rdR X.K oDiv):=pP Bj (λ _ _ _=>.int _) λ x y d e=>by
 unfold oDiv at e;split at e
 ·split at e
  ·rename_i c
   exact ⟨_,_,rfl,rfl,c,(Zj e).symm⟩
  · cases e
 · cases e
theorem Io:OpR X (binaryOp .Mod) (rdR X.K oMod):=pP Bi (λ _ _ _=>.int _) λ x y d e=>by
 unfold oMod at e;split at e
 ·split at e
  ·rename_i c
   exact ⟨_,_,rfl,rfl,c,(Zj e).symm⟩
  · cases e
 · cases e
theorem Ik:OpR X (binaryOp .Pow) (rdR X.K Iu):=pP Ee (λ _ _ _=>.int _) λ x y d e=>by
 unfold Iu at e;split at e
 ·split at e
  ·rename_i c
   exact ⟨_,_,rfl,rfl,c,(Zj e).symm⟩
  · cases e
 · cases e
theorem F9:OpR X (compareOp .LtE) (rdR X.K oLe):=pP (HU Ib) (λ _ _ _=>.bl _) λ x y d e=>by
 unfold oLe at e;split at e
 · exact ⟨_,_,rfl,rfl,trivial,(Zj e).symm⟩
 · cases e
theorem K4:OpR X (compareOp .Gt) (rdR X.K oGt):=pP (HU Ie) (λ _ _ _=>.bl _) λ x y d e=>by
 unfold oGt at e;split at e
 · exact ⟨_,_,rfl,rfl,trivial,(Zj e).symm⟩
 · cases e
theorem MN:OpR X (compareOp .Lt) (rdR X.K oLt):=(Ia.or uX).imp λ x y H Q ⟨Hs,dx,dy,d,sm,rx,ry,e,k⟩=>by
 cases rx with
 | int i=>cases ry with
  | int j =>
   have e':D.bl (decide (i < j))=d:=by simpa [oLt] using e
   subst e';exact .inl ⟨i,j,rfl,rfl,k _ Hs H (.refl sm) (.bl _)⟩
  | _=>exact nn e
 | str i=>cases ry with
  | str j =>
   have e':=Zj e;subst e';exact .inr ⟨i,j,rfl,rfl,k _ Hs H (.refl sm) (.bl _)⟩
  | _=>exact nn e
 | _=>exact nn e
theorem Il:UnR X (unaryOp .USub) (rdU X.K Ga):=λ pins s σ H x v Q I rx ⟨Hs,dx,d,sm,r,e,k⟩=>Dr pins s σ H x v Q I rx (by
 cases r with
 | int i =>
  have e':D.int (-i)=d:=by simpa [Ga] using e
  subst e';exact ⟨i,rfl,k _ Hs H (.refl sm) (.int _)⟩
 | _=>simp [Ga] at e)
theorem Ip:OpR X (compareOp .Is) (rdR X.K Gb):=Eg.imp λ x y H Q ⟨Hs,dx,dy,d,sm,rx,ry,e,k⟩=>by
 have hy:dy=.non:=by
  unfold Gb at e;split at e <;> first | rfl | cases e
 subst hy;cases ry;refine ⟨rfl,?_⟩;cases rx <;> (have e':=Zj e; subst e'; exact k _ Hs H (.refl sm) (.bl _))
theorem zQ:OpR X (compareOp .IsNot) (rdR X.K kZ):=Bg.imp λ x y H Q ⟨Hs,dx,dy,d,sm,rx,ry,e,k⟩=>by
 have hy:dy=.non:=by
  unfold kZ at e;split at e <;> first | rfl | cases e
 subst hy;cases ry;refine ⟨rfl,?_⟩;cases rx <;> (have e':=Zj e; subst e'; exact k _ Hs H (.refl sm) (.bl _))
theorem Ag {K:W.Frag} {H:Hp} {x y:V} {dx dy:D} {b:Bool} (rx:Rp K H x dx) (ry:Rp K H y dy) (e:eqS dx dy=some b):HJ x y=true/\decide (x=y)=b:=by
  unfold eqS at e
  split at e <;> first
    | (cases e; done)
    | (have e':=Zj e
       subst e';cases rx;cases ry
       first | exact ⟨rfl,rfl⟩ | exact ⟨rfl,by simp⟩)
theorem rV (h:okD n d=true) (h':okD n e=true):eqD (jf d) (jf e)=eqB d e:=by
 by_cases q:d=e
 · subst q; rw [yU,yT rfl]
 · rw [FH q,wB λ z=>q (rZ n _ _ h h' z)]
theorem K5 (hu:X.A.units+64 < cLine):OpR X (compareOp .Eq) (rdR X.K oEq):=(Ig.or (Eh hu)).imp λ x y H Q ⟨Hs,dx,dy,d,sm,rx,ry,e,k⟩=>by
 obtain ⟨b,e',rfl⟩:=Zm (e);have e:=e';unfold eqO at e;split at e
 ·rename_i b' q
  have e':=Zj e;subst e';obtain ⟨h1,h2⟩:=Ag rx ry q;refine .inl ⟨h1,?_⟩;rw [h2];exact k _ Hs H (.refl sm) (.bl _)
 ·split at e
  ·rename_i h
   have e':=Zj e;subst e';refine .inr ⟨jf dx,jf dy,(rx.same sm).rdD 9 h.1,(ry.same sm).rdD 9 h.2,jO 9 _ h.1,jO 9 _ h.2,?_⟩;rw [rV h.1 h.2];exact k _ Hs H (.refl sm) (.bl _)
  · cases e
theorem MM (hu:X.A.units+64 < cLine):OpR X (compareOp .NotEq) (rdR X.K oNe):=(H9.or (Ef hu)).imp λ x y H Q ⟨Hs,dx,dy,d,sm,rx,ry,e,k⟩=>by
 obtain ⟨b,e',rfl⟩:=Zm (e);have e:=e';unfold eqO at e;split at e
 ·rename_i b' q
  have e':=Zj e;subst e';obtain ⟨h1,h2⟩:=Ag rx ry q;refine .inl ⟨h1,?_⟩;rw [h2];exact k _ Hs H (.refl sm) (.bl _)
 ·split at e
  ·rename_i h
   have e':=Zj e;subst e';refine .inr ⟨jf dx,jf dy,(rx.same sm).rdD 9 h.1,(ry.same sm).rdD 9 h.2,jO 9 _ h.1,jO 9 _ h.2,?_⟩;rw [rV h.1 h.2];exact k _ Hs H (.refl sm) (.bl _)
  · cases e
end
def oIx:D->D->Option D
 | .tup ds,.int i=>atI ds i
 | .lst ds,.int i=>atI ds i
 | .fz ds,.int i=>atI ds i
 | .str z,.int i=>if z.length<=100000 then (atI z.cps.toList i).map λ c=>.str ⟨#[c]⟩ else none
 | _,_=>none
def DO:=List Sl->Option (Option Int)
def L0:DO:=λ _=>some none
def dP (f:DE):DO:=λ τ=>(f τ).bind λ x=>match x with | .int i=>some (some i) | _=>none
def cutD (xs:List D) (lo hi:Option Int):List D:=(xs.drop (HT.sIx xs.length 0 lo)).take (HT.sIx xs.length xs.length hi - HT.sIx xs.length 0 lo)
def oSl:D->Option Int->Option Int->Option D
 | .lst ds,lo,hi=>some (.lst (cutD ds lo hi))
 | .fz ds,lo,hi=>some (.lst (cutD ds lo hi))
 | _,_,_=>none
def dSl (f:DE) (lo hi:DO):DE:=λ τ=>(f τ).bind λ x=>(lo τ).bind λ l=>(hi τ).bind λ u=>oSl x l u
def s9:List D->Option D
 | [.str z]=>if z.length<=100000 then some (.int z.length) else none
 | [.tup ds]=>some (.int ds.length)
 | [.lst ds]=>some (.int ds.length)
 | [.fz ds]=>some (.int ds.length)
 | _=>none
def yn:List D->Option D
 | [.tup ds]=>some (.lst ds)
 | [.lst ds]=>some (.lst ds)
 | [.fz ds]=>some (.lst ds)
 | _=>none
def rl:List D->Option D
 | [.tup ds]=>some (.tup ds)
 | [.lst ds]=>some (.tup ds)
 | _=>none
def tyN:D->Option String
 | .non=>some "NoneType" | .bl _=>some "bool" | .int _=>some "int" | .str _=>some "str" | .tup _=>some "tuple" | .lst _=>some "list" | .dct _=>some "dict" | _=>none
def Ko (t n:String):Bool:=t == n||(t == "bool"&&n == "int")
def kinds:List String:=["int","bool","str","list","tuple","dict"]
def K7:List D->Option D
 | [d,.ty n]=>(tyN d).bind λ t=>if n ∈ kinds then some (.bl (Ko t n)) else none
 | _=>none
theorem qF {K:W.Frag} {H:Hp} {xs:List V} {ds:List D} {i:Int} {d:D} (r:Rps K H xs ds) (e:atI ds i=some d):∃ v,atI xs i=some v/\Rp K H v d:=by
 unfold atI at *;obtain ⟨j,e1,e2⟩:=bind_some e;obtain ⟨v,h1,h2⟩:=r.get e2;exact ⟨v,by rw [r.length,e1]; exact h1,h2⟩
theorem wO {K:W.Frag} {H:Hp} {xs:List V} {ds:List D} (lo hi:Option Int) (r:Rps K H xs ds):Rps K H (Dj xs lo hi) (cutD ds lo hi):=by
 unfold Dj cutD;rw [r.length];exact (r.drop _).take _
theorem vJ {K:W.Frag} {t n:String} (ht:t ∈ ["NoneType","bool","int","str","tuple","list","dict"]) (hn:n ∈ kinds):PySem.W.kitOne K (.type t) (.type n)=some (Ko t n):=by
 simp only [kinds,Zi,Z8,or_false] at ht hn;rcases ht with rfl | rfl | rfl | rfl | rfl | rfl | rfl <;> rcases hn with rfl | rfl | rfl | rfl | rfl | rfl <;> kernel_rfl
section
variable {X:Cx} {a b c e:Expr} {es:List Expr} {pos:Pos} {f g h:DE}
theorem IxR.imp {r r':R2} (h:IxR X r) (hi:∀ x y H Q,r' x y H Q->r x y H Q):IxR X r':=λ value slice pins s σ H x y v u Q I rx ry q=>h value slice pins s σ H x y v u Q I rx ry (hi _ _ _ _ q)
theorem ixd:IxR X (rdR X.K oIx):=((B9.or E8).or E9).imp λ x y H Q ⟨Hs,dx,dy,d,sm,rx,ry,e,k⟩=>by
 obtain ⟨i,rfl⟩:∃ i,dy=.int i:=by
  unfold oIx at e;split at e <;> first | exact ⟨_,rfl⟩ | cases e
 cases ry
 cases rx with
 | tup h r =>
  obtain ⟨v,h1,h2⟩:=qF r (e);exact .inl (.inr ⟨_,_,i,v,rfl,rfl,sm.tup h,h1,k v Hs H (.refl sm) h2⟩)
 | lst h r =>
  obtain ⟨v,h1,h2⟩:=qF r (show atI _ i=some d from e);exact .inl (.inl ⟨_,_,i,v,rfl,rfl,SqL.of (sm _ _ h),h1,k v Hs H (.refl sm) h2⟩)
 | fz h r =>
  obtain ⟨v,h1,h2⟩:=qF r (show atI _ i=some d from e);exact .inl (.inl ⟨_,_,i,v,rfl,rfl,sm.seq h,h1,k v Hs H (.refl sm) h2⟩)
 | str z =>
  by_cases hl:z.length<=100000
  ·have e0:(atI z.cps.toList i).map (λ c=>D.str ⟨#[c]⟩)=some d:=by simpa only [oIx,hl,if_true] using e
   obtain ⟨c,e1,rfl⟩:=Zm e0;exact .inr ⟨z,i,c,rfl,rfl,ue hl,e1,k _ Hs H (.refl sm) (.str _)⟩
  · simp [oIx,hl] at e
 | _=>exact nn e
def rdP (K:W.Frag) (f:DO):TO:=λ σ H Q=>∃ H0 Hs τ fp d,StR K H0 Hs H σ τ fp/\bU Hs H/\f τ=some d/\∀ Hs' H',Ext Hs H Hs' H'->Q d H'
def POd (X:Cx) (e:Option Expr) (f:DO):Prop:=PO X e (rdP X.K f)
theorem PO.imp {e:Option Expr} {t t':TO} (h:PO X e t) (hi:∀ σ H Q,t' σ H Q->t σ H Q):PO X e t':=λ pins s σ H Q I q=>h pins s σ H Q I (hi _ _ _ q)
theorem fC.imp {fn:Value} {r r':List V->Hp->VK->Prop} (h:fC X fn r) (hi:∀ x H Q,r' x H Q->r x H Q):fC X fn r':=λ pins s σ H x u Q I rx q=>h pins s σ H x u Q I rx (hi _ _ _ q)
theorem call_of {o:List D->Option D} {g:DA} {σ:St} {H:Hp} {Q:VK} (K:W.Frag) (hh:rdE K (jr o g) σ H Q):tCB (rdL K o) (rdA K g) σ H Q:=by
 obtain ⟨H0,Hs,τ,fp,d,st,sm,e,k⟩:=hh;obtain ⟨xs,e1,e⟩:=bind_some e;exact ⟨H0,Hs,τ,fp,xs,st,sm,e1,λ v Hs1 H1 g1 r1=>⟨Hs1,xs,d,g1.sh,r1,e,λ w Hs2 H2 g2 r2=>k w Hs2 H2 (g1.trans g2) r2⟩⟩
theorem ip:fC X (.builtin "len") (rdL X.K s9):=zg.imp λ xs H Q ⟨Hs,ds,d,sm,r,e,k⟩=>by
 match ds,r,e with
 | [x],.cons hx .nil,e =>
  cases hx with
  | str z =>
   by_cases hl:z.length<=100000
   ·have e':D.int z.length=d:=by simpa [s9,hl] using e
    subst e';exact ⟨_,_,rfl,⟨ue hl,rfl⟩,k _ Hs H (.refl sm) (.int _)⟩
   · simp [s9,hl] at e
  | @tup a ys ds h r =>
   have e':=Zj e;subst e';exact ⟨_,_,rfl,.inr ⟨_,sm.tup h,rfl⟩,by rw [r.length]; exact k _ Hs H (.refl sm) (.int _)⟩
  | @lst a ys ds h r =>
   have e':D.int ds.length=d:=Zj e;subst e';exact ⟨_,_,rfl,.inl ⟨_,SqL.of (sm _ _ h),rfl⟩,by rw [r.length]; exact k _ Hs H (.refl sm) (.int _)⟩
  | @fz a ys ds h r =>
   have e':D.int ds.length=d:=Zj e;subst e';exact ⟨_,_,rfl,.inl ⟨_,sm.seq h,rfl⟩,by rw [r.length]; exact k _ Hs H (.refl sm) (.int _)⟩
  | _=>exact nn e
 | [],_,e=>simp [s9] at e
 | _::_::_,_,e=>simp [s9] at e
theorem wV:fC X (.builtin "isinstance") (rdL X.K K7):=by
 intro pins s σ H xs us Q I rv ⟨Hs,ds,d,sm,r,e,k⟩
 have sh:∃ x n,ds=[x,.ty n]:=by
   unfold K7 at e;split at e
   · exact ⟨_,_,rfl⟩
   · cases e
 obtain ⟨x,n,rfl⟩:=sh
 cases r with
 | cons hx rr=>cases rr with
  | cons hy rr=>cases rr with
   | nil =>
   cases hy;obtain ⟨t,e1,e2⟩:=bind_some (e)
   by_cases hn:n ∈ kinds
   ·rw [if_pos hn] at e2
    have e':=Zj e2;subst e';obtain ⟨u,w',rfl,ru,rw'⟩:=vals2 rv;have e2:=rw';subst e2;have fin:∀ tk,EP X pins σ Q (.bool (Ko t n)) { s with toks:=tk }:=λ tk=>⟨.bl _,H,I.tok tk,rfl,k _ Hs H (.refl sm) (.bl _)⟩
    have low:∀ {v:V} {T:String},uc X.K H v (.type T)->RelV v u->T ∈ ["NoneType","bool","int","str","tuple","list","dict"]->some T=some t->wpAny (model X.prog X.w) X.A (call (.builtin "isinstance") [u,.type n]) (EP X pins σ Q) X.xe s:=λ ty ru hm et=>by
     have et':=Zj et;subst et';exact vQ I ru ty (vJ hm hn) fin
    cases hx with
    | non=>exact low (.non) ru (by simp) e1
    | bl b=>exact low (.bl b) ru (by simp) e1
    | int i=>exact low (.int i) ru (by simp) e1
    | str z=>exact low (.str z) ru (by simp) e1
    | lst h _=>exact low (.lst (sm _ _ h)) ru (by simp) e1
    | dct h _=>exact low (.dK (sm _ _ h)) ru (by simp) e1
    | @tup p ys ds h _ =>
     have et':=Zj e1;subst et';cases (ru);obtain ⟨its,_,⟨o,h1,h2,_⟩,_⟩:=I.tuple (sm.tup h);exact Yp PySem.W.kitx_tuple I.kIn ⟨o,h1,h2⟩ (vJ (by simp) hn) (λ z=>nomatch z) fin
    | ty m=>simp [tyN] at e1
    | cls m=>simp [tyN] at e1
    | dfz _ _=>simp [tyN] at e1
    | fz _ _=>simp [tyN] at e1
    | obj _ _=>simp [tyN] at e1
   · rw [if_neg hn] at e2; cases e2
theorem qx:fC X (.type "tuple") (rdL X.K rl):=mG.imp λ xs H Q ⟨Hs,ds,d,sm,r,e,k⟩=>by
 match ds,r,e with
 | [x],.cons hx .nil,e =>
  cases hx with
  | @tup a ys ds h r =>
   have e':=Zj e;subst e';exact ⟨_,_,rfl,.inr ⟨sm.tup h,k _ Hs H (.refl sm) (.tup h r)⟩⟩
  | @lst a ys ds h r =>
   have e':D.tup ds=d:=Zj e;subst e';refine ⟨_,_,rfl,.inl ⟨SqL.of (sm _ _ h),λ l hl=>?_⟩⟩;have g:=Ext.new sm hl (.tup ys);exact k _ _ _ g (.tup (SqT.of aw) (r.same g.ss))
  | _=>exact nn e
 | [],_,e=>simp [rl] at e
 | _::_::_,_,e=>simp [rl] at e
end
def vZ (a:Addr) (H:Hp):Hp:=λ b=>if b=a then none else H b
def DH (i:Nat) (f:DT):DT:=λ τ=>match τ[i]? with
 | some (.own d0)=>f (τ.set i (.shr d0))
 | _=>f τ
theorem Ext.Hv (n:Hs a=none) (ha:H a=some o) (g:Ext (upd Hs a o) H Hs' H'):Ext Hs H (vZ a Hs') H':=by
 refine ⟨λ b u q=>?_,λ b u q=>?_,g.hh,λ b h1 h2=>?_⟩
 ·have ne:b≠a:=λ z=>by subst z; rw [n] at q; cases q
  unfold vZ;rw [if_neg ne];exact g.ss b u (by rw [ar ne]; exact q)
 ·unfold vZ at q
  split at q
  · cases q
  · exact g.sh b u q
 ·unfold vZ
  by_cases z:b=a
  · rw [if_pos z]
  ·rw [if_neg z]
   exact g.fr b (by rw [ar z]; exact h1) h2
theorem bU.frz (sm:bU Hs H) (ha:H a=some o):bU (upd Hs a o) H:=λ b u q=>by
 by_cases z:b=a
 · subst z; rw [aw] at q; rw [ha]; exact q
 · rw [ar z] at q; exact sm b u q
def g9 (f g:DS):DS:=λ τ=>match f τ with
 | some (.next τ')=>g τ'
 | r=>r
def gE:DS:=λ τ=>some (.next τ)
def sIf (c:DT) (f g:DS):DS:=λ τ=>(c τ).bind λ b=>if b=true then f τ else g τ
def xu (i:Nat) (f:DE):DS:=λ τ=>(f τ).map λ d=>.next (τ.set i (.shr d))
def xM (i:Nat) (f:DE):DS:=λ τ=>if i < τ.length then (f τ).map λ d=>.next (τ.set i (.own d)) else none
def qT (f:DE):DS:=λ τ=>(f τ).map λ d=>.ret (.shr d)
def AG (f:DE):DS:=λ τ=>(f τ).map λ d=>.ret (.own d)
def xN (i:Nat):DS:=λ τ=>match τ[i]? with
 | some (.own d)=>some (.ret (.own d))
 | some (.shr d)=>some (.ret (.shr d))
 | _=>none
def xO (f:DE):DS:=λ τ=>(f τ).map λ _=>.next τ
def F8 (i:Nat) (f:DS):DS:=λ τ=>match τ[i]? with
 | some (.own d)=>f (τ.set i (.shr d))
 | _=>f τ
def DV:DS:=λ _=>none
def AM (i:Nat) (f:DE):DS:=λ τ=>(f τ).bind λ d=>match τ[i]? with
 | some (.own (.lst ds))=>if ds.length < 100000 then some (.next (τ.set i (.own (.lst (ds++[d]))))) else none
 | _=>none
section
variable {X:Cx} {a b c e:Expr} {es:List Expr} {pos:Pos} {st:Stmt} {rest:List Stmt} {f g:DS}
theorem Rep.same {K:W.Frag} {Hs0 H0 Hs H:Hp} {σ:St} {τ:List Sl} (r:Rep K Hs0 H0 Hs H σ τ):bU Hs H:=r.ext.sh
theorem Rep.ext' {K:W.Frag} {Hs0 H0 Hs H Hs' H':Hp} {σ:St} {τ:List Sl} (r:Rep K Hs0 H0 Hs H σ τ) (g:Ext Hs H Hs' H'):Rep K Hs0 H0 Hs' H' σ τ:=⟨r.ext.trans g,let ⟨fp,h⟩:=r.st; ⟨fp,h.ext g⟩⟩
theorem Rep.old {K:W.Frag} {Hs0 H0 Hs H:Hp} {σ:St} {τ:List Sl} (r:Rep K Hs0 H0 Hs H σ τ) {p:Addr} (h:H p=none):H0 p=none:=r.ext.hh.free h
theorem uW {K:W.Frag} {H0 Hs H:Hp} {σ:St} {τ:List Sl} {fp:List Addr} (h:StR K H0 Hs H σ τ fp) {p:Addr} (hp:H p=none):p ∉ fp:=λ q=>(h.Cq p q).2.2 hp
theorem Rep.frz {K:W.Frag} {Hs0 H0 Hs H:Hp} {σ:St} {τ:List Sl} {i:Nat} {d:D} (r:Rep K Hs0 H0 Hs H σ τ) (q:τ[i]?=some (.own d)):∃ Hs',Rep K Hs0 H0 Hs' H σ (τ.set i (.shr d)):=by
 obtain ⟨fp,h⟩:=r.st;obtain ⟨a,o,fp',h1,h2,h3,h4,h5,h6,h7,h8⟩:=h.frz q;refine ⟨upd Hs a o,⟨r.ext.ss.trans (aC h2 o),r.same.frz h1,r.ext.hh,λ b k1 k2=>?_⟩,fp',h4⟩;have ne:b≠a:=λ z=>by subst z; exact k2 h3
 rw [ar ne];exact r.ext.fr b k1 k2
end
abbrev DI:=List Sl->Option (List D)
def ItR (K:W.Frag) (J:It) (Hs:Hp) (ds:List D):Prop:=∀ Hs1 H,bU Hs Hs1->bU Hs1 H ->
 (∀ i d,ds[i]?=some d->J.go i H/\∀ x H',J.yld i H x H'->∃ Hs2,Ext Hs1 H Hs2 H'/\Rp K Hs2 x d)/\∀ i,ds.length<=i->J.stop i H
def rdI (K:W.Frag) (f:DI):TI:=λ σ H R=>∃ H0 Hs τ fp ds,StR K H0 Hs H σ τ fp/\bU Hs H/\f τ=some ds/\∀ J Hs' H',Ext Hs H Hs' H'->ItR K J Hs' ds->R J H'
def PId (X:Cx) (tg iter:Expr) (f:DI):Prop:=PI X tg iter (rdI X.K f)
def Cm (f:DE):DI:=λ τ=>(f τ).bind λ d=>match d with | .lst ds=>some ds | .fz ds=>some ds | _=>none
def yI (f:DE):DI:=λ τ=>(f τ).bind λ d=>match d with | .tup ds=>some ds | _=>none
def ph (lo:Int) (n:Nat):List D:=(List.range n).map λ (i:Nat)=>D.int (lo+(i:Int))
def lI (f:DA):DI:=λ τ=>(f τ).bind λ ds=>match ds with | [.int j]=>if -(2 ^ 62)<=j/\j < 2 ^ 62 then some (ph 0 j.toNat) else none | _=>none
theorem rG {K:W.Frag} {a:Addr} {xs:List V} {Hs:Hp} {ds:List D} (h:SqL K Hs a xs) (r:Rps K Hs xs ds):ItR K (Itl K a) Hs ds:=λ Hs1 H g1 g2=>by
 have hq:=g2.seq (g1.seq h);refine ⟨λ i d e=>?_,λ i hi=>⟨xs,hq,by rw [r.length]; exact hi⟩⟩;obtain ⟨x,h1,h2⟩:=r.get e;refine ⟨⟨xs,x,hq,h1⟩,λ x' H' ⟨e1,e2⟩=>?_⟩;subst e1;have e3:=e2 xs hq;rw [h1] at e3;cases e3;exact ⟨Hs1,.refl g2,h2.same g1⟩
theorem vN {K:W.Frag} {Hs:Hp} (lo:Int) (n:Nat):ItR K (Itr lo n) Hs (ph lo n):=λ Hs1 H g1 g2=>by
 refine ⟨λ i d e=>?_,λ i hi=>show n<=i by simpa [ph] using hi⟩;unfold ph at e;rw [List.getElem?_map] at e
 by_cases hi:i < n
 ·rw [List.getElem?_range hi] at e
  have e':D.int (lo+i)=d:=by simpa using e
  subst e';refine ⟨hi,λ x H' ⟨e1,e2⟩=>?_⟩;subst e1 e2;exact ⟨Hs1,.refl g2,.int _⟩
 ·rw [List.getElem?_eq_none (by simpa using hi)] at e
  cases e
theorem PI.imp (h:PI X tg iter t) (hi:∀ σ H R,t' σ H R->t σ H R):PI X tg iter t':=λ pins s σ H R I q=>h pins s σ H R I (hi _ _ _ q)
theorem Cc {K:W.Frag} {a:Addr} {xs:List V} {Hs:Hp} {ds:List D} (h:SqT K Hs a xs) (r:Rps K Hs xs ds):ItR K (Itt K a) Hs ds:=λ Hs1 H g1 g2=>by
 have hq:=g2.tup (g1.tup h);refine ⟨λ i d e=>?_,λ i hi=>⟨xs,hq,by rw [r.length]; exact hi⟩⟩;obtain ⟨x,h1,h2⟩:=r.get e;refine ⟨⟨xs,x,hq,h1⟩,λ x' H' ⟨e1,e2⟩=>?_⟩;subst e1;have e3:=e2 xs hq;rw [h1] at e3;cases e3;exact ⟨Hs1,.refl g2,h2.same g1⟩
abbrev DG:=D->List Sl->Option (List Sl)
def rdG (K:W.Frag) (g:DG):TG:=λ v σ H Q=>∃ Hs0 H0 Hs τ τ' d,Rep K Hs0 H0 Hs H σ τ/\Rp K Hs v d/\g d τ=some τ'/\∀ σ',Rep K Hs0 H0 Hs H σ' τ'->Q σ' H
def PGd (X:Cx) (tg:Expr) (g:DG):Prop:=PG X tg (rdG X.K g)
theorem PG.imp (h:PG X tg t) (hi:∀ v σ H Q,t' v σ H Q->t v σ H Q):PG X tg t':=λ pins s σ H v u Q I r q=>h pins s σ H v u Q I r (hi _ _ _ _ q)
theorem PGs.imp (h:PGs X tg t) (hi:∀ v σ H Q,t' v σ H Q->t v σ H Q):PGs X tg t':=λ pins s σ H v u Q I r q=>h pins s σ H v u Q I r (hi _ _ _ _ q)
def gN (i:Nat):DG:=λ d τ=>some (τ.set i (.shr d))
def mV (b:D->DS):List D->DS
 | [],τ=>some (.next τ)
 | d::ds,τ=>match b d τ with
  | some (.next τ')=>mV b ds τ'
  | some (.cnt τ')=>mV b ds τ'
  | some (.brk τ')=>some (.next τ')
  | r=>r
def AK (it:DI) (g:DG) (b:DS):DS:=λ τ=>(it τ).bind λ ds=>mV (λ d τ=>(g d τ).bind b) ds τ
def bR (c:DT) (b:DS):Nat->DS
 | 0,_=>none
 | n+1,τ=>match c τ with
  | none=>none
  | some false=>some (.next τ)
  | some true=>match b τ with
   | some (.next τ')=>bR c b n τ'
   | some (.cnt τ')=>bR c b n τ'
   | some (.brk τ')=>some (.next τ')
   | r=>r
open Classical in
noncomputable def m9 (c:DT) (b:DS):DS:=λ τ=>if h:∃ n o,bR c b n τ=some o then some (Classical.choose (Xe h)) else none
theorem fc:∀ {n m:Nat} {τ:List Sl} {o:Out},bR c b n τ=some o->n<=m->bR c b m τ=some o
 | 0,_,_,_,h,_=>by simp [bR] at h
 | n+1,0,_,_,_,l=>by omega
 | n + 1,m+1,τ,o,h,l=>by
  have l':n<=m:=by omega
  unfold bR at h ⊢
  cases q:c τ with
  | none=>rw [q] at h; cases h
  | some x =>
   rw [q] at h
   cases x with
   | false=>exact h
   | true =>
    simp only at h ⊢
    cases q2:b τ with
    | none=>rw [q2] at h; exact h
    | some o' =>
     rw [q2] at h
     cases o' with
     | next τ'=>exact fc h l'
     | cnt τ'=>exact fc h l'
     | brk τ'=>exact h
     | ret s=>exact h
theorem fI (h:bR c b n τ=some o):m9 c b τ=some o:=by
 have hx:∃ n o,bR c b n τ=some o:=⟨n,o,h⟩
 unfold m9;rw [dif_pos hx];have h2:=Xe (Xe hx);have h3:=fc h2 (Nat.le_max_left _ n);have h4:=fc h (Nat.le_max_right (Classical.choose hx) n);rw [h3] at h4;exact h4
theorem uD (h:m9 c b τ=some o):∃ n,bR c b n τ=some o:=by
 unfold m9 at h;split at h
 ·rename_i hx
  have e:=Zj h;subst e;exact ⟨_,Xe (Xe hx)⟩
 · cases h
theorem Ext.sub (a:Ext Hs0 H0 Hs1 H1) (b:Ext Hs1 H0 Hs H):Ext Hs0 H0 Hs H:=⟨a.ss.trans b.ss,b.sh,b.hh,λ c h1 h2=>b.fr c (a.fr c h1 h2) h2⟩
theorem Rep.rebase {K:W.Frag} {Hs0 H0 Hs H:Hp} {σ:St} {τ:List Sl} (r:Rep K Hs0 H0 Hs H σ τ):Rep K Hs H0 Hs H σ τ:=⟨⟨.refl _,r.same,r.ext.hh,λ _ h _=>h⟩,r.st⟩
theorem Rep.iU {K:W.Frag} {Hs0 H0 Hs1 H1 Hs H:Hp} {σ:St} {τ:List Sl} (a:Ext Hs0 H0 Hs1 H1) (r:Rep K Hs1 H0 Hs H σ τ):Rep K Hs0 H0 Hs H σ τ:=⟨a.sub r.ext,r.st⟩
theorem Fin.rebase {K:W.Frag} {Hs0 H0 Hs1 H1:Hp} {E:Ends} {o:Out} (a:Ext Hs0 H0 Hs1 H1) (h:Fin K Hs0 H0 E o):Fin K Hs1 H0 E o:=by
 cases o with
 | next τ=>exact λ σ Hs H r=>h σ Hs H (r.iU a)
 | brk τ=>exact λ σ Hs H r=>h σ Hs H (r.iU a)
 | cnt τ=>exact λ σ Hs H r=>h σ Hs H (r.iU a)
 | ret s=>exact λ v Hs H g r=>h v Hs H (a.sub g) r
def fG (n:Nat) (ds:List D):List Sl:=ds.map .shr++List.replicate (n - ds.length) .no
def cc (n m:Nat) (b:DS) (ds:List D):Option Sl:=if ds.length=m then (match b (fG n ds) with | some (.ret s)=>some s | some (.next _)=>some (.shr .non) | _=>none) else none
def spF (F:List D->Option Sl) (K:W.Frag):Sp:=λ vs H Q _=>∃ Hs ds s,bU Hs H/\Rps K Hs vs ds/\F ds=some s/\∀ v Hs' H',Ext Hs H Hs' H'->SlV K H Hs' H' v s->Q v H'
theorem jF {K:W.Frag} {H0 Hs H:Hp}:∀ {vs:List V} {ds:List D} (k:Nat),Rps K Hs vs ds->StR K H0 Hs H (vs.map some++List.replicate k none) (ds.map .shr++List.replicate k .no) []
 | _,_,0,.nil=>.nil
 | _,_,k+1,.nil=>by
  rw [Yc,Yc];exact .no (jF k .nil)
 | _,_,k,.cons h r=>.shr h (jF k r)
section
variable {P:Program} {w:World} {K:W.Frag} {mg:Str->Option Value} {base:Heap}
theorem Fun.okD {x qual:Str} {st:Stmt} {f:Addr} {fd:FuncData} {N ps:List Str} {k:Nat} {b:DS} (F:Fun K x qual st f fd) (S:dS N ps (aK st))
  (hbody:∀ (cdv:Value) (A:Around) (outer:List Env) (s:Shared) (H:Hp) (E:XK),d2 k (A.deeper (envOfC qual (aK st) s.heap.objs.size f cdv)) ->
    xp (zd CX0 P w K mg base N qual (aK st) f cdv A outer s H E).nox (bP st) b):fD P w K mg base CX0 (k+1) f fd ps (spF (cc N.length ps.length b) K):=by
 refine F.ok S (λ vs H Q E h=>?_) (λ cdv A outer s H vs Q E hr h=>?_)
 ·obtain ⟨Hs,ds,s,sm,r,e,_⟩:=h
  unfold cc at e;split at e
  · rename_i hl
    rw [r.length]; exact hl
  · cases e
 obtain ⟨Hs,ds,sl,sm,r,e,q⟩:=h;refine ⟨_,hbody cdv A outer s H E hr,?_⟩;unfold cc at e;split at e
 ·have h0:Rep K Hs H Hs H (start N vs) (fG N.length ds):=⟨.refl sm,[],by unfold start fG; rw [r.length]; exact jF _ r⟩
  cases q2:b (fG N.length ds) with
  | none=>rw [q2] at e; cases e
  | some o =>
    rw [q2] at e;refine ⟨Hs,H,Hs,_,o,h0,q2,?_⟩
    cases o with
    | next τ =>
     have e':=Zj e;subst e';exact λ σ Hs' H' r'=>q .non Hs' H' r'.ext .non
    | ret s =>
     have e':=Zj e;subst e';exact λ v Hs' H' g rv=>q v Hs' H' g rv
    | brk τ=>cases e
    | cnt τ=>cases e
 · cases e
end
def slD:Sl->Option D
 | .shr d=>some d
 | .own d=>some d
 | .no=>none
def slO:Sl->Option D
 | .own d=>some d
 | _=>none
def dFn (F:List D->Option Sl) (f:DA):DE:=λ τ=>(f τ).bind λ ds=>(F ds).bind slD
def CF (F:List D->Option Sl) (f:DA):DE:=λ τ=>(f τ).bind λ ds=>(F ds).bind slO
theorem SlV.shr {K:W.Frag} {H0 Hs H Hs0:Hp} {v:V} {s:Sl} {d:D} (g:Ext Hs0 H0 Hs H) (h:SlV K H0 Hs H v s) (e:slD s=some d):∃ Hs',Ext Hs0 H0 Hs' H/\Rp K Hs' v d:=by
 cases s with
 | no=>cases h
 | shr d' =>
  have e':=Zj e;subst e';exact ⟨Hs,g,h⟩
 | own d' =>
  have e':d'=d:=Zj e;subst e';obtain ⟨a,rfl,o,z⟩:=h;obtain ⟨ob,h1,h2⟩:=o.rp;refine ⟨upd Hs a ob,⟨g.ss.trans (aC o.hid ob),g.sh.frz h1,g.hh,λ b h3 h4=>?_⟩,h2⟩;have ne:b≠a:=λ y=>by subst y; exact h4 z
  rw [ar ne];exact g.fr b h3 h4
section
variable {X:Cx} {e:Expr} {es:List Expr} {x:Str} {p pos:Pos} {k:Nat} {f:Addr} {fd:FuncData} {ps:List Str} {F:List D->Option Sl} {g:DA}
theorem Cs {σ:St} {H:Hp} {Q:VK} (K:W.Frag) (h:rdE K (dFn F g) σ H Q):Az (spF F K) [] E0 (rdA K g) σ H Q:=by
 obtain ⟨H0,Hs,τ,fp,d,st,sm,e,q⟩:=h;obtain ⟨ds,e1,e2⟩:=bind_some e;obtain ⟨s,e2,e3⟩:=bind_some e2;refine ⟨H0,Hs,τ,fp,ds,st,sm,e1,λ vs Hs1 H1 g1 r1=>?_⟩;refine ⟨Hs1,ds,s,g1.sh,by rw [Zz]; exact r1,e2,λ v Hs2 H2 g2 rv=>?_⟩;obtain ⟨Hs3,g3,r3⟩:=rv.shr g2 e3;exact q v Hs3 H2 (g1.trans g3) r3
theorem Cr (K:W.Frag) (h:rdO K (CF F g) σ H Q):Az (spF F K) [] E0 (rdA K g) σ H Q:=by
 obtain ⟨H0,Hs,τ,fp,d,st,sm,e,q⟩:=h;obtain ⟨ds,e1,e2⟩:=bind_some e;obtain ⟨s,e2,e3⟩:=bind_some e2;refine ⟨H0,Hs,τ,fp,ds,st,sm,e1,λ vs Hs1 H1 g1 r1=>?_⟩;refine ⟨Hs1,ds,s,g1.sh,by rw [Zz]; exact r1,e2,λ v Hs2 H2 g2 rv=>?_⟩
 cases s with
 | own d' =>
  have e':=Zj e3;subst e';obtain ⟨a,rfl,o,z⟩:=rv;exact q a Hs2 H2 (g1.trans g2) o (g1.hh.free z)
 | shr _=>cases e3
 | no=>cases e3
theorem Be (Fo:fD X.prog X.w X.K X.mg X.base CX0 k f fd ps (spF F X.K)) (hr:d2 k X.A) (hg:Gl X x) (hm:X.mg x=some (.ref f)) (hk:W.keepIn X.K (.ref f)=true) (hb:Binds X.K fd ps [])
 (ha:PAd X (e::es) g) (hdb:(x == ("__debug__":Str))=false:=by decide) (he:starEach (e::es) X.env=(false,eval e X.env)::starEach es X.env:=by rfl) (hpl:(backTo pos (starEach es X.env)).any (·.1)=false:=by rfl) :
 PEd X (.Call (.Name x p) (e::es) [] pos) (dFn F g):=(iB Fo hr hg hm hk hb .nil kW ha hdb he hpl).imp λ σ H Q h=>Cs X.K h
theorem A0 (Fo:fD X.prog X.w X.K X.mg X.base CX0 k f fd ps (spF F X.K)) (hr:d2 k X.A) (hg:Gl X x) (hm:X.mg x=some (.ref f)) (hk:W.keepIn X.K (.ref f)=true) (hb:Binds X.K fd ps [])
 (ha:PAd X (e::es) g) (hdb:(x == ("__debug__":Str))=false:=by decide) (he:starEach (e::es) X.env=(false,eval e X.env)::starEach es X.env:=by rfl) (hpl:(backTo pos (starEach es X.env)).any (·.1)=false:=by rfl) :
 PEo X (.Call (.Name x p) (e::es) [] pos) (CF F g):=(iB Fo hr hg hm hk hb .nil kW ha hdb he hpl).imp λ σ H Q h=>Cr X.K h
end
def ud (g:D->Option D):List D->Option (List D)
 | []=>some []
 | d::ds=>(g d).bind λ x=>(ud g ds).bind λ xs=>some (x::xs)
def DP:Option Sl->Sl
 | some (.shr d)=>.shr d
 | _=>.no
def jt (τ:List Sl) (cs:List (Str×Nat)):List Sl:=cs.map λ p=>DP τ[p.2]?
def wN (it:DI) (g:DE) (cs:List (Str×Nat)):DE:=λ τ=>(it τ).bind λ ds=>if ds.length<=100000 then (ud (λ d=>g (.shr d::jt τ cs)) ds).map .lst else none
theorem lZ {K:W.Frag} {H0 Hs H:Hp} {σ:St} {τ:List Sl} {fp:List Addr} (st:StR K H0 Hs H σ τ fp):∀ cs:List (Str×Nat),StR K H0 Hs H (aG σ cs) (jt τ cs) []
 | []=>.nil
 | p :: cs=>by
  have ih:=lZ st cs;show StR K H0 Hs H ((σ[p.2]?).join::aG σ cs) (DP τ[p.2]?::jt τ cs) []
  cases q:τ[p.2]? with
  | none=>exact .no ih
  | some sl =>
   cases sl with
   | no=>exact .no ih
   | own d=>exact .no ih
   | shr d =>
    obtain ⟨v,h1,h2⟩:=st.get q;rw [h1];exact .shr h2 ih
section
variable {X:Cx} {e:Expr} {es:List Expr} {pos:Pos}
theorem wQ {K:W.Frag} {it:DI} {g:DE} {cs:List (Str×Nat)} {σ:St} {H:Hp} {Q:VK} (h:rdO K (wN it g cs) σ H Q):xG (rdI K it) (rdE K g) cs σ H Q:=by
 obtain ⟨H0,Hs,τ,fp,d,st,sm,e,k⟩:=h;obtain ⟨ds,e1,e2⟩:=bind_some e;split at e2
 ·rename_i hl
  obtain ⟨full,e3,rfl⟩:=Zm e2;refine ⟨H0,Hs,τ,fp,ds,st,sm,e1,λ J Hs1 H1 g1 hJ=>?_⟩;refine ⟨λ i m ys H'=>m=ds.length - i/\i<=ds.length/\∃ Hs2 es rest,Ext Hs1 H1 Hs2 H'/\Rps K Hs2 ys es/\es.length=i/\ud (λ d=>g (.shr d::jt τ cs)) (ds.drop i)=some rest/\es++rest=full,⟨ds.length,by simp,Z4 _,Hs1,[],full,.refl g1.sh,.nil,rfl,by simpa using e3,rfl⟩,?_⟩
  rintro i m ys H2 ⟨rfl,hi,Hs2,es,rest,g2,ry,ley,e4,e5⟩
  obtain ⟨hgo,hstop⟩:=hJ Hs2 H2 g2.ss g2.sh;have ly:ys.length=i:=by rw [ry.length,ley]
  by_cases hlt:i < ds.length
  ·have ed:=Y1 hlt
   rw [ed] at e4;obtain ⟨x,q1,q2⟩:=bind_some e4;obtain ⟨xs,q3,q4⟩:=bind_some q2;have eq:=Zj q4;subst eq;obtain ⟨go,yl⟩:=hgo i ds[i] (List.getElem?_eq_getElem hlt);refine .inr ⟨go,by rw [ly]; exact le5 (by omega),λ v H3 y=>?_⟩;obtain ⟨Hs3,g3,rv⟩:=yl v H3 y;have g13:=(g1.trans g2).trans g3;refine ⟨H0,Hs3,.shr ds[i]::jt τ cs,[],x,.shr rv (lZ (st.ext g13) cs),g3.sh,q1,λ v4 Hs4 H4 g4 r4=>?_⟩;exact ⟨ds.length - (i+1),by omega,rfl,hlt,Hs4,es++[x],xs,(g2.trans g3).trans g4,((ry.same g3.ss).same g4.ss).append (.cons r4 .nil),by simp [ley],q3,by rw [<- e5]; simp⟩
  ·have e0:i=ds.length:=by omega
   subst e0;rw [Xz] at e4;have er:=Zj e4;subst er;rw [Zz] at e5;subst e5;refine .inl ⟨hstop _ (Zl _),by rw [ly]; exact ue hl,λ p hp=>?_⟩;have g12:=g1.trans g2;exact k p Hs2 _ ⟨g12.ss,g12.sh.trans (aC hp _),g12.hh.trans (aC hp _),g12.fr⟩ (.lst aw (g12.sh.free hp) ry) (g12.hh.free hp)
 · cases e2
end
theorem rR {b:D->DS} {o:Out} (P:Nat->List Sl->Prop):∀ {ds:List D} {τ:List Sl} (i:Nat),P i τ->(∀ j d τ,ds[j]?=some d->P (i+j) τ->∃ τ',b d τ=some (.next τ')/\P (i+j+1) τ')->∃ τ',mV b ds τ=some (.next τ')/\P (i+ds.length) τ'
 | [],τ,i,h,_=>⟨τ,rfl,h⟩
 | d::ds,τ,i,h,hs=>by
  obtain ⟨τ1,e1,p1⟩:=hs 0 d τ rfl h
  obtain ⟨τ2,e2,p2⟩:=rR (o:=o) P (ds:=ds) (τ:=τ1) (i+1) p1 λ j d' τ' hj p=>by
   have:=hs (j+1) d' τ' (by simpa using hj) (by rw [show i+(j+1)=i+1+j by omega]; exact p);rw [show i+(j+1)+1=i+1+j+1 by omega] at this;exact this
  refine ⟨τ2,?_,?_⟩
  · simp only [mV,e1]; exact e2
  · rw [Zy,show i+(ds.length+1)=i+1+ds.length by omega]; exact p2
def C0 (C:Addr) (f:Str):D->Option D
 | .obj C' fs=>if C'=C then fs.lookup f else none
 | _=>none
theorem RpF.look {K:W.Frag} {H:Hp} {f:Str} {d:D}:∀ {fs:List (Str×V)} {ds:List (Str×D)},RpF K H fs ds->ds.lookup f=some d->∃ v,fs.lookup f=some v/\Rp K H v d
 | _,_,.nil,e=>by simp at e
 | _,_,@RpF.cons _ _ k x d' xs ds h r,e=>by
  rw [X0] at e ⊢
  by_cases q:f == k
  ·simp only [q] at e ⊢
   cases e;exact ⟨x,rfl,h⟩
  ·simp only [Bool.not_eq_true] at q
   simp only [q] at e ⊢;exact RpF.look r e
theorem RpF.EX {K:W.Frag} {H:Hp} {f:Str}:∀ {fs:List (Str×V)} {ds:List (Str×D)},RpF K H fs ds->ds.lookup f=none->fs.lookup f=none
 | _,_,.nil,e=>rfl
 | _,_,@RpF.cons _ _ k x d' xs ds h r,e=>by
  rw [X0] at e ⊢
  by_cases q:f == k
  · simp only [q] at e; cases e
  ·simp only [Bool.not_eq_true] at q
   simp only [q] at e ⊢;exact RpF.EX r e
theorem RpF.zip {K:W.Frag} {H:Hp}:∀ {ns:List Str} {vs:List V} {ds:List D},Rps K H vs ds->RpF K H (ns.zip vs) (ns.zip ds)
 | [],_,_,_=>by simp; exact .nil
 | _::_,_,_,.nil=>by simp; exact .nil
 | n::ns,_,_,.cons h r=>by
  rw [List.zip_cons_cons,List.zip_cons_cons];exact .cons h (RpF.zip r)
section
variable {X:Cx} {e o:Expr} {es:List Expr} {x m f:Str} {p pos apos:Pos} {k:Nat} {C fa:Addr} {fd:FuncData} {ps:List Str} {F:List D->Option Sl} {g:DE} {ga:DA}
def ko (C:Addr) (m:Str) (F:List D->Option Sl) (o:DE) (g:DA):DE:=λ τ=>(o τ).bind λ x=>(g τ).bind λ ds=>match x with
 | .obj C' fs=>if C'=C/\fs.lookup m=none then (F (x::ds)).bind slD else none
 | _=>none
theorem BU (K:W.Frag) (h:rdE K (ko C m F g ga) σ H Q):Dz C m (spF F K) [] E0 (rdE K g) (rdA K ga) σ H Q:=by
 obtain ⟨H0,Hs,τ,fp,d,st,sm,e,q⟩:=h;obtain ⟨x,e1,e2⟩:=bind_some e;obtain ⟨ds,e3,e4⟩:=bind_some e2;refine ⟨H0,Hs,τ,fp,x,st,sm,e1,λ v Hs1 H1 g1 r1=>?_⟩
 cases r1 with
 | @obj a C' dx fs dd h r =>
  simp only at e4;split at e4
  ·rename_i hc
   obtain ⟨hc1,hc2⟩:=hc;subst hc1;obtain ⟨s,e5,e6⟩:=bind_some e4;refine ⟨a,dx,fs,rfl,g1.sh _ _ h,r.EX hc2,?_⟩;refine ⟨H0,Hs1,τ,fp,ds,st.ext g1,g1.sh,e3,λ vs Hs2 H2 g2 r2=>?_⟩;refine ⟨Hs2,_,s,g2.sh,.cons ((Rp.obj h r).same g2.ss) (by rw [Zz]; exact r2),e5,λ v Hs3 H3 g3 rv=>?_⟩;obtain ⟨Hs4,g4,r4⟩:=rv.shr g3 e6;exact q v Hs4 H3 ((g1.trans g2).trans g4) r4
  · cases e4
 | _=>exact nn e4
theorem Bb (he:PEd X o g) (c:Cls X.K C) (hm:Dl X.K C m fa) (Fo:fD X.prog X.w X.K X.mg X.base CX0 k fa fd ps (spF F X.K)) (hr:d2 k X.A) (hb:Binds X.K fd ps []) (ha:PAd X (e::es) ga)
 (hst:starEach (e::es) X.env=(false,eval e X.env)::starEach es X.env:=by rfl) (hpl:(backTo pos (starEach es X.env)).any (·.1)=false:=by rfl)
 (ht:eval (.Call (.Attribute o m apos) (e::es) [] pos) X.env=(do
   let ov <- eval o X.env
   standAt apos.atName
   let (f,first) <- holding [ov] (getMethod ov m pl)
   callWith pos f first (backTo pos (starEach (e::es) X.env)) (backToKw pos (keywordEach [] X.env))):=by rfl) :
 PEd X (.Call (.Attribute o m apos) (e::es) [] pos) (ko C m F g ga):=(uU he c hm Fo hr hb .nil kW ha hst hpl ht).imp λ σ H Q h=>BU X.K h
def uz (C:Addr) (ns:List Str):Sp:=λ vs H Q _=>∃ x ws dx,vs=.ref x::ws/\ws.length=ns.length/\H x=some (.ins C dx [])/\Q .non (upd H x (.ins C dx (ns.zip ws)))
def zc (C:Addr) (ns:List Str) (g:DA):DE:=λ τ=>(g τ).bind λ ds=>if ds.length=ns.length then some (.obj C (ns.zip ds)) else none
theorem xE {H:Hp} {p:Addr} {a b:HO}:upd (upd H p a) p b=upd H p b:=Ap
theorem Bc (M:Mk X.K C fa) (Fo:fD X.prog X.w X.K X.mg X.base CX0 k fa fd ps (uz C ns)) (hr:d2 (k+1) X.A) (hg:Gl X x) (hm:X.mg x=some (.ref C)) (hb:Binds X.K fd ps [])
  (ha:PAd X (e::es) ga) (hdb:(x == ("__debug__":Str))=false:=by decide) (he:starEach (e::es) X.env=(false,eval e X.env)::starEach es X.env:=by rfl) (hpl:(backTo pos (starEach es X.env)).any (·.1)=false:=by rfl) :
  PEd X (.Call (.Name x p) (e::es) [] pos) (zc C ns ga):=(uV M Fo hr hg hm hb .nil kW ha hdb he hpl).imp λ σ H Q ⟨H0,Hs,τ,fp,d,st,sm,e,q⟩=>by
 obtain ⟨ds,e1,e2⟩:=bind_some e;split at e2
 ·rename_i hl
  have ed:=Zj e2;subst ed;refine ⟨H0,Hs,τ,fp,ds,st,sm,e1,λ vs Hs1 H1 g1 r1 x dx hx hdx ne=>?_⟩;refine ⟨x,vs,dx,by rw [Zz],by rw [r1.length]; exact hl,aw,rfl,?_⟩;rw [xE];have g2:=Ext.new g1.sh hdx (.own x);have hx':upd H1 dx (.own x) x=none:=by rw [ar (Ne.symm ne)]; exact hx
  have g3:=Ext.new g2.sh hx' (.ins C dx (ns.zip vs));exact q _ _ _ ((g1.trans g2).trans g3) (.obj aw (RpF.zip ((r1.same g2.ss).same g3.ss)))
 · cases e2
end
def eQ:List D->Option (List Int)
 | []=>some []
 | .int i::ds=>(eQ ds).map (i::·)
 | _=>none
theorem nX:∀ {ds:List D} {ns:List Int},eQ ds=some ns->ds=ns.map .int
 | [],ns,h=>by simp [eQ] at h; subst h; rfl
 | .int i::ds,ns,h=>by
  obtain ⟨m,h1,rfl⟩:=Zm (show Option.map _ (eQ ds)=some ns from h);rw [nX h1];rfl
 | .non::_,_,h=>by simp [eQ] at h
 | .bl _::_,_,h=>by simp [eQ] at h
 | .str _::_,_,h=>by simp [eQ] at h
 | .ty _::_,_,h=>by simp [eQ] at h
 | .tup _::_,_,h=>by simp [eQ] at h
 | .lst _::_,_,h=>by simp [eQ] at h
 | .fz _::_,_,h=>by simp [eQ] at h
 | .dct _::_,_,h=>by simp [eQ] at h
 | .obj _ _::_,_,h=>by simp [eQ] at h
 | .cls _::_,_,h=>by simp [eQ] at h
 | .dfz _::_,_,h=>by simp [eQ] at h
theorem Rps.vV {K:W.Frag} {H:Hp}:∀ {xs:List V} {ns:List Int},Rps K H xs (ns.map .int)->xs=ns.map V.int
 | _,[],.nil=>rfl
 | _,n::ns,.cons h r=>by
  cases h;rw [Rps.vV r];rfl
theorem rS {P:Program} {w:World} {K:W.Frag} {mg:Str->Option Value} {base:Heap} {f:Addr} {fd:FuncData} {ps:List Str} {k:Nat}:fD P w K mg base CX0 k f fd ps (spF (λ _=>none) K) :=
 ⟨λ _ _ _ _ ⟨_,_,_,_,_,e,_⟩=>(nomatch e),λ _ _ _ _ _ _ _ _ _ _ _ _ _ ⟨_,_,_,_,_,e,_⟩=>(nomatch e)⟩
section
variable {prog:Program} {w:World} {A:Around} {R:Result->Shared->Prop} {s:Shared}
theorem mD (I:Nat->Shared->Prop)
  (turn:∀ n s,I n s->wpAny (model prog w) A (pyNext it) (λ r s₁=>match r with
    | none=>R (.ok .next) s₁
    | some v=>wpAny (model prog w) A (letOwnedTupleGo target it v) (λ _ s₁'=>wpAny (model prog w) A (assign target env v) (λ _ s₂=>wpAny (model prog w) A (isTrue cnd env (eval cnd env)) (λ ok s₂'=>if ok=true then wpAny (model prog w) A (eval elt env) (λ x s₃ =>
     wpAny (model prog w) A (call (.builtin "list.append") [acc,x]) (λ _ s₄=>∃ m,m < n/\I m s₄) (λ _ _=>False) s₃) (λ _ _=>False) s₂' else ∃ m,m < n/\I m s₂') (λ _ _=>False) s₂) (λ _ _=>False) s₁') (λ _ _=>False) s₁) (λ _ _=>False) s)
  (n:Nat) (h:I n s) :
  codeAny (model prog w) A (.compLoop (.ListComp elt [⟨target,iter,[cnd],0⟩] scope pos) 0 it acc env) R s:=by
 refine codeAny_loop rfl I (λ n s hI=>?_) n h;refine wpAny_noted ?_
 rw [compTurn_list];refine Zo (wpAny_standAt (Zo (Yr (turn n s hI) (λ r s₁ h₁=>?_) λ _ _ h'=>h'.elim)))
 cases r with
 | none=>exact Z3 h₁
 | some v =>
  refine Zo (Yr h₁ (λ _ s₁' h₁'=>?_) λ _ _ h'=>h'.elim);refine Zo (Yr h₁' (λ _ s₂ h₂=>?_) λ _ _ h'=>h'.elim);refine Zo (Yr (wpAny_tests_one h₂) (λ ok s₃ h₃=>?_) λ _ _ h'=>h'.elim)
  cases ok with
  | false =>
    rw [if_neg Zf] at h₃
    rw [if_neg Zf];exact Zo (Z3 (Z3 ⟨rfl,h₃⟩))
  | true =>
    rw [if_pos rfl] at h₃
    rw [if_pos rfl];exact Zo (Zo (Yr h₃ (λ x s₄ h₄=>Zo (Yr h₄ (λ _ s₅ h₅=>Z3 (Z3 ⟨rfl,h₅⟩)) λ _ _ h'=>h'.elim)) λ _ _ h'=>h'.elim))
end
def Ay (J:It) (tt:TT) (te:TE) (cs:List (Str×Nat)) (σ:St) (Q:VK) (H1:Hp):Prop:=∃ W:Nat->Nat->List V->Hp->Prop,(∃ m,W 0 m [] H1)/\∀ i m ys H',W i m ys H' ->
 (J.stop i H'/\ys.length<=sizeLine/\∀ p,H' p=none->Q (.ref p) (upd H' p (.lst ys))) \/
 (J.go i H'/\ys.length < sizeLine/\∀ v H2,J.yld i H' v H2->tt (some v::aG σ cs) H2 λ b H3=>if b=true then te (some v::aG σ cs) H3 λ y H4=>∃ m',m' < m/\W (i+1) m' (ys++[y]) H4 else ∃ m',m' < m/\W (i+1) m' ys H3)
def uu (wi:TI) (tt:TT) (te:TE) (cs:List (Str×Nat)):TE:=λ σ H Q=>wi σ H λ J H1=>Ay J tt te cs σ Q H1
section
variable {X:Cx}
theorem kr {elt iter:Expr} {x:Str} {px pos:Pos} {scope:Scope} {cl:List (Str×Addr)} {cs:List (Str×Nat)} {te:TE} {tt:TT} {cnd:Expr} {pins:List (Addr×Obj)} {σ:St} {H:Hp} {s:Shared} {Q:VK} {it:Addr} {fp:List Addr} {tn:Nat->Heap->Prop} {J:It}
  {RR:Value->Addr->Result->Shared->Prop} {E:Value->Shared->Prop} (hc:X.calm=true) (O:cY X scope cl x cs) (hcd:∀ s H fp C,PT (bW X scope cl (x::cs.map (·.1)) s H fp C) cnd tt) (he:∀ s H fp C,PE (bW X scope cl (x::cs.map (·.1)) s H fp C) elt te)
  (I:Inv X pins σ H s) (T:Turn X.prog X.w X.K (.Name x px) J fp it tn) (st:tn 0 s.heap) (f2:∀ b ∈ fp,pj X pins H b)
  (h : ∃ W:Nat->Nat->List V->Hp->Prop,(∃ m,W 0 m [] H)/\∀ i m ys H',W i m ys H' ->
    (J.stop i H'/\ys.length<=sizeLine/\∀ p,H' p=none->Q (.ref p) (upd H' p (.lst ys))) \/
    (J.go i H'/\ys.length < sizeLine/\∀ v H2,J.yld i H' v H2->tt (some v::aG σ cs) H2 λ b H3=>if b=true then te (some v::aG σ cs) H3 λ y H4=>∃ m',m' < m/\W (i+1) m' (ys++[y]) H4 else ∃ m',m' < m/\W (i+1) m' ys H3))
  (hRR:∀ D C s' H' ys,s.heap.objs.size<=D->s.heap.objs.size<=C->D≠C->(∃ m,s'.heap.Ns C m)->Inv X pins σ (upd H' D (.lst ys)) s'->H' C=none->Q (.ref D) (upd H' D (.lst ys))->RR (.ref D) C (.ok .next) s') :
  wpAny (model X.prog X.w) X.A (newList []) (λ acc s₃=>wpAny (model X.prog X.w) X.A (newFunctionEnv scope X.env.globals cl [] X.env.qual none .none (some X.env)) (λ cenv s₄ =>
    codeAny (model X.prog X.w) X.A (.compStart (.ListComp elt [⟨.Name x px,iter,[cnd],0⟩] scope pos) 0 (.ref it) acc { cenv with scope:=relabel scope X.env }) (RR acc cenv.locals) s₄) E s₃) E s:=by
 obtain ⟨W,⟨m0,w0⟩,turn⟩:=h;refine Xw (wpAny_newFunctionEnv O.rz (by intro y hy; simp at hy) (λ h₁ hns₁ hsb₁=>?_) O.kind);generalize hH2:s.heap.push { cls:=.type "list",dict:=none,data:=.seq ([]:List Value).toArray }=H2 at hns₁ hsb₁ ⊢
 have hC:H2.objs.size=s.heap.objs.size+1:=by rw [<- hH2,Y7]
 have hDC:s.heap.objs.size≠H2.objs.size:=by rw [hC]; exact Zx (Xa _)
 have hCle:s.heap.objs.size<=H2.objs.size:=by rw [hC]; exact Nat.le_succ _
 have neC:∀ b,b < s.heap.objs.size->b≠H2.objs.size:=λ b hb=>by rw [hC]; exact Zx (Nat.lt_succ_of_lt hb)
 have old:∀ b o,s.heap.get? b=some o->h₁.get? b=some o:=λ b o e=>hsb₁.extBut b o (neC b (Zs e)) (Heap.get?_push_of_some _ (hH2 ▸ Heap.get?_push_of_some _ e))
 have hacc:=hsb₁.extBut _ _ hDC (Heap.get?_push_of_some _ (hH2 ▸ Heap.get?_push_size _ rfl))
 have there:∀ b ∈ fp,b < s.heap.objs.size:=λ b hb=>by
  obtain ⟨o,e,_⟩:=T.obj _ _ st b hb;exact Zs e
 have hns:h₁.Ns H2.objs.size λ _=>none:=by
  have e:(λ x=>List.lookup x ([]:List (Str×Value)).reverse)=λ _=>none:=by funext y; rfl
  rw [e] at hns₁
  exact hns₁
 generalize hD:s.heap.objs.size=D at hDC hCle hacc;generalize hCC:H2.objs.size=C at hDC hCle hns ⊢;have FD:=I.tK (b:=D) (by rw [<- hD]; exact Zl _) (I.hok.fresh (by rw [<- hD]; exact Zl _));have nfpD:∀ b ∈ fp,b≠D:=λ b hb=>by rw [<- hD]; exact Zx (there b hb)
 have nfpC:∀ b ∈ fp,b≠C:=λ b hb=>Zx (Zv (there b hb) (by rw [hD]; exact hCle))
 have st1:=T.keep _ _ _ st λ b _ o e=>old b o e
 have I1:Inv (bW X scope cl (x::cs.map (·.1)) s H fp C) [] (none::aG σ cs) H { s with heap:=h₁,toks:=s.toks+([]:List (Str×Value)).length } :=
  lO O I f2 there (by rw [hD]; exact hCle) old hns
 generalize hY:bW X scope cl (x::cs.map (·.1)) s H fp C=Y at I1
 have pgx:PG Y (.Name x px) (k6 0):=by
  subst hY;exact gL O.nd rfl (.inl (Xy O.own)) (.inr (Xy O.own))
 have peY:PE Y elt te:=by subst hY; exact he _ _ _ _
 have ptY:PT Y cnd tt:=by subst hY; exact hcd _ _ _ _
 have Yx:Y.prog=X.prog/\Y.w=X.w/\Y.K=X.K/\Y.A=X.A/\Y.env=compEnvC scope cl C X.env/\Y.calm=X.calm/\Y.xe=(λ _ _=>False)/\Y.pn=[]/\Y.ex=fp/\Y.fs=frs X.stack/\Y.s₀=s/\Y.H₀=H:=by subst hY; exact ⟨rfl,rfl,rfl,rfl,rfl,rfl,rfl,rfl,rfl,rfl,rfl,rfl⟩
 obtain ⟨y1,y2,y3,y4,y5,y6,y7,y8,y9,y10,y11,y12⟩:=Yx;have nstk:∀ b,b≠X.env.locals->b ∉ X.fs->b ∉ Y.fs:=λ b h1 h2 z=>by rw [y10] at z; exact (Zi.mp (I.lq b z)).elim h1 h2
 have yl:Y.env.locals=C:=by rw [y5]; rfl
 have yc:∀ z c,Y.env.cells.lookup z=some c->X.env.cells.lookup z=some c:=λ z c e=>by rw [y5] at e; exact O.sub z c e
 have stat:∀ {ps:List (Addr×Obj)} {H':Hp},(∀ b ∈ fp,H' b=none)->(∀ p ∈ ps,p.1=D)->∀ b ∈ fp,pj Y ps H' b:=λ {ps H'} hn hp b hb =>
  ⟨hn b hb,by rw [yl]; exact nfpC b hb,nstk b (f2 b hb).2.1 (f2 b hb).2.2.1,.inl (by rw [y9]; exact hb),λ z c e=>(f2 b hb).2.2.2.2.1 z c (yc z c e),λ p hq=>by
    rw [y8,List.nil_append] at hq;rw [hp p hq]
    exact Ne.symm (nfpD b hb)⟩
 have pinD:∀ {σ':St} {H':Hp} {s':Shared} {ob:Obj},Inv Y [] σ' H' s'->H' D=none->s'.heap.get? D=some ob->(∀ v,ob.data≠.cell v)->Inv Y [(D,ob)] σ' H' s':=λ {σ' H' s' ob} I' hn e hd =>
  I'.gK λ p hp=>by
    have e1:p=(D,ob):=by simpa using hp
    subst e1;exact ⟨e,hn,by rw [yl]; exact hDC,nstk D FD.2.1 FD.2.2.1,hd⟩
 have loop:∀ s₃:Shared,s₃={ s with heap:=h₁,toks:=s.toks+([]:List (Str×Value)).length } ->
    codeAny (model X.prog X.w) X.A (.compLoop (.ListComp elt [⟨.Name x px,iter,[cnd],0⟩] scope pos) 0 (.ref it) (.ref D) (compEnvC scope cl C X.env)) (RR (.ref D) C) s₃:=by
  rintro s₃ rfl
  refine mD (λ n s'=>∃ i o H' ys its k,Inv Y [] (o::aG σ cs) H' s'/\tn i s'.heap/\(∀ b ∈ fp,H' b=none)/\H' D=none/\s'.heap.get? D=some { cls:=.type "list",data:=.seq (its:List Value).toArray k }/\bG ys its/\W i n ys H') ?_ m0
    ⟨0,none,H,[],[],0,I1,st1,λ b hb=>(f2 b hb).1,FD.1,hacc,.nil,w0⟩
  rintro n s3 ⟨i,o,H3,ys,its,k,I3,st3,fr3,frD,e3,vs3,w3⟩
  have I3p:=pinD I3 frD e3 (by intro v z; cases z)
  have onlyD:∀ p ∈ [(D,({ cls:=.type "list",data:=.seq its.toArray k }:Obj))],p.1=D:=λ p hp=>by
    have e1:=Zr.mp hp;rw [e1]
  rcases turn i n ys H3 w3 with ⟨stop,hz,q⟩ | ⟨go,hz,step⟩
  · have dn:=T.done Y y1 y2 y3 (by rw [y6]; exact hc) i _ s3 (o::aG σ cs) H3 (λ _ _=>False) I3p (stat fr3 onlyD) st3 stop
    rw [y4] at dn;refine thn dn λ r s4 ⟨hr,I4⟩=>?_
    subst hr;obtain ⟨e4,_⟩:=I4.pin (D,_) (Zc _ (Zr.mpr rfl));have b4:=I4.base;rw [y9,y10,y11,y12] at b4;have hk4:=I4.hok;rw [y1,y2] at hk4;have hCn:H3 C=none:=by have:=I4.free; rw [yl] at this; exact this
    refine hRR D C s4 H3 ys (by rw [<- hD]; exact Zl _) (by rw [hD]; exact hCle) hDC (by obtain ⟨m,hm,_⟩:=I4.loc; rw [yl] at hm; exact ⟨m,hm⟩) ?_ hCn (q D frD);have neD:∀ b o,s.heap.get? b=some o->b≠D:=λ b o e=>by rw [<- hD]; exact Zx (Zs e)
    have neDH:∀ b u,H b=some u->b≠D:=λ b u e=>by rw [<- hD]; exact Zx (I.hok.lt e)
    refine I.FT (by have:=I4.os; rw [y11] at this; exact this) ⟨b4.keep,b4.slot,λ b o e n hx=>?_,b4.there,λ b xs e=>?_,λ b o u e=>?_,λ b ps e=>?_⟩ (λ b u e=>?_) I4.bare λ b hb=>?_
    · rw [ar (neD b o e)]; exact b4.free b o e n hx
    · rw [ar (neDH b _ e)]; exact b4.xr b xs e
    · rw [ar (neDH b _ e)]; exact b4.wc b o u e
    · rw [ar (neDH b _ e)]; exact b4.xt b ps e
    ·have t1:∀ c u,H3 c=some u->upd H3 D (.lst ys) c=some u:=λ c u z=>by
      rw [ar (λ zz=>by rw [zz,frD] at z; cases z)];exact z
     by_cases hb:b=D
     ·subst hb
      rw [aw] at e;cases e;exact ⟨hz,its,k,vs3,e4⟩
     ·rw [ar hb] at e
      exact (hk4 b u e).ux (λ _ _ _ z=>z) (λ c z=>t1 c _ z) λ c xs z=>t1 c _ z
    · exact ⟨(f2 b hb).2.2.2.1,(f2 b hb).2.1,(f2 b hb).2.2.2.2.1,(f2 b hb).2.2.2.2.2⟩
  · have im:=T.item Y y1 y2 y3 (by rw [y6]; exact hc) i _ s3 (o::aG σ cs) H3 (λ _ _=>False) I3p (stat fr3 onlyD) st3 go
    rw [y4] at im;refine thn im λ r s4 ⟨u,hr,h4⟩=>?_
    subst hr;refine thn h4 λ _ s5 ⟨v,H5,I5,r5,y5',st5,fr5⟩=>?_
    have I5':=I5.pinned (stat fr5 onlyD) (T.obj _ _ st5);have as:=pgx _ s5 (o::aG σ cs) H5 v u _ I5' r5 (show k6 0 v (o::aG σ cs) H5 (λ σ' H'=>σ'=some v::aG σ cs/\H'=H5) from ⟨rfl,rfl⟩);rw [y1,y2,y4,y5,y7] at as;refine thn as λ _ s6 ⟨σ6,H6,I6,e6,e6'⟩=>?_
    subst e6 e6';have ts:=ptY _ s6 _ H6 _ I6 (step v H6 y5');rw [y1,y2,y4,y5,y7] at ts;refine thn ts λ bb s7 ⟨H7,I7,q7⟩=>?_
    have fpk:∀ b ∈ fp,∀ o,s5.heap.get? b=some o->s7.heap.get? b=some o/\H7 b=none:=λ b hb o e=>by
     obtain ⟨z1,z2,_⟩:=I7.pin (b,o) (Zc _ (Zc _ (eL hb e)));exact ⟨z1,z2⟩
    cases bb with
    | false =>
     obtain ⟨m',hm',w7⟩:=(by rw [if_neg Zf] at q7; exact q7)
     rw [if_neg Zf];obtain ⟨e7,n7,_⟩:=I7.pin (D,_) (Zc _ (Zp _ (Zr.mpr rfl)));have I7n:Inv Y [] (some v::aG σ cs) H7 s7:=I7.gK λ p hp=>absurd hp (by simp)
     refine ⟨m',hm',i+1,some v,H7,ys,its,k,I7n,T.keep _ _ _ st5 λ b hb o e=>(fpk b hb o e).1,λ b hb=>?_,n7,e7,vs3,w7⟩;obtain ⟨o',e',_⟩:=T.obj _ _ st5 b hb;exact (fpk b hb o' e').2
    | true =>
    rw [if_pos rfl];have q7':=q7;rw [if_pos rfl] at q7';have el:=peY _ s7 _ H7 _ I7 q7';rw [y1,y2,y4,y5,y7] at el;refine thn el λ u8 s8 ⟨y8',H8,I8,r8,m',hm',w8⟩=>?_
    obtain ⟨e8,n8,_⟩:=I8.pin (D,_) (Zc _ (Zp _ (Zr.mpr rfl)));have hl3:=vs3.length;refine Xq F.slot_list_append ⟨_,e8,rfl⟩ F.entry_list_append (F.args_list_append_2 _ _) (PySem.list_append D its.toArray k u8 (by rw [Zt]; omega)) ⟨e8,?_⟩;obtain ⟨k',up⟩:∃ k',(s8.heap.update D (Obj.mapSeq (·.push u8))).get? D=some { cls:=.type "list",data:=.seq (its.toArray.push u8) k' }:=⟨_,PySem.IsL.update e8 (·.push u8)⟩
    have fpk8:∀ b ∈ fp,∀ o,s5.heap.get? b=some o->s8.heap.get? b=some o/\H8 b=none:=λ b hb o e=>by
     obtain ⟨z1,z2,_⟩:=I8.pin (b,o) (Zc _ (Zc _ (eL hb e)));exact ⟨z1,z2⟩
    have I8n:Inv Y [] (some v::aG σ cs) H8 s8:=I8.gK λ p hp=>absurd hp (by simp)
    refine ⟨m',hm',i+1,some v,H8,ys++[y8'],its++[u8],k',?_,?_,?_,n8,?_,vs3.append (.cons r8 .nil),w8⟩
    ·refine I8n.turned (λ b o hb e=>(Heap.get?_update_other s8.heap (Obj.mapSeq (·.push u8)) (Ne.symm hb)).trans e) n8 (by rw [yl]; exact hDC) (.inr (by rw [y11,<- hD]; exact Zl _)) (λ z c e=>FD.2.2.2.2.1 z c (yc z c e)) λ p hp=>?_
     rw [y8] at hp;exact absurd hp (by simp)
    ·refine T.keep _ _ _ st5 λ b hb o e=>?_
     exact (Heap.get?_update_other s8.heap (Obj.mapSeq (·.push u8)) (Ne.symm (nfpD b hb))).trans (fpk8 b hb o e).1
    ·intro b hb
     obtain ⟨o',e',_⟩:=T.obj _ _ st5 b hb;exact (fpk8 b hb o' e').2
    ·rw [List.push_toArray] at up
     exact up
 exact codeAny_compStart_list (loop _ rfl) (T.self _ 0 _ _ _ st1 (loop _ rfl))
theorem rf {elt iter:Expr} {x:Str} {px pos:Pos} {scope:Scope} {cl:List (Str×Addr)} {cs:List (Str×Nat)} {wi:TI} {te:TE} {tt:TT} {cnd:Expr} (hc:X.calm=true) (O:cY X scope cl x cs) (hi:PI X (.Name x px) iter wi)
  (hcd:∀ s H fp C,PT (bW X scope cl (x::cs.map (·.1)) s H fp C) cnd tt) (he:∀ s H fp C,PE (bW X scope cl (x::cs.map (·.1)) s H fp C) elt te) (hs:∀ x,foldedSetIterable iter X.env x=pure x:=by intro _; rfl) :
  PE X (.ListComp elt [⟨.Name x px,iter,[cnd],0⟩] scope pos) (uu wi tt te cs):=by
 intro pins s σ H Q I h;rw [eval_ListComp];refine Y5 rfl hs O.ze O.kind O.names (thn (hi pins s σ H _ I h) λ v s1 h1=>thn h1 λ itv s2 h2=>?_);obtain ⟨it,fp,tn,J,H2,rfl,I2,T,st2,f2,hw⟩:=h2;refine kr hc O hcd he I2 T st2 f2 hw λ D C s' H' ys hD hC hDC ⟨m,hm⟩ I' hn q=>?_
 refine ⟨m,hm,λ h' hs'=>?_⟩;have hn':upd H' D (.lst ys) C=none:=by rw [ar (Ne.symm hDC)]; exact hn
 have FC:=I2.tK hC hn';exact ⟨.ref D,upd H' D (.lst ys),I'.turned (λ b o hb e=>(hs'.2 b hb).trans e) hn' FC.2.1 FC.2.2.2.1 FC.2.2.2.2.1 FC.2.2.2.2.2,rfl,q⟩
theorem xW {elt iter:Expr} {x y:Str} {px py pos spos:Pos} {i:Nat} {scope:Scope} {cl:List (Str×Addr)} {cs:List (Str×Nat)} {wi:TI} {te:TE} {tt:TT} {cnd:Expr} (hN:X.N.Nodup) (hy:X.N[i]?=some y) (hx:Loc X.env.scope y)
  (hc:X.calm=true) (O:cY X scope cl x cs) (hi:PI X (.Name x px) iter wi)
  (hcd:∀ s H fp C,PT (bW X scope cl (x::cs.map (·.1)) s H fp C) cnd tt) (he:∀ s H fp C,PE (bW X scope cl (x::cs.map (·.1)) s H fp C) elt te) (hs:∀ x,foldedSetIterable iter X.env x=pure x:=by intro _; rfl)
  (hsw:swapsWith (.ListComp elt [⟨.Name x px,iter,[cnd],0⟩] scope pos) (some (.Name y py)) spos.line X.env=pure true:=by rfl)
  (hf:X.fn y=true\/X.env.scope.names.lookup y=some .local:=by first | exact .inl rfl | exact .inr rfl | assumption) :
  PS X (.Assign [.Name y py] (.ListComp elt [⟨.Name x px,iter,[cnd],0⟩] scope pos) spos) (HH (uu wi tt te cs) (k6 i)):=by
 intro pins s σ H Dd I h;rw [exec_Assign_Name_used _ _ _ _ hsw];refine Zo (wpAny_standAt (Zo ?_))
 refine Zo (Yr (Y5 rfl hs O.ze O.kind O.names (thn (hi pins s σ H _ I h) λ v s1 h1=>thn h1 λ itv s2 h2=>?_))
  (λ _ s' hq=>Z3 (Z3 hq)) λ _ _ e=>e)
 obtain ⟨it,fp,tn,J,H2,rfl,I2,T,st2,f2,hw⟩:=h2;refine kr (Q:=λ v H1=>k6 i v σ H1 Dd.nx) hc O hcd he I2 T st2 f2 hw λ D C s' H' ys hD hC hDC ⟨m,hm⟩ I' hn q=>?_
 have hn':upd H' D (.lst ys) C=none:=by rw [ar (Ne.symm hDC)]; exact hn
 have FC:=I2.tK hC hn';refine wpAny_assign_Name (jG I' hN hy hx (v:=.ref D) rfl (λ s'' I'' ⟨a,hsb,ha⟩=>?_) hf)
 have na:C≠a:=by
  rcases ha with ha | ha
  · rw [ha]; exact FC.2.1
  · exact Ne.symm (FC.2.2.2.2.1 y a ha)
 refine ⟨m,hm.sameBut hsb na,λ h' hs'=>?_⟩;exact ⟨σ.set i (some (.ref D)),upd H' D (.lst ys),I''.turned (λ b o hb e=>(hs'.2 b hb).trans e) hn' FC.2.1 FC.2.2.2.1 FC.2.2.2.2.1 FC.2.2.2.2.2,q⟩
end
def Dh (c:D->Option Bool) (g:D->Option D):List D->Option (List D)
 | []=>some []
 | d::ds=>(c d).bind λ b=>if b=true then (g d).bind λ x=>(Dh c g ds).bind λ xs=>some (x::xs) else Dh c g ds
def gI (it:DI) (c:DT) (g:DE) (cs:List (Str×Nat)):DE:=λ τ=>(it τ).bind λ ds=>if ds.length<=100000 then (Dh (λ d=>c (.shr d::jt τ cs)) (λ d=>g (.shr d::jt τ cs)) ds).map .lst else none
section
variable {X:Cx} {e:Expr} {es:List Expr} {pos:Pos}
theorem r6 {K:W.Frag} {it:DI} {c:DT} {g:DE} {cs:List (Str×Nat)} {σ:St} {H:Hp} {Q:VK} (h:rdO K (gI it c g cs) σ H Q):uu (rdI K it) (rdT K c) (rdE K g) cs σ H Q:=by
 obtain ⟨H0,Hs,τ,fp,d,st,sm,e,k⟩:=h;obtain ⟨ds,e1,e2⟩:=bind_some e;split at e2
 ·rename_i hl
  obtain ⟨full,e3,rfl⟩:=Zm e2;refine ⟨H0,Hs,τ,fp,ds,st,sm,e1,λ J Hs1 H1 g1 hJ=>?_⟩;refine ⟨λ i m ys H'=>m=ds.length - i/\i<=ds.length/\∃ Hs2 es rest,Ext Hs1 H1 Hs2 H'/\Rps K Hs2 ys es/\es.length<=i/\Dh (λ d=>c (.shr d::jt τ cs)) (λ d=>g (.shr d::jt τ cs)) (ds.drop i)=some rest/\es++rest=full,⟨ds.length,by simp,Z4 _,Hs1,[],full,.refl g1.sh,.nil,Zl _,by simpa using e3,rfl⟩,?_⟩
  rintro i m ys H2 ⟨rfl,hi,Hs2,es,rest,g2,ry,ley,e4,e5⟩
  obtain ⟨hgo,hstop⟩:=hJ Hs2 H2 g2.ss g2.sh;have ly:ys.length<=i:=by rw [ry.length]; exact ley
  by_cases hlt:i < ds.length
  ·have ed:=Y1 hlt
   rw [ed] at e4;obtain ⟨b,q0,q0'⟩:=bind_some e4;obtain ⟨go,yl⟩:=hgo i ds[i] (List.getElem?_eq_getElem hlt);refine .inr ⟨go,le5 (by omega),λ v H3 y=>?_⟩;obtain ⟨Hs3,g3,rv⟩:=yl v H3 y;have g13:=(g1.trans g2).trans g3;refine ⟨H0,Hs3,.shr ds[i]::jt τ cs,[],b,.shr rv (lZ (st.ext g13) cs),g3.sh,q0,λ Hs4 H4 g4=>?_⟩;have g14:=g13.trans g4
   cases b with
   | true =>
    refine Ce ?_
    obtain ⟨x,q1,q2⟩:=bind_some (q0');obtain ⟨xs,q3,q4⟩:=bind_some q2;have eq:=Zj q4;subst eq;refine ⟨H0,Hs4,.shr ds[i]::jt τ cs,[],x,.shr (rv.same g4.ss) (lZ (st.ext g14) cs),g4.sh,q1,λ v5 Hs5 H5 g5 r5=>?_⟩;exact ⟨ds.length - (i+1),by omega,rfl,hlt,Hs5,es++[x],xs,((g2.trans g3).trans g4).trans g5,(((ry.same g3.ss).same g4.ss).same g5.ss).append (.cons r5 .nil),by simp; omega,q3,by rw [<- e5]; simp⟩
   | false =>
    refine Cf ?_
    have q1:=q0';exact ⟨ds.length - (i+1),by omega,rfl,hlt,Hs4,es,rest,(g2.trans g3).trans g4,(ry.same g3.ss).same g4.ss,by omega,q1,e5⟩
  ·have e0:i=ds.length:=by omega
   subst e0;rw [Xz] at e4;have er:=Zj e4;subst er;rw [Zz] at e5;subst e5;refine .inl ⟨hstop _ (Zl _),ue (by omega),λ p hp=>?_⟩;have g12:=g1.trans g2;exact k p Hs2 _ ⟨g12.ss,g12.sh.trans (aC hp _),g12.hh.trans (aC hp _),g12.fr⟩ (.lst aw (g12.sh.free hp) ry) (g12.hh.free hp)
 · cases e2
end
def j4:D->Option Key
 | .int i=>some (.inl i)
 | .str x=>some (.inr x)
 | _=>none
def iS (kvs:List (Key×D)) (k:Key):Option D:=(kvs.find? λ kv=>decide (kv.1=k)).map (·.2)
theorem lE {K:W.Frag} {H:Hp} {v:V} {d:D} {k:Key} (r:Rp K H v d) (e:j4 d=some k):v=kV k:=by
 cases r <;> simp [j4] at e <;> subst e <;> rfl
theorem RpK.val {K:W.Frag} {H:Hp} {k:Key}:∀ {kvs:List (Key×V)} {ds:List (Key×D)},RpK K H kvs ds->(∀ d,iS ds k=some d->∃ v,cH kvs k=some v/\Rp K H v d)/\(iS ds k=none->cH kvs k=none)
 | _,_,.nil=>⟨λ d e=>by simp [iS] at e,λ _=>rfl⟩
 | _,_,@RpK.cons _ _ j x d xs ds h r=>by
  obtain ⟨i1,i2⟩:=RpK.val (k:=k) r
  by_cases q:j=k
  ·subst q
   refine ⟨λ d' e=>?_,λ e=>?_⟩
   ·have:d=d':=by simpa [iS] using e
    subst this;exact ⟨x,by simp [cH],h⟩
   · simp [iS] at e
  ·have e1:iS ((j,d)::ds) k=iS ds k:=by simp [iS,q]
   have e2:cH ((j,x)::xs) k=cH xs k:=by simp [cH,q]
   rw [e1,e2];exact ⟨i1,i2⟩
theorem RpK.length {K:W.Frag} {H:Hp}:∀ {kvs:List (Key×V)} {ds:List (Key×D)},RpK K H kvs ds->kvs.length=ds.length
 | _,_,.nil=>rfl
 | _,_,.cons _ r=>Z9 (·+1) r.length
def fg:D->D->Option D
 | .dct kvs,y=>(j4 y).bind λ k=>iS kvs k
 | .dfz kvs,y=>(j4 y).bind λ k=>iS kvs k
 | _,_=>none
def C1:D->D->Option D
 | y,.dct kvs=>(j4 y).map λ k=>.bl (iS kvs k).isSome
 | y,.dfz kvs=>(j4 y).map λ k=>.bl (iS kvs k).isSome
 | _,_=>none
def fP:D->D->Option D
 | y,.dct kvs=>(j4 y).map λ k=>.bl (!(iS kvs k).isSome)
 | y,.dfz kvs=>(j4 y).map λ k=>.bl (!(iS kvs k).isSome)
 | _,_=>none
section
variable {X:Cx} {o i e value:Expr} {pos pos' apos cpos:Pos} {f g h:DE}
theorem wG {neg:Bool} {σ:St} {H:Hp} {Q:VK} (K:W.Frag) (h:rdE K (dOp (if neg then fP else C1) f g) σ H Q):rdE K f σ H λ y H1=>rdE K g σ H1 λ x H2=>∃ a o,x=.ref a/\mW H2 a y o/\Q (.bl (if neg then !o.isSome else o.isSome)) H2:=by
 have h':=lp K h;obtain ⟨H0,Hs,τ,fp,x,st,sm,e1,kk⟩:=h';refine ⟨H0,Hs,τ,fp,x,st,sm,e1,λ v Hs1 H1 g1 r1=>?_⟩;obtain ⟨H0',Hs',τ',fp',y,st',sm',e2,kk2⟩:=kk v Hs1 H1 g1 r1;refine ⟨H0',Hs',τ',fp',y,st',sm',e2,λ u Hs2 H2 g2 r2=>?_⟩;obtain ⟨Hs3,dx,dy,d,sm3,rx,ry,eo,k⟩:=kk2 u Hs2 H2 g2 r2
 obtain ⟨ds,key,ey,ek,ev⟩:∃ ds key,(dy=.dct ds\/dy=.dfz ds)/\j4 dx=some key/\D.bl (if neg then !(iS ds key).isSome else (iS ds key).isSome)=d:=by
  cases neg with
  | true =>
   have eo:fP dx dy=some d:=eo;unfold fP at eo;split at eo
   ·obtain ⟨key,a1,a2⟩:=Zm eo
    exact ⟨_,key,.inl rfl,a1,a2⟩
   ·obtain ⟨key,a1,a2⟩:=Zm eo
    exact ⟨_,key,.inr rfl,a1,a2⟩
   · cases eo
  | false =>
   have eo:C1 dx dy=some d:=eo;unfold C1 at eo;split at eo
   ·obtain ⟨key,a1,a2⟩:=Zm eo
    exact ⟨_,key,.inl rfl,a1,a2⟩
   ·obtain ⟨key,a1,a2⟩:=Zm eo
    exact ⟨_,key,.inr rfl,a1,a2⟩
   · cases eo
 obtain ⟨a,kvs,rfl,hH,rk⟩:∃ a kvs,u=.ref a/\Rd H2 a (.dK kvs)/\RpK K Hs3 kvs ds:=by
  rcases ey with rfl | rfl
  ·cases ry with
   | dct hH rk=>exact ⟨_,_,rfl,.inl (sm3 _ _ hH),rk⟩
  ·cases ry with
   | dfz hH rk=>exact ⟨_,_,rfl,hH.elim (λ z=>.inl (sm3 _ _ z)) λ ⟨o,z⟩=>.inr ⟨o,sm3 _ _ z⟩,rk⟩
 have:=lE rx ek;subst this;subst ev
 have is:(cH kvs key).isSome=(iS ds key).isSome:=by
  cases q:iS ds key with
  | none=>rw [(rk.val).2 q]; rfl
  | some d'=>obtain ⟨w,hw,_⟩:=(rk.val (k:=key)).1 d' q; rw [hw]; rfl
 refine ⟨a,cH kvs key,rfl,.inl ⟨kvs,key,hH,rfl,rfl⟩,?_⟩;rw [is];exact k _ Hs3 H2 (.refl sm3) (.bl _)
theorem As (K:W.Frag) (h:rdT K (dT f) σ H Q):rdE K f σ H λ x H1=>∃ c,x=.bl c/\Q c H1:=by
 obtain ⟨H0,Hs,τ,fp,d,st,sm,e,k⟩:=h;obtain ⟨x,e1,e⟩:=bind_some e;have hx:x=.bl d:=by cases x <;> simp at e <;> subst e <;> rfl
 subst hx;refine ⟨H0,Hs,τ,fp,_,st,sm,e1,λ v Hs' H' g r=>?_⟩;cases r;exact ⟨d,rfl,k Hs' H' g⟩
end
def scD:D->Option V
 | .int i=>some (.int i)
 | .str x=>some (.str x)
 | .non=>some .non
 | _=>none
def zy:List D->Option (List V)
 | []=>some []
 | d::ds=>(scD d).bind λ v=>(zy ds).map (v::·)
def inS (x:D) (ys:List D):Option Bool:=(scD x).bind λ v=>(zy ys).map λ vs=>inV v vs
def Cb:D->Option (List D)
 | .lst ys=>some ys
 | .tup ys=>some ys
 | _=>none
def Bp (x y:D):Option D:=(Cb y).bind λ ys=>(inS x ys).map .bl
def jV (x y:D):Option D:=(Cb y).bind λ ys=>(inS x ys).map λ b=>.bl !b
theorem DQ {K:W.Frag} {H:Hp} {v w:V} {d:D} (r:Rp K H v d) (e:scD d=some w):v=w/\k7 v=true:=by
 cases r <;> simp [scD] at e <;> subst e <;> exact ⟨rfl,rfl⟩
theorem zx {K:W.Frag} {H:Hp}:∀ {vs ws:List V} {ds:List D},Rps K H vs ds->zy ds=some ws->vs=ws/\vs.all k7=true
 | _,_,_,.nil,e=>by simp [zy] at e; subst e; exact ⟨rfl,rfl⟩
 | _,_,_,.cons h r,e=>by
  obtain ⟨v,e1,e2⟩:=bind_some (show (scD _).bind _=_ from e);obtain ⟨ws,e3,e4⟩:=Zm e2;obtain ⟨q1,q2⟩:=DQ h e1;obtain ⟨q3,q4⟩:=zx r e3;subst q1 q3;exact ⟨e4,by rw [X2,q2,q4]; rfl⟩
section
variable {X:Cx}
theorem Aa {K:W.Frag} {neg:Bool} {x y:V} {H:Hp} {Q:VK} (h:rdR K (if neg then jV else Bp) x y H Q):rIn K neg x y H Q:=by
 obtain ⟨Hs,dx,dy,d,sm,rx,ry,e,k⟩:=h
 obtain ⟨ys,b,e1,e2,e3⟩:∃ ys b,Cb dy=some ys/\inS dx ys=some b/\d=.bl (if neg then !b else b):=by
  cases neg with
  | true =>
   obtain ⟨ys,a1,a2⟩:=bind_some (e);obtain ⟨b,a3,a4⟩:=Zm a2;exact ⟨ys,b,a1,a3,a4.symm⟩
  | false =>
   obtain ⟨ys,a1,a2⟩:=bind_some (show (Cb dy).bind _=some d from e);obtain ⟨b,a3,a4⟩:=Zm a2;exact ⟨ys,b,a1,a3,a4.symm⟩
 obtain ⟨v,e4,e5⟩:=bind_some e2;obtain ⟨vs,e6,e7⟩:=Zm e5;obtain ⟨q1,q2⟩:=DQ rx e4;subst q1 e3;have ry':=ry.same sm
 obtain ⟨p,xs,ep,hq,rs⟩:∃ p xs,y=.ref p/\(SqL K H p xs\/SqT K H p xs)/\Rps K H xs ys:=by
  cases ry' with
  | tup h r=>simp [Cb] at e1; subst e1; exact ⟨_,_,rfl,.inr h,r⟩
  | lst h r=>simp [Cb] at e1; subst e1; exact ⟨_,_,rfl,.inl (.of h),r⟩
  | _=>simp [Cb] at e1
 obtain ⟨q3,q4⟩:=zx rs e6;subst q3;refine ⟨p,xs,ep,hq,q2,q4,?_⟩;rw [e7];exact k _ Hs H (.refl sm) (.bl _)
theorem Ek:OpR X (compareOp .In) (rdR X.K Bp):=uZ.imp λ x y H Q h=>Aa h
theorem ym:OpR X (compareOp .NotIn) (rdR X.K jV):=nB.imp λ x y H Q h=>Aa h
end
section
variable {X:Cx} {a b c:Expr} {pos:Pos} {f g h:DE}
theorem zf (K:W.Frag) (hh:rdE K (tY (dOp o f g) (dOp o' g h)) σ H Q):uv (rdR K o) (rdR K o') (rdE K f) (rdE K g) (rdE K h) σ H Q:=by
 obtain ⟨H0,Hs,τ,fp,d,st,sm,e,k⟩:=hh;obtain ⟨r,e0,e⟩:=bind_some e;obtain ⟨x,e1,e0⟩:=bind_some e0;obtain ⟨y,e2,e0⟩:=bind_some e0;refine ⟨H0,Hs,τ,fp,x,st,sm,e1,λ v Hs1 H1 g1 r1=>?_⟩;refine ⟨H0,Hs1,τ,fp,y,st.ext g1,g1.sh,e2,λ u Hs2 H2 g2 r2=>?_⟩;refine ⟨Hs2,x,y,r,g2.sh,r1.same g2.ss,r2,e0,λ w Hs3 H3 g3 r3=>?_⟩
 cases r3 with
 | bl kb =>
  refine ⟨kb,rfl,?_⟩
  cases kb with
  | false =>
   rw [if_neg Zf];have e':D.bl false=d:=by simpa using e
   subst e';exact k _ Hs3 H3 ((g1.trans g2).trans g3) (.bl false)
  | true =>
   rw [if_pos rfl];obtain ⟨y',q1,q2⟩:=bind_some (e);have ey:y'=y:=by rw [e2] at q1; exact (Zj q1).symm
   subst ey;obtain ⟨z,q3,q4⟩:=bind_some q2;refine ⟨H0,Hs3,τ,fp,z,st.ext ((g1.trans g2).trans g3),g3.sh,q3,λ u' Hs4 H4 g4 r4=>?_⟩;exact ⟨Hs4,y',z,d,g4.sh,(r2.same g3.ss).same g4.ss,r4,q4,λ w' Hs5 H5 g5 r5=>k w' Hs5 H5 ((((g1.trans g2).trans g3).trans g4).trans g5) r5⟩
 | _=>exact nn e
end
inductive Tg where
 | l | d | o (C:Addr)
inductive Mt where
 | s (d:D)
 | n (t:Tg) (cs:List (Key×Mt))
def strOf:Key->Str
 | .inr x=>x
 | .inl _=>""
mutual
def frz:Mt->D
 | .s d=>d
 | .n .l cs=>.lst (Fz cs)
 | .n .d cs=>.dct (FA cs)
 | .n (.o C) cs=>.obj C (FE cs)
def Fz:List (Key×Mt)->List D
 | []=>[]
 | (_,m)::r=>frz m::Fz r
def FA:List (Key×Mt)->List (Key×D)
 | []=>[]
 | (k,m)::r=>(k,frz m)::FA r
def FE:List (Key×Mt)->List (Str×D)
 | []=>[]
 | (k,m)::r=>(strOf k,frz m)::FE r
end
theorem mr:∀ cs:List (Key×Mt),Fz cs=cs.map λ c=>frz c.2
 | []=>rfl
 | (_,m)::r=>by rw [Fz,mr r]; rfl
theorem mw:∀ cs:List (Key×Mt),FA cs=cs.map λ c=>(c.1,frz c.2)
 | []=>rfl
 | (_,m)::r=>by rw [FA,mw r]; rfl
theorem rQ:∀ cs:List (Key×Mt),FE cs=cs.map λ c=>(strOf c.1,frz c.2)
 | []=>rfl
 | (_,m)::r=>by rw [FE,rQ r]; rfl
inductive Stp where
 | k (k:Key) | i (n:Nat)
def sR (t:Tg) (cs:List (Key×Mt)) (st:Stp):Option Nat:=match t,st with
 | .l,.i n=>if n < cs.length then some n else none
 | .d,.k k=>cs.findIdx? λ c=>decide (c.1=k)
 | .o _,.k k=>cs.findIdx? λ c=>decide (c.1=k)
 | _,_=>none
def Mt.get:Mt->List Stp->Option Mt
 | m,[]=>some m
 | .s _,_::_=>none
 | .n t cs,st::p=>match sR t cs st with
  | none=>none
  | some i=>match cs[i]? with
   | none=>none
   | some c=>Mt.get c.2 p
def Mt.put:Mt->List Stp->Mt->Mt
 | _,[],m2=>m2
 | .s d,_::_,_=>.s d
 | .n t cs,st::p,m2=>match sR t cs st with
  | none=>.n t cs
  | some i=>match cs[i]? with
   | none=>.n t cs
   | some c=>.n t (cs.set i (c.1,Mt.put c.2 p m2))
inductive Lay:Tg->Addr->List (Key×V)->HO->Prop where
 | l {dx:Addr} (kvs:List (Key×V)):Lay .l dx kvs (.lst (kvs.map (·.2)))
 | d {dx:Addr} (kvs:List (Key×V)):Lay .d dx kvs (.dK kvs)
 | o {C dx:Addr} (fs:List (Str×V)):Lay (.o C) dx (fs.map λ f=>(.inr f.1,f.2)) (.ins C dx fs)
structure Kd where
 k:Key
 v:V
 m:Mt
 fp:List Addr
abbrev Kd.kv (t:Kd):Key×V:=(t.k,t.v)
abbrev Kd.km (t:Kd):Key×Mt:=(t.k,t.m)
def KU:Tg->List Kd->Prop
 | .l,_=>True
 | _,ts=>(ts.map Kd.k).Nodup
inductive Od (K:W.Frag) (Hs H:Hp):List Addr->V->Mt->Prop where
 | s {v:V} {d:D} (r:Rp K Hs v d):Od K Hs H [] v (.s d)
 | n {a dx:Addr} {t:Tg} {ts:List Kd} {u:HO} (h:H a=some u) (hl:Lay t dx (ts.map Kd.kv) u) (nh:Hs a=none) (ku:KU t ts) (nd:(a::ts.flatMap Kd.fp).Nodup) (r:∀ c ∈ ts,Od K Hs H c.fp c.v c.m):Od K Hs H (a::ts.flatMap Kd.fp) (.ref a) (.n t (ts.map Kd.km))
section
variable {K:W.Frag} {Hs H Hs' H':Hp} {fp:List Addr} {v:V} {m:Mt}
theorem Od.inv (h:Od K Hs H fp v (.n t cs)):∃ a dx ts u,v=.ref a/\fp=a::ts.flatMap Kd.fp/\cs=ts.map Kd.km/\H a=some u/\Lay t dx (ts.map Kd.kv) u/\Hs a=none/\KU t ts/\(a::ts.flatMap Kd.fp).Nodup/\∀ c ∈ ts,Od K Hs H c.fp c.v c.m:=by
 cases h with
 | n h hl nh ku nd r=>exact ⟨_,_,_,_,rfl,rfl,rfl,h,hl,nh,ku,nd,r⟩
theorem Od.live (h:Od K Hs H fp v m):∀ b ∈ fp,Hs b=none/\H b≠none:=by
 induction h with
 | s r=>intro b h; cases h
 | n h hl nh ku nd r ih =>
  intro b hb;rcases Zi.mp hb with e | e
  · subst e; exact ⟨nh,gJ h⟩
  ·obtain ⟨c,hc,hb⟩:=Yi.mp e
   exact ih c hc b hb
theorem Od.nd (h:Od K Hs H fp v m):fp.Nodup:=by
 cases h with
 | s r=>exact .nil
 | n h hl nh ku nd r=>exact nd
theorem Od.mv (h:Od K Hs H fp v m) (g:bU Hs Hs'):(∀ b ∈ fp,Hs' b=none/\H' b=H b)->Od K Hs' H' fp v m:=by
 induction h with
 | s r=>exact λ _=>.s (r.same g)
 | n h hl nh ku nd r ih =>
  intro q;have qa:=q _ (Ze ..);exact .n (by rw [qa.2]; exact h) hl qa.1 ku nd λ c hc=>ih c hc λ b hb=>q b (Zd _ (Yi.mpr ⟨c,hc,hb⟩))
theorem zC:∀ {ts:List Kd},(∀ c ∈ ts,Rp K H c.v (frz c.m))->Rps K H ((ts.map Kd.kv).map (·.2)) (Fz (ts.map Kd.km))
 | [],_=>.nil
 | c::ts,h=>.cons (h c (Ze ..)) (zC λ c hc=>h c (Zd _ hc))
theorem zD:∀ {ts:List Kd},(∀ c ∈ ts,Rp K H c.v (frz c.m))->RpK K H (ts.map Kd.kv) (FA (ts.map Kd.km))
 | [],_=>.nil
 | c::ts,h=>.cons (h c (Ze ..)) (zD λ c hc=>h c (Zd _ hc))
theorem zE:∀ {ts:List Kd} {fs:List (Str×V)},(ts.map Kd.kv=fs.map λ f=>(Sum.inr f.1,f.2))->(∀ c ∈ ts,Rp K H c.v (frz c.m))->RpF K H fs (FE (ts.map Kd.km))
 | [],[],_,_=>.nil
 | [],_::_,e,_=>by cases e
 | _::_,[],e,_=>by cases e
 | c::ts,f::fs,e,h=>by
  obtain ⟨e1,e2⟩:=List.cons.inj e;obtain ⟨e3,e4⟩:=Prod.mk.inj e1;obtain ⟨x,y⟩:=f;have hc:=h c (Ze ..);show RpF K H ((x,y)::fs) ((strOf c.k,frz c.m)::_);have e3':c.k=Sum.inr x:=e3;have e4':c.v=y:=e4;rw [e3',<- e4'];exact .cons hc (zE e2 λ c hc=>h c (Zd _ hc))
theorem Od.rp (h:Od K Hs H fp v m) (sm:bU Hs H):Rp K H v (frz m):=by
 induction h with
 | s r=>exact r.same sm
 | @n a dx t ts u h hl nh ku nd r ih =>
  have ih':∀ c ∈ ts,Rp K H c.v (frz c.m):=λ c hc=>ih c hc
  generalize ek:ts.map Kd.kv=kvs at hl
  cases hl with
  | l=>exact .lst h (by rw [<- ek]; exact zC ih')
  | d=>exact .dct h (by rw [<- ek]; exact zD ih')
  | o fs=>exact .obj h (zE ek ih')
end
def vAt (H:Hp):V->List Stp->Option V
 | v,[]=>some v
 | .ref a,.k k::p=>match H a with
  | some (.ins _ _ fs)=>(cH (fs.map λ f=>((Sum.inr f.1:Key),f.2)) k).bind λ v=>vAt H v p
  | some (.dK kvs)=>(cH kvs k).bind λ v=>vAt H v p
  | _=>none
 | .ref a,.i n::p=>match H a with
  | some (.lst xs)=>(xs[n]?).bind λ v=>vAt H v p
  | _=>none
 | _,_=>none
theorem lJ {α:Type}:∀ {cs:List (Key×α)} {i:Nat},(cs.findIdx? λ c=>decide (c.1=k))=some i->∃ l1 x l2,cs=l1++(k,x)::l2/\l1.length=i/\∀ c ∈ l1,c.1≠k
 | [],_,e=>by simp at e
 | (k',x)::cs,i,e=>by
  rw [List.findIdx?_cons] at e
  by_cases h:k'=k
  ·simp only [h,decide_true] at e
   have e':0=i:=by simpa using e
   subst h e';exact ⟨[],x,cs,rfl,rfl,λ c hc=>by cases hc⟩
  ·simp only [h,decide_false] at e
   obtain ⟨j,e1,rfl⟩:=Zm (by simpa using e);obtain ⟨l1,y,l2,e2,e3,e4⟩:=lJ e1
   exact ⟨(k',x)::l1,y,l2,by rw [e2]; rfl,by rw [Zy,e3],λ c hc=>by
    rcases Zi.mp hc with rfl | hc
    · exact h
    · exact e4 c hc⟩
theorem lj:∀ {l1 l2:List (Key×V)},(∀ c ∈ l1,c.1≠k)->cH (l1++(k,x)::l2) k=some x
 | [],_,_=>b6 rfl
 | c::l1,l2,h=>by
  rw [List.cons_append,b7 (h c (Ze ..))];exact lj λ c hc=>h c (Zd _ hc)
theorem vv:∀ {l1 l2:List (Key×Mt)} {c:Key×Mt},ts.map Kd.km=l1++c::l2->∃ t1 t t2,ts=t1++t::t2/\t1.map Kd.km=l1/\t.km=c/\t2.map Kd.km=l2:=by
 intro l1 l2 c e;obtain ⟨t1,r,rfl,e1,e2⟩:=List.map_eq_append_iff.mp e;obtain ⟨t,t2,rfl,e3,e4⟩:=List.map_eq_cons_iff.mp e2;exact ⟨t1,t,t2,rfl,e1,e3,e4⟩
theorem r9 {t:Tg} {dx a:Addr} {ts:List Kd} {u:HO} {st:Stp} {i:Nat} {c:Key×Mt} {H:Hp} (h:H a=some u) (hl:Lay t dx (ts.map Kd.kv) u) (e1:sR t (ts.map Kd.km) st=some i) (e2:(ts.map Kd.km)[i]?=some c) :
  ∃ t1 k t2,ts=t1++k::t2/\t1.length=i/\k.km=c/\∀ p,vAt H (.ref a) (st::p)=vAt H k.v p:=by
 have key:∀ {kk:Key},((ts.map Kd.km).findIdx? λ c=>decide (c.1=kk))=some i->∃ t1 k t2,ts=t1++k::t2/\t1.length=i/\k.km=c/\cH (ts.map Kd.kv) kk=some k.v:=λ {kk} e=>by
  obtain ⟨l1,x,l2,h1,h2,h3⟩:=lJ e;obtain ⟨t1,k,t2,rfl,q1,q2,q3⟩:=vv h1;refine ⟨t1,k,t2,rfl,by rw [<- h2,<- q1,Za],?_,?_⟩
  ·rw [h1,<- h2,List.getElem?_append_right (Zl _),X1] at e2
   rw [q2];exact Zj e2
  ·rw [Zk,Zh]
   have hk:k.k=kk:=(Prod.mk.inj q2).1;rw [show k.kv=(kk,k.v) by rw [<- hk]]
   exact lj λ c hc=>by
    obtain ⟨y,hy,rfl⟩:=Z6.mp hc;exact h3 y.km (by rw [<- q1]; exact Yq hy)
 generalize ek:ts.map Kd.kv=kvs at hl
 cases hl with
 | l kvs' =>
  cases st with
  | k k=>cases e1
  | i n =>
   have lt:n < (ts.map Kd.km).length/\n=i:=by
    have e1':(if n < (ts.map Kd.km).length then some n else none)=some i:=e1;split at e1'
    · rename_i h; exact ⟨h,Zj e1'⟩
    · cases e1'
   obtain ⟨lt,rfl⟩:=lt;rw [Za] at lt;have ets:ts=ts.take n++ts[n]::ts.drop (n+1):=by rw [List.getElem_cons_drop,Xu]
   refine ⟨ts.take n,ts[n],ts.drop (n+1),ets,by rw [Z1]; omega,?_,λ p=>?_⟩
   ·rw [List.getElem?_map,List.getElem?_eq_getElem lt] at e2
    exact Zj e2
   ·show (match H a with | some (.lst xs)=>(xs[n]?).bind λ v=>vAt H v p | _=>none)=_
    rw [h];show (((kvs.map (·.2))[n]?).bind λ v=>vAt H v p)=_;rw [<- ek,List.getElem?_map,List.getElem?_map,List.getElem?_eq_getElem lt];rfl
 | d kvs' =>
  cases st with
  | i n=>cases e1
  | k kk =>
   obtain ⟨t1,k,t2,q1,q2,q3,q4⟩:=key e1;refine ⟨t1,k,t2,q1,q2,q3,λ p=>?_⟩;show (match H a with | some (.ins _ _ fs)=>(cH (fs.map λ (f:Str×V)=>((Sum.inr f.1:Key),f.2)) kk).bind λ v=>vAt H v p | some (.dK kvs)=>(cH kvs kk).bind λ v=>vAt H v p | _=>none)=_;rw [h];show ((cH kvs kk).bind λ v=>vAt H v p)=_;rw [<- ek,q4];rfl
 | o fs =>
  cases st with
  | i n=>cases e1
  | k kk =>
   obtain ⟨t1,k,t2,q1,q2,q3,q4⟩:=key e1;refine ⟨t1,k,t2,q1,q2,q3,λ p=>?_⟩;show (match H a with | some (.ins _ _ fs)=>(cH (fs.map λ (f:Str×V)=>((Sum.inr f.1:Key),f.2)) kk).bind λ v=>vAt H v p | some (.dK kvs)=>(cH kvs kk).bind λ v=>vAt H v p | _=>none)=_;rw [h];show ((cH (fs.map λ f=>((Sum.inr f.1:Key),f.2)) kk).bind λ v=>vAt H v p)=_;rw [<- ek,q4];rfl
theorem vk {α:Type} {a:α} {x y z:List α} (h:(a::(x++(y++z))).Nodup):a ∉ x/\a ∉ y/\a ∉ z/\(∀ b ∈ y,b ∉ x/\b ∉ z)/\x.Nodup/\z.Nodup/\(∀ b ∈ x,b ∉ z):=by
 rw [Zu,Yd,Yd] at h;simp only [Zg,not_or] at h;obtain ⟨⟨h1,h2,h3⟩,hx,⟨hy,hz,hyz⟩,hxyz⟩:=h;refine ⟨h1,h2,h3,λ b hb=>⟨λ hx'=>hxyz b hx' b (.inl hb) rfl,λ hz'=>hyz b hb b hz' rfl⟩,hx,hz,λ b hb hz'=>hxyz b hb b (.inr hz') rfl⟩
theorem lC {α:Type} {a:α} {x y z:List α} (h1:a ∉ x) (h2:a ∉ y) (h3:a ∉ z) (hy:y.Nodup) (hd:∀ b ∈ y,b ∉ x/\b ∉ z) (hx:x.Nodup) (hz:z.Nodup) (hxz:∀ b ∈ x,b ∉ z):(a::(x++(y++z))).Nodup:=by
 rw [Zu,Yd,Yd];simp only [Zg,not_or];exact ⟨⟨h1,h2,h3⟩,hx,⟨hy,hz,λ b hb c hc e=>(hd b hb).2 (e ▸ hc)⟩,λ b hb c hc e=>hc.elim (λ q=>(hd c q).1 (e ▸ hb)) λ q=>hxz b hb (e ▸ q)⟩
theorem KU.swap (h:KU t (t1++k::t2)) (e:k'.k=k.k):KU t (t1++k'::t2):=by
 cases t with
 | l=>exact h
 | d =>
  show ((t1++k'::t2).map Kd.k).Nodup;rw [Zk,Zh,e,<- Zh,<- Zk];exact h
 | o C =>
  show ((t1++k'::t2).map Kd.k).Nodup;rw [Zk,Zh,e,<- Zh,<- Zk];exact h
section
variable {K:W.Frag} {Hs H:Hp}
theorem Od.sv:∀ (p:List Stp) {fp:List Addr} {v:V} {m m1:Mt},Od K Hs H fp v m->m.get p=some m1->∃ fp1 v1,vAt H v p=some v1/\Od K Hs H fp1 v1 m1/\(∀ b ∈ fp1,b ∈ fp) /\
  ∀ Hs' H' fp2 m2,bU Hs Hs'->(∀ b ∈ fp,b ∉ fp1->Hs' b=none/\H' b=H b)->Od K Hs' H' fp2 v1 m2->(∀ b ∈ fp2,b ∈ fp1\/b ∉ fp)->∃ fp',Od K Hs' H' fp' v (m.put p m2)/\∀ b,b ∈ fp'↔(b ∈ fp/\b ∉ fp1)\/b ∈ fp2
 | [],fp,v,m,m1,h,e=>by
  have e':m=m1:=by
   cases m <;> exact Zj e
  subst e';have ep:∀ m2,m.put [] m2=m2:=λ m2=>by cases m <;> rfl
  exact ⟨fp,v,by cases v <;> rfl,h,λ _ q=>q,λ Hs' H' fp2 m2 g k h2 j=>⟨fp2,by rw [ep]; exact h2,λ b=>⟨.inr,λ q=>q.elim (λ z=>absurd z.1 z.2) id⟩⟩⟩
 | st::p,fp,v,.s d,m1,h,e=>by cases e
 | st :: p,fp,v,.n t cs,m1,h,e=>by
  obtain ⟨a,dx,ts,u,rfl,rfl,rfl,ha,hl,nh,ku,nd,r⟩:=h.inv;have e':(match sR t (ts.map Kd.km) st with | none=>none | some i=>match (ts.map Kd.km)[i]? with | none=>none | some c=>Mt.get c.2 p)=some m1:=e
  cases e1:sR t (ts.map Kd.km) st with
  | none=>rw [e1] at e'; cases e'
  | some i =>
   rw [e1] at e'
   cases e2:(ts.map Kd.km)[i]? with
   | none=>simp only [e2] at e'; cases e'
   | some c =>
    simp only [e2] at e';obtain ⟨t1,k,t2,rfl,q2,q3,q4⟩:=r9 ha hl e1 e2;subst q3;obtain ⟨fp1,v1,w1,w2,w3,w4⟩:=Od.sv p (r k (Zc _ (Ze ..))) e';rw [Yh,Yl] at nd;obtain ⟨n1,n2,n3,n4,n5,n6,n7⟩:=vk nd
    have mem:∀ b,b ∈ a::(t1++k::t2).flatMap Kd.fp↔b=a\/b ∈ t1.flatMap Kd.fp\/b ∈ k.fp\/b ∈ t2.flatMap Kd.fp:=λ b=>by
     rw [Yh,Yl,Zi,Zg,Zg]
    refine ⟨fp1,v1,by rw [q4]; exact w1,w2,λ b hb=>(mem b).mpr (.inr (.inr (.inl (w3 b hb)))),λ Hs' H' fp2 m2 g kk h2 j=>?_⟩;have j2:∀ b ∈ fp2,b ∈ fp1\/b ∉ k.fp:=λ b hb=>(j b hb).imp id λ z q=>z ((mem b).mpr (.inr (.inr (.inl q))))
    obtain ⟨fp',o',i'⟩:=w4 Hs' H' fp2 m2 g (λ b hb hn=>kk b ((mem b).mpr (.inr (.inr (.inl hb)))) hn) h2 j2;have a1:a ∉ fp1:=λ z=>n2 (w3 _ z)
    have off:∀ b,b ∈ fp'->b≠a/\b ∉ t1.flatMap Kd.fp/\b ∉ t2.flatMap Kd.fp:=λ b hb=>by
     rcases (i' b).mp hb with ⟨z1,_⟩ | z
     · exact ⟨λ e=>n2 (e ▸ z1),(n4 b z1).1,(n4 b z1).2⟩
     ·rcases j b z with z1 | z1
      ·have z2:=w3 b z1
       exact ⟨λ e=>n2 (e ▸ z2),(n4 b z2).1,(n4 b z2).2⟩
      · exact ⟨λ e=>z1 ((mem b).mpr (.inl e)),λ q=>z1 ((mem b).mpr (.inr (.inl q))),λ q=>z1 ((mem b).mpr (.inr (.inr (.inr q))))⟩
    let k':Kd:=⟨k.k,k.v,k.m.put p m2,fp'⟩
    have eput:(Mt.n t ((t1++k::t2).map Kd.km)).put (st::p) m2=.n t ((t1++k'::t2).map Kd.km):=by
     show (match sR t ((t1++k::t2).map Kd.km) st with | none=>Mt.n t ((t1++k::t2).map Kd.km) | some i=>match ((t1++k::t2).map Kd.km)[i]? with | none=>Mt.n t ((t1++k::t2).map Kd.km) | some c=>.n t (((t1++k::t2).map Kd.km).set i (c.1,Mt.put c.2 p m2)))=_;simp only [e1,e2];rw [Zk,Zh,<- q2,<- Za (f:=Kd.km),List.set_append_right _ _ (Zl _),X1,Zk,Zh];rfl
    have hkv:(t1++k'::t2).map Kd.kv=(t1++k::t2).map Kd.kv:=by rw [Zk,Zh,Zk,Zh]
    have qa:=kk a ((mem a).mpr (.inl rfl)) a1;refine ⟨a::(t1++k'::t2).flatMap Kd.fp,?_,λ b=>?_⟩
    ·rw [eput]
     refine .n (dx:=dx) (by rw [qa.2]; exact ha) (by rw [hkv]; exact hl) qa.1 (ku.swap rfl) ?_ λ c hc=>?_
     ·rw [Yh,Yl]
      exact lC n1 (λ z=>(off _ z).1 rfl) n3 o'.nd (λ b hb=>(off b hb).2) n5 n6 n7
     ·rcases Zg.mp hc with hc | hc
      · exact (r c (Zp _ hc)).mv g λ b hb=>kk b ((mem b).mpr (.inr (.inl (Yi.mpr ⟨c,hc,hb⟩)))) λ z=>(n4 b (w3 b z)).1 (Yi.mpr ⟨c,hc,hb⟩)
      ·rcases Zi.mp hc with rfl | hc
       · exact o'
       · exact (r c (Zc _ (Zd _ hc))).mv g λ b hb=>kk b ((mem b).mpr (.inr (.inr (.inr (Yi.mpr ⟨c,hc,hb⟩))))) λ z=>(n4 b (w3 b z)).2 (Yi.mpr ⟨c,hc,hb⟩)
    ·rw [Yh,Yl,Zi,Zg,Zg,mem b,i' b]
     constructor
     ·rintro (rfl | z | (⟨z1,z2⟩ | z) | z)
      · exact .inl ⟨.inl rfl,a1⟩
      · exact .inl ⟨.inr (.inl z),λ q=>(n4 b (w3 b q)).1 z⟩
      · exact .inl ⟨.inr (.inr (.inl z1)),z2⟩
      · exact .inr z
      · exact .inl ⟨.inr (.inr (.inr z)),λ q=>(n4 b (w3 b q)).2 z⟩
     ·rintro (⟨rfl | z | z | z,z2⟩ | z)
      · exact .inl rfl
      · exact .inr (.inl z)
      · exact .inr (.inr (.inl (.inl ⟨z,z2⟩)))
      · exact .inr (.inr (.inr z))
      · exact .inr (.inr (.inl (.inr z)))
end
inductive Sm where
 | no | shr (d:D) | mu (b:Bool) (m:Mt)
def sI:Sm->Sl
 | .no=>.no
 | .shr d=>.shr d
 | .mu _ m=>.shr (frz m)
def er1:Sm->Sl
 | .shr d=>.shr d
 | _=>.no
abbrev bM (τ:List Sm):List Sl:=τ.map sI
abbrev er (τ:List Sm):List Sl:=τ.map er1
inductive StM (K:W.Frag) (H0 Hs H:Hp):List (Option Addr)->List (Option V)->List Sm->List Addr->Prop where
 | nil:StM K H0 Hs H [] [] [] []
 | no {p:Option Addr} {o:Option V} {ρ:List (Option Addr)} {σ:List (Option V)} {τ:List Sm} {fp:List Addr} (r:StM K H0 Hs H ρ σ τ fp):StM K H0 Hs H (p::ρ) (o::σ) (.no::τ) fp
 | shr {p:Option Addr} {v:V} {d:D} {ρ:List (Option Addr)} {σ:List (Option V)} {τ:List Sm} {fp:List Addr} (h:Rp K Hs v d) (r:StM K H0 Hs H ρ σ τ fp):StM K H0 Hs H (p::ρ) (some v::σ) (.shr d::τ) fp
 | mu {p:Option Addr} {v:V} {b:Bool} {m:Mt} {ρ:List (Option Addr)} {σ:List (Option V)} {τ:List Sm} {fq fp:List Addr} (h:Od K Hs H fq v m) (hp:b=true->∃ a,p=some a/\v=.ref a) (z:∀ c ∈ fq,H0 c=none) (j:∀ c ∈ fq,c ∉ fp) (r:StM K H0 Hs H ρ σ τ fp):StM K H0 Hs H (p::ρ) (some v::σ) (.mu b m::τ) (fq++fp)
section
variable {K:W.Frag} {H0 Hs H Hs' H':Hp} {ρ:List (Option Addr)} {σ:List (Option V)} {τ:List Sm} {fp:List Addr}
theorem StM.mv (h:StM K H0 Hs H ρ σ τ fp) (g:bU Hs Hs'):(∀ b ∈ fp,Hs' b=none/\H' b=H b)->StM K H0 Hs' H' ρ σ τ fp:=by
 induction h with
 | nil=>exact λ _=>.nil
 | no _ ih=>exact λ q=>.no (ih q)
 | shr h _ ih=>exact λ q=>.shr (h.same g) (ih q)
 | mu h hp z j _ ih=>exact λ q=>.mu (h.mv g λ b hb=>q b (Zp _ hb)) hp z j (ih λ b hb=>q b (Zc _ hb))
theorem StM.live (h:StM K H0 Hs H ρ σ τ fp):∀ b ∈ fp,Hs b=none/\H b≠none/\H0 b=none:=by
 induction h with
 | nil=>intro b h; cases h
 | no _ ih=>exact ih
 | shr _ _ ih=>exact ih
 | mu h hp z j _ ih =>
  intro b hb;rcases Zg.mp hb with q | q
  · exact ⟨(h.live b q).1,(h.live b q).2,z b q⟩
  · exact ih b q
theorem StM.ext (g:Ext Hs H Hs' H') (h:StM K H0 Hs H ρ σ τ fp):StM K H0 Hs' H' ρ σ τ fp:=h.mv g.ss λ b hb=>by
 obtain ⟨h1,h2,_⟩:=h.live b hb;refine ⟨g.fr b h1 h2,?_⟩
 cases q:H b with
 | none=>exact absurd q h2
 | some u=>exact g.hh _ _ q
theorem StM.len (h:StM K H0 Hs H ρ σ τ fp):σ.length=τ.length:=by
 induction h with
 | nil=>rfl
 | no _ ih=>exact Z9 (·+1) ih
 | shr _ _ ih=>exact Z9 (·+1) ih
 | mu _ _ _ _ _ ih=>exact Z9 (·+1) ih
theorem StM.bM (h:StM K H0 Hs H ρ σ τ fp) (sm:bU Hs H):StR K H H H σ (bM τ) []:=by
 induction h with
 | nil=>exact .nil
 | no _ ih=>exact .no ih
 | shr h _ ih=>exact .shr (h.same sm) ih
 | mu h _ _ _ _ ih=>exact .shr (h.rp sm) ih
theorem StM.er (h:StM K H0 Hs H ρ σ τ fp):StR K H0 Hs H σ (er τ) []:=by
 induction h with
 | nil=>exact .nil
 | no _ ih=>exact .no ih
 | shr h _ ih=>exact .shr h ih
 | mu h _ _ _ _ ih=>exact .no ih
theorem StM.sv (h:StM K H0 Hs H ρ σ τ fp):τ[i]?=some (.mu b m)->m.get q=some m1->∃ v fp1 v1,σ[i]?=some (some v)/\vAt H v q=some v1/\Od K Hs H fp1 v1 m1/\(∀ c ∈ fp1,c ∈ fp) /\
  ∀ Hs' H' fp2 m2,bU Hs Hs'->(∀ c ∈ fp,c ∉ fp1->Hs' c=none/\H' c=H c)->Od K Hs' H' fp2 v1 m2->(∀ c ∈ fp2,c ∈ fp1\/(c ∉ fp/\H0 c=none))->∃ fp',StM K H0 Hs' H' ρ σ (τ.set i (.mu b (m.put q m2))) fp'/\∀ c,c ∈ fp'↔(c ∈ fp/\c ∉ fp1)\/c ∈ fp2:=by
 induction h generalizing i with
 | nil=>intro e; simp at e
 | no r ih =>
  intro e eg
  cases i with
  | zero=>simp at e
  | succ i =>
   obtain ⟨v,fp1,v1,h1,h2,h3,h4,h5⟩:=ih (i:=i) (by simpa using e) eg
   exact ⟨v,fp1,v1,by simpa using h1,h2,h3,h4,λ Hs' H' fp2 m2 g k o j=>by
    obtain ⟨fp',s,mem⟩:=h5 Hs' H' fp2 m2 g k o j
    exact ⟨fp',.no s,mem⟩⟩
 | shr hr r ih =>
  intro e eg
  cases i with
  | zero=>simp at e
  | succ i =>
   obtain ⟨v,fp1,v1,h1,h2,h3,h4,h5⟩:=ih (i:=i) (by simpa using e) eg
   exact ⟨v,fp1,v1,by simpa using h1,h2,h3,h4,λ Hs' H' fp2 m2 g k o j=>by
    obtain ⟨fp',s,mem⟩:=h5 Hs' H' fp2 m2 g k o j
    exact ⟨fp',.shr (hr.same g) s,mem⟩⟩
 | @mu p v b' m' ρ σ τ fq fp ho hp z j r ih =>
  intro e eg
  cases i with
  | zero =>
   have e':Sm.mu b' m'=.mu b m:=by simpa using e
   injection e' with e1 e2
   subst e1 e2;obtain ⟨fp1,v1,w1,w2,w3,w4⟩:=ho.sv q eg;refine ⟨v,fp1,v1,rfl,w1,w2,λ c hc=>Zp _ (w3 c hc),λ Hs' H' fp2 m2 g k o jj=>?_⟩;obtain ⟨fp',o',i'⟩:=w4 Hs' H' fp2 m2 g (λ c hc hn=>k c (Zp _ hc) hn) o λ c hc=>(jj c hc).imp id λ y q=>y.1 (Zp _ q)
   refine ⟨fp'++fp,.mu o' hp (λ c hc=>?_) (λ c hc=>?_) (r.mv g λ c hc=>k c (Zc _ hc) λ y=>j c (w3 c y) hc),λ c=>?_⟩
   ·rcases (i' c).mp hc with y | y
    · exact z c y.1
    ·rcases jj c y with y | y
     · exact z c (w3 c y)
     · exact y.2
   ·rcases (i' c).mp hc with y | y
    · exact j c y.1
    ·rcases jj c y with y | y
     · exact j c (w3 c y)
     · exact λ q=>y.1 (Zc _ q)
   ·rw [Zg,Zg,i' c]
    constructor
    ·rintro ((y | y) | y)
     · exact .inl ⟨.inl y.1,y.2⟩
     · exact .inr y
     · exact .inl ⟨.inr y,λ q=>j c (w3 c q) y⟩
    ·rintro (⟨y | y,y2⟩ | y)
     · exact .inl (.inl ⟨y,y2⟩)
     · exact .inr y
     · exact .inl (.inr y)
  | succ i =>
   obtain ⟨v',fp1,v1,h1,h2,h3,h4,h5⟩:=ih (i:=i) (by simpa using e) eg;refine ⟨v',fp1,v1,by simpa using h1,h2,h3,λ c hc=>Zc _ (h4 c hc),λ Hs' H' fp2 m2 g k o jj=>?_⟩;obtain ⟨fp',s,mem⟩:=h5 Hs' H' fp2 m2 g (λ c hc hn=>k c (Zc _ hc) hn) o λ c hc=>(jj c hc).imp id λ y=>⟨λ q=>y.1 (Zc _ q),y.2⟩
   have nf:∀ c ∈ fq,c ∉ fp1:=λ c hc q=>j c hc (h4 c q)
   refine ⟨fq++fp',.mu (ho.mv g λ c hc=>k c (Zp _ hc) (nf c hc)) hp z (λ c hc q=>?_) s,λ c=>?_⟩
   ·rcases (mem c).mp q with y | y
    · exact j c hc y.1
    ·rcases jj c y with y | y
     · exact nf c hc y
     · exact y.1 (Zp _ hc)
   ·rw [Zg,Zg,mem c]
    constructor
    ·rintro (y | y | y)
     · exact .inl ⟨.inl y,nf c y⟩
     · exact .inl ⟨.inr y.1,y.2⟩
     · exact .inr y
    ·rintro (⟨y | y,y2⟩ | y)
     · exact .inl y
     · exact .inr (.inl ⟨y,y2⟩)
     · exact .inr (.inr y)
theorem StM.out (h:StM K H0 Hs H ρ σ τ fp):τ[i]?=some (.mu b m)->∃ v fq fp',σ[i]?=some (some v)/\Od K Hs H fq v m/\StM K H0 Hs H ρ σ (τ.set i .no) fp'/\(∀ c ∈ fq,c ∉ fp'/\c ∈ fp)/\(∀ c,c ∈ fp↔c ∈ fq\/c ∈ fp'):=by
 induction h generalizing i with
 | nil=>intro e; simp at e
 | no r ih =>
  intro e
  cases i with
  | zero=>simp at e
  | succ i =>
   obtain ⟨v,fq,fp',h1,h2,h3,h4,h5⟩:=ih (i:=i) (by simpa using e);exact ⟨v,fq,fp',by simpa using h1,h2,.no h3,h4,h5⟩
 | shr hr r ih =>
  intro e
  cases i with
  | zero=>simp at e
  | succ i =>
   obtain ⟨v,fq,fp',h1,h2,h3,h4,h5⟩:=ih (i:=i) (by simpa using e);exact ⟨v,fq,fp',by simpa using h1,h2,.shr hr h3,h4,h5⟩
 | @mu p v b' m' ρ σ τ fq fp ho hp z j r ih =>
  intro e
  cases i with
  | zero =>
   have e':Sm.mu b' m'=.mu b m:=by simpa using e
   injection e' with e1 e2
   subst e1 e2;exact ⟨v,fq,fp,rfl,ho,.no r,λ c hc=>⟨j c hc,Zp _ hc⟩,λ c=>Zg⟩
  | succ i =>
   obtain ⟨v',fq',fp',h1,h2,h3,h4,h5⟩:=ih (i:=i) (by simpa using e);refine ⟨v',fq',fq++fp',by simpa using h1,h2,.mu ho hp z (λ c hc q=>j c hc ((h5 c).mpr (.inr q))) h3,λ c hc=>⟨λ q=>?_,Zc _ (h4 c hc).2⟩,λ c=>?_⟩
   ·rcases Zg.mp q with q | q
    · exact j c q (h4 c hc).2
    · exact (h4 c hc).1 q
   ·rw [Zg,Zg,h5 c]
    constructor
    ·rintro (y | y | y)
     · exact .inr (.inl y)
     · exact .inl y
     · exact .inr (.inr y)
    ·rintro (y | y | y)
     · exact .inr (.inl y)
     · exact .inl y
     · exact .inr (.inr y)
theorem StM.xK (h:StM K H0 Hs H ρ σ τ fp) (hv:Rp K Hs v d):∃ fp',StM K H0 Hs H ρ (σ.set i (some v)) (τ.set i (.shr d)) fp'/\∀ c ∈ fp',c ∈ fp:=by
 induction h generalizing i with
 | nil=>exact ⟨[],.nil,λ _ h=>h⟩
 | no r ih =>
  cases i with
  | zero=>exact ⟨_,.shr hv r,λ _ h=>h⟩
  | succ i=>obtain ⟨fp',h1,h2⟩:=ih (i:=i); exact ⟨fp',.no h1,h2⟩
 | shr h r ih =>
  cases i with
  | zero=>exact ⟨_,.shr hv r,λ _ h=>h⟩
  | succ i=>obtain ⟨fp',h1,h2⟩:=ih (i:=i); exact ⟨fp',.shr h h1,h2⟩
 | mu h hp z j r ih =>
  cases i with
  | zero=>exact ⟨_,.shr hv r,λ _ h=>Zc _ h⟩
  | succ i =>
   obtain ⟨fp',h1,h2⟩:=ih (i:=i);exact ⟨_,.mu h hp z (λ c hc q=>j c hc (h2 c q)) h1,λ c hc=>(Zg.mp hc).elim (Zp _) λ q=>Zc _ (h2 c q)⟩
theorem StM.setM (h:StM K H0 Hs H ρ σ τ fp) (hv:Od K Hs H fq v m) (z:∀ c ∈ fq,H0 c=none/\c ∉ fp) (hi:i < τ.length):∃ fp',StM K H0 Hs H ρ (σ.set i (some v)) (τ.set i (.mu false m)) fp'/\∀ c ∈ fp',c ∈ fq\/c ∈ fp:=by
 induction h generalizing i with
 | nil=>exact absurd hi (by simp)
 | no r ih =>
  cases i with
  | zero=>exact ⟨_,.mu hv (λ e=>by cases e) (λ c hc=>(z c hc).1) (λ c hc=>(z c hc).2) r,λ c h=>Zg.mp h⟩
  | succ i=>obtain ⟨fp',h1,h2⟩:=ih (i:=i) z (by simpa using hi); exact ⟨fp',.no h1,h2⟩
 | shr h r ih =>
  cases i with
  | zero=>exact ⟨_,.mu hv (λ e=>by cases e) (λ c hc=>(z c hc).1) (λ c hc=>(z c hc).2) r,λ c h=>Zg.mp h⟩
  | succ i=>obtain ⟨fp',h1,h2⟩:=ih (i:=i) z (by simpa using hi); exact ⟨fp',.shr h h1,h2⟩
 | @mu p v' b' m' ρ σ τ fq' fp h hp z' j r ih =>
  have zr:∀ c ∈ fq,H0 c=none/\c ∉ fp:=λ c hc=>⟨(z c hc).1,λ q=>(z c hc).2 (Zc _ q)⟩
  cases i with
  | zero=>exact ⟨_,.mu hv (λ e=>by cases e) (λ c hc=>(z c hc).1) (λ c hc=>(zr c hc).2) r,λ c h=>(Zg.mp h).imp id λ q=>Zc _ q⟩
  | succ i =>
   obtain ⟨fp',h1,h2⟩:=ih (i:=i) zr (by simpa using hi);refine ⟨_,.mu h hp z' (λ c hc q=>?_) h1,λ c hc=>?_⟩
   ·rcases h2 c q with y | y
    · exact (z c y).2 (Zp _ hc)
    · exact j c hc y
   ·rcases Zg.mp hc with y | y
    · exact .inr (Zp _ y)
    · exact (h2 c y).imp id λ q=>Zc _ q
end
structure bF (K:W.Frag) (Hs0 H0:Hp) (ρ:List (Option Addr)) (Hs H:Hp) (σ:St) (τ:List Sm):Prop where
 ext:Ext Hs0 H0 Hs H
 st:∃ fp,StM K H0 Hs H ρ σ τ fp
section
variable {K:W.Frag} {Hs0 H0 Hs H Hs' H':Hp} {ρ:List (Option Addr)} {σ:St} {τ:List Sm}
theorem bF.ext' (r:bF K Hs0 H0 ρ Hs H σ τ) (g:Ext Hs H Hs' H'):bF K Hs0 H0 ρ Hs' H' σ τ:=by
 obtain ⟨fp,h⟩:=r.st;refine ⟨⟨r.ext.ss.trans g.ss,g.sh,r.ext.hh.trans g.hh,λ b h1 h2=>g.fr b (r.ext.fr b h1 h2) (r.ext.hh.live h2)⟩,fp,h.ext g⟩
theorem bF.grow (r:bF K Hs0 H0 ρ Hs H σ τ) (g:bU H H'):bF K Hs0 H0 ρ Hs H' σ τ:=r.ext' ⟨.refl _,r.ext.sh.trans g,g,λ _ h _=>h⟩
theorem bF.sm (r:bF K Hs0 H0 ρ Hs H σ τ):bU Hs H:=r.ext.sh
end
def Nf (N H0:Hp):Prop:=∀ d o u,N d=some (.frz o u)->H0 d≠none
theorem Nf.upd (h:Nf N H0):Nf N (upd H0 p u):=λ d o w e=>by
 by_cases z:d=p
 · rw [z,aw]; simp
 · rw [ar z]; exact h d o w e
inductive F5 where
 | next (τ:List Sm) | ret (s:Sm) (τ:List Sm) | brk (τ:List Sm) | cnt (τ:List Sm)
abbrev DSm:=List Sm->Option F5
abbrev DEm:=List Sm->Option (Sm×List Sm)
abbrev DTm:=List Sm->Option (Bool×List Sm)
abbrev DPx:=List Sm->Option (Nat×List Stp)
def Hk (K:W.Frag) (Hs0 H0:Hp) (ρ:List (Option Addr)) (E:Ends):F5->Prop
 | .next τ=>∀ σ Hs H,bF K Hs0 H0 ρ Hs H σ τ->E.nx σ H
 | .brk τ=>∀ σ Hs H,bF K Hs0 H0 ρ Hs H σ τ->E.bk σ H
 | .cnt τ=>∀ σ Hs H,bF K Hs0 H0 ρ Hs H σ τ->E.ct σ H
 | .ret s τ=>∀ v σ Hs H,bF K Hs0 H0 (none::ρ) Hs H (some v::σ) (s::τ)->E.rt v H
def K1 (N:Hp) (K:W.Frag) (f:DSm):TS:=λ E σ H=>∃ (Hs0 H0:Hp),∃ (_:Nf N H0),∃ ρ Hs τ o,bF K Hs0 H0 ρ Hs H σ τ/\f τ=some o/\Hk K Hs0 H0 ρ E o
def Mx (N:Hp) (K:W.Frag) (f:DEm):TE:=λ σ H Q=>∃ (Hs0 H0:Hp),∃ (_:Nf N H0),∃ ρ Hs τ s τ',bF K Hs0 H0 ρ Hs H σ τ/\f τ=some (s,τ')/\∀ v Hs' H',bF K Hs0 H0 (none::ρ) Hs' H' (some v::σ) (s::τ')->Q v H'
def Mu (N:Hp) (K:W.Frag) (f:DTm):TT:=λ σ H Q=>∃ (Hs0 H0:Hp),∃ (_:Nf N H0),∃ ρ Hs τ b τ',bF K Hs0 H0 ρ Hs H σ τ/\f τ=some (b,τ')/\∀ Hs' H',bF K Hs0 H0 ρ Hs' H' σ τ'->Q b H'
def PSm (X:Cx) (s:Stmt) (f:DSm):Prop:=PS X s (K1 X.H₀ X.K f)
def uh (X:Cx) (s:List Stmt) (f:DSm):Prop:=PSs X s (K1 X.H₀ X.K f)
def PEm (X:Cx) (e:Expr) (f:DEm):Prop:=PE X e (Mx X.H₀ X.K f)
def PTm (X:Cx) (e:Expr) (f:DTm):Prop:=PT X e (Mu X.H₀ X.K f)
def a6 (τ:List Sm) (i:Nat) (q:List Stp):Option Mt:=match τ[i]? with
 | some (.mu _ m)=>m.get q
 | _=>none
def dH (τ:List Sm) (i:Nat) (q:List Stp) (m2:Mt):List Sm:=match τ[i]? with
 | some (.mu b m)=>τ.set i (.mu b (m.put q m2))
 | _=>τ
def rdX (N:Hp) (K:W.Frag) (f:DPx):TE:=λ σ H Q=>∃ (Hs0 H0:Hp),∃ (_:Nf N H0),∃ ρ Hs τ i q m,bF K Hs0 H0 ρ Hs H σ τ/\f τ=some (i,q)/\a6 τ i q=some m/\∀ v v1 H',bU H H'->σ[i]?=some (some v)->vAt H' v q=some v1->Q v1 H'
def PXm (X:Cx) (e:Expr) (f:DPx):Prop:=PE X e (rdX X.H₀ X.K f)
section
variable {X:Cx} {pins:List (Addr×Obj)} {σ:St} {H:Hp} {s:Shared} {h':Heap}
theorem Inv.ui {t':Nat} {wr:List Addr} {T:Addr} {xs:List V} (I:Inv X pins σ H s) (hw:∀ b ∈ wr,pj X pins H b) (k:∀ b o,b ∉ wr->s.heap.get? b=some o->h'.get? b=some o)
  (hT:s.heap.objs.size<=T) (new:cw X.prog X.w (upd H T (.tup xs)) h' T (.tup xs)):Inv X pins σ (upd H T (.tup xs)) { s with heap:=h',toks:=t' }:=by
 have hn:=I.hok.fresh hT;have neT:∀ b u,H b=some u->b≠T:=λ b u e z=>by rw [z,hn] at e; cases e
 have neS:∀ b o,s.heap.get? b=some o->b≠T:=λ b o e z=>by
  have:=Zs e;rw [z] at this;exact absurd (Zv this hT) (Ym _)
 have nw:∀ b u,H b=some u->b ∉ wr:=λ b u e z=>by rw [(hw b z).1] at e; cases e
 refine I.step (λ b hb=>?_) (λ b o _ _ hc e _=>k b o hc e) (λ b o _ _ hc e _=>⟨o.slots,k b o hc e⟩) (λ b o _ e n=>by rw [ar (neS b o e)]; exact n)
  (λ b o hc e=>⟨o,k b o hc e⟩) (λ b ys e=>by rw [ar (neT b _ e)]; exact e) (λ b o u e=>by rw [ar (neT b _ e)]; exact e) (λ b ps e=>⟨#[],by rw [ar (neT b _ e),e]; simp⟩) (λ m hm=>?_) (λ b u e=>?_) I.bare
 ·obtain ⟨f0,f1,f2,f3,f4,f5⟩:=hw b hb
  exact ⟨f3,f1,f4,f5⟩
 ·obtain ⟨o,es,ep,ho,r⟩:=hm
  exact ⟨o,es,ep,k _ o (λ z=>(hw _ z).2.1 rfl) ho,r⟩
 ·by_cases hb:b=T
  ·subst hb
   rw [aw] at e;cases e;exact new
  ·rw [ar hb] at e
   refine (I.hok b u e).ux (λ c v hc q=>k c v ?_ q) (λ c q=>by rw [ar (neT c _ q)]; exact q) λ c ys q=>by rw [ar (neT c _ q)]; exact q
   rcases hc with z | z
   · rw [z]; exact nw b u e
   · exact nw c _ z
end
structure Bx (p:Prop):Prop where
 out:p
def Ite (K:W.Frag) (l:Addr):It where
 go:=λ i H=>∃ xs x,SqL K H l xs/\xs[i]?=some x
 yld:=λ i H v H'=>∃ T x,v=.ref T/\H T=none/\H'=upd H T (.tup [.int (i:Int),x])/\∀ xs,SqL K H l xs->xs[i]?=some x
 stop:=λ i H=>∃ xs,SqL K H l xs/\xs.length<=i
def ESt (e it l:Addr) (i:Nat) (h:Heap):Prop:=(∃ old,IsEnum h e it ((i:Nat):Int) old)/\h.IsListIter it l i
theorem um {P:Program} {w:World} {K:W.Frag} {elts:List Expr} {k:Nat} {pos:Pos} {e it l:Addr} (ne:e≠it) :
  Turn P w K (.Tuple elts k pos) (Ite K l) [e,it] e (ESt e it l) where
 mem:=by simp
 obj:=λ i h st b hb=>by
  obtain ⟨⟨old,s1⟩,⟨o4,e4,c4,d4⟩⟩:=st;simp only [Zi,Z8,or_false] at hb;rcases hb with rfl | rfl
  · exact ⟨_,s1,λ v z=>by cases z⟩
  · exact ⟨o4,e4,λ v z=>by rw [d4] at z; cases z⟩
 keep:=λ i h h' st k=>by
  obtain ⟨⟨old,s1⟩,s4⟩:=st;exact ⟨⟨old,k _ (by simp) _ s1⟩,s4.at λ o e=>k _ (by simp) o e⟩
 item:=by
  intro X hP hw hK hc i pins s σ H E I hf st hg;subst hP hw hK;obtain ⟨xs,x,hq,hx⟩:=hg;obtain ⟨its,rv,p,hz⟩:=I.list hq;obtain ⟨u,hu,ru⟩:=rv.get hx;obtain ⟨⟨old,s1⟩,s4⟩:=st;refine wpAny_pyNext_enum_item s1 s4 p.isList (by simpa using hu) ne λ h' a1 a2 a3 a4 hk=>?_
  have hk':∀ b o,b ∉ [e,it]->s.heap.get? b=some o->h'.get? b=some o:=λ b o hb e'=>hk b o (λ q=>hb (by simp [q])) (λ q=>hb (by simp [q])) e'
  have I1:Inv X pins σ (upd H s.heap.objs.size (.tup [.int (i:Int),x])) { s with heap:=h',toks:=s.toks+1 }:=I.ui hf hk' (Zl _) ⟨by show 2<=sizeLine; decide,[.int i s.toks,u],.cons ⟨_,rfl⟩ (.cons ru .nil),_,a3,rfl,_,rfl⟩;have hn:=I.hok.fresh (Zl _);refine ⟨.ref s.heap.objs.size,rfl,wpAny_letOwnedTupleGo_enum a1 λ h2 hz2 sb=>?_⟩
  have neT:∀ b ∈ [e,it],b≠s.heap.objs.size:=λ b hb q=>by
   have lt:∃ o,s.heap.get? b=some o:=by
    obtain ⟨o4,e4,_⟩:=s4;simp only [Zi,Z8,or_false] at hb;rcases hb with rfl | rfl
    · exact ⟨_,s1⟩
    · exact ⟨_,e4⟩
   obtain ⟨o,e'⟩:=lt;rw [q] at e';exact absurd (Zs e') (Ym _)
  obtain ⟨f0,f1,f2,f3,f4,f5⟩:=hf e (by simp);have I2:=I1.turned (t':=s.toks+1) (λ b o hb e'=>(sb.2 b hb).trans e') (by rw [ar (neT e (by simp))]; exact f0) f1 f3 f4 f5;refine ⟨.ref s.heap.objs.size,_,I2,rfl,⟨s.heap.objs.size,x,rfl,hn,rfl,λ zs hz=>by rw [I.rC hz hq]; exact hx⟩,?_,λ b hb=>by rw [ar (neT b hb)]; exact (hf b hb).1⟩;exact ⟨⟨_,hz2⟩,a2.extBut sb.extBut (Ne.symm ne)⟩
 done:=by
  intro X hP hw hK hc i pins s σ H E I hf st hg;subst hP hw hK;obtain ⟨xs,hq,hx⟩:=hg;obtain ⟨its,rv,p,hz⟩:=I.list hq;obtain ⟨⟨old,s1⟩,s4⟩:=st;have l1:=rv.length;refine wpAny_pyNext_enum_end (I.ok.hd hc) s1 s4 p.isList (by simp; omega) λ h' eb=>⟨rfl,?_⟩
  obtain ⟨f0,f1,f2,f3,f4,f5⟩:=hf it (by simp);exact I.turned (λ b o hb e=>eb b o hb e) f0 f1 f3 f4 f5
 self:=λ _ _ _ _ _ st h=>by
  obtain ⟨⟨old,s1⟩,s4⟩:=st;exact wpAny_pyIter_enum s1 h
theorem oU:bootBuiltins "enumerate"=some (.type "enumerate"):=by rfl
def Ks (K:W.Frag) (ta:TA):TI:=λ σ H R=>ta σ H λ vs H1=>∃ l xs,vs=[.ref l]/\SqL K H1 l xs/\R (Ite K l) H1
theorem A4 {X:Cx} {a:Expr} {ta:TA} {elts:List Expr} {k:Nat} {pt p pos:Pos} (hg:Gl X "enumerate") (hm:X.mg "enumerate"=none) (ha:PA X [a] ta) (hs:starEach [a] X.env=[(false,eval a X.env)]:=by rfl) :
  PI X (.Tuple elts k pt) (.Call (.Name "enumerate" p) [a] [] pos) (Ks X.K ta):=by
 intro pins s σ H R I h;refine Call_ (jc I hg hm oU (Ys (thn (ha pos pins s σ H _ I h) λ us s1 ⟨vs,H1,I1,r1,q1⟩=>?_) (by rw [hs]; rfl) (by rfl)));obtain ⟨l,xs,e,q1,q⟩:=q1;subst e
 cases r1 with
 | cons r rr =>
  cases rr;cases r;obtain ⟨its1,rv1,p1,hz1⟩:=I1.list q1;refine call_enumerate_list p1.isList λ h' hE hI hsz hk=>?_
  refine wpAny_pyIter_enum hE ?_
  refine ⟨_,[s1.heap.objs.size+1,s1.heap.objs.size],_,_,H1,rfl,I1.kept hk,um (Nat.succ_ne_self _),⟨⟨_,hE⟩,hI⟩,λ b hb=>?_,q⟩
  have hb':s1.heap.objs.size<=b:=by
   simp only [Zi,Z8,or_false] at hb;rcases hb with rfl | rfl
   · exact Nat.le_add_right _ 1
   · exact Zl _
  exact I1.tK hb' (I1.hok.fresh hb')
def eA (ds:List D):List D:=ds.mapIdx λ i d=>D.tup [.int (i:Int),d]
theorem rH {K:W.Frag} {a:Addr} {xs:List V} {Hs:Hp} {as:List D} (h1:SqL K Hs a xs) (r1:Rps K Hs xs as):ItR K (Ite K a) Hs (eA as):=λ Hs1 H g1 g2=>by
 have hq1:=g2.seq (g1.seq h1);have l1:=r1.length;refine ⟨λ i d e=>?_,λ i hi=>⟨xs,hq1,?_⟩⟩
 ·unfold eA at e
  rw [List.getElem?_mapIdx] at e;obtain ⟨p,ea,ed⟩:=Zm e;obtain ⟨x,hx,rx⟩:=r1.get ea;subst ed;refine ⟨⟨xs,x,hq1,hx⟩,λ v H' ⟨T,vx,e1,hn,e2,f1⟩=>?_⟩;subst e1 e2;have ex:=f1 xs hq1;rw [hx] at ex;cases ex;have g:=Ext.new g2 hn (.tup [.int (i:Int),x]);exact ⟨_,g,.tup (SqT.of aw) (.cons (.int _) (.cons ((rx.same g1).same g.ss) .nil))⟩
 ·have hl:(eA as).length=as.length:=by simp [eA]
  omega
def vY (f:DA):DI:=λ τ=>(f τ).bind λ ds=>match ds with | [.lst as]=>some (eA as) | [.fz as]=>some (eA as) | _=>none
section
variable {X:Cx} {a b e o:Expr} {es:List Expr} {pos apos cpos:Pos} {f g:DE}
theorem DM:SlR X (λ x lo hi H Q=>∃ z,x=.str z/\z.length<=sizeLine/\Q (.str (Txt.slice z lo hi)) H):=by
 intro pins s σ H x v vl vu lo hi sl Q I rx hs pl pu h;obtain ⟨z,rfl,hz,q⟩:=h;obtain ⟨t,rfl⟩:=rx;have fin:∀ t' k,EP X pins σ Q (.str (Txt.slice z lo hi) t') { s with toks:=k }:=λ t' k=>⟨.str _,H,I.tok k,⟨_,rfl⟩,q⟩
 refine ⟨"str",_,PySem.F.slot_str_getitem.lookup,typeIs_str s z t,?_⟩
 cases pl with
 | none=>cases pu with
  | none=>exact Xo (l:=none) (u:=none) (st:=none) hs rfl (post_val_or_str ⟨Z2 (Txt.slice_le z _ _) hz,fin⟩)
  | int j t2=>exact Xo (l:=none) (u:=some (j,t2)) (st:=none) hs rfl (post_val_or_str ⟨Z2 (Txt.slice_le z _ _) hz,fin⟩)
 | int i t1=>cases pu with
  | none=>exact Xo (l:=some (i,t1)) (u:=none) (st:=none) hs rfl (post_val_or_str ⟨Z2 (Txt.slice_le z _ _) hz,fin⟩)
  | int j t2=>exact Xo (l:=some (i,t1)) (u:=some (j,t2)) (st:=none) hs rfl (post_val_or_str ⟨Z2 (Txt.slice_le z _ _) hz,fin⟩)
def K6:D->Option Int->Option Int->Option D
 | .str z,l,u=>if z.length<=100000 then some (.str (Txt.slice z l u)) else none
 | _,_,_=>none
def KH (f:DE) (l u:DO):DE:=λ τ=>(f τ).bind λ x=>(l τ).bind λ l'=>(u τ).bind λ u'=>K6 x l' u'
def sG:List D->Option (List Str)
 | []=>some []
 | .str x::ds=>(sG ds).map (x::·)
 | _::_=>none
theorem m5:∀ {ds:List D} {ts:List Str},sG ds=some ts->ds=ts.map .str
 | [],ts,h=>by cases h; rfl
 | .str x::ds,ts,h=>by
  obtain ⟨us,e,rfl⟩:=Zm h;rw [m5 e]; rfl
theorem Rps.jE {K:W.Frag} {H:Hp}:∀ {ts:List Str} {xs:List V},Rps K H xs (ts.map D.str)->xs=ts.map V.str
 | [],_,.nil=>rfl
 | x::ts,_,.cons h r=>by
  cases h;rw [Rps.jE r]; rfl
def CD (f g:DE):DE:=λ τ=>(f τ).bind λ x=>(g τ).bind λ y=>match x,y with
 | .str z,.lst ds=>(sG ds).bind λ ts=>if (ts.map (·.length)).sum+ts.length * z.length<=100000 then some (.str (Txt.join z ts)) else none
 | _,_=>none
end
section
variable {X:Cx} {tg a b c:Expr} {p pos:Pos}
def KJ (f g:DE):DE:=λ τ=>(f τ).bind λ x=>(g τ).bind λ y=>match x,y with
 | .lst ds,.int n=>if -(2 ^ 62)<=n/\n < 2 ^ 62/\ds.length * n.toNat<=100000 then some (.lst (List.replicate n.toNat ds).flatten) else none
 | _,_=>none
theorem Rps.rep {K:W.Frag} {H:Hp} {xs:List V} {ds:List D} (r:Rps K H xs ds):∀ n:Nat,Rps K H (List.replicate n xs).flatten (List.replicate n ds).flatten
 | 0=>.nil
 | n+1=>by
  rw [Yc,Yc,Xh,Xh];exact r.append (Rps.rep r n)
end
end L2
end
section
namespace PySem
section
variable {prog:Program} {w:World} {A:Around} {E:Value->Shared->Prop} {s:Shared}
theorem vz:typeLookup (.type "list_reverseiterator") "__len__"=pure none:=by rfl
theorem yy:typeLookup (.type "list_reverseiterator") "__length_hint__"=pure (some (.builtin "list_reverseiterator.__length_hint__")):=by rfl
theorem tw (hit:s.heap.IsRevIter it l i) (h:Q false s):wpAny (model prog w) A (Builtin.List.listLengthHint (.ref it)) Q E s:=by
 refine Zo (wpAny_specialOf hit.typeIs vz ?_);refine Zo (wpAny_specialOf hit.typeIs yy ?_);generalize hid:("list_reverseiterator.__length_hint__":String)=id0
 wp_delta
 rw [show splitId id0=some ("list_reverseiterator","__length_hint__") from by subst hid; decide +kernel];subst hid;refine Zo (wpAny_isInstance (b:=true) hit.typeIs (by rw [isSubtype_type]; kernel_rfl) ?_);exact Z3 h
theorem tz (hh:A.handled=none) (hit:s.heap.IsRevIter it l ((items.size:Int) - 1)) (hl:s.heap.IsList l items)
  (hlen:items.size<=sizeLine) (hne:l≠it) (S:Addr) (res:Value) (c₀:Nat) (hS:s.heap.get? S=some { cls:=.type "list",data:=.seq #[] c₀ }) (hSl:S≠l) (hSi:S≠it)
  (hR:∀ h' tk acc' c',(∀ b o,b≠S->b≠it->s.heap.get? b=some o->h'.get? b=some o)->h'.get? S=some { cls:=.type "list",dict:=none,data:=.seq acc' c',slots:=#[] } ->
    ItemsOf (λ i v=>items[items.size - 1 - i]?=some v) acc' items.size->R (.ok (.ret res)) { s with heap:=h',toks:=tk }) :
  wpAny (model prog w) A.in1 (Builtin.List.listExtendWith (.ref S) (.ref it) res)
    (λ fin s'=>match fin with | .done f=>R (.ok f) s' | .again c'=>c'.quiet=true/\codeAny (model prog w) A c' R s') (λ e s'=>R (.error e) s') s:=by
 have W:=(Walks.listRev (prog:=prog) (w:=w) (A:=A.in1) hh it l hne items).toS
 have hSf:S ∉ [it,l]:=λ hm=>by
  rcases Zi.mp hm with e | hm
  · exact hSi e
  · exact hSl (Zr.mp hm)
 refine Zo (wpAny_typeOf hit.typeIs ?_);have h1:Builtin.List.listSameRef (.ref S) (.ref it)=false:=by simp [Builtin.List.listSameRef,hSi]
 have h2:(Value.type "list_reverseiterator" == Value.type "list")=false:=by decide
 have h3:(Value.type "list_reverseiterator" == Value.type "tuple")=false:=by decide
 simp only [h1,h2,h3,Bool.or_false,Bool.false_eq_true,if_false];refine Zo (wpAny_pyIter_revIter hit ?_);refine Zo (wpAny_holding (tw hit ?_));refine wpAny_ite_split (λ hab=>absurd hab (by decide)) (λ _=>?_);refine Z3 ⟨plainId_quiet F.plain_extend_loop _,?_⟩
 have hit0:s.heap.IsRevIter it l ((items.size:Int) - 1 - ((0:Nat):Int)):=by
  simpa using hit
 refine codeAny_extend_loopS W hlen S hSf res items.size 0 _ #[] c₀ rfl (Z4 _) ⟨Z4 _,hit0,hl⟩ hS (ItemsOf.nil _) λ s' acc' c' hm hS' hacc=>?_
 rw [Moved.eq_with hm];refine hR s'.heap s'.toks acc' c' (λ b o hb hb2 e=>hm.heap b o (λ hmem=>?_) e) hS' hacc;rcases Zi.mp hmem with e' | hmem
 · exact hb e'
 · exact hb2 (Zr.mp hmem)
theorem yx (hh:A.handled=none) (hit:s.heap.IsRevIter it l ((items.size:Int) - 1)) (hl:s.heap.IsList l items)
  (hlen:items.size<=sizeLine) (hne:l≠it) (S:Addr) (hS:s.heap.get? S=some { cls:=.type "list",data:=.seq #[] }) (hSl:S≠l) (hSi:S≠it)
  (hR:∀ h' tk acc' c',(∀ b o,b≠S->b≠it->s.heap.get? b=some o->h'.get? b=some o)->h'.get? S=some { cls:=.type "list",dict:=none,data:=.seq acc' c',slots:=#[] } ->
    ItemsOf (λ i v=>items[items.size - 1 - i]?=some v) acc' items.size->R (.ok (.ret .none)) { s with heap:=h',toks:=tk }) :
  wpAny (model prog w) A.in1 (Builtin.«list.__init__» ⟨[.ref S,.ref it],[]⟩)
    (λ fin s'=>match fin with | .done f=>R (.ok f) s' | .again c'=>c'.quiet=true/\codeAny (model prog w) A c' R s') (λ e s'=>R (.error e) s') s:=by
 refine Zo ?_
 refine Zo (wpAny_seqItems hS rfl (Z3 ?_));refine Zo (wpAny_updateSeq hS rfl ?_);have hS₂:=Heap.get?_update_self (Obj.mapSeq (λ _=>(#[]:Array Value))) hS rfl
 have oth:∀ b o,b≠S->s.heap.get? b=some o->(s.heap.update S (Obj.mapSeq (λ _=>(#[]:Array Value)))).get? b=some o :=
  λ b o hb e=>(Heap.get?_update_other _ _ (Ne.symm hb)).trans e
 refine Zo (wpAny_letGo ?_);refine tz hh (hit.at λ o e=>oth it o (Ne.symm hSi) e) (hl.at λ o e=>oth l o (Ne.symm hSl) e) hlen hne S .none _ hS₂ hSl hSi λ h' tk acc' c' hk hS' hacc=>?_
 exact hR h' tk acc' c' (λ b o hb hb2 e=>hk b o hb hb2 (oth b o hb e)) hS' hacc
theorem mH (hh:A.handled=none) (hit:s.heap.IsRevIter it l ((items.size:Int) - 1)) (hl:s.heap.IsList l items)
  (hlen:items.size<=sizeLine) (hne:l≠it)
  (hQ:∀ h' tk acc' c',(∀ b o,b≠it->s.heap.get? b=some o->h'.get? b=some o) ->
    h'.get? s.heap.objs.size=some { cls:=.type "list",dict:=none,data:=.seq acc' c',slots:=#[] }->ItemsOf (λ i v=>items[items.size - 1 - i]?=some v) acc' items.size->Q (.ref s.heap.objs.size) { s with heap:=h',toks:=tk }) :
  wpAny (model prog w) A (call (.type "list") [.ref it]) Q E s:=by
 refine callType_codes (Q₁:=λ obj s₁=>obj=.ref s.heap.objs.size/\s₁={ s with heap:=s.heap.push { cls:=.type "list",data:=.seq #[] } }) F.called_list (F.typeCall_list_1 _) F.entry_list_init
  (code_list_new _ ⟨rfl,rfl⟩) λ obj s₁ h₁=>?_
 obtain ⟨rfl,rfl⟩:=h₁;have hS:(s.heap.push { cls:=.type "list",data:=.seq #[] }).get? s.heap.objs.size=some { cls:=.type "list",data:=.seq #[] }:=Heap.get?_push_size _ rfl
 have hSl:s.heap.objs.size≠l:=λ e=>by
  obtain ⟨o,ho,_⟩:=hl;exact Ym _ (Nat.lt_of_lt_of_eq (Zs ho) e)
 have hSi:s.heap.objs.size≠it:=λ e=>by
  obtain ⟨o,ho,_⟩:=hit;exact Ym _ (Nat.lt_of_lt_of_eq (Zs ho) e)
 refine ⟨⟨_,hS,rfl⟩,F.args_list_init_2 _ _,yx (A:=A.in1) hh (hit.at λ o e=>Heap.get?_push_of_some _ e) (hl.at λ o e=>Heap.get?_push_of_some _ e) hlen hne _ hS hSl hSi λ h' tk acc' c' hk hS' hacc=>?_⟩;exact ⟨rfl,hQ h' tk acc' c' (λ b o hb e=>hk b o (Zx (Zs e)) hb (Heap.get?_push_of_some _ e)) hS' hacc⟩
end
end PySem
namespace L2
open PySem PySem.Spec PyProof.Rows
section
variable {X:Cx} {a:Expr} {p p2 pos pos2:Pos}
def L8 (K:W.Frag) (ta:TE):TE:=λ σ H Q=>ta σ H λ x H1=>∃ q ys,x=.ref q/\SqL K H1 q ys/\∀ l,H1 l=none->Q (.ref l) (upd H1 l (.lst ys.reverse))
theorem vP {its:List Value} {acc:Array Value} (h:ItemsOf (λ i v=>its.toArray[its.toArray.size - 1 - i]?=some v) acc its.toArray.size):acc=its.reverse.toArray:=by
 obtain ⟨hs,hv⟩:=h;refine Array.ext (by simpa using hs) λ i h1 h2=>?_
 have h3:=hv i acc[i] (Array.getElem?_eq_getElem h1);have h4:i < its.length:=by simpa using h2
 have h5:its[its.length - 1 - i]?=some acc[i]:=by simpa using h3
 rw [<- List.getElem?_reverse h4] at h5;have h6:its.reverse[i]?=some (its.reverse[i]'(by simpa using h4)):=List.getElem?_eq_getElem _;rw [h6] at h5
 simpa using (Zj h5).symm
theorem D5 {ta:TE} {x y:Str} (hc:X.calm=true) (hg:Gl X x) (hm:X.mg x=none) (hv:bootBuiltins x=some (.type "list")) (hg2:Gl X y) (hm2:X.mg y=none) (hv2:bootBuiltins y=some (.type "reversed")) (ha:PE X a ta)
  (hn:x≠"__name__":=by decide) (hdb:(x == ("__debug__":Str))=false:=by decide) (hn2:y≠"__name__":=by decide) (hdb2:(y == ("__debug__":Str))=false:=by decide)
  (he:starEach [.Call (.Name y p2) [a] [] pos2] X.env=(false,eval (.Call (.Name y p2) [a] [] pos2) X.env)::starEach [] X.env:=by rfl) (hpl:(backTo pos (starEach [] X.env)).any (·.1)=false:=by rfl)
  (he2:starEach [a] X.env=(false,eval a X.env)::starEach [] X.env:=by rfl) (hpl2:(backTo pos2 (starEach [] X.env)).any (·.1)=false:=by rfl) :
  PE X (.Call (.Name x p) [.Call (.Name y p2) [a] [] pos2] [] pos) (L8 X.K ta):=by
 intro pins s σ H Q I h;refine Xb (jc I hg hm hv ?_ hn hdb);refine Ys ?_ he hpl;rw [he];refine Calls.spliced_cons ?_
 refine Xb (jc I hg2 hm2 hv2 ?_ hn2 hdb2);refine Ys (thn (aT ha c8 he2 pos2 pins s σ H (λ vs H1=>match vs with | [x]=>(∃ q ys,x=V.ref q/\SqL X.K H1 q ys/\∀ l,H1 l=none->Q (.ref l) (upd H1 l (.lst ys.reverse))) | _=>False) I h) λ us s1 ⟨vs,H1,I1,r1,q1⟩=>?_) he2 hpl2
 match vs,r1,q1 with
 | [],_,q1=>exact q1.elim
 | _::_::_,_,q1=>exact q1.elim
 | [v],.cons r .nil,q1 =>
  obtain ⟨q,ys,ev,hq,k⟩:=q1;subst ev;cases r;obtain ⟨its,r',pl,hz⟩:=I1.list hq;have hlen:=r'.length
  have hql:q < s1.heap.objs.size:=by
   obtain ⟨o,ho,_⟩:=pl.isList;exact Zs ho
  refine call_reversed_list pl.isList ?_
  refine Calls.spliced_nil ?_
  refine mH (I1.ok.hd hc) ⟨_,Heap.get?_push_size _ rfl,rfl,rfl⟩ (pl.isList.at λ o e=>Heap.get?_push_of_some _ e) (by simp only [Zt]; omega) (Zx hql) λ h' tk acc' c' kp e hacc=>?_
  have ea:=vP hacc;subst ea;have hS:s1.heap.objs.size<=(s1.heap.push (revObj q ((its.toArray.size:Int) - 1))).objs.size:=Yz (Nat.lt_of_lt_of_eq (Xa _) (Y7 _ _).symm)
  exact ⟨.ref _,_,I1.laid (λ b o eb=>kp b o (Zx (Zs eb)) (Heap.get?_push_of_some _ eb)) hS
   (show cw X.prog X.w _ h' _ (.lst ys.reverse) from ⟨by rw [Xk]; exact hz,its.reverse,c',r'.reverse,e⟩),rfl,k _ (I1.hok.fresh hS)⟩
def Di (f:DE):DE:=λ τ=>(f τ).bind λ x=>match x with
 | .lst ds=>some (.lst ds.reverse)
 | .fz ds=>some (.lst ds.reverse)
 | _=>none
theorem Rps.reverse {K:W.Frag} {H:Hp} {xs:List V} {ds:List D} (h:Rps K H xs ds):Rps K H xs.reverse ds.reverse:=by
 match xs,ds,h with
 | _,_,.nil=>exact .nil
 | _,_,.cons r t =>
  rw [Xv,Xv];exact (Rps.reverse t).append (.cons r .nil)
end
end L2
end
section
namespace L2
open PySem PySem.Spec PyProof.Rows
def FP (f g:DE):DE:=λ τ=>(f τ).bind λ x=>(g τ).bind λ y=>match x,y with
 | .lst a,.lst b=>if a.length+b.length<=100000 then some (.lst (a++b)) else none
 | _,_=>none
section
variable {X:Cx} {pins:List (Addr×Obj)} {σ:St} {H:Hp}
def vi:List D->Option D
 | [.dct kvs]=>some (.int kvs.length)
 | _=>none
theorem wU:fC X (.builtin "len") (rdL X.K vi):=by
 intro pins s σ H xs us Q I rr h;obtain ⟨Hs,ds,d,sm,r,e,k⟩:=h
 match ds,r,e with
 | [x],.cons hx .nil,e =>
  obtain ⟨u,rfl,ru⟩:=vals1 rr
  cases hx with
  | @dct a kvs ds hH rk =>
   have e':=Zj e;subst e';cases (ru);exact KG I (.inl (sm _ _ hH)) λ t s' I'=>⟨.int kvs.length,H,I',⟨t,rfl⟩,by rw [rk.length]; exact k _ Hs H (.refl sm) (.int _)⟩
  | _=>exact nn e
 | [],_,e=>simp [vi] at e
 | _::_::_,_,e=>simp [vi] at e
end
section
variable {X:Cx} {tg a e:Expr} {p p2 pos pos2:Pos}
def CW (i:Nat) (f:DE):DS:=λ τ=>(f τ).bind λ d=>match d,τ[i]? with
 | .lst es,some (.own (.lst ds))=>if ds.length+es.length<=100000 then some (.next (τ.set i (.own (.lst (ds++es))))) else none
 | _,_=>none
theorem FG (h:CW i f τ=some o):∃ es ds,f τ=some (.lst es)/\τ[i]?=some (.own (.lst ds))/\ds.length+es.length<=100000/\o=.next (τ.set i (.own (.lst (ds++es)))):=by
 obtain ⟨d,e1,e⟩:=bind_some h
 cases d with
 | lst es =>
  cases q:τ[i]? with
  | none=>rw [q] at e; cases e
  | some s =>
   rw [q] at e
   cases s with
   | own d=>cases d with
    | lst ds =>
     simp only at e;split at e
     ·rename_i hl
      cases e;exact ⟨es,ds,e1,rfl,hl,rfl⟩
     · cases e
    | _=>simp at e
   | _=>simp at e
 | _=>simp at e
end
def chD (z:Str):List D:=z.cps.toList.map λ c=>D.str ⟨#[c]⟩
def Ck (f:DE):DI:=λ τ=>(f τ).bind λ d=>match d with | .str z=>some (chD z) | _=>none
theorem Cd {K:W.Frag} {z:Str} {Hs:Hp}:ItR K (Its z) Hs (chD z):=λ Hs1 H g1 g2=>by
 refine ⟨λ i d e=>?_,λ i hi=>?_⟩
 ·unfold chD at e
  rw [List.getElem?_map] at e
  cases q:z.cps.toList[i]? with
  | none=>rw [q] at e; cases e
  | some c =>
   rw [q] at e;have ed:=Zj e;subst ed
   have hi:i < z.cps.size:=by
    have:=(List.getElem?_eq_some_iff.mp q).1
    simpa using this
   have q':z.cps[i]?=some c:=by rw [<- Array.getElem?_toList]; exact q
   refine ⟨hi,?_⟩
   rintro x H' ⟨rfl,c',hc,rfl⟩
   rw [q'] at hc;cases hc;exact ⟨Hs1,.refl g2,.str _⟩
 ·show z.cps.size<=i
  unfold chD at hi;rw [Za] at hi
  simpa using hi
section
variable {X:Cx} {tg l:Expr} {f g:DE}
def Iv:D->D->Option D
 | .str i,.str j=>some (.bl (!decide (j.cps.toList < i.cps.toList)))
 | _,_=>none
theorem Ej:OpR X (compareOp .LtE) (rdR X.K Iv):=uY.imp λ x y H Q ⟨Hs,dx,dy,d,sm,rx,ry,e,k⟩=>by
 unfold Iv at e;split at e
 ·cases rx
  cases ry;have e':=Zj e;subst e';exact ⟨_,_,rfl,rfl,k _ Hs H (.refl sm) (.bl _)⟩
 · cases e
def ug:List D->Option (List Bool)
 | []=>some []
 | .bl b::ds=>(ug ds).map (b::·)
 | _::_=>none
theorem gC:∀ {ds:List D} {bs:List Bool},ug ds=some bs->ds=bs.map .bl
 | [],_,e=>by cases e; rfl
 | .bl b::ds,_,e=>by
  obtain ⟨bs,e1,rfl⟩:=Zm (show (ug ds).map _=_ from e);rw [gC e1]; rfl
theorem Rps.xj {K:W.Frag} {H:Hp}:∀ {bs:List Bool} {xs:List V},Rps K H xs (bs.map D.bl)->xs=bs.map V.bl
 | [],_,.nil=>rfl
 | b::bs,_,.cons h r=>by
  cases h;rw [Rps.xj r]; rfl
def MO:List D->Option D
 | [.lst ds]=>(ug ds).map λ bs=>.bl (bs.all id)
 | _=>none
theorem KO (hc:X.calm=true):fC X (.builtin "all") (rdL X.K MO):=(zi hc).imp λ xs H Q ⟨Hs,ds,d,sm,r,e,k⟩=>by
 match ds,r,e with
 | [x],.cons hx .nil,e =>
  cases hx with
  | @lst a ys ds h r =>
   obtain ⟨bs,e1,e2⟩:=Zm (e);have ed:=gC e1;subst ed;have ey:=r.xj;subst ey;subst e2;exact ⟨a,bs,rfl,SqL.of (sm _ _ h),k _ Hs H (.refl sm) (.bl _)⟩
  | _=>exact nn e
 | [],_,e=>exact nn e
 | x::y::_,_,e=>cases x <;> exact nn e
end
theorem vH {κ:Type}:∀ {kvs:List (κ×V)} {vs:List (κ×Value)},KV kvs vs->vs.map (·.1)=kvs.map (·.1)
 | _,_,.nil=>rfl
 | _,_,.cons h r=>by rw [Zh,Zh,vH r,h.1]
def uH:V->List V->Hp->VK->Prop:=λ x vs H Q=>∃ l xs i y,x=.ref l/\vs=[.int i,y]/\H l=some (.lst xs)/\0<=i/\i<=xs.length/\xs.length < sizeLine/\i < 2 ^ 62/\Q .non (upd H l (.lst (xs.take i.toNat++y::xs.drop i.toNat)))
section
variable {X:Cx}
theorem vn:MtM X "list.insert" uH:=by
 intro pins s σ H x vs v us Q I rx rv h;obtain ⟨l,xs,i,y,rfl,rfl,hH,h0,h1,hz,h62,q⟩:=h;cases rx
 cases rv with
 | cons ri rv=>cases rv with
  | cons ry rv =>
 cases rv;obtain ⟨t,rfl⟩:=ri;rename_i u;obtain ⟨z,its,n,r,hl,e⟩:=I.yw hH;refine Xq F.slot_list_insert ⟨_,e,rfl⟩ F.entry_list_insert (F.args_list_insert_3 _ _ _) (PySem.AutoSeq1.list_insert_list_int_val_1 l its.toArray n i t u (by rw [fitsIndex_both (by omega) (by omega)]; simp) (by rw [Zt]; omega)) ⟨e,?_⟩;refine ⟨.non,_,I.EW (its':=its.take i.toNat++u::its.drop i.toNat) hH e ?_ ((r.take _).append (.cons ry (r.drop _))) ?_,rfl,q⟩
 · have hk:(if i < 0 then (i+(its.toArray.size:Int)).toNat else min i.toNat its.toArray.size)=i.toNat:=by
    rw [if_neg (by omega),Zt];omega
   show (its.toArray.extract 0 (if i < 0 then (i+(its.toArray.size:Int)).toNat else min i.toNat its.toArray.size)).push u++its.toArray.extract (if i < 0 then (i+(its.toArray.size:Int)).toNat else min i.toNat its.toArray.size)=_;rw [hk];exact PySem.W.kl_ins_eq its i.toNat u
 · rw [Z0,Zy,Z1,Yv]; omega
theorem D9 {KK:W.Frag} (hK:X.K=KK) {o i e:Expr} {apos cpos:Pos} {to ti te:TE} (ho:PE X o to) (hi:PE X i ti) (he:PE X e te)
  (hbase:attributeBase o "insert" X.env (eval o X.env)=eval o X.env:=by rfl)
  (hfew:((backTo cpos (starEach [i,e] X.env)).all (λ x=>!x.1)&&(backToKw cpos (keywordEach [] X.env)).all (λ x=>x.1.isSome)
    && decide ([i,e].length+([]:List Keyword).length+(if ([]:List Keyword).isEmpty then 0 else 1) < 30))=true:=by rfl)
  (hline:(apos.endLine == cpos.line)=true:=by rfl) (hst:starEach [i,e] X.env=(false,eval i X.env)::starEach [e] X.env:=by rfl) (hst2:starEach [e] X.env=(false,eval e X.env)::starEach [] X.env:=by rfl) (hplain:(backTo cpos (starEach [e] X.env)).any (·.1)=false:=by rfl) :
  PE X (.Call (.Attribute o "insert" apos) [i,e] [] cpos) (tBM KK "list" uH to (Ax ti (Ax te K0))):=by
 subst hK;exact pO Yn PySem.F.slot_list_insert PySem.F.type_list_insert vn ho (aT hi (aT he c8 hst2) hst) hbase hfew hline hst hplain
end
def sca:D->Bool
 | .non=>true | .bl _=>true | .int _=>true | .str _=>true | .ty _=>true | _=>false
theorem uB {K:W.Frag} {H H':Hp} {v:V} {d:D} (h:Rp K H v d) (e:sca d=true):Rp K H' v d:=by
 cases h <;> first | exact .non | exact .bl _ | exact .int _ | exact .str _ | exact .ty _ | (simp [sca] at e)
theorem pC {K:W.Frag} {H H':Hp} {vs:List V} {ds:List D} (h:Rps K H vs ds):ds.all sca=true->Rps K H' vs ds:=by
 induction ds generalizing vs with
 | nil=>intro _; cases h; exact .nil
 | cons d ds ih =>
  intro e
  cases h with
  | cons h r =>
   rw [X2,Yw] at e;exact .cons (uB h e.1) (ih r e.2)
def toM:Sm->Option Mt
 | .shr d=>some (.s d)
 | .mu false m=>some m
 | _=>none
def Ms (N:Hp) (K:W.Frag) (f:DEm):TE:=λ σ H Q=>∃ (Hs0 H0:Hp),∃ (_:Nf N H0),∃ ρ Hs τ s τ',bF K Hs0 H0 ρ Hs H σ τ/\f τ=some (s,τ')/\∀ v Hs' H',bU H H'->bF K Hs0 H0 (none::ρ) Hs' H' (some v::σ) (s::τ')->Q v H'
def PVm (X:Cx) (e:Expr) (f:DEm):Prop:=PE X e (Ms X.H₀ X.K f)
def eS (g:DE):DEm:=λ τ=>(g (bM τ)).bind λ d=>if sca d=true then some (.shr d,τ) else none
def eN (g:DE):DEm:=λ τ=>(g (er τ)).map λ d=>(.shr d,τ)
def lM (ds:List D):Mt:=.n .l (ds.map λ d=>(.inl 0,.s d))
def eO (g:DE):DEm:=λ τ=>(g (bM τ)).bind λ d=>match d with
 | .lst ds=>if ds.all sca=true then some (.mu false (lM ds),τ) else none
 | _=>none
section
variable {K:W.Frag} {Hs0 H0 Hs H Hs' H':Hp} {ρ:List (Option Addr)} {σ:St} {τ:List Sm}
theorem bF.push (r:bF K Hs0 H0 ρ Hs H σ τ) (h:Rp K Hs v d):bF K Hs0 H0 (none::ρ) Hs H (some v::σ) (.shr d::τ):=⟨r.ext,let ⟨fp,s⟩:=r.st; ⟨fp,.shr h s⟩⟩
theorem bF.pop (r:bF K Hs0 H0 (p::ρ) Hs H (v::σ) (s::τ)):bF K Hs0 H0 ρ Hs H σ τ:=⟨r.ext,by
 obtain ⟨fp,s⟩:=r.st
 cases s with
 | no r=>exact ⟨_,r⟩
 | shr h r=>exact ⟨_,r⟩
 | mu h hp z j r=>exact ⟨_,r⟩⟩
theorem bF.old (r:bF K Hs0 H0 ρ Hs H σ τ) (h:H p=none):H0 p=none:=r.ext.hh.free h
theorem StM.new (h:StM K H0 Hs H ρ σ τ fp) (hp:H p=none):p ∉ fp:=λ q=>(h.live p q).2.1 hp
theorem Kl (h:Rps K Hs vs ds):∃ ts:List Kd,(ts.map Kd.kv).map (·.2)=vs/\ts.map Kd.km=ds.map (λ d=>((.inl 0:Key),Mt.s d))/\ts.flatMap Kd.fp=[]/\∀ H,∀ c ∈ ts,Od K Hs H c.fp c.v c.m:=by
 induction ds generalizing vs with
 | nil=>cases h; exact ⟨[],rfl,rfl,rfl,λ _ c hc=>by cases hc⟩
 | cons d ds ih =>
  cases h with
  | @cons x _ _ _ h r =>
   obtain ⟨ts,h1,h2,h3,h4⟩:=ih r;refine ⟨⟨.inl 0,x,.s d,[]⟩::ts,by rw [Zh,Zh,h1],by rw [Zh,Zh,h2],by rw [Yl,h3]; rfl,λ H c hc=>?_⟩;rcases Zi.mp hc with rfl | hc
   · exact .s h
   · exact h4 H c hc
theorem Od.lst (h:H a=some (.lst vs)) (n:Hs a=none) (r:Rps K Hs vs ds):Od K Hs H [a] (.ref a) (lM ds):=by
 obtain ⟨ts,h1,h2,h3,h4⟩:=Kl r;have:=Od.n (K:=K) (Hs:=Hs) (H:=H) (a:=a) (dx:=0) (t:=.l) (ts:=ts) (u:=.lst vs) h (by rw [<- h1]; exact .l _) n trivial (by rw [h3]; simp) (h4 H);rw [h2,h3] at this;exact this
theorem bF.AS (r:bF K Hs0 H0 ρ Hs H σ τ) (g:bU H H') (h:Od K Hs H' fq v m) (z:∀ c ∈ fq,H c=none):bF K Hs0 H0 (none::ρ) Hs H' (some v::σ) (.mu false m::τ):=by
 obtain ⟨fp,s⟩:=r.st;exact ⟨(r.grow g).ext,fq++fp,.mu h (λ e=>by cases e) (λ c hc=>r.old (z c hc)) (λ c hc=>s.new (z c hc)) (s.ext ⟨.refl _,r.ext.sh.trans g,g,λ _ h _=>h⟩)⟩
theorem bF.into (r:bF K Hs0 H0 (none::ρ) Hs H (some v::σ) (s::τ)) (hf:i < τ.length) (hs:(toM s).isSome=true):bF K Hs0 H0 ρ Hs H (σ.set i (some v)) (τ.set i s):=⟨r.ext,by
 obtain ⟨fp,st⟩:=r.st
 cases st with
 | no r=>cases hs
 | shr h s=>obtain ⟨fp',h1,_⟩:=s.xK (i:=i) h; exact ⟨fp',h1⟩
 | @mu p v b m ρ σ τ fq fp h hp z j s =>
  cases b with
  | true=>cases hs
  | false=>obtain ⟨fp',h1,_⟩:=s.setM (i:=i) h (λ c hc=>⟨z c hc,j c hc⟩) hf; exact ⟨fp',h1⟩⟩
theorem lY {ts' ts:List Kd} (h:ts'.Sublist ts):(ts'.flatMap Kd.fp).Sublist (ts.flatMap Kd.fp):=by
 induction h with
 | slnil=>exact .slnil
 | cons a _ ih=>rw [Yl]; exact ih.trans (List.sublist_append_right _ _)
 | cons_cons a _ ih=>rw [Yl,Yl]; exact (List.Sublist.refl _).append ih
theorem StM.node {i:Nat} {q:List Stp} {t:Tg} {cs:List (Key×Mt)} {rt v1:V} {fp:List Addr} (rx:Ext Hs0 H0 Hs H) (st:StM K H0 Hs H ρ σ τ fp) (hg:a6 τ i q=some (.n t cs)) (hi:σ[i]?=some (some rt)) (hv:vAt H rt q=some v1) :
  ∃ a dx ts u,v1=.ref a/\cs=ts.map Kd.km/\H a=some u/\Lay t dx (ts.map Kd.kv) u/\KU t ts/\Hs a=none/\H0 a=none /\
  (∀ fq l1 (k:Kd) l2 u',(l1++l2).Sublist ts->k.fp=fq->Od K Hs H fq k.v k.m->(∀ c ∈ fq,H0 c=none/\c ∉ fp)->Lay t dx ((l1++k::l2).map Kd.kv) u'->KU t (l1++k::l2)->bF K Hs0 H0 ρ Hs (upd H a u') σ (dH τ i q (.n t ((l1++k::l2).map Kd.km)))) /\
  (∀ ts' u',ts'.Sublist ts->Lay t dx (ts'.map Kd.kv) u'->KU t ts'->bF K Hs0 H0 ρ Hs (upd H a u') σ (dH τ i q (.n t (ts'.map Kd.km)))):=by
 unfold a6 at hg;split at hg
 ·rename_i b m em
  obtain ⟨v,fp1,v1',w1,w2,w3,w4,w5⟩:=st.sv em hg;rw [hi] at w1;cases w1;rw [hv] at w2;cases w2;obtain ⟨a,dx,ts,u,rfl,rfl,rfl,ha,hl,nh,ku,nd,rr⟩:=w3.inv;have afp:a ∈ fp:=w4 a (Ze ..);have h0:=(st.live a afp).2.2;have ep:∀ m2,dH τ i q m2=τ.set i (.mu b (m.put q m2)):=λ m2=>by unfold dH; rw [em]
  have ex:∀ u',Ext Hs0 H0 Hs (upd H a u'):=λ u'=>by
   refine ⟨rx.ss,λ c o e=>?_,λ c o e=>?_,rx.fr⟩
   · rw [ar (λ z=>by rw [z,nh] at e; cases e)]; exact rx.sh c o e
   · rw [ar (λ z=>by rw [z,h0] at e; cases e)]; exact rx.hh c o e
  have nd1:=Zu.mp nd;refine ⟨a,dx,ts,u,rfl,rfl,ha,hl,ku,nh,h0,λ fq l1 k l2 u' hsub hk hod hz hl' ku'=>?_,λ ts' u' hsub hl' ku'=>?_⟩
  ·subst hk
   have zz:=hz;have sf:=lY hsub;rw [Yh] at sf;have nd2:=nd1.2.sublist sf;rw [Yd] at nd2;have inl:∀ c,c ∈ l1.flatMap Kd.fp\/c ∈ l2.flatMap Kd.fp->c ∈ fp:=λ c hc=>w4 c (Zd _ (sf.subset (Zg.mpr hc)))
   have nda:(a::(l1.flatMap Kd.fp++(k.fp++l2.flatMap Kd.fp))).Nodup:=lC (λ z=>nd1.1 (sf.subset (Zp _ z))) (λ z=>(zz a z).2 afp) (λ z=>nd1.1 (sf.subset (Zc _ z))) hod.nd (λ c hc=>⟨λ z=>(zz c hc).2 (inl c (.inl z)),λ z=>(zz c hc).2 (inl c (.inr z))⟩) nd2.1 nd2.2.1 λ c hc z=>nd2.2.2 c hc c z rfl
   have nda':(a::(l1++k::l2).flatMap Kd.fp).Nodup:=by rw [Yh,Yl]; exact nda
   have od:Od K Hs (upd H a u') (a::(l1++k::l2).flatMap Kd.fp) (.ref a) (.n t ((l1++k::l2).map Kd.km)):=by
    refine .n aw hl' nh ku' nda' λ c hc=>?_
    have off:∀ fp',Od K Hs H fp' c.v c.m->a ∉ fp'->Od K Hs (upd H a u') fp' c.v c.m:=λ fp' o n=>o.mv (.refl _) λ x hx=>⟨(o.live x hx).1,ar λ z=>n (z ▸ hx)⟩
    have na:a ∉ c.fp:=λ z=>(Zu.mp nda').1 (Yi.mpr ⟨c,hc,z⟩)
    rcases Zg.mp hc with hc | hc
    · exact off _ (rr c (hsub.subset (Zp _ hc))) na
    ·rcases Zi.mp hc with rfl | hc
     · exact off _ hod na
     · exact off _ (rr c (hsub.subset (Zc _ hc))) na
   obtain ⟨fp',s',_⟩:=w5 Hs (upd H a u') _ _ (.refl _) (λ c hc hn=>⟨(st.live c hc).1,ar λ z=>hn (by rw [z]; exact Ze ..)⟩) od λ c hc=>by
    rcases Zi.mp hc with rfl | hc
    · exact .inl (Ze ..)
    ·rw [Yh,Yl,Zg,Zg] at hc
     rcases hc with hc | hc | hc
     · exact .inl (Zd _ (sf.subset (Zp _ hc)))
     · exact .inr ⟨(zz c hc).2,(zz c hc).1⟩
     · exact .inl (Zd _ (sf.subset (Zc _ hc)))
   exact ⟨ex u',fp',by rw [ep]; exact s'⟩
  ·have sf:=lY hsub
   have nda':(a::ts'.flatMap Kd.fp).Nodup:=Zu.mpr ⟨λ z=>nd1.1 (sf.subset z),nd1.2.sublist sf⟩
   have od:Od K Hs (upd H a u') (a::ts'.flatMap Kd.fp) (.ref a) (.n t (ts'.map Kd.km)):=by
    refine .n aw hl' nh ku' nda' λ c hc=>?_
    have o:=rr c (hsub.subset hc);exact o.mv (.refl _) λ x hx=>⟨(o.live x hx).1,ar λ z=>(Zu.mp nda').1 (Yi.mpr ⟨c,hc,z ▸ hx⟩)⟩
   obtain ⟨fp',s',_⟩:=w5 Hs (upd H a u') _ _ (.refl _) (λ c hc hn=>⟨(st.live c hc).1,ar λ z=>hn (by rw [z]; exact Ze ..)⟩) od λ c hc=>by
    rcases Zi.mp hc with rfl | hc
    · exact .inl (Ze ..)
    · exact .inl (Zd _ (sf.subset hc))
   exact ⟨ex u',fp',by rw [ep]; exact s'⟩
 · cases hg
theorem bF.vm (r:bF K Hs0 H0 (none::ρ) Hs H (some v::σ) (s::τ)) (hs:toM s=some mv) (hg:a6 τ i q=some (.n t cs)) (hi:σ[i]?=some (some rt)) (hv:vAt H rt q=some v1) :
  ∃ a dx ts u fv,v1=.ref a/\cs=ts.map Kd.km/\H a=some u/\Lay t dx (ts.map Kd.kv) u/\KU t ts /\
  ∀ l1 kk l2 u',(l1++l2).Sublist ts->Lay t dx ((l1++⟨kk,v,mv,fv⟩::l2).map Kd.kv) u'->KU t (l1++⟨kk,v,mv,fv⟩::l2)->bF K Hs0 H0 ρ Hs (upd H a u') σ (dH τ i q (.n t ((l1++⟨kk,v,mv,fv⟩::l2).map Kd.km))):=by
 obtain ⟨fp0,st⟩:=r.st
 cases st with
 | no st=>cases hs
 | shr h st =>
  cases hs;obtain ⟨a,dx,ts,u,h1,h2,h3,h4,h5,h6,h7,h8,_⟩:=StM.node r.ext st hg hi hv;exact ⟨a,dx,ts,u,[],h1,h2,h3,h4,h5,λ l1 kk l2 u' e1 e2 e3=>h8 [] l1 ⟨kk,v,_,[]⟩ l2 u' e1 rfl (.s h) (λ c hc=>by cases hc) e2 e3⟩
 | @mu p v b m ρ σ τ fq fp h hp z j st =>
  cases b with
  | true=>cases hs
  | false =>
   cases hs;obtain ⟨a,dx,ts,u,h1,h2,h3,h4,h5,h6,h7,h8,_⟩:=StM.node r.ext st hg hi hv;exact ⟨a,dx,ts,u,fq,h1,h2,h3,h4,h5,λ l1 kk l2 u' e1 e2 e3=>h8 fq l1 ⟨kk,v,_,fq⟩ l2 u' e1 rfl h (λ c hc=>⟨z c hc,j c hc⟩) e2 e3⟩
end
theorem eJ (h:a6 τ i q=some m1):∃ b m,τ[i]?=some (.mu b m)/\m.get q=some m1:=by
 unfold a6 at h;split at h
 · exact ⟨_,_,‹_›,h⟩
 · cases h
theorem wb {st:Stp}:∀ (q:List Stp) {m m2:Mt},m.get (q++[st])=some m2->∃ m1,m.get q=some m1/\m1.get [st]=some m2
 | [],m,m2,h=>⟨m,by cases m <;> rfl,h⟩
 | s::q,.s d,m2,h=>by cases h
 | s :: q,.n t cs,m2,h=>by
  have h':(match sR t cs s with | none=>none | some i=>match cs[i]? with | none=>none | some c=>Mt.get c.2 (q++[st]))=some m2:=h
  cases e1:sR t cs s with
  | none=>rw [e1] at h'; cases h'
  | some i =>
   rw [e1] at h'
   cases e2:cs[i]? with
   | none=>simp only [e2] at h'; cases h'
   | some c =>
    simp only [e2] at h';obtain ⟨m1,h1,h2⟩:=wb q h';refine ⟨m1,?_,h2⟩;show (match sR t cs s with | none=>none | some i=>match cs[i]? with | none=>none | some c=>Mt.get c.2 q)=some m1;simp only [e1,e2];exact h1
theorem lW {H:Hp} {st:Stp}:∀ (q:List Stp) {v v1:V},vAt H v q=some v1->vAt H v (q++[st])=vAt H v1 [st]
 | [],v,v1,h=>by
  have e:v=v1:=by cases v <;> exact Zj h
  rw [e]; rfl
 | .k k::q,v,v1,h=>by
  cases v with
  | ref a =>
   have h':(match H a with | some (.ins _ _ fs)=>(cH (fs.map λ (f:Str×V)=>((Sum.inr f.1:Key),f.2)) k).bind λ v=>vAt H v q | some (.dK kvs)=>(cH kvs k).bind λ v=>vAt H v q | _=>none)=some v1:=h;show (match H a with | some (.ins _ _ fs)=>(cH (fs.map λ (f:Str×V)=>((Sum.inr f.1:Key),f.2)) k).bind λ v=>vAt H v (q++[st]) | some (.dK kvs)=>(cH kvs k).bind λ v=>vAt H v (q++[st]) | _=>none)=_;split at h'
   ·obtain ⟨w,h1,h2⟩:=bind_some h'
    rw [h1]; exact lW q h2
   ·obtain ⟨w,h1,h2⟩:=bind_some h'
    rw [h1]; exact lW q h2
   · cases h'
  | _=>cases h
 | .i n::q,v,v1,h=>by
  cases v with
  | ref a =>
   have h':(match H a with | some (.lst xs)=>(xs[n]?).bind λ v=>vAt H v q | _=>none)=some v1:=h;show (match H a with | some (.lst xs)=>(xs[n]?).bind λ v=>vAt H v (q++[st]) | _=>none)=_;split at h'
   ·obtain ⟨w,h1,h2⟩:=bind_some h'
    rw [h1]; exact lW q h2
   · cases h'
  | _=>cases h
theorem cy (g:bU H H'):∀ (q:List Stp) {v v1:V},vAt H v q=some v1->vAt H' v q=some v1
 | [],v,v1,h=>by cases v <;> exact h
 | .k k::q,v,v1,h=>by
  cases v with
  | ref a =>
   have h':(match H a with | some (.ins _ _ fs)=>(cH (fs.map λ (f:Str×V)=>((Sum.inr f.1:Key),f.2)) k).bind λ v=>vAt H v q | some (.dK kvs)=>(cH kvs k).bind λ v=>vAt H v q | _=>none)=some v1:=h;show (match H' a with | some (.ins _ _ fs)=>(cH (fs.map λ (f:Str×V)=>((Sum.inr f.1:Key),f.2)) k).bind λ v=>vAt H' v q | some (.dK kvs)=>(cH kvs k).bind λ v=>vAt H' v q | _=>none)=_;split at h'
   ·rename_i e
    obtain ⟨w,h1,h2⟩:=bind_some h';simp only [g _ _ e];rw [h1]; exact cy g q h2
   ·rename_i e
    obtain ⟨w,h1,h2⟩:=bind_some h';simp only [g _ _ e];rw [h1]; exact cy g q h2
   · cases h'
  | _=>cases h
 | .i n::q,v,v1,h=>by
  cases v with
  | ref a =>
   have h':(match H a with | some (.lst xs)=>(xs[n]?).bind λ v=>vAt H v q | _=>none)=some v1:=h;show (match H' a with | some (.lst xs)=>(xs[n]?).bind λ v=>vAt H' v q | _=>none)=_;split at h'
   ·rename_i e
    obtain ⟨w,h1,h2⟩:=bind_some h';simp only [g _ _ e];rw [h1]; exact cy g q h2
   · cases h'
  | _=>cases h
theorem lV:∀ (fs:List (Str×V)),cH (fs.map λ f=>((Sum.inr f.1:Key),f.2)) (.inr x)=fs.lookup x
 | []=>rfl
 | (y,v)::fs=>by
  rw [Zh,X0]
  by_cases h:y=x
  · rw [b6 (by rw [h]),h]; simp
  ·rw [b7 (λ z=>h (by injection z)),lV fs]
   have:(x == y)=false:=by simpa using λ z=>h z.symm
   rw [this]
def cI (i:Nat):DPx:=λ _=>some (i,[])
def l5 (C:Addr) (x:Str) (f:DPx):DPx:=λ τ=>(f τ).bind λ p=>match a6 τ p.1 p.2 with
 | some (.n (.o C') _)=>if C'=C then some (p.1,p.2++[.k (.inr x)]) else none
 | _=>none
def pL (f:DPx) (g:DE):DPx:=λ τ=>(f τ).bind λ p=>(g (bM τ)).bind λ d=>(j4 d).bind λ k=>match a6 τ p.1 p.2 with
 | some (.n .d _)=>some (p.1,p.2++[.k k])
 | _=>none
section
variable {K:W.Frag} {Hs0 H0 Hs H Hs' H':Hp} {ρ:List (Option Addr)} {σ:St} {τ:List Sm}
theorem bF.child {i:Nat} {q:List Stp} {st:Stp} {t:Tg} {cs:List (Key×Mt)} {m2:Mt} {rt v1:V} (r:bF K Hs0 H0 ρ Hs H σ τ) (hg:a6 τ i q=some (.n t cs)) (hg2:a6 τ i (q++[st])=some m2) (hi:σ[i]?=some (some rt)) (hv:vAt H rt q=some v1) :
  ∃ (a dx:Addr) (ts:List Kd) (u:HO) (w:V),v1=.ref a/\cs=ts.map Kd.km/\H a=some u/\Lay t dx (ts.map Kd.kv) u/\vAt H rt (q++[st])=some w/\vAt H (.ref a) [st]=some w:=by
 obtain ⟨fp,s⟩:=r.st;obtain ⟨a,dx,ts,u,rfl,rfl,ha,hl,_⟩:=StM.node r.ext s hg hi hv;obtain ⟨b,m,e1,e2⟩:=eJ hg2;obtain ⟨m1,e3,e4⟩:=wb q e2;have e5:a6 τ i q=m.get q:=by unfold a6; rw [e1]
 rw [e5,e3] at hg;cases hg;have e':(match sR t (ts.map Kd.km) st with | none=>none | some i=>match (ts.map Kd.km)[i]? with | none=>none | some c=>Mt.get c.2 [])=some m2:=e4
 cases e6:sR t (ts.map Kd.km) st with
 | none=>rw [e6] at e'; cases e'
 | some j =>
  rw [e6] at e'
  cases e7:(ts.map Kd.km)[j]? with
  | none=>simp only [e7] at e'; cases e'
  | some c =>
   obtain ⟨t1,k,t2,_,_,_,q4⟩:=r9 ha hl e6 e7;have w:vAt H (.ref a) [st]=some k.v:=by rw [q4]; cases k.v <;> rfl
   exact ⟨a,dx,ts,u,k.v,rfl,rfl,ha,hl,by rw [lW q hv]; exact w,w⟩
end
section
variable {X:Cx} {a b c e o:Expr} {es:List Expr} {pos apos cpos pos':Pos} {x:Str}
theorem PVm.em (h:PVm X e f):PEm X e f:=PE.imp h λ σ H Q ⟨Hs0,H0,nf,ρ,Hs,τ,s,τ',r,e,k⟩=>⟨Hs0,H0,nf,ρ,Hs,τ,s,τ',r,e,λ v Hs' H' _ r'=>k v Hs' H' r'⟩
end
section
variable {X:Cx}
theorem zh (hc:X.calm=true):fC X (.builtin "any") (λ xs H Q=>∃ (p:Addr) (bs:List Bool),xs=[.ref p]/\SqL X.K H p (bs.map V.bl)/\Q (.bl (bs.any id)) H):=by
 intro pins s σ H xs us Q I r h;obtain ⟨p,bs,rfl,hL,q⟩:=h;obtain ⟨u,rfl,ru⟩:=vals1 r;cases (show u=Value.ref p from ru);obtain ⟨its,rv,pl,hz⟩:=I.list hL;have hl:=pl.isList;have hlen:=rv.length;rw [Za] at hlen;have hlt:p < s.heap.objs.size:=by obtain ⟨_,e,_⟩:=hl; exact Zs e
 refine call_any_walk (wpAny_pyIter_list hl ?_)
 refine ⟨s.heap.objs.size,[s.heap.objs.size,p],[s.heap.objs.size],its.toArray.size,_,_,λ i=>(bs[i]?).getD false,rfl,Walks.list (A:=X.A.in1) (I.ok.hd hc) _ p (Zx hlt) its.toArray,
  ⟨⟨_,Heap.get?_push_size _ rfl,rfl,rfl⟩,hl.push _⟩,λ i v s' Q' E' hP hQ=>?_,λ h' tk hk=>?_⟩
 ·obtain ⟨b,e,rfl⟩:=mO rv i v (by simpa using hP)
  simp only [e,Option.getD_some] at hQ;exact Yk hQ
 ·have e:((List.range its.toArray.size).any λ i=>(bs[i]?).getD false)=bs.any id:=by
   rw [Zt,<- hlen,Y8,Y3,Y3];constructor
   ·rintro ⟨i,hi,h⟩
    have hi':=Xm.mp hi;rw [List.getElem?_eq_getElem hi'] at h;exact ⟨_,Xn hi',h⟩
   ·rintro ⟨b,hb,h⟩
    obtain ⟨i,hi,rfl⟩:=List.getElem_of_mem hb;exact ⟨i,Xm.mpr hi,by rw [List.getElem?_eq_getElem hi]; exact h⟩
  rw [e];refine ⟨.bl _,H,I.kept (t':=tk) λ b x ex=>hk b x (λ hm=>?_) (Heap.get?_push_of_some _ ex),rfl,q⟩;rw [Zr.mp hm] at ex;exact Ym _ (Zs ex)
def K8:List D->Option D
 | [.lst ds]=>(ug ds).map λ bs=>.bl (bs.any id)
 | _=>none
theorem KN (hc:X.calm=true):fC X (.builtin "any") (rdL X.K K8):=(zh hc).imp λ xs H Q ⟨Hs,ds,d,sm,r,e,k⟩=>by
 match ds,r,e with
 | [x],.cons hx .nil,e =>
  cases hx with
  | @lst a ys ds h r =>
   obtain ⟨bs,e1,e2⟩:=Zm (show (ug ds).map _=some d from e);have ed:=gC e1;subst ed;have ey:=r.xj;subst ey;subst e2;exact ⟨a,bs,rfl,SqL.of (sm _ _ h),k _ Hs H (.refl sm) (.bl _)⟩
  | _=>exact nn e
 | [],_,e=>exact nn e
 | x::y::_,_,e=>cases x <;> exact nn e
theorem rJ:∀ {ns:List Int} {us:List Value},bG (ns.map V.int) us->IntsAre us ns
 | [],_,.nil=>.nil
 | n::ns,_,.cons r t=>by
  obtain ⟨tk,rfl⟩:=r;exact .cons n tk (rJ t)
theorem yr:MtR X "list.index" (λ x xs H Q=>∃ (p:Addr) (ns:List Int) (k:Int),x=.ref p/\xs=[.int k]/\SqL X.K H p (ns.map V.int)/\ns.length<=1000/\k ∈ ns/\Q (.int (ns.idxOf k:Nat)) H):=by
 intro pins s σ H x xs v us Q I rx rv h;obtain ⟨p,ns,k,rfl,rfl,hL,hz,hk,q⟩:=h;obtain ⟨u,rfl,tu,rfl⟩:=vals1 rv;cases (show v=Value.ref p from rx);obtain ⟨its,rw,pl,_⟩:=I.list hL;have hi:=rJ rw;have hl:=hi.length;have hj:ns.idxOf k < ns.length:=Y6.mpr hk;obtain ⟨⟨c,d,da,sl⟩,ho,hc,n,hd⟩:=pl.isList;cases hc;cases hd
 refine Xq PySem.F.slot_list_index ⟨_,ho,rfl⟩ PySem.F.entry_list_index (PySem.F.args_list_index_2 _ _) (PySem.SeqAt.list_indexAt p its.toArray n d sl (.int k tu) (isInt k) (ns.idxOf k) (by simpa [hl] using hj) (by omega) ?_ λ j h1 h2=>?_)
  ⟨ho,λ y hy=>(eq_isInt k tu hi y (by simpa using hy)).at _ _,.int _,H,I.kept (t':=s.toks+1) (λ _ _ e=>e),⟨_,rfl⟩,q⟩
 ·show isInt k its[ns.idxOf k]=true
  rw [isInt_at k hi _ (by omega) hj]
  simpa using List.getElem_idxOf hj
 ·have h1':j < its.length:=by simpa using h1
  show isInt k its[j]=false;rw [isInt_at k hi j h1' (by omega)];exact ne_of_lt_idxOf h2 _
def Em:D->D->Option D
 | .lst ds,.int k=>(eQ ds).bind λ ns=>if ns.length<=1000/\k ∈ ns then some (.int (ns.idxOf k:Nat)) else none
 | _,_=>none
variable {o e:Expr} {f g:DE} {apos cpos:Pos}
theorem Eb (ho:PEd X o f) (he:PEd X e g) (hbase:attributeBase o "index" X.env (eval o X.env)=eval o X.env:=by rfl)
   (hfew:((backTo cpos (starEach [e] X.env)).all (λ x=>!x.1)&&(backToKw cpos (keywordEach [] X.env)).all (λ x=>x.1.isSome)
     && decide ([e].length+([]:List Keyword).length+(if ([]:List Keyword).isEmpty then 0 else 1) < 30))=true:=by rfl)
   (hline:(apos.endLine == cpos.line)=true:=by rfl) (hst:starEach [e] X.env=(false,eval e X.env)::starEach [] X.env:=by rfl) (hplain:(backTo cpos (starEach [] X.env)).any (·.1)=false:=by rfl) :
   PEd X (.Call (.Attribute o "index" apos) [e] [] cpos) (dOp Em f g) :=
 (pO Yn PySem.F.slot_list_index PySem.F.type_list_index yr ho (aT he c8 hst) hbase hfew hline hst hplain).imp λ σ H Q ⟨H0,Hs,τ,fp,d,st,sm,e,k⟩=>by
   obtain ⟨x,e1,e⟩:=bind_some e;obtain ⟨y,e2,e⟩:=bind_some e
   obtain ⟨ds,j,rfl,rfl⟩:∃ ds j,x=.lst ds/\y=.int j:=by
     unfold Em at e;split at e
     · exact ⟨_,_,rfl,rfl⟩
     · cases e
   refine ⟨H0,Hs,τ,fp,_,st,sm,e1,λ v Hs1 H1 g1 r1=>?_⟩
   cases r1 with
   | @lst a xs _ h r =>
     refine ⟨.inl ⟨rfl,_,.inl (.inl (g1.sh _ _ h))⟩,H0,Hs1,τ,fp,_,st.ext g1,g1.sh,e2,λ u Hs2 H2 g2 r2=>?_⟩
     cases r2 with
     | int _ =>
      obtain ⟨ns,en,ei⟩:=bind_some (show (eQ ds).bind _=some d from e);have ed:=nX en;subst ed;have ex:=r.vV;subst ex;split at ei
      ·rename_i hc
       have e':=Zj ei;subst e';exact ⟨a,ns,j,rfl,rfl,SqL.of (g2.sh _ _ (g2.ss _ _ h)),hc.1,hc.2,k _ Hs2 H2 (g1.trans g2) (.int _)⟩
      · cases ei
end
def ng:DSm:=λ τ=>some (.next τ)
def AI:DSm:=λ _=>none
def iz (f g:DSm):DSm:=λ τ=>match f τ with
 | some (.next τ')=>g τ'
 | r=>r
def xv (t:DTm) (f g:DSm):DSm:=λ τ=>(t τ).bind λ x=>if x.1=true then f x.2 else g x.2
def pF (i:Nat) (f:DEm):DSm:=λ τ=>(f τ).bind λ x=>if i < x.2.length/\(toM x.1).isSome=true then some (.next (x.2.set i x.1)) else none
def uE (f:DEm):DSm:=λ τ=>(f τ).map λ x=>.ret x.1 x.2
def hG (f:DEm):DSm:=λ τ=>(f τ).map λ x=>.next x.2
def tS (g:DT):DTm:=λ τ=>(g (bM τ)).map λ b=>(b,τ)
def tE (f:DEm):DTm:=λ τ=>(f τ).bind λ x=>match x.1 with
 | .shr (.bl b)=>some (b,x.2)
 | _=>none
def tNt (f:DTm):DTm:=λ τ=>(f τ).map λ x=>(!x.1,x.2)
section
variable {X:Cx} {a b c e o:Expr} {es:List Expr} {pos apos cpos pos':Pos} {x:Str} {st:Stmt} {rest:List Stmt} {f g:DSm}
def uG (g:DE):DSm:=λ τ=>(g (bM τ)).map λ _=>.next τ
def iV (cs:List (Key×Mt)) (k:Key) (m:Mt):List (Key×Mt):=if cs.any (λ c=>decide (c.1=k)) then cs.map (λ c=>if c.1=k then (c.1,m) else c) else cs++[(k,m)]
def tW (cs:List (Key×Mt)) (k:Key):List (Key×Mt):=cs.filter λ c=>decide (c.1≠k)
theorem nj (k:Key) (nd:(ts.map Kd.k).Nodup):∃ l1 l2,(l1++l2).Sublist ts/\∀ n:Kd,n.k=k->(l1++n::l2).map Kd.kv=putK (ts.map Kd.kv) k n.v/\(l1++n::l2).map Kd.km=iV (ts.map Kd.km) k n.m/\((l1++n::l2).map Kd.k).Nodup:=by
 have ea:∀ {α:Type} (g:Kd->α),k ∈ ts.map Kd.k->((ts.map λ t=>(t.k,g t)).any λ c=>decide (c.1=k))=true:=λ g h=>by
  rw [List.any_map,Y3];obtain ⟨t,ht,rfl⟩:=Z6.mp h;exact ⟨t,ht,by simp⟩
 have en:∀ {α:Type} (g:Kd->α),k ∉ ts.map Kd.k->((ts.map λ t=>(t.k,g t)).any λ c=>decide (c.1=k))=false:=λ g h=>by
  rw [List.any_map,List.any_eq_false];exact λ t ht z=>h (Z6.mpr ⟨t,ht,by simpa using z⟩)
 by_cases h:k ∈ ts.map Kd.k
 ·obtain ⟨t,ht,et⟩:=Z6.mp h
  obtain ⟨l1,l2,rfl⟩:=List.append_of_mem ht;have nd':=nd;rw [Zk,Zh,Yd,Zu] at nd';have n1:∀ c ∈ l1,c.k≠k:=λ c hc z=>nd'.2.2 c.k (Yq hc) t.k (Ze ..) (by rw [z,et])
  have n2:∀ c ∈ l2,c.k≠k:=λ c hc z=>nd'.2.1.1 (by rw [et,<- z]; exact Yq hc)
  refine ⟨l1,l2,List.Sublist.append (.refl _) (List.sublist_cons_self ..),λ n hn=>⟨?_,?_,?_⟩⟩
  ·unfold putK
   rw [show ((l1++t::l2).map Kd.kv).any (λ kv=>decide (kv.1=k))=_ from ea Kd.v h,if_pos rfl,Z7,Zk,Zk,Zh,Zh];congr 1
   · exact Zw λ c hc=>(if_neg (n1 c hc)).symm
   ·rw [show ((λ kv=>if kv.1=k then (kv.1,n.v) else kv) ∘ Kd.kv) t=(t.k,n.v) from if_pos et,et,<- hn]
    congr 1;exact Zw λ c hc=>(if_neg (hn.symm ▸ n2 c hc)).symm
  ·unfold iV
   rw [show ((l1++t::l2).map Kd.km).any (λ kv=>decide (kv.1=k))=_ from ea Kd.m h,if_pos rfl,Z7,Zk,Zk,Zh,Zh];congr 1
   · exact Zw λ c hc=>(if_neg (n1 c hc)).symm
   ·rw [show ((λ c=>if c.1=k then (c.1,n.m) else c) ∘ Kd.km) t=(t.k,n.m) from if_pos et,et,<- hn]
    congr 1;exact Zw λ c hc=>(if_neg (hn.symm ▸ n2 c hc)).symm
  ·rw [Zk,Zh,hn,<- et,<- Zh,<- Zk]
   exact nd
 ·refine ⟨ts,[],by rw [Zz]; exact .refl _,λ n hn=>⟨?_,?_,?_⟩⟩
  ·unfold putK
   rw [show (ts.map Kd.kv).any (λ kv=>decide (kv.1=k))=_ from en Kd.v h,if_neg (by simp),Zk,<- hn];rfl
  ·unfold iV
   rw [show (ts.map Kd.km).any (λ kv=>decide (kv.1=k))=_ from en Kd.m h,if_neg (by simp),Zk,<- hn];rfl
  ·rw [Zk,Zh,Yd,hn]
   exact ⟨nd,by simp,λ c hc c' hc' z=>h (by rw [<- Zr.mp hc',<- z]; exact hc)⟩
theorem qV:∀ {fs:List (Str×V)},(fs.map Prod.fst).Nodup->(kU x v fs).map (λ f=>((Sum.inr f.1:Key),f.2))=putK (fs.map λ f=>((Sum.inr f.1:Key),f.2)) (.inr x) v
 | [],_=>rfl
 | (y,w)::fs,nd=>by
  rw [Zh,Zu] at nd
  by_cases h:y=x
  ·subst h
   rw [show kU y v ((y,w)::fs)=(y,v)::fs from if_pos rfl];unfold putK;rw [show ((((y,w)::fs).map λ f=>((Sum.inr f.1:Key),f.2)).any λ kv=>decide (kv.1=Sum.inr y))=true from by simp,if_pos rfl,Zh,Zh,Zh,Z7];congr 1
   · simp
   · exact Zw λ c hc=>(if_neg (λ z=>nd.1 (by injection z with z; exact Z6.mpr ⟨c,hc,z⟩))).symm
  ·rw [show kU x v ((y,w)::fs)=(y,w)::kU x v fs from if_neg h,Zh,qV nd.2]
   unfold putK;rw [Zh,Y4,show decide ((Sum.inr y:Key)=Sum.inr x)=false from Zn (λ z=>h (by injection z)),Bool.false_or];split
   · rw [Zh,if_neg (λ z=>h (by injection z))]
   · rfl
def gF (px:DPx) (gk:DE) (fv:DEm):DSm:=λ τ=>(fv τ).bind λ x=>(px x.2).bind λ p=>(gk (bM x.2)).bind λ d=>(j4 d).bind λ k=>(toM x.1).bind λ mv=>match a6 x.2 p.1 p.2 with
 | some (.n .d cs)=>if cs.length < 100000 then some (.next (dH x.2 p.1 p.2 (.n .d (iV cs k mv)))) else none
 | _=>none
def uF (C:Addr) (x:Str) (px:DPx) (fv:DEm):DSm:=λ τ=>(fv τ).bind λ y=>(px y.2).bind λ p=>(toM y.1).bind λ mv=>match a6 y.2 p.1 p.2 with
 | some (.n (.o C') cs)=>if C'=C/\cs.length < 1000 then some (.next (dH y.2 p.1 p.2 (.n (.o C) (iV cs (.inr x) mv)))) else none
 | _=>none
end
section
variable {K:W.Frag} {Hs0 H0 Hs H Hs' H':Hp} {ρ:List (Option Addr)} {σ:St} {τ:List Sm}
theorem p7 {dx:Addr} {ts:List Kd} {u:HO} (h:Lay .l dx (ts.map Kd.kv) u):u=.lst (ts.map Kd.v):=by
 generalize ek:ts.map Kd.kv=kvs at h
 cases h with
 | l _=>rw [<- ek,Z7]; rfl
theorem rE {dx:Addr} {ts:List Kd}:Lay .l dx (ts.map Kd.kv) (.lst (ts.map Kd.v)):=by
 have:=Lay.l (dx:=dx) (ts.map Kd.kv);rw [Z7] at this;exact this
theorem EZ {dx:Addr} {ts:List Kd} {u:HO} (h:Lay .d dx (ts.map Kd.kv) u):u=.dK (ts.map Kd.kv):=by
 generalize ek:ts.map Kd.kv=kvs at h
 cases h with
 | d _=>rfl
theorem bF.tf (r:bF K Hs0 H0 ρ Hs H σ τ) (hg:a6 τ i q=some (.n t cs)) (hi:σ[i]?=some (some rt)) (hv:vAt H rt q=some v1) :
  ∃ (a dx:Addr) (ts:List Kd) (u:HO),v1=.ref a/\cs=ts.map Kd.km/\H a=some u/\Lay t dx (ts.map Kd.kv) u/\KU t ts/\(∀ c ∈ ts,Rp K H c.v (frz c.m)) /\
  ∀ ts' ks u',ts'.Sublist ts->(∀ k ∈ ks,k.fp=[]/\Od K Hs H [] k.v k.m)->Lay t dx ((ts'++ks).map Kd.kv) u'->KU t (ts'++ks)->bF K Hs0 H0 ρ Hs (upd H a u') σ (dH τ i q (.n t ((ts'++ks).map Kd.km))):=by
 obtain ⟨fp,st⟩:=r.st;obtain ⟨b,m,em,eg⟩:=eJ hg;obtain ⟨v,fp1,v1',w1,w2,w3,w4,w5⟩:=st.sv em eg;rw [hi] at w1;cases w1;rw [hv] at w2;cases w2;obtain ⟨a,dx,ts,u,rfl,rfl,rfl,ha,hl,nh,ku,nd,rr⟩:=w3.inv;have afp:a ∈ fp:=w4 a (Ze ..);have h0:=(st.live a afp).2.2;have nd1:=Zu.mp nd;refine ⟨a,dx,ts,u,rfl,rfl,ha,hl,ku,λ c hc=>(rr c hc).rp r.sm,λ ts' ks u' hsub hks hl' ku'=>?_⟩
 have ex:Ext Hs0 H0 Hs (upd H a u'):=by
  refine ⟨r.ext.ss,λ c o e=>?_,λ c o e=>?_,r.ext.fr⟩
  · rw [ar (λ z=>by rw [z,nh] at e; cases e)]; exact r.ext.sh c o e
  · rw [ar (λ z=>by rw [z,h0] at e; cases e)]; exact r.ext.hh c o e
 have kz:ks.flatMap Kd.fp=[]:=by
  rw [List.flatMap_eq_nil_iff];exact λ c hc=>(hks c hc).1
 have sf:=lY hsub
 have nda':(a::(ts'++ks).flatMap Kd.fp).Nodup:=by
  rw [Yh,kz,Zz];exact Zu.mpr ⟨λ z=>nd1.1 (sf.subset z),nd1.2.sublist sf⟩
 have od:Od K Hs (upd H a u') (a::(ts'++ks).flatMap Kd.fp) (.ref a) (.n t ((ts'++ks).map Kd.km)):=by
  refine .n aw hl' nh ku' nda' λ c hc=>?_
  have na:a ∉ c.fp:=λ z=>(Zu.mp nda').1 (Yi.mpr ⟨c,hc,z⟩)
  rcases Zg.mp hc with hc | hc
  ·have o:=rr c (hsub.subset hc)
   exact o.mv (.refl _) λ x hx=>⟨(o.live x hx).1,ar λ z=>na (z ▸ hx)⟩
  ·obtain ⟨k1,k2⟩:=hks c hc
   rw [k1];exact k2.mv (.refl _) λ x hx=>by cases hx
 obtain ⟨fp',s',_⟩:=w5 Hs (upd H a u') _ _ (.refl _) (λ c hc hn=>⟨(st.live c hc).1,ar λ z=>hn (by rw [z]; exact Ze ..)⟩) od λ c hc=>by
  rw [Yh,kz,Zz] at hc;rcases Zi.mp hc with rfl | hc
  · exact .inl (Ze ..)
  · exact .inl (Zd _ (sf.subset hc))
 exact ⟨ex,fp',by unfold dH; rw [em]; exact s'⟩
theorem bF.isList (r:bF K Hs0 H0 ρ Hs H σ τ) (hg:a6 τ i q=some (.n .l cs)) (hi:σ[i]?=some (some rt)) (hv:vAt H rt q=some v1):tyV K "list" v1 H:=by
 obtain ⟨a,dx,ts,u,rfl,rfl,ha,hl,_⟩:=r.tf hg hi hv;rw [p7 hl] at ha;exact .inl ⟨rfl,_,SqL.of ha⟩
end
def pI (px:DPx) (fv:DEm):DSm:=λ τ=>(px τ).bind λ p=>match a6 τ p.1 p.2 with
 | some (.n .l _)=>(fv τ).bind λ x=>(toM x.1).bind λ mv=>match a6 x.2 p.1 p.2 with
  | some (.n .l cs)=>if cs.length < 100000 then some (.next (dH x.2 p.1 p.2 (.n .l (cs++[(.inl 0,mv)])))) else none
  | _=>none
 | _=>none
def Hd (cs:List (Key×Mt)) (i:Nat) (m:Mt):List (Key×Mt):=cs.take i++(.inl 0,m)::cs.drop i
def AJ (px:DPx) (gi:DE) (fv:DEm):DSm:=λ τ=>(px τ).bind λ p=>match a6 τ p.1 p.2 with
 | some (.n .l _)=>(gi (bM τ)).bind λ d=>(fv τ).bind λ x=>(toM x.1).bind λ mv=>match d,a6 x.2 p.1 p.2 with
  | .int i,some (.n .l cs)=>if 0<=i/\i<=cs.length/\cs.length < 100000 then some (.next (dH x.2 p.1 p.2 (.n .l (Hd cs i.toNat mv)))) else none
  | _,_=>none
 | _=>none
def AL (px:DPx):DSm:=λ τ=>(px τ).bind λ p=>match a6 τ p.1 p.2 with
 | some (.n .l _)=>some (.next (dH τ p.1 p.2 (.n .l [])))
 | _=>none
def AH (px:DPx) (gk:DE):DSm:=λ τ=>(px τ).bind λ p=>(gk (bM τ)).bind λ d=>(j4 d).bind λ k=>match a6 τ p.1 p.2 with
 | some (.n .d cs)=>if (cs.any λ c=>decide (c.1=k))=true then some (.next (dH τ p.1 p.2 (.n .d (tW cs k)))) else none
 | _=>none
theorem CP {ts:List Kd} {k:Key} (h:((ts.map Kd.km).any λ c=>decide (c.1=k))=true):∃ v,cH (ts.map Kd.kv) k=some v:=by
 rw [<- Yu,<- gu];rw [List.any_map] at h ⊢;exact h
def off (H:Hp) (fp:List Addr):Hp:=λ b=>if b ∈ fp then none else H b
def K2:V->Option Addr
 | .ref a=>some a
 | _=>none
abbrev hZ (vs:List V):List (Option Addr):=vs.map K2
def spM (F:List Sm->Option (Sm×List Sm)) (K:W.Frag):Sp:=λ vs H Q _=>∃ Hs fp as s as',bU Hs H/\StM K (off H fp) Hs H (hZ vs) (vs.map some) as fp/\F as=some (s,as') /\
 ∀ v Hs' H' fp',Ext Hs (off H fp) Hs' H'->StM K (off H fp) Hs' H' (none::hZ vs) (some v::vs.map some) (s::as') fp'->Q v H'
inductive Am where
 | v (d:D) | p (i:Nat) (q:List Stp)
inductive pf (K:W.Frag) (Hs H:Hp) (σ:St):List V->List Am->Prop where
 | nil:pf K Hs H σ [] []
 | v {x:V} {d:D} {vs:List V} {as:List Am} (h:Rp K Hs x d) (r:pf K Hs H σ vs as):pf K Hs H σ (x::vs) (.v d::as)
 | p {x rt:V} {i:Nat} {q:List Stp} {vs:List V} {as:List Am} (h1:σ[i]?=some (some rt)) (h2:vAt H rt q=some x) (r:pf K Hs H σ vs as):pf K Hs H σ (x::vs) (.p i q::as)
theorem pf.ext {K:W.Frag} {Hs H Hs' H':Hp} {σ:St} {vs:List V} {as:List Am} (g1:bU Hs Hs') (g2:bU H H') (h:pf K Hs H σ vs as):pf K Hs' H' σ vs as:=by
 induction h with
 | nil=>exact .nil
 | v h _ ih=>exact .v (h.same g1) ih
 | p h1 h2 _ ih=>exact .p h1 (cy g2 _ h2) ih
def lend:List Sm->List Am->Option (List Sm)
 | _,[]=>some []
 | τ,.v d::r=>(lend τ r).map (.shr d::·)
 | τ,.p i q::r=>match a6 τ i q with
  | some (.n t cs)=>(lend (τ.set i .no) r).map (.mu true (.n t cs)::·)
  | _=>none
def back:List Sm->List Am->List Sm->Option (List Sm)
 | τ,[],_=>some τ
 | τ,.v _::r,_::as=>back τ r as
 | τ,.p i q::r,.mu true m2::as=>(back (τ.set i .no) r as).bind λ τ'=>match τ[i]? with
  | some (.mu b m)=>some (τ'.set i (.mu b (m.put q m2)))
  | _=>none
 | _,_,_=>none
section
variable {K:W.Frag} {H0 Hs H Hs' H':Hp} {ρ:List (Option Addr)} {σ:List (Option V)} {τ:List Sm} {fp:List Addr}
theorem StM.rebase (h:StM K H0 Hs H ρ σ τ fp):(∀ c ∈ fp,H1 c=none)->StM K H1 Hs H ρ σ τ fp:=by
 induction h with
 | nil=>exact λ _=>.nil
 | no _ ih=>exact λ q=>.no (ih q)
 | shr h _ ih=>exact λ q=>.shr h (ih q)
 | mu h hp z j _ ih=>exact λ q=>.mu h hp (λ c hc=>q c (Zp _ hc)) j (ih λ c hc=>q c (Zc _ hc))
theorem StM.pin {i:Nat} {b:Bool} {m:Mt} {v:V} (h:StM K H0 Hs H ρ σ τ fp):τ[i]?=some (.mu b m)->σ[i]?=some (some v)->b=true->∃ a,ρ[i]?=some (some a)/\v=.ref a:=by
 induction h generalizing i with
 | nil=>intro e; simp at e
 | no _ ih =>
  intro e e2 hb
  cases i with
  | zero=>simp at e
  | succ i=>simpa using ih (i:=i) (by simpa using e) (by simpa using e2) hb
 | shr h _ ih =>
  intro e e2 hb
  cases i with
  | zero=>simp at e
  | succ i=>simpa using ih (i:=i) (by simpa using e) (by simpa using e2) hb
 | @mu p v' b' m' ρ σ τ fq fp h hp z j _ ih =>
  intro e e2 hb
  cases i with
  | zero =>
   have e':Sm.mu b' m'=.mu b m:=by simpa using e
   injection e' with e1 _
   have e3:v'=v:=by simpa using e2
   subst e3;obtain ⟨a,h1,h2⟩:=hp (e1.trans hb);exact ⟨a,by rw [h1]; rfl,h2⟩
  | succ i=>simpa using ih (i:=i) (by simpa using e) (by simpa using e2) hb
theorem StM.fill (h:StM K H0 Hs H ρ σ τ fp) (hv:Od K Hs H fq v m) (z:∀ c ∈ fq,H0 c=none/\c ∉ fp):i < τ.length->σ[i]?=some (some v)->(b=true->∃ a,ρ[i]?=some (some a)/\v=.ref a)->∃ fp',StM K H0 Hs H ρ σ (τ.set i (.mu b m)) fp'/\∀ c ∈ fp',c ∈ fq\/c ∈ fp:=by
 induction h generalizing i with
 | nil=>intro hi; exact absurd hi (by simp)
 | @no p o ρ σ τ fp r ih =>
  intro hi e hp
  cases i with
  | zero =>
   have e':o=some v:=by simpa using e
   subst e';exact ⟨_,.mu hv (λ hb=>by obtain ⟨a,h1,h2⟩:=hp hb; exact ⟨a,by simpa using h1,h2⟩) (λ c hc=>(z c hc).1) (λ c hc=>(z c hc).2) r,λ c h=>Zg.mp h⟩
  | succ i =>
   obtain ⟨fp',h1,h2⟩:=ih z (i:=i) (by simpa using hi) (by simpa using e) (by simpa using hp);exact ⟨fp',.no h1,h2⟩
 | @shr p v' d ρ σ τ fp h r ih =>
  intro hi e hp
  cases i with
  | zero =>
   have e':v'=v:=by simpa using e
   subst e';exact ⟨_,.mu hv (λ hb=>by obtain ⟨a,h1,h2⟩:=hp hb; exact ⟨a,by simpa using h1,h2⟩) (λ c hc=>(z c hc).1) (λ c hc=>(z c hc).2) r,λ c h=>Zg.mp h⟩
  | succ i =>
   obtain ⟨fp',h1,h2⟩:=ih z (i:=i) (by simpa using hi) (by simpa using e) (by simpa using hp);exact ⟨fp',.shr h h1,h2⟩
 | @mu p v' b' m' ρ σ τ fq' fp h hp' z' j r ih =>
  intro hi e hp;have zr:∀ c ∈ fq,H0 c=none/\c ∉ fp:=λ c hc=>⟨(z c hc).1,λ q=>(z c hc).2 (Zc _ q)⟩
  cases i with
  | zero =>
   have e':v'=v:=by simpa using e
   subst e';exact ⟨_,.mu hv (λ hb=>by obtain ⟨a,h1,h2⟩:=hp hb; exact ⟨a,by simpa using h1,h2⟩) (λ c hc=>(z c hc).1) (λ c hc=>(zr c hc).2) r,λ c h=>(Zg.mp h).imp id λ q=>Zc _ q⟩
  | succ i =>
   obtain ⟨fp',h1,h2⟩:=ih zr (i:=i) (by simpa using hi) (by simpa using e) (by simpa using hp);refine ⟨_,.mu h hp' z' (λ c hc q=>?_) h1,λ c hc=>?_⟩
   ·rcases h2 c q with y | y
    · exact (z c y).2 (Zp _ hc)
    · exact j c hc y
   ·rcases Zg.mp hc with y | y
    · exact .inr (Zp _ y)
    · exact (h2 c y).imp id λ q=>Zc _ q
theorem si:back τ [] ss=some τ:=by cases ss <;> rw [back]
theorem mP:∀ {as:List Am} {τ ss τ':List Sm},back τ as ss=some τ'->τ'.length=τ.length
 | [],τ,ss,τ',e=>by rw [si] at e; cases e; rfl
 | .v _::r,τ,[],τ',e=>by cases e
 | .v _::r,τ,_::as,τ',e=>mP (as:=r) e
 | .p i q::r,τ,[],τ',e=>by cases e
 | .p i q::r,τ,s::as,τ',e=>by
  cases s with
  | no=>cases e
  | shr d=>cases e
  | mu b m2 =>
   cases b with
   | false=>cases e
   | true =>
    obtain ⟨τ1,e1,e2⟩:=bind_some (show (back (τ.set i .no) r as).bind _=_ from e);have l1:=mP e1;rw [Xg] at l1;split at e2
    ·cases e2
     rw [Xg,l1]
    · cases e2
abbrev Fq:Hp:=λ _=>none
theorem mj : ∀ {as : List Am} {τ ss:List Sm} {fp:List Addr} {vs:List V},StM K H0 Hs H ρ σ τ fp->pf K Hs H σ vs as->lend τ as=some ss ->
    ∃ fpa,StM K Fq Hs H (hZ vs) (vs.map some) ss fpa/\(∀ c ∈ fpa,c ∈ fp) /\
    ∀ Hs' H' ss' fpa' τ',bU Hs Hs'->(∀ c ∈ fp,c ∉ fpa->Hs' c=none/\H' c=H c)->StM K Fq Hs' H' (hZ vs) (vs.map some) ss' fpa'->(∀ c ∈ fpa',c ∈ fpa\/(c ∉ fp/\H0 c=none))->back τ as ss'=some τ' ->
      ∃ fp',StM K H0 Hs' H' ρ σ τ' fp'/\∀ c ∈ fp',(c ∈ fp/\c ∉ fpa)\/c ∈ fpa'
  | [],τ,ss,fp,[],st,.nil,e=>by
    cases e;refine ⟨[],.nil,λ c hc=>(nomatch hc),λ Hs' H' ss' fpa' τ' g k sa j eb=>?_⟩;rw [si] at eb;cases eb;exact ⟨fp,st.mv g λ c hc=>k c hc (by simp),λ c hc=>.inl ⟨hc,by simp⟩⟩
  | .v d :: r,τ,ss,fp,_,st,.v h rr,e=>by
    obtain ⟨ss1,e1,rfl⟩:=Zm (show (lend τ r).map _=_ from e);obtain ⟨fpa,s1,w1,w2⟩:=mj st rr e1;refine ⟨fpa,.shr h s1,w1,λ Hs' H' ss' fpa' τ' g k sa j eb=>?_⟩
    cases ss' with
    | nil=>cases eb
    | cons s as' =>
      cases sa with
      | no sa=>exact w2 Hs' H' as' _ τ' g k sa j eb
      | shr _ sa=>exact w2 Hs' H' as' _ τ' g k sa j eb
      | mu _ _ _ _ sa =>
        obtain ⟨fp',h1,h2⟩:=w2 Hs' H' as' _ τ' g k sa (λ c hc=>j c (Zc _ hc)) eb;exact ⟨fp',h1,λ c hc=>(h2 c hc).imp id λ y=>Zc _ y⟩
  | .p i q :: r, τ, ss, fp,_,st,@pf.p _ _ _ _ x rt _ _ vs _ h1 h2 rr,e=>by
    have e':(match a6 τ i q with | some (.n t cs)=>(lend (τ.set i .no) r).map (.mu true (.n t cs)::·) | _=>none)=some ss:=e;split at e'
    · rename_i t cs eg
      obtain ⟨ss1,e1,rfl⟩:=Zm e';obtain ⟨b,m,em,egm⟩:=eJ eg;obtain ⟨v0,fq,fp0,o1,o2,o3,o4,o5⟩:=st.out em;rw [h1] at o1;cases o1;obtain ⟨fp1,v1,w1,w2,w3,w4⟩:=o2.sv q egm;rw [h2] at w1;cases w1;obtain ⟨a,dx,ts,u,rfl,_⟩:=w2.inv;obtain ⟨fpa,s1,a1,a2⟩:=mj o3 rr e1;have dj:∀ c ∈ fp1,c ∉ fpa:=λ c hc y=>(o4 c (w3 c hc)).1 (a1 c y)
      refine ⟨fp1++fpa,.mu w2 (λ _=>⟨a,rfl,rfl⟩) (λ _ _=>rfl) dj s1,λ c hc=>?_,λ Hs' H' ss' fpa' τ' g k sa j eb=>?_⟩
      · rcases Zg.mp hc with y | y
        · exact (o5 c).mpr (.inl (w3 c y))
        · exact (o5 c).mpr (.inr (a1 c y))
      · cases ss' with
        | nil=>cases eb
        | cons s as' =>
          cases s with
          | no=>cases eb
          | shr d=>cases eb
          | mu b2 m2 =>
            cases b2 with
            | false=>cases eb
            | true =>
              obtain ⟨τ1,eb1,eb2⟩:=bind_some (show (back (τ.set i .no) r as').bind _=_ from eb);simp only [em] at eb2;cases eb2
              cases sa with
              | @mu _ _ _ _ _ _ _ fq2 fpr od2 _ _ jj sr =>
                obtain ⟨fpx,x1,x2⟩:=a2 Hs' H' as' fpr τ1 g (λ c hc hn=>k c ((o5 c).mpr (.inr hc)) λ y=>(Zg.mp y).elim (λ y=>(o4 c (w3 c y)).1 hc) hn) sr (λ c hc=>by
                  rcases j c (Zc _ hc) with y | y
                  · rcases Zg.mp y with y | y
                    · exact .inr ⟨(o4 c (w3 c y)).1,(st.live c (o4 c (w3 c y)).2).2.2⟩
                    · exact .inl y
                  · exact .inr ⟨λ z=>y.1 ((o5 c).mpr (.inr z)),y.2⟩) eb1
                obtain ⟨fpo,y1,y2⟩:=w4 Hs' H' fq2 m2 g (λ c hc hn=>k c ((o5 c).mpr (.inl hc)) λ y=>(Zg.mp y).elim hn λ y=>(o4 c hc).1 (a1 c y)) od2 (λ c hc=>by
                  rcases j c (Zp _ hc) with y | y
                  · rcases Zg.mp y with y | y
                    · exact .inl y
                    · exact .inr λ z=>(o4 c z).1 (a1 c y)
                  · exact .inr λ z=>y.1 ((o5 c).mpr (.inl z)))
                have hlen:i < τ1.length:=by
                  rw [mP eb1,Xg];exact (List.getElem?_eq_some_iff.mp em).1
                obtain ⟨fp',z1,z2⟩:=x1.fill (i:=i) (b:=b) y1 (λ c hc=>by
                  rcases (y2 c).mp hc with y | y
                  · refine ⟨(st.live c (o4 c y.1).2).2.2,λ z=>?_⟩
                    rcases x2 c z with z | z
                    · exact (o4 c y.1).1 z.1
                    · rcases j c (Zc _ z) with w | w
                      · rcases Zg.mp w with w | w
                        · exact y.2 w
                        · exact (o4 c y.1).1 (a1 c w)
                      · exact w.1 (o4 c y.1).2
                  · refine ⟨?_,λ z=>?_⟩
                    · rcases j c (Zp _ y) with w | w
                      · rcases Zg.mp w with w | w
                        · exact (st.live c (o4 c (w3 c w)).2).2.2
                        · exact (st.live c ((o5 c).mpr (.inr (a1 c w)))).2.2
                      · exact w.2
                    · rcases x2 c z with z | z
                      · rcases j c (Zp _ y) with w | w
                        · rcases Zg.mp w with w | w
                          · exact (o4 c (w3 c w)).1 z.1
                          · exact z.2 w
                        · exact w.1 ((o5 c).mpr (.inr z.1))
                      · exact jj c y z) hlen h1 (λ hb=>st.pin em h1 hb)
                refine ⟨fp',z1,λ c hc=>?_⟩;rcases z2 c hc with y | y
                · rcases (y2 c).mp y with y | y
                  · exact .inl ⟨(o4 c y.1).2,λ w=>(Zg.mp w).elim y.2 λ w=>(o4 c y.1).1 (a1 c w)⟩
                  · exact .inr (Zp _ y)
                · rcases x2 c y with y | y
                  · exact .inl ⟨(o5 c).mpr (.inr y.1),λ w=>(Zg.mp w).elim (λ w=>(o4 c (w3 c w)).1 y.1) y.2⟩
                  · exact .inr (Zc _ y)
    · cases e'
end
abbrev DAm:=List Sm->Option (List Am)
def Mz (N:Hp) (K:W.Frag) (g:DAm):TA:=λ σ H Q=>∃ (Hs0 H0:Hp),∃ (_:Nf N H0),∃ ρ Hs τ as,bF K Hs0 H0 ρ Hs H σ τ/\g τ=some as/\∀ vs Hs' H',bU H H'->bF K Hs0 H0 ρ Hs' H' σ τ->bU Hs Hs'->pf K Hs' H' σ vs as->Q vs H'
def PAm (X:Cx) (es:List Expr) (g:DAm):Prop:=PA X es (Mz X.H₀ X.K g)
def Mv (N:Hp) (K:W.Frag) (g:List Sm->Option Am):TE:=λ σ H Q=>∃ (Hs0 H0:Hp),∃ (_:Nf N H0),∃ ρ Hs τ a,bF K Hs0 H0 ρ Hs H σ τ/\g τ=some a/\∀ v Hs' H',bU H H'->bF K Hs0 H0 ρ Hs' H' σ τ->bU Hs Hs'->pf K Hs' H' σ [v] [a]->Q v H'
def PQm (X:Cx) (e:Expr) (g:List Sm->Option Am):Prop:=PE X e (Mv X.H₀ X.K g)
def qS (g:DE):List Sm->Option Am:=λ τ=>(g (bM τ)).bind λ d=>if sca d=true then some (.v d) else none
def qN (g:DE):List Sm->Option Am:=λ τ=>(g (er τ)).map .v
def qX (f:DPx):List Sm->Option Am:=λ τ=>(f τ).bind λ p=>match a6 τ p.1 p.2 with
 | some (.n _ _)=>some (.p p.1 p.2)
 | some (.s d)=>some (.v d)
 | none=>none
def oZ:DAm:=λ _=>some []
def bK (h:List Sm->Option Am) (g:DAm):DAm:=λ τ=>(h τ).bind λ a=>(g τ).map (a::·)
theorem pf.app {K:W.Frag} {Hs H:Hp} {σ:St} {v:V} {a:Am} {vs:List V} {as:List Am} (h:pf K Hs H σ [v] [a]) (r:pf K Hs H σ vs as):pf K Hs H σ (v::vs) (a::as):=by
 cases h with
 | v h _=>exact .v h r
 | p h1 h2 _=>exact .p h1 h2 r
def qy (F:List Sm->Option (Sm×List Sm)) (τ:List Sm) (as:List Am):Option (Sm×List Sm):=(lend τ as).bind λ ss=>(F ss).bind λ x=>(back τ as x.2).map λ τ'=>(x.1,τ')
section
variable {K:W.Frag} {Hs0 H0 Hs H Hs' H':Hp} {ρ:List (Option Addr)} {σ:St} {τ:List Sm}
theorem jP (h:off H fp c=none):c ∈ fp\/H c=none:=by
 unfold off at h;split at h
 · exact .inl ‹_›
 · exact .inr h
theorem yk:bU (off H fp) H:=λ b o e=>by
 unfold off at e;split at e
 · cases e
 · exact e
theorem u9 (h:c ∈ fp):off H fp c=none:=if_pos h
theorem iC (h:c ∉ fp):off H fp c=H c:=if_neg h
theorem bF.call (r:bF K Hs0 H0 ρ Hs H σ τ) (ha:pf K Hs H σ vs as) (e:qy F τ as=some (s,τ'))
  (k:∀ v Hs' H',bF K Hs0 H0 (none::ρ) Hs' H' (some v::σ) (s::τ')->Q v H'):spM F K vs H Q E:=by
 obtain ⟨ss,e1,e⟩:=bind_some e;obtain ⟨⟨s0,ss'⟩,e2,e⟩:=bind_some e;obtain ⟨τ0,e3,e4⟩:=Zm e;obtain ⟨e4,e5⟩:=Prod.mk.inj e4;have e4':s0=s:=e4;subst e4' e5;obtain ⟨fp,st⟩:=r.st;obtain ⟨fpa,sA,sub,sv⟩:=mj st ha e1;refine ⟨Hs,fpa,ss,s0,ss',r.sm,sA.rebase λ c hc=>u9 hc,e2,λ v Hs' H' fp2 g s2=>?_⟩
 have far:∀ c ∈ fp,c ∉ fpa->Hs' c=none/\H' c=H c:=λ c hc hn=>by
  obtain ⟨l1,l2,_⟩:=st.live c hc;have ho:off H fpa c=H c:=iC hn;refine ⟨g.fr c l1 (by rw [ho]; exact l2),?_⟩
  cases q:H c with
  | none=>exact absurd q l2
  | some u=>exact g.hh _ _ (ho.trans q)
 have ex:Ext Hs0 H0 Hs' H':=by
  have nf:∀ c,H0 c≠none->c ∉ fpa:=λ c h q=>h (st.live c (sub c q)).2.2
  refine ⟨r.ext.ss.trans g.ss,g.sh,λ c o e=>?_,λ c h1 h2=>?_⟩
  · exact g.hh _ _ ((iC (nf c (gJ e))).trans (r.ext.hh _ _ e))
  · exact g.fr c (r.ext.fr c h1 h2) (by rw [iC (nf c h2)]; exact r.ext.hh.live h2)
 have fin:∀ fpr,StM K (off H fpa) Hs' H' (hZ vs) (vs.map some) ss' fpr->∃ fp',StM K H0 Hs' H' ρ σ τ0 fp'/\∀ c ∈ fp',(c ∈ fp/\c ∉ fpa)\/c ∈ fpr:=λ fpr sr=>by
  refine sv Hs' H' ss' fpr τ0 g.ss far (sr.rebase λ _ _=>rfl) (λ c hc=>?_) e3;rcases jP (sr.live c hc).2.2 with y | y
  · exact .inl y
  · exact .inr ⟨st.new y,r.old y⟩
 cases s2 with
 | no sr =>
  obtain ⟨fp',h1,_⟩:=fin _ sr;exact k v Hs' H' ⟨ex,_,.no h1⟩
 | shr h sr =>
  obtain ⟨fp',h1,_⟩:=fin _ sr;exact k v Hs' H' ⟨ex,_,.shr h h1⟩
 | @mu _ _ b m _ _ _ fq fpr od hp z j sr =>
  obtain ⟨fp',h1,h2⟩:=fin _ sr;refine k v Hs' H' ⟨ex,_,.mu od (λ hb=>by obtain ⟨a,q,_⟩:=hp hb; cases q) (λ c hc=>?_) (λ c hc y=>?_) h1⟩
  ·rcases jP (z c hc) with y | y
   · exact (st.live c (sub c y)).2.2
   · exact r.old y
  ·rcases h2 c y with w | w
   ·rcases jP (z c hc) with y | y
    · exact w.2 y
    · exact (st.live c w.1).2.1 y
   · exact j c hc w
end
def eC (F:List Sm->Option (Sm×List Sm)) (g:DAm):DEm:=λ τ=>(g τ).bind λ as=>qy F τ as
def eM (C:Addr) (m:Str) (F:List Sm->Option (Sm×List Sm)) (f:DPx) (g:DAm):DEm:=λ τ=>(f τ).bind λ p=>match a6 τ p.1 p.2 with
 | some (.n (.o C') cs)=>if C'=C/\(cs.any λ c=>decide (c.1=.inr m))=false then (g τ).bind λ as=>qy F τ (.p p.1 p.2::as) else none
 | _=>none
def eK (C:Addr) (F:List Sm->Option (Sm×List Sm)) (g:DAm):DEm:=λ τ=>(g τ).bind λ as=>(lend τ as).bind λ ss=>(F (.mu true (.n (.o C) [])::ss)).bind λ x=>match x.1,x.2 with
 | .shr .non,.mu true m::r=>(back τ as r).map λ τ'=>(.mu false m,τ')
 | _,_=>none
section
variable {X:Cx} {a b c e o:Expr} {es:List Expr} {pos apos cpos pos' p:Pos} {x m:Str} {k:Nat} {f fa C:Addr} {fd:FuncData} {ps:List Str} {F:List Sm->Option (Sm×List Sm)} {g:DAm}
theorem A3 (Fo:fD X.prog X.w X.K X.mg X.base CX0 k f fd ps (spM F X.K)) (hr:d2 k X.A) (hg:Gl X x) (hm:X.mg x=some (.ref f)) (hk:W.keepIn X.K (.ref f)=true) (hb:Binds X.K fd ps [])
  (ha:PAm X (e::es) g) (hdb:(x == ("__debug__":Str))=false:=by decide) (he:starEach (e::es) X.env=(false,eval e X.env)::starEach es X.env:=by rfl) (hpl:(backTo pos (starEach es X.env)).any (·.1)=false:=by rfl) :
  PEm X (.Call (.Name x p) (e::es) [] pos) (eC F g):=(iB Fo hr hg hm hk hb .nil kW ha hdb he hpl).imp λ σ H Q ⟨Hs0,H0,nf,ρ,Hs,τ,s,τ',r,e,k⟩=>by
 obtain ⟨as,e1,e2⟩:=bind_some e;refine ⟨Hs0,H0,nf,ρ,Hs,τ,as,r,e1,λ vs Hs1 H1 g1 r1 s1 a1=>?_⟩;show spM F X.K (vs++[]) H1 Q E0;rw [Zz];exact r1.call a1 e2 k
theorem A1 (ho:PXm X o fx) (c:Cls X.K C) (hm:Dl X.K C m fa) (Fo:fD X.prog X.w X.K X.mg X.base CX0 k fa fd ps (spM F X.K)) (hr:d2 k X.A) (hb:Binds X.K fd ps []) (ha:PAm X (e::es) g)
  (hst:starEach (e::es) X.env=(false,eval e X.env)::starEach es X.env:=by rfl) (hpl:(backTo pos (starEach es X.env)).any (·.1)=false:=by rfl)
  (ht:eval (.Call (.Attribute o m apos) (e::es) [] pos) X.env=(do
    let ov <- eval o X.env
    standAt apos.atName
    let (f,first) <- holding [ov] (getMethod ov m pl)
    callWith pos f first (backTo pos (starEach (e::es) X.env)) (backToKw pos (keywordEach [] X.env))):=by rfl) :
  PEm X (.Call (.Attribute o m apos) (e::es) [] pos) (eM C m F fx g):=(uU (pl:=pl) ho c hm Fo hr hb .nil kW ha hst hpl ht).imp λ σ H Q ⟨Hs0,H0,nf,ρ,Hs,τ,s,τ',r,e,k⟩=>by
 obtain ⟨⟨i,q⟩,e1,e2⟩:=bind_some e;split at e2
 ·rename_i C' cs en
  split at e2
  · rename_i hc
    obtain ⟨hc,hn⟩:=hc;subst hc;obtain ⟨as,e3,e4⟩:=bind_some e2;refine ⟨Hs0,H0,nf,ρ,Hs,τ,i,q,_,r,e1,en,λ rt v1 H1 g1 hrt hq=>?_⟩;have r1:=r.grow g1;obtain ⟨a,dx,ts,u,rfl,rfl,hu,hl,_⟩:=r1.tf en hrt hq;generalize ek:ts.map Kd.kv=kvs at hl
    cases hl with
    | o fs =>
     refine ⟨a,dx,fs,rfl,hu,?_,Hs0,H0,nf,ρ,Hs,τ,as,r1,e3,λ vs Hs2 H2 g2 r2 s2 a2=>?_⟩
     ·rw [<- lV,<- ek]
      have:=gu (Sum.inr m) (ts.map Kd.kv);rw [List.any_map] at this hn;have h2:(cH (ts.map Kd.kv) (Sum.inr m)).isSome=false:=this.symm.trans hn
      cases q:cH (ts.map Kd.kv) (Sum.inr m) with
      | none=>rfl
      | some y=>rw [q] at h2; cases h2
     ·show spM F X.K (V.ref a::(vs++[])) H2 Q E0
      rw [Zz];exact r2.call (.p hrt (cy g2 q hq) a2) e4 k
  · cases e2
 · cases e2
theorem A2 (M:Mk X.K C fa) (Fo:fD X.prog X.w X.K X.mg X.base CX0 k fa fd ps (spM F X.K)) (hr:d2 (k+1) X.A) (hg:Gl X x) (hm:X.mg x=some (.ref C)) (hb:Binds X.K fd ps [])
  (ha:PAm X (e::es) g) (hdb:(x == ("__debug__":Str))=false:=by decide) (he:starEach (e::es) X.env=(false,eval e X.env)::starEach es X.env:=by rfl) (hpl:(backTo pos (starEach es X.env)).any (·.1)=false:=by rfl) :
  PEm X (.Call (.Name x p) (e::es) [] pos) (eK C F g):=(uV M Fo hr hg hm hb .nil kW ha hdb he hpl).imp λ σ H Q ⟨Hs0,H0,nf,ρ,Hs,τ,s,τ',r,e,k⟩=>by
 obtain ⟨as,e1,e2⟩:=bind_some e;obtain ⟨ss,e3,e4⟩:=bind_some e2;obtain ⟨⟨s0,ss'⟩,e5,e6⟩:=bind_some e4;refine ⟨Hs0,H0,nf,ρ,Hs,τ,as,r,e1,λ vs Hs1 H1 g1 r1 s1 a1 y dx hy hdx ne=>?_⟩;rw [Zz];split at e6
 ·rename_i m0 r0 q1 q2
  have q1':s0=.shr .non:=q1;have q2':ss'=.mu true m0::r0:=q2;subst q1' q2';obtain ⟨τ0,e7,e8⟩:=Zm e6;cases e8
  let H2:Hp:=upd (upd H1 dx (.own y)) y (.ins C dx [])
  have hy1:upd H1 dx (.own y) y=none:=(ar (Ne.symm ne)).trans hy;have g2:bU H1 H2:=(aC hdx _).trans (aC hy1 _);have r2:=r1.grow g2;obtain ⟨fp,st⟩:=r1.st;have st2:StM X.K H0 Hs1 H2 ρ σ τ fp:=st.ext ⟨.refl _,r1.ext.sh.trans g2,g2,λ _ h _=>h⟩;obtain ⟨fpa,sA,sub,sv⟩:=mj st2 (a1.ext (.refl _) g2) e3;have yfp:y ∉ fp:=st.new hy;have od:Od X.K Hs1 H2 [y] (.ref y) (.n (.o C) []):=Od.n (ts:=[]) (dx:=dx) (u:=.ins C dx []) aw (.o []) (r1.sm.free hy) (by show ([]:List Key).Nodup; exact .nil) (by simp) (λ c hc=>by cases hc);have sN:StM X.K (off H2 (y::fpa)) Hs1 H2 (hZ (.ref y::vs)) ((V.ref y::vs).map some) (.mu true (.n (.o C) [])::ss) ([y]++fpa):=.mu od (λ _=>⟨y,rfl,rfl⟩) (λ c hc=>u9 (by rw [Zr.mp hc]; exact Ze ..)) (λ c hc q=>yfp (sub y (by rw [<- Zr.mp hc]; exact q))) (sA.rebase λ c hc=>u9 (Zd _ hc));refine ⟨Hs1,y::fpa,_,_,_,r2.sm,sN,e5,λ v Hs' H' fp2 g s2=>⟨?_,?_⟩⟩
  ·cases s2 with
   | shr h _=>cases h; rfl
  ·cases s2 with
   | shr h sr =>
   cases sr with
   | @mu _ _ _ _ _ _ _ fq fpr od2 hp z j sr =>
   have far:∀ c ∈ fp,c ∉ fpa->Hs' c=none/\H' c=H2 c:=λ c hc hn=>by
    obtain ⟨l1,l2,_⟩:=st2.live c hc;have ho:off H2 (y::fpa) c=H2 c:=iC λ q=>(Zi.mp q).elim (λ q=>yfp (q ▸ hc)) hn
    refine ⟨g.fr c l1 (by rw [ho]; exact l2),?_⟩
    cases q:H2 c with
    | none=>exact absurd q l2
    | some u=>exact g.hh _ _ (ho.trans q)
   have h0y:H0 y=none:=r1.old hy
   have ex:Ext Hs0 H0 Hs' H':=by
    have nf:∀ c,H0 c≠none->c ∉ y::fpa:=λ c h q=>(Zi.mp q).elim (λ q=>h (q ▸ h0y)) λ q=>h (st.live c (sub c q)).2.2
    refine ⟨r1.ext.ss.trans g.ss,g.sh,λ c o e=>?_,λ c h1 h2=>?_⟩
    · exact g.hh _ _ ((iC (nf c (gJ e))).trans (r2.ext.hh _ _ e))
    · exact g.fr c (r1.ext.fr c h1 h2) (by rw [iC (nf c h2)]; exact r2.ext.hh.live h2)
   obtain ⟨fp',h1,h2⟩:=sv Hs' H' r0 fpr _ g.ss far (sr.rebase λ _ _=>rfl) (λ c hc=>by
    rcases jP (sr.live c hc).2.2 with w | w
    ·rcases Zi.mp w with w | w
     ·subst w
      exact .inr ⟨yfp,h0y⟩
     · exact .inl w
    · exact .inr ⟨st2.new w,r2.old w⟩) e7
   refine k (.ref y) Hs' H' ⟨ex,_,.mu od2 (λ hb=>by cases hb) (λ c hc=>?_) (λ c hc q=>?_) h1⟩
   ·rcases jP (z c hc) with w | w
    ·rcases Zi.mp w with w | w
     · rw [w]; exact h0y
     · exact (st.live c (sub c w)).2.2
    · exact r2.old w
   ·rcases h2 c q with w | w
    ·rcases jP (z c hc) with y' | y'
     ·rcases Zi.mp y' with y' | y'
      · exact yfp (y' ▸ w.1)
      · exact w.2 y'
     · exact (st2.live c w.1).2.1 y'
    · exact j c hc w
 · cases e6
end
def vM:Sm->Sm
 | .mu true m=>.mu true m
 | _=>.no
def jK (n m:Nat) (b:DSm) (as:List Sm):Option (Sm×List Sm):=if as.length=m then (match b (as++List.replicate (n - as.length) .no) with
 | some (.ret s τ)=>some (s,(τ.take m).map vM)
 | some (.next τ)=>some (.shr .non,(τ.take m).map vM)
 | _=>none) else none
section
variable {K:W.Frag} {H0 Hs H:Hp}
theorem StM.startM (k:Nat) (h:StM K H0 Hs H ρ σ τ fp):StM K H0 Hs H (ρ++List.replicate k none) (σ++List.replicate k none) (τ++List.replicate k .no) fp:=by
 induction h with
 | nil =>
  induction k with
  | zero=>exact .nil
  | succ k ih=>rw [Yc,Yc,Yc]; exact .no ih
 | no _ ih=>exact .no ih
 | shr h _ ih=>exact .shr h ih
 | mu h hp z j _ ih=>exact .mu h hp z j ih
theorem StM.qH:∀ {vs:List V} {ρ:List (Option Addr)} {σ:List (Option V)} {τ:List Sm} {fp:List Addr},StM K H0 Hs H (hZ vs++ρ) σ τ fp->∃ fp',StM K H0 Hs H (hZ vs) (vs.map some) ((τ.take vs.length).map vM) fp'/\∀ c ∈ fp',c ∈ fp
 | [],ρ,σ,τ,fp,h=>⟨[],.nil,λ c hc=>(nomatch hc)⟩
 | v :: vs,ρ,σ,τ,fp,h=>by
  cases h with
  | no r =>
   obtain ⟨fp',h1,h2⟩:=StM.qH r;exact ⟨fp',.no h1,h2⟩
  | shr _ r =>
   obtain ⟨fp',h1,h2⟩:=StM.qH r;exact ⟨fp',.no h1,h2⟩
  | @mu _ w b m _ _ _ fq fr od hp z j r =>
   obtain ⟨fp',h1,h2⟩:=StM.qH r
   cases b with
   | false=>exact ⟨fp',.no h1,λ c hc=>Zc _ (h2 c hc)⟩
   | true =>
    obtain ⟨a,p1,p2⟩:=hp rfl
    have ev:v=.ref a:=by
     cases v <;> simp [K2] at p1
     rw [p1]
    subst p2;subst ev;exact ⟨fq++fp',.mu od (λ _=>⟨a,rfl,rfl⟩) z (λ c hc q=>j c hc (h2 c q)) h1,λ c hc=>(Zg.mp hc).elim (Zp _) λ q=>Zc _ (h2 c q)⟩
theorem Od.Bq (h:Od K Hs H fp v m):∀ c ∈ fp,∀ o u,H c≠some (.frz o u):=by
 induction h with
 | s r=>intro c h; cases h
 | @n a dx t ts u h hl nh ku nd r ih =>
  intro c hc o w;rcases Zi.mp hc with e | e
  ·subst e
   rw [h];generalize ts.map Kd.kv=kvs at hl;cases hl <;> (intro z; cases z)
  ·obtain ⟨k,hk,hb⟩:=Yi.mp e
   exact ih k hk c hb o w
theorem StM.Bq (h:StM K H0 Hs H ρ σ τ fp):∀ c ∈ fp,∀ o u,H c≠some (.frz o u):=by
 induction h with
 | nil=>intro c h; cases h
 | no _ ih=>exact ih
 | shr _ _ ih=>exact ih
 | mu h hp z j _ ih=>exact λ c hc=>(Zg.mp hc).elim (h.Bq c) (ih c)
variable {P:Program} {w:World} {mg:Str->Option Value} {base:Heap}
theorem Fun.okM {x qual:Str} {st:Stmt} {f:Addr} {fd:FuncData} {N ps:List Str} {k:Nat} {b:DSm} (F:Fun K x qual st f fd) (S:dS N ps (aK st))
  (hbody:∀ (cdv:Value) (A:Around) (outer:List Env) (s:Shared) (H:Hp) (E:XK),d2 k (A.deeper (envOfC qual (aK st) s.heap.objs.size f cdv)) ->
    uh (zd CX0 P w K mg base N qual (aK st) f cdv A outer s H E).nox (bP st) b):fD P w K mg base CX0 (k+1) f fd ps (spM (jK N.length ps.length b) K):=by
 refine F.ok S (λ vs H Q E h=>?_) (λ cdv A outer s H vs Q E hr h=>?_)
 ·obtain ⟨Hs,fp,as,s,as',sm,r,e,_⟩:=h
  unfold jK at e;split at e
  · rename_i hl
    have:=r.len;rw [Za] at this;rw [this]; exact hl
  · cases e
 obtain ⟨Hs,fp,as,sl,as',sm,r,e,q⟩:=h;refine ⟨_,hbody cdv A outer s H E hr,?_⟩;have lv:vs.length=as.length:=by have:=r.len; rw [Za] at this; exact this
 unfold jK at e;split at e
 ·rename_i hl
  have h0:bF K Hs (off H fp) (hZ vs++List.replicate (N.length - vs.length) none) Hs H (start N vs) (as++List.replicate (N.length - as.length) .no):=⟨⟨.refl _,sm,yk,λ _ h _=>h⟩,fp,by unfold start; rw [lv]; exact r.startM _⟩
  have nf:Nf H (off H fp):=λ d o u e z=>by
    rcases jP z with q | q
    · exact r.Bq d q o u e
    · rw [q] at e; cases e
  cases q2:b (as++List.replicate (N.length - as.length) .no) with
  | none=>rw [q2] at e; cases e
  | some o =>
    rw [q2] at e;refine ⟨Hs,off H fp,nf,_,Hs,_,o,h0,q2,?_⟩
    cases o with
    | next τ =>
     cases e;intro σ Hs' H' r';obtain ⟨fp1,s1⟩:=r'.st;obtain ⟨fp2,s2,_⟩:=s1.qH;rw [lv,hl] at s2;exact q .non Hs' H' fp2 r'.ext (.shr .non s2)
    | ret s τ =>
     cases e;intro v σ Hs' H' r';obtain ⟨fp1,s1⟩:=r'.st
     cases s1 with
     | no s1 =>
      obtain ⟨fp2,s2,_⟩:=s1.qH;rw [lv,hl] at s2;exact q v Hs' H' fp2 r'.ext (.no s2)
     | shr h s1 =>
      obtain ⟨fp2,s2,_⟩:=s1.qH;rw [lv,hl] at s2;exact q v Hs' H' fp2 r'.ext (.shr h s2)
     | mu h hp z j s1 =>
      obtain ⟨fp2,s2,sub⟩:=s1.qH;rw [lv,hl] at s2;exact q v Hs' H' _ r'.ext (.mu h hp z (λ c hc y=>j c hc (sub c y)) s2)
    | brk τ=>cases e
    | cnt τ=>cases e
 · cases e
end
section
variable {K:W.Frag} {Hs0 H0 Hs H Hs' H':Hp} {ρ:List (Option Addr)} {σ:St} {τ:List Sm}
theorem bF.rebase (r:bF K Hs0 H0 ρ Hs H σ τ):bF K Hs H0 ρ Hs H σ τ:=⟨⟨.refl _,r.sm,r.ext.hh,λ _ h _=>h⟩,r.st⟩
theorem bF.iU (a:Ext Hs0 H0 Hs1 H1) (r:bF K Hs1 H0 ρ Hs H σ τ):bF K Hs0 H0 ρ Hs H σ τ:=⟨a.sub r.ext,r.st⟩
theorem Hk.rebase (a:Ext Hs0 H0 Hs1 H1) (h:Hk K Hs0 H0 ρ E o):Hk K Hs1 H0 ρ E o:=by
 cases o with
 | next τ=>exact λ σ Hs H r=>h σ Hs H (r.iU a)
 | brk τ=>exact λ σ Hs H r=>h σ Hs H (r.iU a)
 | cnt τ=>exact λ σ Hs H r=>h σ Hs H (r.iU a)
 | ret s τ=>exact λ v σ Hs H r=>h v σ Hs H (r.iU a)
theorem bF.xK (r:bF K Hs0 H0 ρ Hs H σ τ) (h:Rp K Hs v d):bF K Hs0 H0 ρ Hs H (σ.set i (some v)) (τ.set i (.shr d)):=⟨r.ext,by
 obtain ⟨fp,st⟩:=r.st;obtain ⟨fp',h1,_⟩:=st.xK (i:=i) h
 exact ⟨fp',h1⟩⟩
theorem bF.hold (r:bF K Hs0 H0 ρ Hs H σ τ) (hp:H p=none):bF K Hs0 (upd H0 p u) ρ Hs (upd H p u) σ τ:=by
 obtain ⟨fp,st⟩:=r.st;refine ⟨⟨r.ext.ss,r.sm.trans (aC hp u),λ b o e=>?_,λ b h1 h2=>?_⟩,fp,?_⟩
 ·by_cases z:b=p
  · subst z; rw [aw] at e ⊢; exact e
  · rw [ar z] at e ⊢; exact r.ext.hh b o e
 ·by_cases z:b=p
  · subst z; exact r.sm.free hp
  · rw [ar z] at h2; exact r.ext.fr b h1 h2
 ·refine (st.rebase λ c hc=>?_).ext ⟨.refl _,r.sm.trans (aC hp u),aC hp u,λ _ h _=>h⟩
  rw [ar (show c≠p from λ z=>(st.live c hc).2.1 (by rw [z]; exact hp))];exact (st.live c hc).2.2
theorem bF.Dq (r:bF K Hs0 (upd H0 p u) ρ Hs H σ τ) (h0:H0 p=none) (hs:Hs0 p=none):Ext Hs0 H0 Hs H/\Hs p=none/\H p=some u/\∃ fp,p ∉ fp/\StM K H0 Hs H ρ σ τ fp:=by
 obtain ⟨fp,st⟩:=r.st;have np:p ∉ fp:=λ q=>by have:=(st.live p q).2.2; rw [aw] at this; cases this
 refine ⟨⟨r.ext.ss,r.sm,λ b o e=>?_,λ b h1 h2=>?_⟩,r.ext.fr p hs (by rw [aw]; simp),r.ext.hh _ _ aw,fp,np,st.rebase λ c hc=>?_⟩
 · exact r.ext.hh b o (by rw [ar (show b≠p from λ z=>by rw [z,h0] at e; cases e)]; exact e)
 · exact r.ext.fr b h1 (by rw [ar (show b≠p from λ z=>h2 (by rw [z]; exact h0))]; exact h2)
 ·have:=(st.live c hc).2.2
  rw [ar (show c≠p from λ z=>np (by rw [<- z]; exact hc))] at this;exact this
end
def eD0:DEm:=λ τ=>some (.mu false (.n .d []),τ)
def eD1 (kc:Key) (fv:DEm):DEm:=λ τ=>(fv τ).bind λ x=>(toM x.1).map λ mv=>(.mu false (.n .d [(kc,mv)]),x.2)
def eF (g:DE):DEm:=λ τ=>(g (bM τ)).bind λ d=>match d with
 | .lst ds=>if ds.all sca=true then some (.shr (.lst ds),τ) else none
 | _=>none
section
variable {X:Cx} {a b c e o:Expr} {es:List Expr} {pos apos cpos pos' p:Pos} {x m:Str}
theorem ML (h:PEo X e g):PVm X e (eF g):=PE.imp h λ σ H Q ⟨Hs0,H0,nf,ρ,Hs,τ,s,τ',r,e,k⟩=>by
 obtain ⟨d,e1,e2⟩:=bind_some e;split at e2
 ·split at e2
  ·rename_i hs
   cases e2;obtain ⟨fp,st⟩:=r.st;refine ⟨H,H,bM τ,[],_,st.bM r.sm,.refl H,e1,λ a Hs' H' g1 ow hn=>?_⟩
   cases ow with
   | @lst xs ds h n rr =>
    have ha:Hs a=none:=r.sm.free hn
    have ex:Ext Hs H (upd Hs a (.lst xs)) H':=by
     refine ⟨aC ha _,λ b u q=>?_,g1.hh,λ b h1 h2=>?_⟩
     ·by_cases z:b=a
      · subst z; rw [aw] at q; cases q; exact h
      · rw [ar z] at q; exact g1.hh _ _ (r.sm _ _ q)
     · rw [ar (show b≠a from λ z=>h2 (by rw [z]; exact hn))]; exact h1
    exact k _ _ H' g1.hh ((r.ext' ex).push (.lst aw (pC rr hs)))
  · cases e2
 · cases e2
end
abbrev DGm:=D->List Sm->Option (List Sm)
def Mw (N:Hp) (K:W.Frag) (g:DGm):TG:=λ v σ H Q=>∃ (Hs0 H0:Hp),∃ (_:Nf N H0),∃ ρ Hs τ τ' d,bF K Hs0 H0 ρ Hs H σ τ/\Rp K Hs v d/\g d τ=some τ'/\∀ σ',bF K Hs0 H0 ρ Hs H σ' τ'->Q σ' H
def PGm (X:Cx) (tg:Expr) (g:DGm):Prop:=PG X tg (Mw X.H₀ X.K g)
abbrev Dm:=List D->List Sm->Option (List Sm)
def HR (N:Hp) (K:W.Frag) (g:Dm):TGs:=λ v σ H Q=>∃ (Hs0 H0:Hp),∃ (_:Nf N H0),∃ ρ Hs τ τ' d,bF K Hs0 H0 ρ Hs H σ τ/\Rps K Hs v d/\g d τ=some τ'/\∀ σ',bF K Hs0 H0 ρ Hs H σ' τ'->Q σ' H
def Hh (X:Cx) (tg:List Expr) (g:Dm):Prop:=PGs X tg (HR X.H₀ X.K g)
def gNm (i:Nat):DGm:=λ d τ=>some (τ.set i (.shr d))
def rP:Dm:=λ ds τ=>if ds.isEmpty=true then some τ else none
def iI (g:DGm) (h:Dm):Dm:=λ ds τ=>match ds with | d::r=>(g d τ).bind λ τ'=>h r τ' | []=>none
def gTm (n:Nat) (g:Dm):DGm:=λ d τ=>match d with | .tup ds=>if ds.length=n then g ds τ else none | _=>none
def forM (b:D->DSm):List D->DSm
 | [],τ=>some (.next τ)
 | d::ds,τ=>match b d τ with
  | some (.next τ')=>forM b ds τ'
  | some (.cnt τ')=>forM b ds τ'
  | some (.brk τ')=>some (.next τ')
  | r=>r
def sO (it:DI) (g:DGm) (b:DSm):DSm:=λ τ=>(it (er τ)).bind λ ds=>forM (λ d τ=>(g d τ).bind b) ds τ
def CB (i:Nat):DT:=λ τ=>match τ[i]? with
 | some (.own (.lst ds))=>some (!ds.isEmpty)
 | _=>none
def sM (i j:Nat):DS:=λ τ=>match τ[j]? with
 | some (.own (.lst ds))=>(ds[ds.length - 1]?).map λ d=>.next ((τ.set j (.own (.lst ds.dropLast))).set i (.shr d))
 | _=>none
theorem Rps.dropLast {K:W.Frag} {H:Hp} {xs:List V} {ds:List D} (r:Rps K H xs ds):Rps K H xs.dropLast ds.dropLast:=by
 rw [List.dropLast_eq_take,List.dropLast_eq_take,r.length];exact r.take _
theorem Rps.emp {K:W.Frag} {H:Hp} {xs:List V} {ds:List D} (r:Rps K H xs ds):xs.isEmpty=ds.isEmpty:=by cases r <;> rfl
section
variable {K:W.Frag} {Hs0 H0 Hs H:Hp} {ρ:List (Option Addr)} {σ:St} {τ:List Sm}
theorem bF.forget (i:Nat) (v:Option V) (r:bF K Hs0 H0 ρ Hs H σ τ):bF K Hs0 H0 ρ Hs H (σ.set i v) (τ.set i .no):=by
 obtain ⟨fp,st⟩:=r.st;refine ⟨r.ext,?_⟩
 have:∀ {i ρ σ τ fp},StM K H0 Hs H ρ σ τ fp->∃ fp',StM K H0 Hs H ρ (σ.set i v) (τ.set i .no) fp'/\∀ c ∈ fp',c ∈ fp:=λ {i ρ σ τ fp} h=>by
  induction h generalizing i with
  | nil=>exact ⟨[],.nil,λ _ h=>h⟩
  | no r ih =>
   cases i with
   | zero=>exact ⟨_,.no r,λ _ h=>h⟩
   | succ i=>obtain ⟨fp',h1,h2⟩:=ih (i:=i); exact ⟨fp',.no h1,h2⟩
  | shr h r ih =>
   cases i with
   | zero=>exact ⟨_,.no r,λ _ h=>h⟩
   | succ i=>obtain ⟨fp',h1,h2⟩:=ih (i:=i); exact ⟨fp',.shr h h1,h2⟩
  | mu h hp z j r ih =>
   cases i with
   | zero=>exact ⟨_,.no r,λ _ h=>Zc _ h⟩
   | succ i =>
    obtain ⟨fp',h1,h2⟩:=ih (i:=i);exact ⟨_,.mu h hp z (λ c hc q=>j c hc (h2 c q)) h1,λ c hc=>(Zg.mp hc).elim (Zp _) λ q=>Zc _ (h2 c q)⟩
 obtain ⟨fp',h,_⟩:=this (i:=i) st;exact ⟨fp',h⟩
end
end L2
end
section
namespace L2
open PySem
section
variable {τ τ' τ1:List Sm} {f g:DSm} {s:Sm} {o:F5} {b:Bool} {d:D} {i j:Nat} {q:List Stp} {m m2 mv:Mt} {cs:List (Key×Mt)} {k:Key}
theorem aN (h:f τ=some (.next τ')) (h2:g τ'=some o):iz f g τ=some o:=by unfold iz; rw [h]; exact h2
theorem cR {f:DEm} (h:f τ=some (s,τ')) (hi:i < τ'.length) (hs:(toM s).isSome=true):pF i f τ=some (.next (τ'.set i s)):=by unfold pF; rw [h]; exact if_pos ⟨hi,hs⟩
theorem ja {f:DEm} (h:f τ=some (s,τ')):hG f τ=some (.next τ'):=by unfold hG; rw [h]; rfl
theorem fQ {g:DE} (h:g (bM τ)=some d):uG g τ=some (.next τ):=by unfold uG; rw [h]; rfl
theorem p4 (h:t τ=some (true,τ')) (h2:f τ'=some o):xv t f g τ=some o:=by unfold xv; rw [h]; show (if true=true then f τ' else g τ')=_; rw [if_pos rfl]; exact h2
theorem ie (h:t τ=some (false,τ')) (h2:g τ'=some o):xv t f g τ=some o:=by unfold xv; rw [h]; show (if false=true then f τ' else g τ')=_; rw [if_neg (by simp)]; exact h2
theorem nN {f:DEm} (h:f τ=some (s,τ')):uE f τ=some (.ret s τ'):=by unfold uE; rw [h]; rfl
theorem v_S {g:DE} (h:g (bM τ)=some d) (hs:sca d=true):eS g τ=some (.shr d,τ):=by unfold eS; rw [h]; exact if_pos hs
theorem v_N {g:DE} (h:g (er τ)=some d):eN g τ=some (.shr d,τ):=by unfold eN; rw [h]; rfl
theorem v_O {g:DE} {ds:List D} (h:g (bM τ)=some (.lst ds)) (hs:ds.all sca=true):eO g τ=some (.mu false (lM ds),τ):=by unfold eO; rw [h]; exact if_pos hs
theorem v_F {g:DE} {ds:List D} (h:g (bM τ)=some (.lst ds)) (hs:ds.all sca=true):eF g τ=some (.shr (.lst ds),τ):=by unfold eF; rw [h]; exact if_pos hs
theorem Ht {f:DEm} (h:f τ=some (s,τ')) (hs:toM s=some mv):eD1 k f τ=some (.mu false (.n .d [(k,mv)]),τ'):=by unfold eD1; rw [h]; show (toM s).map _=_; rw [hs]; rfl
theorem t_S {g:DT} (h:g (bM τ)=some b):tS g τ=some (b,τ):=by unfold tS; rw [h]; rfl
theorem t_E {f:DEm} (h:f τ=some (.shr (.bl b),τ')):tE f τ=some (b,τ'):=by unfold tE; rw [h]; rfl
theorem Hy {f:DTm} (h:f τ=some (b,τ')):tNt f τ=some (!b,τ'):=by unfold tNt; rw [h]; rfl
theorem nK (h:τ[i]?=some (.mu b m)):a6 τ i q=m.get q:=by unfold a6; rw [h]
theorem jX (h:τ[i]?=some (.mu b m)):dH τ i q m2=τ.set i (.mu b (m.put q m2)):=by unfold dH; rw [h]
theorem bc:cI i τ=some (i,[]):=rfl
theorem lU {C:Addr} {x:Str} {f:DPx} (h:f τ=some (i,q)) (hm:a6 τ i q=some (.n (.o C) cs)):l5 C x f τ=some (i,q++[.k (.inr x)]):=by
 unfold l5;rw [h];show (match a6 τ i q with | some (.n (.o C') _)=>if C'=C then some (i,q++[Stp.k (.inr x)]) else none | _=>none)=_;rw [hm];exact if_pos rfl
theorem sq {f:DPx} {gk:DE} (h:f τ=some (i,q)) (hk:gk (bM τ)=some d) (he:j4 d=some k) (hm:a6 τ i q=some (.n .d cs)):pL f gk τ=some (i,q++[.k k]):=by
 unfold pL;rw [h];show (gk (bM τ)).bind _=_;rw [hk];show (j4 d).bind _=_;rw [he];show (match a6 τ i q with | some (.n .d _)=>some (i,q++[Stp.k k]) | _=>none)=_;rw [hm]
theorem fR (h1:fv τ=some (s,τ1)) (h2:px τ1=some (i,q)) (h3:gk (bM τ1)=some d) (h4:j4 d=some k) (h5:toM s=some mv) (h6:a6 τ1 i q=some (.n .d cs)) (h7:cs.length < 100000):gF px gk fv τ=some (.next (dH τ1 i q (.n .d (iV cs k mv)))):=by
 unfold gF;simp only [h1,h2,h3,h4,h5,h6,Yj];exact if_pos h7
theorem EU (h1:fv τ=some (s,τ1)) (h2:px τ1=some (i,q)) (h5:toM s=some mv) (h6:a6 τ1 i q=some (.n (.o C) cs)) (h7:cs.length < 1000):uF C x px fv τ=some (.next (dH τ1 i q (.n (.o C) (iV cs (.inr x) mv)))):=by
 unfold uF;simp only [h1,h2,h5,h6,Yj];exact if_pos ⟨trivial,h7⟩
theorem ET {px:DPx} {gi:DE} {fv:DEm} {cs0:List (Key×Mt)} {n:Int} (h1:px τ=some (i,q)) (h2:a6 τ i q=some (.n .l cs0)) (h3:gi (bM τ)=some (.int n)) (h4:fv τ=some (s,τ1)) (h5:toM s=some mv) (h6:a6 τ1 i q=some (.n .l cs)) (h7:0<=n/\n<=cs.length/\cs.length < 100000):AJ px gi fv τ=some (.next (dH τ1 i q (.n .l (Hd cs n.toNat mv)))):=by
 unfold AJ;simp only [h1,h2,h3,h4,h5,h6,Yj];exact if_pos h7
theorem Ki (h1:px τ=some (i,q)) (h2:a6 τ i q=some (.n .l cs)):AL px τ=some (.next (dH τ i q (.n .l []))):=by
 unfold AL;simp only [h1,h2,Yj]
theorem Kh (h1:px τ=some (i,q)) (h2:gk (bM τ)=some d) (h3:j4 d=some k) (h4:a6 τ i q=some (.n .d cs)) (h5:(cs.any λ c=>decide (c.1=k))=true):AH px gk τ=some (.next (dH τ i q (.n .d (tW cs k)))):=by
 unfold AH;simp only [h1,h2,h3,h4,Yj];exact if_pos h5
theorem q_S {g:DE} (h:g (bM τ)=some d) (hs:sca d=true):qS g τ=some (.v d):=by unfold qS; rw [h]; exact if_pos hs
theorem q_N {g:DE} (h:g (er τ)=some d):qN g τ=some (.v d):=by unfold qN; rw [h]; rfl
theorem q_X {f:DPx} {t:Tg} (h:f τ=some (i,q)) (hm:a6 τ i q=some (.n t cs)):qX f τ=some (.p i q):=by
 unfold qX;rw [h];show (match a6 τ i q with | some (.n _ _)=>some (Am.p i q) | some (.s d)=>some (.v d) | none=>none)=_;rw [hm]
theorem aL {h:List Sm->Option Am} {g:DAm} {a:Am} {as:List Am} (h1:h τ=some a) (h2:g τ=some as):bK h g τ=some (a::as):=by unfold bK; rw [h1]; show (g τ).map _=_; rw [h2]; rfl
theorem v_C {F:List Sm->Option (Sm×List Sm)} {g:DAm} {as:List Am} {ss ss':List Sm} (h1:g τ=some as) (h2:lend τ as=some ss) (h3:F ss=some (s,ss')) (h4:back τ as ss'=some τ'):eC F g τ=some (s,τ'):=by
 unfold eC;rw [h1];show qy F τ as=_;unfold qy;simp only [h2,h3,h4,Yj,Xs]
theorem v_M {C:Addr} {x:Str} {F:List Sm->Option (Sm×List Sm)} {f:DPx} {g:DAm} {as:List Am} {ss ss':List Sm} (h0:f τ=some (i,q)) (hm:a6 τ i q=some (.n (.o C) cs)) (hn:(cs.any λ c=>decide (c.1=.inr x))=false) (h1:g τ=some as) (h2:lend τ (.p i q::as)=some ss) (h3:F ss=some (s,ss')) (h4:back τ (.p i q::as) ss'=some τ'):eM C x F f g τ=some (s,τ'):=by
 unfold eM;simp only [h0,hm,Yj];rw [if_pos ⟨trivial,hn⟩,h1];show qy F τ _=_;unfold qy;simp only [h2,h3,h4,Yj,Xs]
theorem v_K {C:Addr} {F:List Sm->Option (Sm×List Sm)} {g:DAm} {as:List Am} {ss r:List Sm} (h1:g τ=some as) (h2:lend τ as=some ss) (h3:F (.mu true (.n (.o C) [])::ss)=some (.shr .non,.mu true m::r)) (h4:back τ as r=some τ'):eK C F g τ=some (.mu false m,τ'):=by
 unfold eK;simp only [h1,h2,h3,Yj];rw [h4];rfl
theorem iA (h:bd (as++List.replicate (n - as.length) .no)=some (.ret s τ)) (hl:as.length=mm:=by rfl):jK n mm bd as=some (s,(τ.take mm).map vM):=by unfold jK; rw [if_pos hl,h]
theorem zA (h:bd (as++List.replicate (n - as.length) .no)=some (.next τ)) (hl:as.length=mm:=by rfl):jK n mm bd as=some (.shr .non,(τ.take mm).map vM):=by unfold jK; rw [if_pos hl,h]
theorem za:(Mt.n .d cs).get [.k k]=(cs.find? λ c=>decide (c.1=k)).map (·.2):=by
 show (match cs.findIdx? (λ c=>decide (c.1=k)) with | none=>none | some i=>match cs[i]? with | none=>none | some c=>Mt.get c.2 [])=_;have e:∀ m:Mt,m.get []=some m:=λ m=>by cases m <;> rfl
 rw [List.find?_eq_bind_findIdx?_getElem?]
 cases h:cs.findIdx? (λ c=>decide (c.1=k)) with
 | none=>rfl
 | some i =>
  show (match cs[i]? with | none=>none | some c=>Mt.get c.2 [])=(cs[i]?).map (·.2)
  cases cs[i]? with
  | none=>rfl
  | some c=>exact e c.2
end
end L2
end
section
namespace L2
open PySem PySem.Spec PyProof.Rows
open AutoSeq1 (wpAny_loadPart')
section
variable {prog:Program} {w:World} {A:Around} {E:Value->Shared->Prop} {s:Shared} {it T:Addr} {i:Nat} {items:Array Value} {x:Value} {Q:Value->Shared->Prop}
theorem tj (hit:s.heap.IsTupleIter it T i) (ht:s.heap.IsTuple T items) (hx:items[i]?=some x) (k:∀ h',h'.IsTupleIter it T (i+1)->Heap.SameBut it s.heap h'->Q x { s with heap:=h' }) :
  wpAny (model prog w) A (Builtin.SmallTypes.nextOf (.ref it)) Q E s:=by
 have ⟨o,ho,hc,hd⟩:=hit; have ⟨ol,hol,_,nl,hdl⟩:=ht
 delta Builtin.SmallTypes.nextOf; refine Zo (wpAny_callSpecial?_slot (name:=Str.ofString "__next__") hit.typeIs Xd (wpAny_call_entry Xd hit.typeIs F.entry_tuple_iterator_next ?_ (F.args_tuple_iterator_next_1 _)))
 show wpAny _ _ (field (.ref it) 0 >>= _) _ _ s; refine Zo (wpAny_field ho hd (x:=.ref T) rfl ?_); show wpAny _ _ (if (Value.ref T == Value.none)=true then _ else _) _ _ s; rw [if_neg (by exact Zf)]
 show wpAny _ _ (field (.ref it) 1 >>= _) _ _ s; refine Zo (wpAny_field ho hd (x:=.int i 0) rfl ?_); show wpAny _ _ (seqItems? (.ref T) >>= _) _ _ s; refine Zo (wpAny_seqItems hol hdl ?_); simp only [Int.toNat_natCast,hx]
 refine Zo (wpAny_setField ho hd (by simp) (Z3 ⟨x,rfl,Z3 (k _ ⟨_,Heap.get?_update_self _ ho (Obj.isFreed_of_fields (Obj.data_mapFields hd _)),(Obj.cls_mapFields ..).trans hc,?_⟩ (Heap.SameBut.update ..))⟩)); rw [Obj.data_mapFields hd]; simp [rawInt]
theorem nJ (hh:A.handled=none) (hit:s.heap.IsTupleIter it T i) (ht:s.heap.IsTuple T items) (hx:items[i]?=none)
  (k:∀ h' e,Heap.ExtBut it s.heap h'->(∃ o,h'.get? e=some o/\o.cls=.type "StopIteration")->E (.ref e) { s with heap:=h' }):wpAny (model prog w) A (Builtin.SmallTypes.nextOf (.ref it)) Q E s:=by
 have ⟨o,ho,hc,hd⟩:=hit; have ⟨ol,hol,_,nl,hdl⟩:=ht
 delta Builtin.SmallTypes.nextOf; refine Zo (wpAny_callSpecial?_slot (name:=Str.ofString "__next__") hit.typeIs Xd (wpAny_call_entry Xd hit.typeIs F.entry_tuple_iterator_next ?_ (F.args_tuple_iterator_next_1 _)))
 show wpAny _ _ (field (.ref it) 0 >>= _) _ _ s; refine Zo (wpAny_field ho hd (x:=.ref T) rfl ?_); show wpAny _ _ (if (Value.ref T == Value.none)=true then _ else _) _ _ s; rw [if_neg (by exact Zf)]
 show wpAny _ _ (field (.ref it) 1 >>= _) _ _ s; refine Zo (wpAny_field ho hd (x:=.int i 0) rfl ?_); show wpAny _ _ (seqItems? (.ref T) >>= _) _ _ s; refine Zo (wpAny_seqItems hol hdl ?_); simp only [Int.toNat_natCast,hx]
 refine Zo (wpAny_rule (Zo (wpAny_setField ho hd (by simp) ?_))); show wpAny _ _ (newExc (.type "StopIteration") [] >>= _) _ _ _; refine Zo ?_; simp only [newExc,newTuple]
 refine Zo (Xw (Zo (m:=firstArgMember _ _) (wpAny_of_eq (a:=Value.none) (by simp only [firstArgMember]; rfl) (Xw ?_ (by size_fits)))) (by size_fits));simp only [raiseNew]; refine Zo (wpAny_handled ?_); rw [show A.in1.handled=none from hh]
 exact Zo (Z3 (wpAny_throw (k _ _ (((Heap.SameBut.update ..).extBut.push _).push _) ⟨_,Heap.get?_push_size _ rfl,rfl⟩)))
theorem wD (hh:A.handled=none) (it T:Addr) (ne:T≠it) (items:Array Value):Draws prog w A it [it,T] items.size (λ i v=>items[i]?=some v) (λ i h=>h.IsTupleIter it T i/\h.IsTuple T items) where
 live:=λ _ _ ⟨⟨o,ho,_⟩,_⟩=>⟨o,ho⟩
 frame:=λ _ _ _ ⟨⟨o,ho,r⟩,⟨o2,ho2,r2⟩⟩ hk=>⟨⟨o,hk it (by simp) o ho,r⟩,⟨o2,hk T (by simp) o2 ho2,r2⟩⟩
 item:=λ i s Q E hi ⟨st,ht⟩ hQ=>tj st ht (x:=items[i]) (by simp [hi]) λ h' st' hs'=>hQ _ h' s.toks (by simp [hi]) ⟨st',by
  obtain ⟨o2,ho2,r2⟩:=ht
  exact ⟨o2,hs'.extBut _ _ ne ho2,r2⟩⟩ hs'
 done:=λ s Q E ⟨st,ht⟩ hE=>nJ hh st ht (by simp) hE
theorem tX (hh:A.handled=none) (it T:Addr) (items:Array Value) (i:Nat) (hi:items.size<=i):Draws prog w A it [it,T] 0 (λ _ _=>False) (λ n h=>n=0/\h.IsTupleIter it T i/\h.IsTuple T items) where
 live:=λ _ _ ⟨_,⟨o,ho,_⟩,_⟩=>⟨o,ho⟩
 frame:=λ _ _ _ ⟨z,⟨o,ho,r⟩,⟨o2,ho2,r2⟩⟩ hk=>⟨z,⟨o,hk it (by simp) o ho,r⟩,⟨o2,hk T (by simp) o2 ho2,r2⟩⟩
 item:=λ i s Q E hi _ _=>absurd hi (Nat.not_lt_zero _)
 done:=λ s Q E ⟨_,st,ht⟩ hE=>nJ hh st ht (by simp [hi]) hE
set_option maxHeartbeats 1000000 in
theorem pX (l:Addr) (items:Array Value) (n:Nat) (dct:Option Addr) (sl:Array (Option Value)) :
    Meets (Builtin.«enumerate.__new__» ⟨[.type "enumerate",.ref l],[]⟩) (λ _ R s=>s.heap.get? l=some { cls:=.type "tuple",dict:=dct,data:=.seq items n,slots:=sl } /\
      R (.ok (.ret (.ref (s.heap.push { cls:=.type "tuple_iterator",data:=.fields #[.ref l,.int 0 0] }).objs.size)))
        { s with heap:=(s.heap.push { cls:=.type "tuple_iterator",data:=.fields #[.ref l,.int 0 0] }).push { cls:=.type "enumerate",data:=.fields #[.none,.bool false,.ref s.heap.objs.size,rawInt 0,.none,.none] } }) :=
  .of_wp λ prog w A R s h=>by
    obtain ⟨hp,g,d,tk,os⟩:=s; obtain ⟨hl,h⟩:=h; have hsub:=sub_enumerate
    have hL:Heap.IsTuple (Shared.heap ⟨hp,g,d,tk,os⟩) l items:=⟨_,hl,rfl,n,rfl⟩
    wp_walk using wpAny_loadPart' hl
    refine wpAny_stack_any λ st=>Z3 (by
      split
      · rename_i c _ _ _ _ _
        cases (c == Value.type "enumerate") <;> (wp_walk using wpAny_loadPart' hl,wpAny_pyIter_tuple hL; exact ⟨_,rfl,h⟩)
      · wp_walk using wpAny_loadPart' hl,wpAny_pyIter_tuple hL; exact ⟨_,rfl,h⟩)
theorem t5 (hL:s.heap.IsTuple l items) (k:∀ h',IsEnum h' (s.heap.objs.size+1) s.heap.objs.size 0 .none->h'.IsTupleIter s.heap.objs.size l 0->(∀ b o,s.heap.get? b=some o->h'.get? b=some o)->Q (.ref (s.heap.objs.size+1)) { s with heap:=h' }) :
  wpAny (model prog w) A (call (.type "enumerate") [.ref l]) Q E s:=by
 obtain ⟨⟨c,dct,dt,sl⟩,hl,hc,n,hd⟩:=hL;cases (show c=.type "tuple" from hc); cases (show dt=.seq items n from hd)
 refine callType_new F.called_enumerate (by decide) (F.typeCall_enumerate_1 _) (F.newCall_enumerate_1 _) (λ obj=>F.args_object_init_2 obj _) F.entry_enumerate_new (pX l items n dct sl) ⟨hl,?_⟩;generalize hp:s.heap.push { cls:=.type "tuple_iterator",data:=.fields #[.ref l,.int 0 0] }=h1;have hz:h1.objs.size=s.heap.objs.size+1:=by rw [<- hp,Y7]
 have g1:h1.get? s.heap.objs.size=some { cls:=.type "tuple_iterator",data:=.fields #[.ref l,.int 0 0] }:=by rw [<- hp]; exact Heap.get?_push_size _ rfl
 have g2:=Heap.get?_push_size h1 (o:={ cls:=.type "enumerate",data:=.fields #[.none,.bool false,.ref s.heap.objs.size,rawInt 0,.none,.none] }) rfl;rw [hz] at g2;show _/\_;rw [hz];exact ⟨⟨_,g2,rfl⟩,k _ g2 ⟨_,Heap.get?_push_of_some _ g1,rfl,rfl⟩ λ b o y=>Heap.get?_push_of_some _ (by rw [<- hp]; exact Heap.get?_push_of_some _ y)⟩
end
def KW (K:W.Frag) (l:Addr):It where
 go:=λ i H=>∃ xs x,SqT K H l xs/\xs[i]?=some x
 yld:=λ i H v H'=>∃ T x,v=.ref T/\H T=none/\H'=upd H T (.tup [.int (i:Int),x])/\∀ xs,SqT K H l xs->xs[i]?=some x
 stop:=λ i H=>∃ xs,SqT K H l xs/\xs.length<=i
def NK (K:W.Frag) (e it l:Addr) (i:Nat) (h:Heap):Prop:=(∃ old,IsEnum h e it ((i:Nat):Int) old)/\h.IsTupleIter it l i
theorem sE {P:Program} {w:World} {K:W.Frag} {elts:List Expr} {k:Nat} {pos:Pos} {e it l:Addr} (ne:e≠it) :
  Turn P w K (.Tuple elts k pos) (KW K l) [e,it] e (NK K e it l) where
 mem:=by simp
 obj:=λ i h st b hb=>by
  obtain ⟨⟨old,s1⟩,⟨o4,e4,c4,d4⟩⟩:=st;simp only [Zi,Z8,or_false] at hb;rcases hb with rfl | rfl
  · exact ⟨_,s1,λ v z=>by cases z⟩
  · exact ⟨o4,e4,λ v z=>by rw [d4] at z; cases z⟩
 keep:=λ i h h' st k=>by
  obtain ⟨⟨old,s1⟩,⟨o4,e4,r4⟩⟩:=st;exact ⟨⟨old,k _ (by simp) _ s1⟩,⟨o4,k _ (by simp) _ e4,r4⟩⟩
 item:=by
  intro X hP hw hK hc i pins s σ H E I hf st hg;subst hP hw hK;obtain ⟨xs,x,hq,hx⟩:=hg;obtain ⟨its,rv,p,hz⟩:=I.tuple hq;obtain ⟨u,hu,ru⟩:=rv.get hx;obtain ⟨⟨old,s1⟩,s4⟩:=st;have ht:s.heap.IsTuple l its.toArray:=p
  have nT:l≠it/\l≠e:=by
   obtain ⟨o2,e2,c2,_⟩:=ht;obtain ⟨o4,e4,c4,_⟩:=s4;refine ⟨λ z=>?_,λ z=>?_⟩
   · subst z; rw [e4] at e2; cases e2; rw [c4] at c2; exact absurd c2 (by simp)
   · subst z; rw [show s.heap.get? l=_ from s1] at e2; cases e2; exact absurd c2 (by simp)
  have dr:=wD (prog:=X.prog) (w:=X.w) (A:=X.A.in1) (I.ok.hd hc) it l nT.1 its.toArray
  have li:i < its.toArray.size:=by
   have:=(List.getElem?_eq_some_iff.mp hu).1
   simpa using this
  refine wpAny_pyNext_enum_itemD dr s1 ⟨s4,ht⟩ li ne (by simp; exact ⟨ne,Ne.symm nT.2⟩) λ u' h' tk hu' a1 a2 a3 a4 hk=>?_
  have eu:u'=u:=by
   have h1:its.toArray[i]?=some u':=hu';have h2:its.toArray[i]?=some u:=by simpa using hu
   rw [h1] at h2;exact Zj h2
  subst eu;have hk':∀ b o,b ∉ [e,it]->s.heap.get? b=some o->h'.get? b=some o:=λ b o hb e'=>hk b o (λ q=>hb (by simp [q])) (λ q=>hb (by simp [q])) e'
  have I1:Inv X pins σ (upd H s.heap.objs.size (.tup [.int (i:Int),x])) { s with heap:=h',toks:=tk+1 }:=I.ui (t':=tk+1) hf hk' (Zl _) ⟨by show 2<=sizeLine; decide,[.int i tk,u'],.cons ⟨_,rfl⟩ (.cons ru .nil),_,a3,rfl,_,rfl⟩;have hn:H s.heap.objs.size=none:=I.hok.fresh (Zl _);refine ⟨.ref s.heap.objs.size,rfl,wpAny_letOwnedTupleGo_enum (s:={ s with heap:=h',toks:=tk+1 }) a1 λ h2 hz2 sb=>?_⟩
  have neT:∀ b ∈ [e,it],b≠s.heap.objs.size:=λ b hb q=>by
   have lt:∃ o,s.heap.get? b=some o:=by
    obtain ⟨o4,e4,_⟩:=s4;simp only [Zi,Z8,or_false] at hb;rcases hb with rfl | rfl
    · exact ⟨_,s1⟩
    · exact ⟨_,e4⟩
   obtain ⟨o,e'⟩:=lt;rw [q] at e';exact absurd (Zs e') (Ym _)
  obtain ⟨f0,f1,f2,f3,f4,f5⟩:=hf e (by simp);have I2:Inv X pins σ (upd H s.heap.objs.size (.tup [.int (i:Int),x])) { s with heap:=h2,toks:=tk+1 }:=I1.turned (t':=tk+1) (λ b o hb e'=>(sb.2 b hb).trans e') (by rw [ar (neT e (by simp))]; exact f0) f1 f3 f4 f5;refine ⟨.ref s.heap.objs.size,_,I2,rfl,⟨s.heap.objs.size,x,rfl,hn,rfl,λ zs hz=>by rw [I.m4 hz hq]; exact hx⟩,?_,λ b hb=>by rw [ar (neT b hb)]; exact (hf b hb).1⟩;obtain ⟨⟨o4,e4,r4⟩,_⟩:=a2;exact ⟨⟨_,hz2⟩,⟨o4,(sb.2 it (Ne.symm ne)).trans e4,r4⟩⟩
 done:=by
  intro X hP hw hK hc i pins s σ H E I hf st hg;subst hP hw hK;obtain ⟨xs,hq,hx⟩:=hg;obtain ⟨its,rv,p,hz⟩:=I.tuple hq;obtain ⟨⟨old,s1⟩,s4⟩:=st;have l1:=rv.length;have ht:s.heap.IsTuple l its.toArray:=p
  have nT:l≠it:=by
   obtain ⟨o2,e2,c2,_⟩:=ht;obtain ⟨o4,e4,c4,_⟩:=s4;intro z; subst z; rw [e4] at e2; cases e2; rw [c4] at c2; exact absurd c2 (by simp)
  have dr:=tX (prog:=X.prog) (w:=X.w) (A:=X.A.in1) (I.ok.hd hc) it l its.toArray i (by simp; omega);refine wpAny_pyNext_enum_endD dr s1 ⟨rfl,s4,ht⟩ λ h' eb=>⟨rfl,?_⟩
  obtain ⟨f0,f1,f2,f3,f4,f5⟩:=hf it (by simp);exact I.turned (t':=s.toks) (λ b o hb e=>eb b o hb e) f0 f1 f3 f4 f5
 self:=λ _ _ _ _ _ st h=>by
  obtain ⟨⟨old,s1⟩,s4⟩:=st;exact wpAny_pyIter_enum s1 h
def Ff (K:W.Frag) (ta:TA):TI:=λ σ H R=>ta σ H λ vs H1=>∃ l xs,vs=[.ref l]/\SqT K H1 l xs/\R (KW K l) H1
theorem xZ {X:Cx} {a:Expr} {ta:TA} {elts:List Expr} {k:Nat} {pt p pos:Pos} (hg:Gl X "enumerate") (hm:X.mg "enumerate"=none) (ha:PA X [a] ta) (hs:starEach [a] X.env=[(false,eval a X.env)]:=by rfl) :
  PI X (.Tuple elts k pt) (.Call (.Name "enumerate" p) [a] [] pos) (Ff X.K ta):=by
 intro pins s σ H R I h;refine Call_ (jc I hg hm oU (Ys (thn (ha pos pins s σ H _ I h) λ us s1 ⟨vs,H1,I1,r1,q1⟩=>?_) (by rw [hs]; rfl) (by rfl)));obtain ⟨l,xs,e,q1,q⟩:=q1;subst e
 cases r1 with
 | cons r rr =>
  cases rr;cases r;obtain ⟨its1,rv1,p1,hz1⟩:=I1.tuple q1;refine t5 (show s1.heap.IsTuple l its1.toArray from p1) λ h' hE hI hk=>?_
  refine wpAny_pyIter_enum (s:={ s1 with heap:=h' }) hE ?_
  refine ⟨_,[s1.heap.objs.size+1,s1.heap.objs.size],_,_,H1,rfl,I1.kept (t':=s1.toks) hk,sE (Nat.succ_ne_self _),⟨⟨_,hE⟩,hI⟩,λ b hb=>?_,q⟩
  have hb':s1.heap.objs.size<=b:=by
   simp only [Zi,Z8,or_false] at hb;rcases hb with rfl | rfl
   · exact Nat.le_add_right _ 1
   · exact Zl _
  exact I1.tK hb' (I1.hok.fresh hb')
theorem vO {K:W.Frag} {a:Addr} {xs:List V} {Hs:Hp} {as:List D} (h1:SqT K Hs a xs) (r1:Rps K Hs xs as):ItR K (KW K a) Hs (eA as):=λ Hs1 H g1 g2=>by
 have hq1:=g2.tup (g1.tup h1);have l1:=r1.length;refine ⟨λ i d e=>?_,λ i hi=>⟨xs,hq1,?_⟩⟩
 ·unfold eA at e
  rw [List.getElem?_mapIdx] at e;obtain ⟨p,ea,ed⟩:=Zm e;obtain ⟨x,hx,rx⟩:=r1.get ea;subst ed;refine ⟨⟨xs,x,hq1,hx⟩,λ v H' ⟨T,vx,e1,hn,e2,f1⟩=>?_⟩;subst e1 e2;have ex:=f1 xs hq1;rw [hx] at ex;cases ex;have g:=Ext.new g2 hn (.tup [.int (i:Int),x]);exact ⟨_,g,.tup (SqT.of aw) (.cons (.int _) (.cons ((rx.same g1).same g.ss) .nil))⟩
 ·have hl:(eA as).length=as.length:=by simp [eA]
  omega
def qe (f:DA):DI:=λ τ=>(f τ).bind λ ds=>match ds with | [.tup as]=>some (eA as) | _=>none
section
variable {X:Cx} {pos:Pos}
theorem uP (hN:X.N.Nodup) (hy:X.N[i]?=some y) (hx:Loc X.env.scope y)
  (hc:X.calm=true) (O:cY X scope cl x cs) (hi:PId X (.Name x px) iter it)
  (hcd:∀ s H fp C,PTd (bW X scope cl (x::cs.map (·.1)) s H fp C) cnd c) (he:∀ s H fp C,PEd (bW X scope cl (x::cs.map (·.1)) s H fp C) elt g) (hs:∀ x,foldedSetIterable iter X.env x=pure x:=by intro _; rfl)
  (hsw:swapsWith (.ListComp elt [⟨.Name x px,iter,[cnd],0⟩] scope pos) (some (.Name y py)) spos.line X.env=pure true:=by rfl)
  (hf:X.fn y=true\/X.env.scope.names.lookup y=some .local:=by first | exact .inl rfl | exact .inr rfl | assumption) :
  PSm X (.Assign [.Name y py] (.ListComp elt [⟨.Name x px,iter,[cnd],0⟩] scope pos) spos) (pF i (eO (gI it c g cs))):=(xW (te:=rdE X.K g) (tt:=rdT X.K c) hN hy hx hc O hi hcd he hs hsw hf).imp λ E σ H ⟨Hs0,H0,nf,ρ,Hs,τ,o,r,e,k⟩=>by
 obtain ⟨⟨s,τ1⟩,e1,e2⟩:=bind_some e;split at e2
 ·rename_i h
  cases e2;obtain ⟨d,e3,e4⟩:=bind_some e1;split at e4
  ·split at e4
   ·rename_i hsc
    cases e4;obtain ⟨fp,st⟩:=r.st;refine r6 ⟨H,H,bM τ,[],_,st.bM r.sm,.refl H,e3,λ a Hs' H' g1 ow hn=>?_⟩
    cases ow with
    | lst h' n rr=>exact k _ Hs H' ((r.AS g1.hh (Od.lst h' (r.sm.free hn) (pC rr hsc)) λ c hc=>by rw [Zr.mp hc]; exact hn).into h.1 h.2)
   · cases e4
  · cases e4
 · cases e2
end

def leS (a b:Str):Bool:=!decide (b.cps.toList < a.cps.toList)
theorem gP:leS a b=true↔a.cps.toList<=b.cps.toList:=by
 unfold leS;rw [Bool.not_eq_true',decide_eq_false_iff_not];exact List.not_lt
theorem nQ (a b c:Str) (h1:leS a b=true) (h2:leS b c=true):leS a c=true:=gP.mpr (List.le_trans (gP.mp h1) (gP.mp h2))
theorem vG (a b:Str):(leS a b||leS b a)=true:=by
 rcases List.le_total a.cps.toList b.cps.toList with h | h
 · rw [gP.mpr h]; rfl
 · rw [gP.mpr h,Bool.or_true]
theorem yB (h1:leS a b=true) (h2:leS b a=true):a=b:=by
 have e:=List.le_antisymm (gP.mp h1) (gP.mp h2);cases a;cases b;exact Z9 Str.mk (Array.toList_inj.mp e)
noncomputable def CV (ss:List Str):List Str:=ss.mergeSort leS
theorem pw_rising:∀ (p:Str) (l:List Str),risingS p l=true->(p::l).Pairwise (λ a b=>leS a b=true)
 | p,[],_=>List.pairwise_singleton ..
 | p,x::r,h=>by
  have h':(!ltCps x.cps.toList p.cps.toList&&risingS x r)=true:=h;rw [Yw,ltCps_eq] at h';have ih:=pw_rising x r h'.2;have px:leS p x=true:=h'.1;refine List.pairwise_cons.mpr ⟨λ y hy=>?_,ih⟩;rcases Zi.mp hy with rfl | hy
  · exact px
  · exact nQ _ _ _ px (List.rel_of_pairwise_cons ih hy)
theorem pw_sorted:∀ {l:List Str},sortedS l=true->l.Pairwise (λ a b=>leS a b=true)
 | [],_=>.nil
 | x::r,h=>pw_rising x r h
theorem DK (h1:ss'.Perm ss) (h2:sortedS ss'=true):ss'=CV ss :=
 List.Perm.eq_of_pairwise (λ a b _ _=>yB) (pw_sorted h2) (List.pairwise_mergeSort nQ vG ss) (h1.trans (List.mergeSort_perm ss leS).symm)
def DX:List V->Hp->VK->Prop:=λ xs H Q=>∃ (a:Addr) (kvs:List (Key×V)) (ss:List Str),xs=[.ref a]/\H a=some (.dK kvs)/\kvs.map (·.1)=ss.map Sum.inr/\kvs.length < 64 /\
 ∀ (p:Addr),H p=none->Q (.ref p) (upd H p (.lst ((CV ss).map .str)))
theorem uw:∀ {us:List Value} {ss:List Str},us.length=ss.length->(∀ (j:Nat) (v:Value),us[j]?=some v->∃ n t,ss[j]?=some n/\v=.str n t)->StrsAre us ss
 | [],[],_,_=>.nil
 | [],_::_,e,_=>by cases e
 | _::_,[],e,_=>by cases e
 | u::us,n::ns,e,h=>by
  obtain ⟨n',t,e1,e2⟩:=h 0 u rfl;cases e1;subst e2;exact .cons n t (uw (Nat.succ.inj e) λ j v ev=>h (j+1) v ev)
theorem mY:∀ {us:List Value} {ss:List Str},StrsAre us ss->bG (ss.map V.str) us
 | _,_,.nil=>.nil
 | _,_,.cons x t h=>.cons ⟨t,rfl⟩ (mY h)
theorem oI (hh:X.A.handled=none):fC X (.builtin "sorted") DX:=by
 intro pins s σ H xs us Q I r h;obtain ⟨a,kvs,ss,rfl,ha,ek,h64,q⟩:=h;obtain ⟨u,rfl,ru⟩:=vals1 r;cases (show u=Value.ref a from ru);obtain ⟨sz,lo,vs,kv,dd⟩:=yZ I.hok ha;obtain ⟨ep,hat⟩:=dd.dictAt;have lv:vs.length=kvs.length:=kv.length.symm
 have ev:vs.map (·.1)=ss.map Sum.inr:=by
  rw [<- ek];exact vH kv
 refine Calls.call_function_entry kind_sorted plain_sorted entry_sorted (args_sorted1 _) ?_
 unfold Builtin.«sorted»;refine Zo (m:=checkCount "sorted" 1 1 _) (Z3 ?_);refine Zo (PySem.W.kdu_collect (A:=X.A.in1) (PySem.W.kdl_dict (knd:=bO X.prog X.w) (kvs:=vs) (ep:=ep) lo) hh hat (by rw [lv]; exact sz) λ h' tk acc hk hacc=>?_)
 have hI:StrsAre acc.toList ss:=by
  refine uw (by rw [Xj,hacc.1,<- Za (f:=(Sum.inr:Str->Key)),<- ev,Za]) λ j v hj=>?_
  obtain ⟨k,x,e1,e2⟩:=hacc.2 j v (by rw [<- Array.getElem?_toList]; exact hj);have e3:(vs.map (·.1))[j]?=some k:=by rw [List.getElem?_map,e1]; rfl
  rw [ev,List.getElem?_map] at e3
  cases q:ss[j]? with
  | none=>rw [q] at e3; cases e3
  | some n =>
   rw [q] at e3;cases e3;rcases br (show p8 (Sum.inr n) v=true from e2) with ⟨i,t,e4,e5⟩ | ⟨y,t,e4,e5⟩
   · cases e4
   · cases e4; exact ⟨_,t,rfl,e5⟩
 have la:acc.toList.length < 64:=by rw [Xj,hacc.1,lv]; exact h64
 refine Zo (wpAny_newList ?_ (Z2 (Yz la) (by decide)));have hoL:(h'.push (seqObj "list" acc.toList.toArray 0)).get? h'.objs.size=some (seqObj "list" acc.toList.toArray 0):=Heap.get?_push_size _ rfl;refine Zo (wpAny_holding (wpAny_call_entry slot_list_sort ⟨_,hoL,rfl⟩ entry_list_sort (list_sort_treeK strKind_oneLt hoL hI.keysOf (λ v₁ v₂ rest e=>keyKind_strs (by rw [<- e]; exact hI)) la λ st' hp hs=>⟨_,rfl,?_⟩) (args_list_sort _)));obtain ⟨ss',a1,a2,a3⟩:=sorted_out_str hI hp hs;have a4:=DK a2 a3;subst a4;generalize (arrOf st').map (·.2)=out at a1 ⊢;refine Z3 ⟨_,rfl,?_⟩;have I1:=I.kept (t':=tk) hk
 have old:∀ b o,h'.get? b=some o->(sortedHeap (h'.push (seqObj "list" acc.toList.toArray 0)) h'.objs.size acc.toList out).get? b=some o:=λ b o e1=>by
  rw [sortedHeap_old (Zx (Zs e1)) (by rw [size_push']; exact Nat.lt_succ_of_lt (Zs e1))];exact Heap.get?_push_of_some _ e1
 obtain ⟨e,he⟩:=sortedHeap_at (out:=out) hoL;have I2:=I1.laid (a:=h'.objs.size) (o:=.lst ((CV ss).map .str)) (t':=tk) old (Zl _) ⟨by rw [Za,a2.length_eq,<- StrsAre.length hI]; exact Z2 (Yz la) (by decide),out.toList,e,mY a1,by rw [he,Array.toArray_toList]⟩;exact ⟨.ref h'.objs.size,_,I2,rfl,q _ (I1.hok.fresh (Zl _))⟩
def nS:List (Key×D)->Option (List Str)
 | []=>some []
 | (.inr x,_)::r=>(nS r).map (x::·)
 | _=>none
theorem nR:∀ {ds:List (Key×D)} {ss:List Str},nS ds=some ss->ds.map (·.1)=ss.map Sum.inr
 | [],_,e=>by cases e; rfl
 | (.inr x,_)::r,_,e=>by
  obtain ⟨ss,e1,rfl⟩:=Zm (show (nS r).map _=_ from e);rw [Zh,nR e1];rfl
 | (.inl _,_)::_,_,e=>by cases e
theorem RpK.keys {K:W.Frag} {H:Hp}:∀ {kvs:List (Key×V)} {ds:List (Key×D)},RpK K H kvs ds->kvs.map (·.1)=ds.map (·.1)
 | _,_,.nil=>rfl
 | _,_,.cons h r=>by rw [Zh,Zh,RpK.keys r]
noncomputable def wM (f:DE):DE:=λ τ=>(f τ).bind λ d=>match d with | .dct kvs=>(nS kvs).bind λ ss=>if ss.length < 64 then some (.lst ((CV ss).map .str)) else none | _=>none
theorem zm (hh:X.A.handled=none) (hg:Gl X "sorted") (hm:X.mg "sorted"=none) (he:Bx (PEd X e f)) (hst:starEach [e] X.env=(false,eval e X.env)::starEach [] X.env:=by rfl) (hpl:(backTo pos (starEach [] X.env)).any (·.1)=false:=by rfl):Bx (PEo X (.Call (.Name "sorted" p) [e] [] pos) (wM f)) :=
 ⟨(rg (oI hh) hg hm (by decide +kernel) (aT he.out c8 hst) (by decide) (by decide) hst hpl).imp λ σ H Q h=>by
   obtain ⟨H0,Hs,τ,fp,d,st,sm,e,q⟩:=h;obtain ⟨x,e1,e2⟩:=bind_some e;refine ⟨H0,Hs,τ,fp,x,st,sm,e1,λ v Hs1 H1 g1 rv=>?_⟩
   cases rv with
   | @dct a kvs ds h r =>
    obtain ⟨ss,e3,e4⟩:=bind_some (show (nS ds).bind _=some d from e2);split at e4
    ·rename_i h64
     have e5:=Zj e4;subst e5;have ek:kvs.map (·.1)=ss.map Sum.inr:=r.keys.trans (nR e3);refine ⟨a,kvs,ss,rfl,g1.sh _ _ h,ek,?_,λ p hp=>?_⟩
     ·have:=Z9 List.length ek
      rw [Za,Za] at this;omega
     ·have hHp:=g1.hh.free hp
      refine q p Hs1 _ ⟨g1.ss,g1.sh.trans (aC hp _),g1.hh.trans (aC hp _),g1.fr⟩ (.lst aw (g1.sh.free hp) (Rps.strs _)) hHp
    · cases e4
   | _=>exact nn e2⟩
theorem xJ {α:Type} {l:List α} {i:Nat} {x:α} (h:l[i]?=some x):l.set i x=l:=by
 obtain ⟨h1,h2⟩:=List.getElem?_eq_some_iff.mp h;rw [<- h2,List.set_getElem_self]
abbrev Fn0 (K:W.Frag) (x:Str) (st:Stmt) (f:Addr):Prop:=∃ (od an:Option Addr) (sl:Array (Option Value)) (oc kV dc pm cd ct:Value),PySem.W.nsIn K mainGlobals x=some (some (.ref f))/\K.lookup f=some ⟨oc,od,.func (PySem.W.fnOf x x (cB st) (bP st) (aK st) .none kV dc pm an cd ct),sl⟩/\PySem.W.codeIn K cd x=true/\W.keepIn K (.ref f)=true
theorem Fn0.mk {K:W.Frag} {x:Str} {st:Stmt} {f:Addr} {h:Heap} {mg:Str->Option Value} {ps:List Str} (e:Fn0 K x st f) (X:K.In h) (G:h.Ns mainGlobals mg) (hb:∀ (kV doc pm:Value) (an:Option Addr) (cdv ct:Value) (us:List Value),us.length=ps.length->bindArgs (PySem.W.fnOf x x (cB st) (bP st) (aK st) .none kV doc pm an cdv ct) ⟨us,[]⟩=pure (ps.zip us)):∃ fd,Fun K x x st f fd/\mg x=some (.ref f)/\Binds K fd ps []:=by
 obtain ⟨od,an,sl,oc,kV,dc,pm,cd,ct,a,l,c,k⟩:=e;exact ⟨_,j7 (st:=st) l c k,PySem.W.mg_of X G a,(j7 (st:=st) l c k).binds hb⟩
theorem El {as:List Addr} {h:Heap}:∀ {K:W.Frag},as=K.map (·.1)->as.map h.get?=K.map (λ p=>some p.2)->∀ p ∈ K,h.get? p.1=some p.2:=by
 intro K e q;subst e;rw [Z7] at q;intro p hp;exact List.map_inj_left.mp q p hp
theorem zX:∀ {K:W.Frag},List.lookup a K=some o->(a,o) ∈ K
 | [],h=>by cases h
 | (b,u)::K,h=>by
  rw [X0] at h
  cases q:a == b with
  | true =>
   rw [q] at h;have e1:a=b:=eq_of_beq q;have e2:u=o:=Zj h;subst e1 e2;exact Ze ..
  | false =>
   rw [q] at h;exact Zd _ (zX h)
theorem xC {q:Program} {loose:List Str} {XP:(Str->Option Value)->Heap->Prop} {as:List Addr} {K:Params->W.Frag} {n t:Nat} {r:PySem.W.RowW} {d:PySem.DefRec} {kwd:List (Str×Expr)} {run:Value->List Value->Sem Value}
  (e:∀ P,as=(K P).map (·.1)) (h:PySem.W.WalkO q loose XP (PySem.W.InK K) r d kwd run):PySem.W.WalkX q loose XP (PySem.W.X.obsZ as) (PySem.W.X.valZ K n t) r d kwd run:=by
 intro w s₀ s₁ mg mb G y a o pm cd doc dV kV ho hd hcd hD hmg hg args vals bs L hpre hlay hrd hwl hlo;have y1:as.map s₀.heap.get?=(K w.params).map (λ p=>some p.2):=Z9 Prod.fst y;have KX:(K w.params).In s₁.heap:=λ b o' e'=>L.keeps b o' (El (e w.params) y1 (b,o') (zX e'))
 exact h w s₀ s₁ mg mb G KX a o pm cd doc dV kV ho hd hcd hD hmg hg args vals bs hpre hlay hrd hwl hlo
end L2
end
section
local macro_rules | `(tactic| walk_at "v")=>`(tactic| first | exact .inl rfl | exact .inr rfl | assumption)
local macro_rules | `(tactic| walk_at "w")=>`(tactic| first | exact .inl rfl | exact .inr (.inl rfl) | exact .inr (.inr rfl))
namespace L2
open PySem PySem.Spec PyProof.Rows
abbrev Dg (x:Str):Prop:=(x == ("__debug__":Str))=false
abbrev Dc (x:Str):Prop:=(x == ("__classdict__":Str))=false
abbrev Se (X:Cx) (e:Expr) (es:List Expr):Prop:=starEach (e::es) X.env=(false,eval e X.env)::starEach es X.env
abbrev Sb (X:Cx) (pos:Pos) (es:List Expr):Prop:=(backTo pos (starEach es X.env)).any (·.1)=false
abbrev Fs (X:Cx) (i:Expr):Prop:=∀ x,foldedSetIterable i X.env x=pure x
abbrev Xl (X:Cx) (x:Str):Prop:=X.fn x=true\/X.env.scope.names.lookup x=some .local
abbrev Sw (X:Cx) (e:Expr) (x:Str) (p pos:Pos):Prop:=swapsWith e (some (.Name x p)) pos.line X.env=pure false
def Df (K:W.Frag) (mg:Str->Option Value) (x:Str) (st:Stmt) (ps:List Str):Prop:=∃ a d,Fun K x x st a d/\mg x=some (.ref a)/\Binds K d ps []
def Mf (K:W.Frag) (C:Addr) (x q:Str) (st:Stmt) (ps:List Str):Prop:=∃ a d,Fun K x q st a d/\Dl K C x a/\Binds K d ps []
def If (K:W.Frag) (C:Addr) (q:Str) (st:Stmt) (ps:List Str):Prop:=∃ a d,Fun K "__init__" q st a d/\Mk K C a/\Binds K d ps []
structure Go (P:Program) (w:World) (K:W.Frag) (mg:Str->Option Value) (base:Heap) (k:Nat) (x:Str) (sp:Sp):Prop where
 go:∃ f fd ps,mg x=some (.ref f)/\W.keepIn K (.ref f)=true/\Binds K fd ps []/\fD P w K mg base CX0 k f fd ps sp
structure GoM (P:Program) (w:World) (K:W.Frag) (mg:Str->Option Value) (base:Heap) (k:Nat) (C:Addr) (x:Str) (sp:Sp):Prop where
 go:∃ f fd ps,Dl K C x f/\Binds K fd ps []/\fD P w K mg base CX0 k f fd ps sp
structure GoI (P:Program) (w:World) (K:W.Frag) (mg:Str->Option Value) (base:Heap) (k:Nat) (C:Addr) (sp:Sp):Prop where
 go:∃ f fd ps,Mk K C f/\Binds K fd ps []/\fD P w K mg base CX0 k f fd ps sp
theorem aa (i:Nat) (hN:X.N[i]?=some x:=by exact rfl) (hv:Vis X.env.scope x:=by walk_at "w") (hd:Dg x:=by decide) (hcd:Dc x:=by decide):Bx (PEd X (.Name x pos) (aB i)):=⟨(gG hN hv hd hcd).imp λ σ H Q ⟨H0,Hs,τ,fp,d,st,sm,e,k⟩=>by
 have e':τ[i]?=some (.shr d):=by
  unfold aB at e;split at e
  · rename_i d' q; rw [q]; simpa using e
  · cases e
 obtain ⟨v,h1,h2⟩:=st.get e'
 exact ⟨v,h1,k v Hs H (.refl sm) h2⟩⟩
theorem ab  : Bx (PEd X (.Constant (.int i) j pos) (dC (.int i))):=⟨gy lB λ _=>.int i⟩
theorem aS  : Bx (PEd X (.Constant (.bool i) j pos) (dC (.bl i))):=⟨gy HY λ _=>.bl i⟩
theorem d5  : Bx (PEd X (.Constant .none j pos) (dC .non)):=⟨gy zK λ _=>.non⟩
theorem aH  : Bx (PEd X (.Constant (.str x) j pos) (dC (.str x))):=⟨gy D4 λ _=>.str x⟩
theorem kH (hm:X.mg x=none) (hg:Gl X x:=by rfl) (hv:bootBuiltins x=some (.type n):=by decide +kernel) (hn:x≠"__name__":=by decide) (hd:Dg x:=by decide):Bx (PEd X (.Name x pos) (dC (.ty n))):=⟨gy (v:=.ty n) (Ba hg hm hv (rfl) hn hd) λ _=>.ty n⟩
theorem iK (ho:OpR X (binaryOp op) (rdR X.K o)) (ha:Bx (PEd X a f)) (hb:Bx (PEd X b g)):Bx (PEd X (.BinOp a op b pos) (dOp o f g)):=⟨have ha:=ha.out; have hb:=hb.out; (yb ho ha hb).imp λ σ H Q h=>lp X.K h⟩
theorem CJ (ho:UnR X (unaryOp op) (rdU X.K o)) (ha:Bx (PEd X a f)):Bx (PEd X (.UnaryOp op a pos) (dUn o f)):=⟨have ha:=ha.out; (HW ho ha).imp λ σ H Q ⟨H0,Hs,τ,fp,d,st,sm,e,k⟩=>by
 obtain ⟨x,e1,e⟩:=bind_some e
 exact ⟨H0,Hs,τ,fp,x,st,sm,e1,λ v Hs1 H1 g1 r1=>⟨Hs1,x,d,g1.sh,r1,e,λ w Hs3 H3 g3 r3=>k w Hs3 H3 (g1.trans g3) r3⟩⟩⟩
theorem jB (ho:OpR X (compareOp op) (rdR X.K o)) (ha:Bx (PEd X a f)) (hb:Bx (PEd X b g)) (hm:behindInMarks op b=false:=by first | exact zR _ | rfl):Bx (PEd X (.Compare a [op] [b] pos) (dOp o f g)):=⟨have ha:=ha.out; have hb:=hb.out; (A9 ho ha hb hm).imp λ σ H Q h=>lp X.K h⟩
theorem cS (ho:OpR X (compareOp op) (rdR X.K o)) (ha:Bx (PEd X a f)) (hb:Bx (PEd X b g)) (hm:behindInMarks op b=false:=by first | exact zR _ | rfl):Bx (PTd X (.Compare a [op] [b] pos) (dT (dOp o f g))):=⟨have ha:=ha.out; have hb:=hb.out; (AU ho ha hb hm).imp λ σ H Q ⟨H0,Hs,τ,fp,d,st,sm,e,k⟩=>by
 obtain ⟨x,e1,e⟩:=bind_some e;have hx:x=.bl d:=by cases x <;> simp at e <;> subst e <;> rfl
 subst hx;refine lp X.K ⟨H0,Hs,τ,fp,_,st,sm,e1,λ v Hs' H' g r=>?_⟩;cases r
 exact ⟨d,rfl,k Hs' H' g⟩⟩
theorem ub (ho:OpR X (compareOp op) (rdR X.K o)) (ho':OpR X (compareOp op') (rdR X.K o')) (ha:Bx (PEd X a f)) (hb:Bx (PEd X b g)) (hc:Bx (PEd X c h)) (hm:lastMarks [op,op'] [b,c]=false:=by with_unfolding_all rfl):Bx (PEd X (.Compare a [op,op'] [b,c] pos) (tY (dOp o f g) (dOp o' g h))):=⟨have ha:=ha.out; have hb:=hb.out; have hc:=hc.out; (yi ho ho' ha hb hc hm).imp λ σ H Q ⟨H0,Hs,τ,fp,d,st,sm,e,k⟩=>by
 obtain ⟨r,e0,e⟩:=bind_some e;obtain ⟨x,e1,e0⟩:=bind_some e0;obtain ⟨y,e2,e0⟩:=bind_some e0;refine ⟨H0,Hs,τ,fp,x,st,sm,e1,λ v Hs1 H1 g1 r1=>?_⟩;refine ⟨H0,Hs1,τ,fp,y,st.ext g1,g1.sh,e2,λ u Hs2 H2 g2 r2=>?_⟩;refine ⟨Hs2,x,y,r,g2.sh,r1.same g2.ss,r2,e0,λ w Hs3 H3 g3 r3=>?_⟩
 cases r3 with
 | bl kb =>
  refine ⟨kb,rfl,?_⟩
  cases kb with
  | false =>
   rw [if_neg Zf];have e':D.bl false=d:=by simpa using e
   subst e';exact k _ Hs3 H3 ((g1.trans g2).trans g3) (.bl false)
  | true =>
   rw [if_pos rfl];obtain ⟨y',q1,q2⟩:=bind_some (e);have ey:y'=y:=by rw [e2] at q1; exact (Zj q1).symm
   subst ey;obtain ⟨z,q3,q4⟩:=bind_some q2;refine ⟨H0,Hs3,τ,fp,z,st.ext ((g1.trans g2).trans g3),g3.sh,q3,λ u' Hs4 H4 g4 r4=>?_⟩;exact ⟨Hs4,y',z,d,g4.sh,(r2.same g3.ss).same g4.ss,r4,q4,λ w' Hs5 H5 g5 r5=>k w' Hs5 H5 ((((g1.trans g2).trans g3).trans g4).trans g5) r5⟩
 | _=>exact nn e⟩
theorem bJ  : Bx (PAd X [] c5):=⟨c8.imp λ σ H Q ⟨H0,Hs,τ,fp,d,st,sm,e,k⟩=>by
 have e':=Zj e;subst e'
 exact k [] Hs H (.refl sm) .nil⟩
theorem aI (ha:Bx (PEd X e f)) (hr:Bx (PAd X es g)) (hs:Se X e es:=by rfl):Bx (PAd X (e::es) (ay f g)):=⟨have ha:=ha.out; have hr:=hr.out; (aT ha hr hs).imp λ σ H Q ⟨H0,Hs,τ,fp,d,st,sm,e,k⟩=>by
 obtain ⟨x,e1,e⟩:=bind_some e;obtain ⟨xs,e2,e⟩:=bind_some e;have e':=Zj e;subst e';refine ⟨H0,Hs,τ,fp,x,st,sm,e1,λ v Hs1 H1 g1 r1=>?_⟩
 exact ⟨H0,Hs1,τ,fp,xs,st.ext g1,g1.sh,e2,λ u Hs2 H2 g2 r2=>k _ Hs2 H2 (g1.trans g2) (.cons (r1.same g2.ss) r2)⟩⟩
theorem cC (h:Bx (PAd X es g)):Bx (PEd X (.Tuple es x1 pos) (KI g)):=⟨have h:=h.out; (zJ h).imp λ σ H Q ⟨H0,Hs,τ,fp,d,st,sm,e,k⟩=>by
 obtain ⟨xs,e1,e⟩:=bind_some e
 by_cases hl:xs.length<=100000
 ·rw [if_pos hl] at e
  have e':=Zj e;subst e';refine ⟨H0,Hs,τ,fp,xs,st,sm,e1,λ v Hs1 H1 g1 r1=>?_⟩;refine ⟨by rw [r1.length]; exact ue hl,λ p hp=>?_⟩;have g2:=Ext.new g1.sh hp (.tup v);exact k _ _ _ (g1.trans g2) (.tup (SqT.of aw) (r1.same g2.ss))
 · rw [if_neg hl] at e; cases e⟩
theorem a9 (h:Bx (PAd X es g)):Bx (PEo X (.List es pos) (Hf g)):=⟨have h:=h.out; (D8 h).imp λ σ H Q ⟨H0,Hs,τ,fp,d,st,sm,e,k⟩=>by
 obtain ⟨xs,e1,e⟩:=bind_some e
 by_cases hl:xs.length<=100000
 ·rw [if_pos hl] at e
  have e':=Zj e;subst e';refine ⟨H0,Hs,τ,fp,xs,st,sm,e1,λ v Hs1 H1 g1 r1=>?_⟩;refine ⟨by rw [r1.length]; exact ue hl,λ p hp=>?_⟩;refine k p Hs1 _ ⟨g1.ss,g1.sh.trans (aC hp _),g1.hh.trans (aC hp _),g1.fr⟩ (.lst aw (g1.sh.free hp) r1) (g1.hh.free hp)
 · rw [if_neg hl] at e; cases e⟩
theorem aW (h:Bx (PEo X e f)):Bx (PEd X e f):=⟨PEo.shr h.out⟩
theorem bH (h:Bx (PEd X e f)) (he:∀ whole,isTrue e X.env whole=(do let v <- whole; standAt e.pos; holding [v] (truthy v)):=by intro _; rfl):Bx (PTd X e (dT f)):=⟨have h:=h.out; (qW h he).imp λ σ H Q ⟨H0,Hs,τ,fp,d,st,sm,e,k⟩=>by
 obtain ⟨x,e1,e⟩:=bind_some e;have hx:x=.bl d:=by cases x <;> simp at e <;> subst e <;> rfl
 subst hx;refine ⟨H0,Hs,τ,fp,_,st,sm,e1,λ v Hs' H' g r=>?_⟩;cases r
 exact ⟨d,rfl,k Hs' H' g⟩⟩
theorem bX (h:Bx (PTd X e f)):Bx (PTd X (.UnaryOp .Not e pos) (Ai f)):=⟨have h:=h.out; (zH h).imp λ σ H Q ⟨H0,Hs,τ,fp,d,st,sm,e,k⟩=>by
 obtain ⟨x,e1,e⟩:=Zm e;subst e
 exact ⟨H0,Hs,τ,fp,x,st,sm,e1,λ Hs' H' g=>k Hs' H' g⟩⟩
theorem eV (h:Bx (PTd X a f)):Bx (PWd X (.BoolOp .Or [a] pos) f):=⟨have h:=h.out; pw_or1 h⟩
theorem gA (ha:Bx (PTd X a f)) (hb:Bx (PWd X (.BoolOp .Or (b::es) pos) g)):Bx (PWd X (.BoolOp .Or (a::b::es) pos) (dOr f g)):=⟨have ha:=ha.out; have hb:=hb.out; PW.imp (pw_or ha hb) λ σ H Q ⟨H0,Hs,τ,fp,d,st,sm,e,k⟩=>by
 obtain ⟨x,e1,e⟩:=bind_some e;refine ⟨H0,Hs,τ,fp,x,st,sm,e1,λ Hs' H' g1=>?_⟩
 cases x with
 | false=>exact ⟨H0,Hs',τ,fp,d,st.ext g1,g1.sh,e,λ Hs2 H2 g2=>k Hs2 H2 (g1.trans g2)⟩
 | true =>
  have e':true=d:=by simpa using e
  subst e'
  exact k Hs' H' g1⟩
theorem eX (h:Bx (PWd X e f)):Bx (PTd X e f):=⟨PWd.ptd h.out⟩
theorem jA (h:Bx (PEd X a f)):Bx (PEd X (.BoolOp op [a] pos) f):=⟨have h:=h.out; uT h⟩
theorem mM (ha:Bx (PEd X a f)) (hb:Bx (PEd X (.BoolOp .And (b::es) pos) g)):Bx (PEd X (.BoolOp .And (a::b::es) pos) (tY f g)):=⟨have ha:=ha.out; have hb:=hb.out; (zN ha hb).imp λ σ H Q ⟨H0,Hs,τ,fp,d,st,sm,e,k⟩=>by
 obtain ⟨x,e1,e⟩:=bind_some e;refine ⟨H0,Hs,τ,fp,x,st,sm,e1,λ v Hs' H' g1 r=>?_⟩
 cases r with
 | bl kb =>
  refine ⟨kb,rfl,?_⟩
  cases kb with
  | true=>exact ⟨H0,Hs',τ,fp,d,st.ext g1,g1.sh,e,λ v Hs2 H2 g2 r=>k v Hs2 H2 (g1.trans g2) r⟩
  | false =>
   have e':D.bl false=d:=by simpa using e
   subst e';exact k _ Hs' H' g1 (.bl false)
 | _=>exact nn e⟩
theorem CK (ha:Bx (PEd X a f)) (hb:Bx (PEd X (.BoolOp .Or (b::es) pos) g)):Bx (PEd X (.BoolOp .Or (a::b::es) pos) (KL f g)):=⟨have ha:=ha.out; have hb:=hb.out; (D6 ha hb).imp λ σ H Q ⟨H0,Hs,τ,fp,d,st,sm,e,k⟩=>by
 obtain ⟨x,e1,e⟩:=bind_some e;refine ⟨H0,Hs,τ,fp,x,st,sm,e1,λ v Hs' H' g1 r=>?_⟩
 cases r with
 | bl kb =>
  refine ⟨kb,rfl,?_⟩
  cases kb with
  | false=>exact ⟨H0,Hs',τ,fp,d,st.ext g1,g1.sh,e,λ v Hs2 H2 g2 r=>k v Hs2 H2 (g1.trans g2) r⟩
  | true =>
   have e':D.bl true=d:=by simpa using e
   subst e';exact k _ Hs' H' g1 (.bl true)
 | _=>exact nn e⟩
theorem mL (ha:Bx (PEd X a f)):Bx (PEd X (.UnaryOp .Not a pos) (CC f)):=⟨have ha:=ha.out; (D7 ha).imp λ σ H Q ⟨H0,Hs,τ,fp,d,st,sm,e,k⟩=>by
 obtain ⟨x,e1,e⟩:=bind_some e;refine ⟨H0,Hs,τ,fp,x,st,sm,e1,λ v Hs' H' g1 r=>?_⟩
 cases r with
 | bl kb =>
  have e':D.bl (!kb)=d:=by simpa using e
  subst e';exact ⟨kb,rfl,k _ Hs' H' g1 (.bl _)⟩
 | _=>exact nn e⟩
theorem xi (hc:Bx (PTd X c t)) (ha:Bx (PEd X a f)) (hb:Bx (PEd X b g)):Bx (PEd X (.IfExp c a b pos) (dIf t f g)):=⟨have hc:=hc.out; have ha:=ha.out; have hb:=hb.out; (yd hc ha hb).imp λ σ H Q ⟨H0,Hs,τ,fp,d,st,sm,e,k⟩=>by
 obtain ⟨x,e1,e⟩:=bind_some e;refine ⟨H0,Hs,τ,fp,x,st,sm,e1,λ Hs' H' g1=>?_⟩
 cases x with
 | true=>exact ⟨H0,Hs',τ,fp,d,st.ext g1,g1.sh,by simpa using e,λ v Hs2 H2 g2 r=>k v Hs2 H2 (g1.trans g2) r⟩
 | false=>exact ⟨H0,Hs',τ,fp,d,st.ext g1,g1.sh,by simpa using e,λ v Hs2 H2 g2 r=>k v Hs2 H2 (g1.trans g2) r⟩⟩
theorem aV (ha:Bx (PEd X a f)) (hb:Bx (PEd X b g)) (hs:xo b:=by exact λ _ _=>rfl):Bx (PEd X (.Subscript a b pos) (dOp oIx f g)):=⟨have ha:=ha.out; have hb:=hb.out; (HX ixd ha hb hs).imp λ σ H Q h=>lp X.K h⟩
theorem dw  : Bx (POd X none L0):=⟨AZ.imp λ σ H Q ⟨H0,Hs,τ,fp,d,st,sm,e,k⟩=>by
 have e':=Zj e;subst e'
 exact k Hs H (.refl sm)⟩
theorem cp (h:Bx (PEd X e f)):Bx (POd X (some e) (dP f)):=⟨have h:=h.out; (AY h).imp λ σ H Q ⟨H0,Hs,τ,fp,d,st,sm,e,k⟩=>by
 obtain ⟨x,e1,e⟩:=bind_some e;refine ⟨H0,Hs,τ,fp,x,st,sm,e1,λ v Hs' H' g r=>?_⟩
 cases r with
 | int i =>
  have e':=Zj e;subst e';exact ⟨i,rfl,k Hs' H' g⟩
 | _=>exact nn e⟩
section
variable {X:Cx} {a b c e:Expr} {es:List Expr} {pos:Pos} {f g h:DE}
theorem mJ {lo hi:Option Expr} {p2:Pos} {l u:DO} (ha:Bx (PEd X a f)) (hl:Bx (POd X lo l)) (hh:Bx (POd X hi u)):Bx (PEo X (.Subscript a (.Slice lo hi none p2) pos) (dSl f l u)):=⟨have ha:=ha.out; have hl:=hl.out; have hh:=hh.out; (q9 AD ha hl hh).imp λ σ H Q ⟨H0,Hs,τ,fp,d,st,sm,e,k⟩=>by
 obtain ⟨x,e1,e⟩:=bind_some e;obtain ⟨l',e2,e⟩:=bind_some e;obtain ⟨u',e3,e⟩:=bind_some e;refine ⟨H0,Hs,τ,fp,x,st,sm,e1,λ v Hs1 H1 g1 r1=>?_⟩;refine ⟨H0,Hs1,τ,fp,l',st.ext g1,g1.sh,e2,λ Hs2 H2 g2=>?_⟩;refine ⟨H0,Hs2,τ,fp,u',(st.ext g1).ext g2,g2.sh,e3,λ Hs3 H3 g3=>?_⟩;have g13:=(g1.trans g2).trans g3;have r3:=(r1.same g2.ss).same g3.ss
 have fin:∀ (p:Addr) (ys:List V) (ds:List D),H3 p=none->Rps X.K Hs3 ys ds->d=.lst ds->Q (.ref p) (upd H3 p (.lst ys)):=λ p ys ds hp r ed=>by
  subst ed;exact k p Hs3 _ ⟨g13.ss,g13.sh.trans (aC hp _),g13.hh.trans (aC hp _),g13.fr⟩ (.lst aw (g13.sh.free hp) r) (g13.hh.free hp)
 cases r3 with
 | @lst a xs ds h r =>
  have e':=Zj e;exact ⟨a,xs,rfl,SqL.of (g3.sh _ _ h),λ p hp=>fin p _ _ hp (wO l' u' r) e'.symm⟩
 | @fz a xs ds h r =>
  have e':D.lst (cutD ds l' u')=d:=Zj e;exact ⟨a,xs,rfl,g3.sh.seq h,λ p hp=>fin p _ _ hp (wO l' u' r) e'.symm⟩
 | _=>exact nn e⟩
end
section
variable {X:Cx} {a b c e:Expr} {es:List Expr} {pos:Pos} {f g h:DE}
theorem aJ {x:Str} {id:String} {p:Pos} {o:List D->Option D} {g:DA} (hc:fC X (.builtin id) (rdL X.K o)) (hm:X.mg x=none) (ha:Bx (PAd X (e::es) g)) (hg:Gl X x:=by rfl) (hv:bootBuiltins x=some (.builtin id):=by decide +kernel) (hn:x≠"__name__":=by decide) (hdb:Dg x:=by decide) (he:Se X e es:=by rfl) (hpl:Sb X pos es:=by rfl):Bx (PEd X (.Call (.Name x p) (e::es) [] pos) (jr o g)):=⟨have ha:=ha.out; (rg hc hg hm hv ha hn hdb he hpl).imp λ σ H Q h=>call_of X.K h⟩
end
theorem gU (hc:fC X (.type T) (rdL X.K o)) (hm:X.mg x=none) (ha:Bx (PAd X (e::es) g)) (hg:Gl X x:=by rfl) (hv:bootBuiltins x=some (.type T):=by decide +kernel) (hn:x≠"__name__":=by decide) (hdb:Dg x:=by decide) (he:Se X e es:=by rfl) (hpl:Sb X pos es:=by rfl):Bx (PEd X (.Call (.Name x p) (e::es) [] pos) (jr o g)):=⟨have ha:=ha.out; (nt hc hg hm hv ha hn hdb he hpl).imp λ σ H Q h=>call_of X.K h⟩
theorem kF (hm:X.mg x=none) (ha:Bx (PAd X (e::es) g)) (hg:Gl X x:=by rfl) (hv:bootBuiltins x=some (.type "list"):=by decide +kernel) (hn:x≠"__name__":=by decide) (hdb:Dg x:=by decide) (he:Se X e es:=by rfl) (hpl:Sb X pos es:=by rfl):Bx (PEo X (.Call (.Name x p) (e::es) [] pos) (jr yn g)):=⟨have ha:=ha.out; (nt oJ hg hm hv ha hn hdb he hpl).imp λ σ H Q ⟨H0,Hs,τ,fp,d,st,sm,e,k⟩=>by
 obtain ⟨xs,e1,e⟩:=bind_some e;refine ⟨H0,Hs,τ,fp,xs,st,sm,e1,λ v Hs1 H1 g1 r1=>?_⟩
 have fin:∀ (p:Addr) (ys:List V) (ds:List D),H1 p=none->Rps X.K Hs1 ys ds->d=.lst ds->Q (.ref p) (upd H1 p (.lst ys)):=λ p ys ds hp r ed=>by
  subst ed;exact k p Hs1 _ ⟨g1.ss,g1.sh.trans (aC hp _),g1.hh.trans (aC hp _),g1.fr⟩ (.lst aw (g1.sh.free hp) r) (g1.hh.free hp)
 match xs,r1,e with
 | [x],.cons hx .nil,e =>
  cases hx with
  | @tup a ys ds h r=>exact ⟨_,_,rfl,.inr (g1.sh.tup h),λ l hl=>fin l ys ds hl r (Zj e).symm⟩
  | @lst a ys ds h r=>exact ⟨_,_,rfl,.inl (SqL.of (g1.sh _ _ h)),λ l hl=>fin l ys ds hl r (Zj e).symm⟩
  | @fz a ys ds h r=>exact ⟨_,_,rfl,.inl (g1.sh.seq h),λ l hl=>fin l ys ds hl r (Zj e).symm⟩
  | _=>exact nn e
 | [],_,e=>simp [yn] at e
 | _::_::_,_,e=>simp [yn] at e⟩
theorem wX (i:Nat) (h:Bx (PTd X e f)):Bx (PTd X e (DH i f)):=⟨have h:=h.out; PT.imp h λ σ H Q ⟨H0,Hs,τ,fp,d,st,sm,e,k⟩=>by
 unfold DH at e;split at e
 ·rename_i d0 q
  obtain ⟨a,o,fp',h1,h2,h3,h4,h5,h6,h7,h8⟩:=st.frz q;exact ⟨H0,upd Hs a o,_,fp',d,h4,sm.frz h1,e,λ Hs' H' g=>k (vZ a Hs') H' (g.Hv h2 h1)⟩
 · exact ⟨H0,Hs,τ,fp,d,st,sm,e,k⟩⟩
theorem aq  : Bx (xp X [] gE):=⟨l6.imp λ E σ H ⟨Hs0,H0,Hs,τ,o,r,e,k⟩=>by
 have e':=Zj e;subst e'
 exact k σ Hs H r⟩
section
variable {X:Cx} {a b c e:Expr} {es:List Expr} {pos:Pos} {st:Stmt} {rest:List Stmt} {f g:DS}
theorem ag (h:Bx (PSd X st f)):Bx (xp X [st] f):=⟨have h:=h.out; d9 h⟩
end
section
variable {X:Cx} {a b c e:Expr} {es:List Expr} {pos:Pos} {st:Stmt} {rest:List Stmt} {f g:DS}
theorem ae (h1:Bx (PSd X st f)) (h2:Bx (xp X rest g)):Bx (xp X (st::rest) (g9 f g)):=⟨have h1:=h1.out; have h2:=h2.out; (ff h1 h2).imp λ E σ H ⟨Hs0,H0,Hs,τ,o,r,e,k⟩=>by
 unfold g9 at e
 cases q:f τ with
 | none=>rw [q] at e; cases e
 | some o1 =>
  rw [q] at e;refine ⟨Hs0,H0,Hs,τ,o1,r,q,?_⟩
  cases o1 with
  | next τ'=>exact λ σ' Hs' H' r'=>⟨Hs0,H0,Hs',τ',o,r',e,k⟩
  | ret s=>cases e; exact k
  | brk τ'=>cases e; exact k
  | cnt τ'=>cases e; exact k⟩
end
section
variable {X:Cx} {a b c e:Expr} {es:List Expr} {pos:Pos} {st:Stmt} {rest:List Stmt} {f g:DS}
theorem gS  : Bx (PSd X st DV):=⟨λ _ _ _ _ _ _ ⟨_,_,_,_,_,_,e,_⟩=>by cases e⟩
end
theorem aA (hc:Bx (PTd X c t)) (ha:Bx (xp X x f)) (hb:Bx (xp X y g)):Bx (PSd X (.If c x y pos) (sIf t f g)):=⟨have hc:=hc.out; have ha:=ha.out; have hb:=hb.out; (xX hc ha hb).imp λ E σ H ⟨Hs0,H0,Hs,τ,o,r,e,k⟩=>by
 obtain ⟨bb,e1,e2⟩:=bind_some e;obtain ⟨fp,h⟩:=r.st;refine ⟨H0,Hs,τ,fp,bb,h,r.same,e1,λ Hs' H' g1=>?_⟩
 cases bb with
 | true=>exact ⟨Hs0,H0,Hs',τ,o,r.ext' g1,by simpa using e2,k⟩
 | false=>exact ⟨Hs0,H0,Hs',τ,o,r.ext' g1,by simpa using e2,k⟩⟩
theorem ao (h:Bx (PEd X e f)):Bx (PSd X (.Return (some e) pos) (qT f)):=⟨have h:=h.out; (iW h).imp λ E σ H ⟨Hs0,H0,Hs,τ,o,r,e,k⟩=>by
 obtain ⟨d,e1,rfl⟩:=Zm e;obtain ⟨fp,h⟩:=r.st
 exact ⟨H0,Hs,τ,fp,d,h,r.same,e1,λ v Hs' H' g1 rv=>k v Hs' H' (r.ext.trans g1) rv⟩⟩
theorem cK (h:Bx (PEo X e f)):Bx (PSd X (.Return (some e) pos) (AG f)):=⟨have h:=h.out; (iW h).imp λ E σ H ⟨Hs0,H0,Hs,τ,o,r,e,k⟩=>by
 obtain ⟨d,e1,rfl⟩:=Zm e;obtain ⟨fp,h⟩:=r.st
 exact ⟨H0,Hs,τ,fp,d,h,r.same,e1,λ v Hs' H' g1 rv z=>k _ Hs' H' (r.ext.trans g1) ⟨v,rfl,rv,r.old z⟩⟩⟩
theorem iJ (i:Nat) (hN:X.N[i]?=some x:=by exact rfl) (hv:Vis X.env.scope x:=by walk_at "w") (hd:Dg x:=by decide) (hcd:Dc x:=by decide):Bx (PSd X (.Return (some (.Name x p)) pos) (xN i)):=⟨(iW (gG hN hv hd hcd)).imp λ E σ H ⟨Hs0,H0,Hs,τ,o,r,e,k⟩=>by
 obtain ⟨fp,h⟩:=r.st;unfold xN at e;split at e
 ·rename_i d q
  cases e;obtain ⟨a,h1,h2,h3,h4⟩:=h.Cp q;exact ⟨_,h1,k _ Hs H r.ext ⟨a,rfl,h2,h3⟩⟩
 ·rename_i d q
  cases e;obtain ⟨v,h1,h2⟩:=h.get q;exact ⟨_,h1,k _ Hs H r.ext h2⟩
 · cases e⟩
theorem w6 (i:Nat) (hN:X.N.Nodup) (hi:X.N[i]?=some x:=by exact rfl) (he:Bx (PEd X e f)) (hx:Loc X.env.scope x:=by walk_at "v") (hs:Sw X e x pos' pos:=by rfl) (hf:Xl X x:=by walk_at "v"):Bx (PSd X (.Assign [.Name x pos'] e pos) (xu i f)):=⟨have he:=he.out; (jM hN hi hx he hs hf).imp λ E σ H ⟨Hs0,H0,Hs,τ,o,r,e,k⟩=>by
 obtain ⟨d,e1,rfl⟩:=Zm e;obtain ⟨fp,h⟩:=r.st;refine ⟨H0,Hs,τ,fp,d,h,r.same,e1,λ v Hs' H' g1 rv=>?_⟩;obtain ⟨fp',_,h'⟩:=(h.ext g1).xK rv
 exact k _ Hs' H' ⟨r.ext.trans g1,fp',h'⟩⟩
theorem dv (i:Nat) (hN:X.N.Nodup) (hi:X.N[i]?=some x:=by exact rfl) (he:Bx (PEo X e f)) (hx:Loc X.env.scope x:=by walk_at "v") (hs:Sw X e x pos' pos:=by rfl) (hf:Xl X x:=by walk_at "v"):Bx (PSd X (.Assign [.Name x pos'] e pos) (xM i f)):=⟨have he:=he.out; (jM hN hi hx he hs hf).imp λ E σ H ⟨Hs0,H0,Hs,τ,o,r,e,k⟩=>by
 unfold xM at e;split at e
 ·rename_i hl
  obtain ⟨d,e1,rfl⟩:=Zm e;obtain ⟨fp,h⟩:=r.st;refine ⟨H0,Hs,τ,fp,d,h,r.same,e1,λ v Hs' H' g1 rv z=>?_⟩;obtain ⟨fp',_,h'⟩:=(h.ext g1).Mq rv (r.old z) (uW h z) hl;exact k _ Hs' H' ⟨r.ext.trans g1,fp',h'⟩
 · cases e⟩
theorem gB (he:Bx (PEd X e f)) (hs:swapsWith e none pos.line X.env=pure false:=by rfl):Bx (PSd X (.Expr e pos) (xO f)):=⟨have he:=he.out; (eh he hs).imp λ E σ H ⟨Hs0,H0,Hs,τ,o,r,e,k⟩=>by
 obtain ⟨d,e1,rfl⟩:=Zm e;obtain ⟨fp,h⟩:=r.st
 exact ⟨H0,Hs,τ,fp,d,h,r.same,e1,λ v Hs' H' g1 rv=>k _ Hs' H' (r.ext' g1)⟩⟩
section
variable {X:Cx} {a b c e:Expr} {es:List Expr} {pos:Pos} {st:Stmt} {rest:List Stmt} {f g:DS}
theorem w9 (i:Nat) (h:Bx (PSd X st f)):Bx (PSd X st (F8 i f)):=⟨have h:=h.out; PS.imp h λ E σ H ⟨Hs0,H0,Hs,τ,o,r,e,k⟩=>by
 unfold F8 at e;split at e
 ·rename_i d q
  obtain ⟨Hs',r'⟩:=r.frz q;exact ⟨Hs0,H0,Hs',_,o,r',e,k⟩
 · exact ⟨Hs0,H0,Hs,τ,o,r,e,k⟩⟩
end
theorem ir (i:Nat) (hN:X.N[i]?=some x:=by exact rfl) (he:Bx (PEd X e f)) (hv:Vis X.env.scope x:=by walk_at "w") (hd:Dg x:=by decide) (hcd:Dc x:=by decide) (hbase:attributeBase (.Name x p) "append" X.env (eval (.Name x p) X.env)=eval (.Name x p) X.env:=by rfl) (hfew:((backTo cpos (starEach [e] X.env)).all (λ x=>!x.1)&&(backToKw cpos (keywordEach [] X.env)).all (λ x=>x.1.isSome)
  && decide ([e].length+([]:List Keyword).length+(if ([]:List Keyword).isEmpty then 0 else 1) < 30))=true:=by rfl) (hline:(apos.endLine == cpos.line)=true:=by rfl) (hst:starEach [e] X.env=(false,eval e X.env)::starEach [] X.env:=by rfl) (hplain:(backTo cpos (starEach [] X.env)).any (·.1)=false:=by rfl) (hs:swapsWith (.Call (.Attribute (.Name x p) "append" apos) [e] [] cpos) none pos.line X.env=pure false:=by rfl):Bx (PSd X (.Expr (.Call (.Attribute (.Name x p) "append" apos) [e] [] cpos) pos) (AM i f)):=⟨have he:=he.out; (eh (pO Yn PySem.F.slot_list_append PySem.F.type_list_append jY (gG hN hv hd hcd) (aT he c8 hst) hbase hfew hline hst hplain) hs).imp λ E σ H ⟨Hs0,H0,Hs,τ,o,r,e,k⟩=>by
 obtain ⟨d,e1,e2⟩:=bind_some e;obtain ⟨fp,h⟩:=r.st;split at e2
 ·rename_i ds q
  split at e2
  ·rename_i hl
   cases e2;obtain ⟨a,h1,h2,h3,h4⟩:=h.Cp q
   cases h2 with
   | @lst xs _ hH hn hr =>
    refine ⟨_,h1,.inl ⟨rfl,_,SqL.of hH⟩,?_⟩;refine ⟨H0,Hs,τ,fp,d,h,r.same,e1,λ v Hs' H' g1 rv=>?_⟩;have hH':=g1.hh _ _ hH;have h':=h.ext g1;have n':=g1.fr a hn (gJ hH);refine ⟨a,xs,v,rfl,rfl,hH',by rw [hr.length]; exact le5 (Yz hl),?_⟩;refine k σ Hs' _ ⟨⟨r.ext.ss.trans g1.ss,λ b u z=>?_,λ b u z=>?_,λ b k1 k2=>?_⟩,fp,h'.mut q h1 (.lst aw n' ((hr.same g1.ss).append (.cons rv .nil)))⟩
    ·have ne:b≠a:=λ y=>by subst y; rw [n'] at z; cases z
     rw [ar ne]; exact g1.sh b u z
    ·have ne:b≠a:=λ y=>by subst y; rw [h3] at z; cases z
     rw [ar ne]; exact g1.hh b u (r.ext.hh b u z)
    · exact g1.fr b (r.ext.fr b k1 k2) (r.ext.hh.live k2)
  · cases e2
 · cases e2⟩
theorem kG (h:Bx (PEd X l f)):Bx (PId X tg l (Cm f)):=⟨have h:=h.out; (l7 h).imp λ σ H R ⟨H0,Hs,τ,fp,ds,st,sm,e,k⟩=>by
 obtain ⟨x,e1,e2⟩:=bind_some e;refine ⟨H0,Hs,τ,fp,x,st,sm,e1,λ v Hs' H' g r=>?_⟩
 cases r with
 | @lst a xs ds' h r =>
  have e':=Zj e2;subst e';exact ⟨a,rfl,⟨xs,SqL.of (g.sh _ _ h)⟩,k _ Hs' H' g (rG (SqL.of h) r)⟩
 | @fz a xs ds' h r =>
  have e':ds'=ds:=Zj e2;subst e';exact ⟨a,rfl,⟨xs,g.sh.seq h⟩,k _ Hs' H' g (rG h r)⟩
 | _=>exact nn e2⟩
theorem iw (h:Bx (PEd X l f)):Bx (PId X tg l (yI f)):=⟨have h:=h.out; (D1 h).imp λ σ H R ⟨H0,Hs,τ,fp,ds,st,sm,e,k⟩=>by
 obtain ⟨x,e1,e2⟩:=bind_some e;refine ⟨H0,Hs,τ,fp,x,st,sm,e1,λ v Hs' H' g r=>?_⟩
 cases r with
 | @tup a xs ds' h r =>
  have e':=Zj e2;subst e';exact ⟨a,rfl,⟨xs,g.sh.tup h⟩,k _ Hs' H' g (Cc h r)⟩
 | _=>exact nn e2⟩
theorem bZ (hm:X.mg "range"=none) (ha:Bx (PAd X [a] f)) (hg:Gl X "range":=by rfl) (hs:starEach [a] X.env=[(false,eval a X.env)]:=by rfl):Bx (PId X tg (.Call (.Name "range" p) [a] [] pos) (lI f)):=⟨have ha:=ha.out; (nr hg hm ha hs).imp λ σ H R ⟨H0,Hs,τ,fp,ds,st,sm,e,k⟩=>by
 obtain ⟨x,e1,e2⟩:=bind_some e;refine ⟨H0,Hs,τ,fp,x,st,sm,e1,λ v Hs' H' g r=>?_⟩
 match x,r,e2 with
 | [y],.cons hy .nil,e2 =>
  cases hy with
  | int j =>
   simp only at e2;split at e2
   ·rename_i hj
    have e':=Zj e2;subst e';exact ⟨j,rfl,hj.1,hj.2,k _ Hs' H' g (vN _ _)⟩
   · cases e2
  | _=>exact nn e2
 | [],_,e2=>simp at e2
 | _::_::_,_,e2=>simp at e2⟩
theorem dA (i:Nat) (hN:X.N.Nodup) (hi:X.N[i]?=some x:=by exact rfl) (hx:Loc X.env.scope x:=by walk_at "v") (hf:Xl X x:=by walk_at "v"):Bx (PGd X (.Name x pos) (gN i)):=⟨(gL hN hi hx hf).imp λ v σ H Q ⟨Hs0,H0,Hs,τ,τ',d,r,rv,e,k⟩=>by
 have e':=Zj e;subst e';obtain ⟨fp,h⟩:=r.st;obtain ⟨fp',_,h'⟩:=h.xK rv
 exact k _ ⟨r.ext,fp',h'⟩⟩
theorem eW (hi:Bx (PId X tg iter it)) (hg:Bx (PGd X tg g)) (hb:Bx (xp X body b)) (hp:PassesOwn (model X.prog X.w) X.A X.env X.xe:=by exact .never) (hc:X.calm=true:=by rfl) (hs:Fs X iter:=by intro _; rfl):Bx (PSd X (.For tg iter body [] pos) (AK it g b)):=⟨have hi:=hi.out; have hg:=hg.out; have hb:=hb.out; (qZ hp hc hi hg hb hs).imp λ E σ H ⟨Hs0,H0,Hs,τ,o,r,e,k⟩=>by
 obtain ⟨ds,e1,e2⟩:=bind_some e;obtain ⟨fp,hst⟩:=r.st;refine ⟨H0,Hs,τ,fp,ds,hst,r.same,e1,λ J Hs1 H1 g1 hJ=>?_⟩;have r1:=r.ext' g1;have kk:=k.rebase r1.ext;refine ⟨λ i m σ H=>m=ds.length - i/\i<=ds.length/\∃ Hs2 τ2,Rep X.K Hs1 H0 Hs2 H σ τ2/\mV (λ d τ=>(g d τ).bind b) (ds.drop i) τ2=some o,⟨ds.length,by simp,Z4 _,Hs1,τ,r1.rebase,by simpa using e2⟩,?_⟩
 rintro i m σ2 H2 ⟨rfl,hi,Hs2,τ2,r2,e3⟩
 obtain ⟨hgo,hstop⟩:=hJ Hs2 H2 r2.ext.ss r2.same
 by_cases hlt:i < ds.length
 ·have ed:=Y1 hlt
  rw [ed] at e3;obtain ⟨go,yl⟩:=hgo i ds[i] (List.getElem?_eq_getElem hlt);refine .inr ⟨go,λ σ' H'=>∃ Hs' τ',Rep X.K Hs1 H0 Hs' H' σ' τ'/\mV (λ d τ=>(g d τ).bind b) (ds.drop (i+1)) τ'=some o,?_,?_⟩
  ·rintro σ' H' ⟨Hs',τ',r',e'⟩
   exact ⟨ds.length - (i+1),by omega,rfl,hlt,Hs',τ',r',e'⟩
  ·intro x H' y
   obtain ⟨Hs3,g3,rx⟩:=yl x H' y;have r3:=r2.ext' g3;unfold mV at e3
   cases q:(g ds[i] τ2).bind b with
   | none=>simp only [q] at e3; cases e3
   | some o1 =>
    simp only [q] at e3;obtain ⟨τ3,q1,q2⟩:=bind_some q;refine ⟨Hs1,H0,Hs3,τ2,τ3,ds[i],r3,rx,q1,λ σ' r'=>?_⟩;refine ⟨Hs1,H0,Hs3,τ3,o1,r',q2,?_⟩
    cases o1 with
    | next τ'=>exact λ σ4 Hs4 H4 r4=>⟨Hs4,τ',r4,e3⟩
    | cnt τ'=>exact λ σ4 Hs4 H4 r4=>⟨Hs4,τ',r4,e3⟩
    | brk τ'=>cases e3; exact kk
    | ret s=>cases e3; exact kk
 ·have e0:i=ds.length:=by omega
  subst e0;rw [Xz] at e3;have e':Out.next τ2=o:=by simpa [mV] using e3
  subst e'
  exact .inl ⟨hstop _ (Zl _),kk σ2 Hs2 H2 r2⟩⟩
theorem fj (hc:Bx (PTd X c t)) (hb:Bx (xp X body b)) (hp:PassesOwn (model X.prog X.w) X.A X.env X.xe:=by exact .never):Bx (PSd X (.While c body [] pos) (m9 t b)):=⟨have hc:=hc.out; have hb:=hb.out; (xV hp hc hb).imp λ E σ H ⟨Hs0,H0,Hs,τ,o,r,e,k⟩=>by
 obtain ⟨n,e⟩:=uD e;refine ⟨λ m σ H=>∃ Hs2 τ2,Rep X.K Hs0 H0 Hs2 H σ τ2/\bR t b m τ2=some o,⟨n,Hs,τ,r,e⟩,?_⟩
 rintro m σ2 H2 ⟨Hs2,τ2,r2,e2⟩
 obtain ⟨fp,hst⟩:=r2.st
 cases m with
 | zero=>simp [bR] at e2
 | succ m =>
  unfold bR at e2
  cases q:t τ2 with
  | none=>rw [q] at e2; cases e2
  | some bb =>
   rw [q] at e2;refine ⟨H0,Hs2,τ2,fp,bb,hst,r2.same,q,λ Hs3 H3 g3=>?_⟩;have r3:=r2.ext' g3
   cases bb with
   | false =>
    have e':Out.next τ2=o:=by simpa using e2
    subst e';exact Cf (k σ2 Hs3 H3 r3)
   | true =>
    refine Ce ?_
    refine ⟨λ σ' H'=>∃ Hs' τ',Rep X.K Hs0 H0 Hs' H' σ' τ'/\bR t b m τ'=some o,?_,?_⟩
    ·rintro σ' H' ⟨Hs',τ',r',e'⟩
     exact ⟨m,by omega,Hs',τ',r',e'⟩
    ·cases q2:b τ2 with
     | none=>rw [q2] at e2; cases e2
     | some o1 =>
      rw [q2] at e2;refine ⟨Hs0,H0,Hs3,τ2,o1,r3,q2,?_⟩
      cases o1 with
      | next τ'=>exact λ σ4 Hs4 H4 r4=>⟨Hs4,τ',r4,e2⟩
      | cnt τ'=>exact λ σ4 Hs4 H4 r4=>⟨Hs4,τ',r4,e2⟩
      | brk τ'=>cases e2; exact k
      | ret s=>cases e2; exact k⟩
theorem aj (Fo:Go X.prog X.w X.K X.mg X.base k x (spF F X.K)) (hr:d2 jj X.A) (ha:Bx (PAd X (e::es) g)) (hj:k<=jj:=by decide) (hg:Gl X x:=by rfl) (hdb:Dg x:=by decide) (he:Se X e es:=by rfl) (hpl:Sb X pos es:=by rfl):Bx (PEd X (.Call (.Name x p) (e::es) [] pos) (dFn F g)):=by
 have ⟨f',fd',ps',hm,hk,hb,Fo⟩:=Fo.go;have hr:=hr.mono hj;exact ⟨Be Fo hr hg hm hk hb ha.out hdb he hpl⟩
theorem fT (Fo:Go X.prog X.w X.K X.mg X.base k x (spF F X.K)) (hr:d2 jj X.A) (ha:Bx (PAd X (e::es) g)) (hj:k<=jj:=by decide) (hg:Gl X x:=by rfl) (hdb:Dg x:=by decide) (he:Se X e es:=by rfl) (hpl:Sb X pos es:=by rfl):Bx (PEo X (.Call (.Name x p) (e::es) [] pos) (CF F g)):=by
 have ⟨f',fd',ps',hm,hk,hb,Fo⟩:=Fo.go;have hr:=hr.mono hj;exact ⟨A0 Fo hr hg hm hk hb ha.out hdb he hpl⟩
theorem iu (O:cY X scope cl x cs) (hi:Bx (PId X (.Name x px) iter it)) (he:∀ s H fp C,Bx (PEd (bW X scope cl (x::cs.map (·.1)) s H fp C) elt g):=by intros; walk_at "g") (hc:X.calm=true:=by rfl) (hs:Fs X iter:=by intro _; rfl):Bx (PEo X (.ListComp elt [⟨.Name x px,iter,[],0⟩] scope pos) (wN it g cs)):=⟨have hi:=hi.out; have he:=(λ s H fp C=>(he s H fp C).out); (A8 (te:=rdE X.K g) hc O hi he hs).imp λ σ H Q h=>wQ h⟩
theorem qA (i:Nat) (hN:X.N.Nodup) (O:cY X scope cl x cs) (hy:X.N[i]?=some y:=by exact rfl) (hi:Bx (PId X (.Name x px) iter it)) (he:∀ s H fp C,Bx (PEd (bW X scope cl (x::cs.map (·.1)) s H fp C) elt g):=by intros; walk_at "g") (hx:Loc X.env.scope y:=by walk_at "v") (hc:X.calm=true:=by rfl) (hs:Fs X iter:=by intro _; rfl) (hsw:swapsWith (.ListComp elt [⟨.Name x px,iter,[],0⟩] scope pos) (some (.Name y py)) spos.line X.env=pure true:=by rfl) (hf:Xl X y:=by walk_at "v"):Bx (PSd X (.Assign [.Name y py] (.ListComp elt [⟨.Name x px,iter,[],0⟩] scope pos) spos) (xu i (wN it g cs))):=⟨have hi:=hi.out; have he:=(λ s H fp C=>(he s H fp C).out); (AW (te:=rdE X.K g) hN hy hx hc O hi he hs hsw hf).imp λ E σ H ⟨Hs0,H0,Hs,τ,o,r,e,k⟩=>by
 obtain ⟨d,e1,rfl⟩:=Zm e;obtain ⟨fp,h⟩:=r.st;refine wQ ⟨H0,Hs,τ,fp,d,h,r.same,e1,λ a Hs' H' g1 rv z=>?_⟩;obtain ⟨Hs2,g2,r2⟩:=SlV.shr (s:=.own d) g1 ⟨a,rfl,rv,z⟩ rfl;obtain ⟨fp',_,h'⟩:=(h.ext g2).xK r2
 exact k _ Hs2 H' ⟨r.ext.trans g2,fp',h'⟩⟩
theorem cD (c:Cls X.K C) (n:cU X.K C f) (he:Bx (PEd X e g)) (hb:attributeBase e f X.env (eval e X.env)=eval e X.env:=by rfl):Bx (PEd X (.Attribute e f pos) (dUn (C0 C f) g)):=⟨have he:=he.out; (zL he hb).imp λ σ H Q ⟨H0,Hs,τ,fp,d,st,sm,e,k⟩=>by
 obtain ⟨x,e1,e2⟩:=bind_some e;refine ⟨H0,Hs,τ,fp,x,st,sm,e1,λ v Hs' H' g' r=>?_⟩
 cases r with
 | @obj a C' dx fs ds h r =>
  simp only [C0] at e2;split at e2
  ·rename_i hc
   subst hc;obtain ⟨v,h1,h2⟩:=r.look e2;exact ⟨a,C',dx,fs,v,rfl,g'.sh _ _ h,c,n,h1,k v Hs' H' g' h2⟩
  · cases e2
 | _=>exact nn e2⟩
theorem be (c:Cls X.K C) (Fo:GoM X.prog X.w X.K X.mg X.base k C m (spF F X.K)) (hr:d2 jj X.A) (he:Bx (PEd X o g)) (ha:Bx (PAd X (e::es) ga)) (hj:k<=jj:=by decide) (hst:Se X e es:=by rfl) (hpl:Sb X pos es:=by rfl) (ht:eval (.Call (.Attribute o m apos) (e::es) [] pos) X.env=(do
  let ov <- eval o X.env
  standAt apos.atName
  let (f,first) <- holding [ov] (getMethod ov m pl)
  callWith pos f first (backTo pos (starEach (e::es) X.env)) (backToKw pos (keywordEach [] X.env))):=by rfl):Bx (PEd X (.Call (.Attribute o m apos) (e::es) [] pos) (ko C m F g ga)):=by
 have ⟨f',fd',ps',hm,hb,Fo⟩:=Fo.go;have hr:=hr.mono hj;exact ⟨Bb he.out c hm Fo hr hb ha.out hst hpl ht⟩
theorem xf (Fo:GoI X.prog X.w X.K X.mg X.base k C (uz C ns)) (hr:d2 jj X.A) (hm:X.mg x=some (.ref C)) (ha:Bx (PAd X (e::es) ga)) (hj:k+1<=jj:=by decide) (hg:Gl X x:=by rfl) (hdb:Dg x:=by decide) (he:Se X e es:=by rfl) (hpl:Sb X pos es:=by rfl):Bx (PEd X (.Call (.Name x p) (e::es) [] pos) (zc C ns ga)):=by
 have ⟨f',fd',ps',M,hb,Fo⟩:=Fo.go;have hr:=hr.mono hj;exact ⟨Bc M Fo hr hg hm hb ha.out hdb he hpl⟩
theorem t9 (O:cY X scope cl x cs) (hi:Bx (PId X (.Name x px) iter it)) (hcd:∀ s H fp C,Bx (PTd (bW X scope cl (x::cs.map (·.1)) s H fp C) cnd c):=by intros; walk_at "h") (he:∀ s H fp C,Bx (PEd (bW X scope cl (x::cs.map (·.1)) s H fp C) elt g):=by intros; walk_at "g") (hc:X.calm=true:=by rfl) (hs:Fs X iter:=by intro _; rfl):Bx (PEo X (.ListComp elt [⟨.Name x px,iter,[cnd],0⟩] scope pos) (gI it c g cs)):=⟨have hi:=hi.out; have hcd:=(λ s H fp C=>(hcd s H fp C).out); have he:=(λ s H fp C=>(he s H fp C).out); (rf (te:=rdE X.K g) (tt:=rdT X.K c) hc O hi hcd he hs).imp λ σ H Q h=>r6 h⟩
theorem aO (hu:X.A.units+64 < cLine) (hs:Hj i) (ho:Bx (PEd X o f)) (hi:Bx (PEd X i g)):Bx (PEd X (.Subscript o i pos) (dOp fg f g)):=⟨have ho:=ho.out; have hi:=hi.out; (pN (by omega) ho hi hs).imp λ σ H Q h=>by
 have h':=lp X.K h;obtain ⟨H0,Hs,τ,fp,x,st,sm,e1,kk⟩:=h';refine ⟨H0,Hs,τ,fp,x,st,sm,e1,λ v Hs1 H1 g1 r1=>?_⟩;obtain ⟨H0',Hs',τ',fp',y,st',sm',e2,kk2⟩:=kk v Hs1 H1 g1 r1;refine ⟨H0',Hs',τ',fp',y,st',sm',e2,λ u Hs2 H2 g2 r2=>?_⟩;obtain ⟨Hs3,dx,dy,d,sm3,rx,ry,eo,k⟩:=kk2 u Hs2 H2 g2 r2
 cases rx with
 | @dct a kvs ds hH rk =>
  obtain ⟨key,ek,ev⟩:=bind_some (eo);obtain ⟨w,hw,rw'⟩:=(rk.val).1 d ev;have:=lE ry ek;subst this;exact ⟨a,w,rfl,by rw [<- hw]; exact mW.k (sm3 _ _ hH),k w Hs3 H2 (.refl sm3) rw'⟩
 | @dfz a kvs ds hH rk =>
  obtain ⟨key,ek,ev⟩:=bind_some (show (j4 dy).bind _=some d from eo);obtain ⟨w,hw,rw'⟩:=(rk.val (k:=key)).1 d ev;have:=lE ry ek;subst this;refine ⟨a,w,rfl,.inl ⟨_,key,hH.elim (λ z=>.inl (sm3 _ _ z)) (λ ⟨o,z⟩=>.inr ⟨o,sm3 _ _ z⟩),rfl,hw.symm⟩,k w Hs3 H2 (.refl sm3) rw'⟩
 | _=>simp [fg] at eo⟩
theorem wW (hu:X.A.units+64 < cLine) (hm:behindInMarks .In o=false) (hi:Bx (PEd X i f)) (ho:Bx (PEd X o g)):Bx (PTd X (.Compare i [.In] [o] pos) (dT (dOp C1 f g))):=⟨have hi:=hi.out; have ho:=ho.out; (uN (Ec (by omega) hi ho) hm).imp λ σ H Q h=>wG (neg:=false) X.K (As X.K h)⟩
theorem jg (hu:X.A.units+64 < cLine) (hm:behindInMarks .NotIn o=false) (hi:Bx (PEd X i f)) (ho:Bx (PEd X o g)):Bx (PTd X (.Compare i [.NotIn] [o] pos) (dT (dOp fP f g))):=⟨have hi:=hi.out; have ho:=ho.out; (uN (nu (by omega) hi ho) hm).imp λ σ H Q h=>wG (neg:=true) X.K (As X.K h)⟩
theorem kD (ho:OpR X (compareOp op) (rdR X.K o)) (ho':OpR X (compareOp op') (rdR X.K o')) (ha:Bx (PEd X a f)) (hb:Bx (PEd X b g)) (hc:Bx (PEd X c h)) (hm:lastMarks [op,op'] [b,c]=false:=by with_unfolding_all rfl):Bx (PTd X (.Compare a [op,op'] [b,c] pos) (dT (tY (dOp o f g) (dOp o' g h)))):=⟨have ha:=ha.out; have hb:=hb.out; have hc:=hc.out; (xU ho ho' ha hb hc hm).imp λ σ H Q hh=>zf X.K (As X.K hh)⟩
theorem ua (hm:X.mg "enumerate"=none) (ha:Bx (PAd X [a] f)) (hg:Gl X "enumerate":=by rfl) (hs:starEach [a] X.env=[(false,eval a X.env)]:=by rfl):Bx (PId X (.Tuple elts k pt) (.Call (.Name "enumerate" p) [a] [] pos) (vY f)):=⟨have ha:=ha.out; (A4 hg hm ha hs).imp λ σ H R ⟨H0,Hs,τ,fp,ds,st,sm,e,k⟩=>by
 obtain ⟨x,e1,e2⟩:=bind_some e;refine ⟨H0,Hs,τ,fp,x,st,sm,e1,λ v Hs' H' g r=>?_⟩
 match x,r,e2 with
 | [y],.cons hy .nil,e2 =>
  cases hy with
  | @lst a1 xs1 ds1 h1 r1 =>
   have e':=Zj e2;subst e';exact ⟨a1,xs1,rfl,SqL.of (g.sh _ _ h1),k _ Hs' H' g (rH (SqL.of h1) r1)⟩
  | @fz a1 xs1 ds1 h1 r1 =>
   have e':eA ds1=ds:=Zj e2;subst e';exact ⟨a1,xs1,rfl,g.sh.seq h1,k _ Hs' H' g (rH h1 r1)⟩
  | _=>exact nn e2
 | [],_,e2=>simp at e2
 | _::_::_,_,e2=>simp at e2⟩
section
variable {X:Cx} {a b e o:Expr} {es:List Expr} {pos apos cpos:Pos} {f g:DE}
theorem mK {lo hi:Option Expr} {p2:Pos} {l u:DO} (ha:Bx (PEd X a f)) (hl:Bx (POd X lo l)) (hh:Bx (POd X hi u)):Bx (PEd X (.Subscript a (.Slice lo hi none p2) pos) (KH f l u)):=⟨have ha:=ha.out; have hl:=hl.out; have hh:=hh.out; (q9 DM ha hl hh).imp λ σ H Q ⟨H0,Hs,τ,fp,d,st,sm,e,k⟩=>by
 obtain ⟨x,e1,e⟩:=bind_some e;obtain ⟨l',e2,e⟩:=bind_some e;obtain ⟨u',e3,e⟩:=bind_some e;refine ⟨H0,Hs,τ,fp,x,st,sm,e1,λ v Hs1 H1 g1 r1=>?_⟩;refine ⟨H0,Hs1,τ,fp,l',st.ext g1,g1.sh,e2,λ Hs2 H2 g2=>?_⟩;refine ⟨H0,Hs2,τ,fp,u',(st.ext g1).ext g2,g2.sh,e3,λ Hs3 H3 g3=>?_⟩
 cases r1 with
 | str z =>
  unfold K6 at e;simp only at e;split at e
  ·rename_i hz
   have e':=Zj e;subst e';exact ⟨z,rfl,ue hz,k _ Hs3 H3 ((g1.trans g2).trans g3) (.str _)⟩
  · cases e
 | _=>exact nn e⟩
end
theorem xh (ho:Bx (PEd X o f)) (he:Bx (PEd X e g)) (hbase:attributeBase o "join" X.env (eval o X.env)=eval o X.env:=by rfl) (hfew:((backTo cpos (starEach [e] X.env)).all (λ x=>!x.1)&&(backToKw cpos (keywordEach [] X.env)).all (λ x=>x.1.isSome)
  && decide ([e].length+([]:List Keyword).length+(if ([]:List Keyword).isEmpty then 0 else 1) < 30))=true:=by rfl) (hline:(apos.endLine == cpos.line)=true:=by rfl) (hst:starEach [e] X.env=(false,eval e X.env)::starEach [] X.env:=by rfl) (hplain:(backTo cpos (starEach [] X.env)).any (·.1)=false:=by rfl):Bx (PEd X (.Call (.Attribute o "join" apos) [e] [] cpos) (CD f g)):=⟨have ho:=ho.out; have he:=he.out; (pO PySem.F.plainAttrs_str PySem.F.slot_str_join PySem.F.type_str_join BP ho (aT he c8 hst) hbase hfew hline hst hplain).imp λ σ H Q ⟨H0,Hs,τ,fp,d,st,sm,e,k⟩=>by
 obtain ⟨x,e1,e⟩:=bind_some e;obtain ⟨y,e2,e⟩:=bind_some e
 obtain ⟨z,ds,rfl,rfl⟩:∃ z ds,x=.str z/\y=.lst ds:=by
  split at e
  · exact ⟨_,_,rfl,rfl⟩
  · cases e
 refine ⟨H0,Hs,τ,fp,_,st,sm,e1,λ v Hs1 H1 g1 r1=>?_⟩
 cases r1 with
 | str _ =>
  refine ⟨rfl,H0,Hs1,τ,fp,_,st.ext g1,g1.sh,e2,λ u Hs2 H2 g2 r2=>?_⟩
  cases r2 with
  | @lst p xs _ h r =>
   obtain ⟨ts,e3,e4⟩:=bind_some (e);have ed:=m5 e3;subst ed;have ex:=r.jE;subst ex;split at e4
   ·rename_i hs
    have e':=Zj e4;subst e';exact ⟨z,p,ts,rfl,rfl,SqL.of (g2.sh _ _ h),Z2 hs (by decide),k _ Hs2 H2 (g1.trans g2) (.str _)⟩
   · cases e4⟩
theorem zk (ha:Bx (PEd X a f)) (hb:Bx (PEd X b g)):Bx (PEo X (.BinOp a .Mult b pos) (KJ f g)):=⟨have ha:=ha.out; have hb:=hb.out; (yb Ed ha hb).imp λ σ H Q ⟨H0,Hs,τ,fp,d,st,sm,e,k⟩=>by
 obtain ⟨x,e1,e⟩:=bind_some e;obtain ⟨y,e2,e⟩:=bind_some e;refine ⟨H0,Hs,τ,fp,x,st,sm,e1,λ v Hs1 H1 g1 r1=>?_⟩;refine ⟨H0,Hs1,τ,fp,y,st.ext g1,g1.sh,e2,λ u Hs2 H2 g2 r2=>?_⟩
 cases r1 with
 | @lst p xs ds h r=>cases r2 with
  | int n =>
   simp only at e;split at e
   ·rename_i hh
    obtain ⟨b1,b2,b3⟩:=hh;have e':=Zj e;subst e';have g12:=g1.trans g2;have l:=r.length;refine ⟨p,n,xs,rfl,rfl,g2.sh _ _ (g2.ss _ _ h),by omega,by omega,by rw [l]; exact ue b3,λ q hq=>?_⟩;exact k q Hs2 _ ⟨g12.ss,g12.sh.trans (aC hq _),g12.hh.trans (aC hq _),g12.fr⟩ (.lst aw (g12.sh.free hq) ((r.same g2.ss).rep n.toNat)) (g12.hh.free hq)
   · cases e
  | _=>exact nn e
 | _=>cases y <;> exact nn e⟩
theorem jz (hm:X.mg x=none) (hm2:X.mg y=none) (ha:Bx (PEd X a f)) (hc:X.calm=true:=by rfl) (hg:Gl X x:=by rfl) (hv:bootBuiltins x=some (.type "list"):=by decide +kernel) (hg2:Gl X y:=by rfl) (hv2:bootBuiltins y=some (.type "reversed"):=by decide +kernel) (hn:x≠"__name__":=by decide) (hdb:Dg x:=by decide) (hn2:y≠"__name__":=by decide) (hdb2:(y == ("__debug__":Str))=false:=by decide) (he:starEach [.Call (.Name y p2) [a] [] pos2] X.env=(false,eval (.Call (.Name y p2) [a] [] pos2) X.env)::starEach [] X.env:=by rfl) (hpl:(backTo pos (starEach [] X.env)).any (·.1)=false:=by rfl) (he2:starEach [a] X.env=(false,eval a X.env)::starEach [] X.env:=by rfl) (hpl2:(backTo pos2 (starEach [] X.env)).any (·.1)=false:=by rfl):Bx (PEo X (.Call (.Name x p) [.Call (.Name y p2) [a] [] pos2] [] pos) (Di f)):=⟨have ha:=ha.out; (D5 hc hg hm hv hg2 hm2 hv2 ha hn hdb hn2 hdb2 he hpl he2 hpl2).imp λ σ H Q ⟨H0,Hs,τ,fp,d,st,sm,e,k⟩=>by
 obtain ⟨x,e1,e⟩:=bind_some e;refine ⟨H0,Hs,τ,fp,x,st,sm,e1,λ v Hs1 H1 g1 r1=>?_⟩
 have fin:∀ (p:Addr) (ys:List V) (ds:List D),H1 p=none->Rps X.K Hs1 ys ds->d=.lst ds->Q (.ref p) (upd H1 p (.lst ys)):=λ p ys ds hp r ed=>by
  subst ed;exact k p Hs1 _ ⟨g1.ss,g1.sh.trans (aC hp _),g1.hh.trans (aC hp _),g1.fr⟩ (.lst aw (g1.sh.free hp) r) (g1.hh.free hp)
 cases r1 with
 | @lst a ys ds h r=>exact ⟨_,_,rfl,SqL.of (g1.sh _ _ h),λ l hl=>fin l _ _ hl r.reverse (Zj e).symm⟩
 | @fz a ys ds h r=>exact ⟨_,_,rfl,g1.sh.seq h,λ l hl=>fin l _ _ hl r.reverse (Zj e).symm⟩
 | _=>exact nn e⟩
theorem xa (ha:Bx (PEd X a f)) (hb:Bx (PEd X b g)):Bx (PEo X (.BinOp a .Add b pos) (FP f g)):=⟨have ha:=ha.out; have hb:=hb.out; (yb zP ha hb).imp λ σ H Q ⟨H0,Hs,τ,fp,d,st,sm,e,k⟩=>by
 obtain ⟨x,e1,e⟩:=bind_some e;obtain ⟨y,e2,e⟩:=bind_some e
 obtain ⟨ds,es,rfl,rfl⟩:∃ ds es,x=.lst ds/\y=.lst es:=by
  split at e
  · exact ⟨_,_,rfl,rfl⟩
  · cases e
 refine ⟨H0,Hs,τ,fp,_,st,sm,e1,λ v Hs1 H1 g1 r1=>?_⟩;refine ⟨H0,Hs1,τ,fp,_,st.ext g1,g1.sh,e2,λ u Hs2 H2 g2 r2=>?_⟩
 cases r1 with
 | @lst p xs _ h r=>cases r2 with
  | @lst p' ys _ h' r' =>
   simp only at e;split at e
   ·rename_i hh
    have e':=Zj e;subst e';have g12:=g1.trans g2;refine ⟨p,p',xs,ys,rfl,rfl,g2.sh _ _ (g2.ss _ _ h),g2.sh _ _ h',by rw [r.length,r'.length]; exact ue hh,λ q hq=>?_⟩;exact k q Hs2 _ ⟨g12.ss,g12.sh.trans (aC hq _),g12.hh.trans (aC hq _),g12.fr⟩ (.lst aw (g12.sh.free hq) ((r.same g2.ss).append r')) (g12.hh.free hq)
   · cases e⟩
theorem oS (i:Nat) (hN:X.N[i]?=some x:=by exact rfl) (he:Bx (PEd X e f)) (hv:Vis X.env.scope x:=by walk_at "w") (hd:Dg x:=by decide) (hcd:Dc x:=by decide) (hbase:attributeBase (.Name x p) "extend" X.env (eval (.Name x p) X.env)=eval (.Name x p) X.env:=by rfl) (hfew:((backTo cpos (starEach [e] X.env)).all (λ x=>!x.1)&&(backToKw cpos (keywordEach [] X.env)).all (λ x=>x.1.isSome)
  && decide ([e].length+([]:List Keyword).length+(if ([]:List Keyword).isEmpty then 0 else 1) < 30))=true:=by rfl) (hline:(apos.endLine == cpos.line)=true:=by rfl) (hst:starEach [e] X.env=(false,eval e X.env)::starEach [] X.env:=by rfl) (hplain:(backTo cpos (starEach [] X.env)).any (·.1)=false:=by rfl) (hs:swapsWith (.Call (.Attribute (.Name x p) "extend" apos) [e] [] cpos) none pos.line X.env=pure false:=by rfl):Bx (PSd X (.Expr (.Call (.Attribute (.Name x p) "extend" apos) [e] [] cpos) pos) (CW i f)):=⟨have he:=he.out; (eh (pO Yn PySem.F.slot_list_extend PySem.F.type_list_extend vo (gG hN hv hd hcd) (aT he c8 hst) hbase hfew hline hst hplain) hs).imp λ E σ H ⟨Hs0,H0,Hs,τ,o,r,e,k⟩=>by
 obtain ⟨es,ds,e1,q,hl,rfl⟩:=FG e;obtain ⟨fp,h⟩:=r.st;obtain ⟨a,h1,h2,h3,h4⟩:=h.Cp q
 cases h2 with
 | @lst xs _ hH hn hr =>
  refine ⟨_,h1,.inl ⟨rfl,_,SqL.of hH⟩,?_⟩;refine ⟨H0,Hs,τ,fp,_,h,r.same,e1,λ v Hs' H' g1 rv=>?_⟩;have hH':=g1.hh _ _ hH;have h':=h.ext g1;have n':=g1.fr a hn (gJ hH)
  cases rv with
  | @lst b ys _ hB rb =>
   refine ⟨a,b,xs,ys,rfl,rfl,hH',g1.sh _ _ hB,by rw [hr.length,rb.length]; exact ue hl,?_⟩;refine k σ Hs' _ ⟨⟨r.ext.ss.trans g1.ss,λ b u z=>?_,λ b u z=>?_,λ b k1 k2=>?_⟩,fp,h'.mut q h1 (.lst aw n' ((hr.same g1.ss).append rb))⟩
   ·have ne:b≠a:=λ y=>by subst y; rw [n'] at z; cases z
    rw [ar ne]; exact g1.sh b u z
   ·have ne:b≠a:=λ y=>by subst y; rw [h3] at z; cases z
    rw [ar ne]; exact g1.hh b u (r.ext.hh b u z)
   · exact g1.fr b (r.ext.fr b k1 k2) (r.ext.hh.live k2)⟩
theorem xc (h:Bx (PEd X l f)):Bx (PId X tg l (Ck f)):=⟨have h:=h.out; (D2 h).imp λ σ H R ⟨H0,Hs,τ,fp,ds,st,sm,e,k⟩=>by
 obtain ⟨x,e1,e2⟩:=bind_some e;refine ⟨H0,Hs,τ,fp,x,st,sm,e1,λ v Hs' H' g r=>?_⟩
 cases r with
 | str z =>
  have e':=Zj e2;subst e';exact ⟨z,rfl,k _ Hs' H' g Cd⟩
 | _=>exact nn e2⟩
theorem qC (hm:X.mg "enumerate"=none) (ha:Bx (PAd X [a] f)) (hg:Gl X "enumerate":=by rfl) (hs:starEach [a] X.env=[(false,eval a X.env)]:=by rfl):Bx (PId X (.Tuple elts k pt) (.Call (.Name "enumerate" p) [a] [] pos) (qe f)):=⟨have ha:=ha.out; (xZ hg hm ha hs).imp λ σ H R ⟨H0,Hs,τ,fp,ds,st,sm,e,k⟩=>by
 obtain ⟨x,e1,e2⟩:=bind_some e;refine ⟨H0,Hs,τ,fp,x,st,sm,e1,λ v Hs' H' g r=>?_⟩
 match x,r,e2 with
 | [y],.cons hy .nil,e2 =>
  cases hy with
  | @tup a1 xs1 ds1 h1 r1 =>
   have e':eA ds1=ds:=Zj e2;subst e';exact ⟨a1,xs1,rfl,g.sh.tup h1,k _ Hs' H' g (vO h1 r1)⟩
  | _=>exact nn e2
 | [],_,e2=>simp at e2
 | _::_::_,_,e2=>simp at e2⟩
theorem iy (ho:Bx (PEd X o f)) (he:Bx (PEd X e g)) (hbase:attributeBase o "index" X.env (eval o X.env)=eval o X.env:=by rfl) (hfew:((backTo cpos (starEach [e] X.env)).all (λ x=>!x.1)&&(backToKw cpos (keywordEach [] X.env)).all (λ x=>x.1.isSome)
 && decide ([e].length+([]:List Keyword).length+(if ([]:List Keyword).isEmpty then 0 else 1) < 30))=true:=by rfl) (hline:(apos.endLine == cpos.line)=true:=by rfl) (hst:starEach [e] X.env=(false,eval e X.env)::starEach [] X.env:=by rfl) (hplain:(backTo cpos (starEach [] X.env)).any (·.1)=false:=by rfl):Bx (PEd X (.Call (.Attribute o "index" apos) [e] [] cpos) (dOp Em f g)):=⟨Eb ho.out he.out hbase hfew hline hst hplain⟩
theorem av (h:Bx (PVm X e f)):Bx (PEm X e f):=⟨PVm.em h.out⟩
theorem sg (h:Bx (PEd X e g)):Bx (PVm X e (eS g)):=⟨have h:=h.out; PE.imp h λ σ H Q ⟨Hs0,H0,nf,ρ,Hs,τ,s,τ',r,e,k⟩=>by
 obtain ⟨d,e1,e2⟩:=bind_some e;split at e2
 ·rename_i hs
  cases e2;obtain ⟨fp,st⟩:=r.st;exact ⟨H,H,bM τ,[],d,st.bM r.sm,.refl H,e1,λ v Hs' H' g1 rv=>k v Hs H' g1.hh ((r.grow g1.hh).push (uB rv hs))⟩
 · cases e2⟩
theorem a5 (h:Bx (PEd X e g)):Bx (PVm X e (eN g)):=⟨have h:=h.out; PE.imp h λ σ H Q ⟨Hs0,H0,nf,ρ,Hs,τ,s,τ',r,e,k⟩=>by
 obtain ⟨d,e1,e2⟩:=Zm e;cases e2;obtain ⟨fp,st⟩:=r.st
 exact ⟨H0,Hs,er τ,[],d,st.er,r.sm,e1,λ v Hs' H' g1 rv=>k v Hs' H' g1.hh ((r.ext' g1).push rv)⟩⟩
theorem jh (h:Bx (PEo X e g)):Bx (PVm X e (eO g)):=⟨have h:=h.out; PE.imp h λ σ H Q ⟨Hs0,H0,nf,ρ,Hs,τ,s,τ',r,e,k⟩=>by
 obtain ⟨d,e1,e2⟩:=bind_some e;split at e2
 ·split at e2
  ·rename_i hs
   cases e2;obtain ⟨fp,st⟩:=r.st;refine ⟨H,H,bM τ,[],_,st.bM r.sm,.refl H,e1,λ a Hs' H' g1 ow hn=>?_⟩
   cases ow with
   | lst h n rr=>exact k _ Hs H' g1.hh (r.AS g1.hh (Od.lst h (r.sm.free hn) (pC rr hs)) λ c hc=>by rw [Zr.mp hc]; exact hn)
  · cases e2
 · cases e2⟩
theorem au (i:Nat) (hN:X.N[i]?=some x:=by exact rfl) (hv:Vis X.env.scope x:=by walk_at "w") (hd:Dg x:=by decide) (hcd:Dc x:=by decide):Bx (PXm X (.Name x p) (cI i)):=⟨(gG hN hv hd hcd).imp λ σ H Q ⟨Hs0,H0,nf,ρ,Hs,τ,i',q,m,r,e,eg,k⟩=>by
 cases e;obtain ⟨b,m',e3,e4⟩:=eJ eg;obtain ⟨fp,st⟩:=r.st;obtain ⟨v,fp1,v1,w1,w2,_⟩:=st.sv e3 e4
 exact ⟨v,w1,k v v H (.refl H) w1 (by cases v <;> rfl)⟩⟩
theorem dq (cl:Cls X.K C) (n:cU X.K C x) (he:Bx (PXm X e f)) (hb:attributeBase e x X.env (eval e X.env)=eval e X.env:=by rfl):Bx (PXm X (.Attribute e x pos) (l5 C x f)):=⟨have he:=he.out; (zL he hb).imp λ σ H Q ⟨Hs0,H0,nf,ρ,Hs,τ,i',q',m,r,e,eg,k⟩=>by
 obtain ⟨⟨i,q⟩,e1,e2⟩:=bind_some e;split at e2
 ·rename_i C' cs en
  split at e2
  ·rename_i hc
   subst hc;cases e2;refine ⟨Hs0,H0,nf,ρ,Hs,τ,i,q,_,r,e1,en,λ v v1 H' g hv hq=>?_⟩;obtain ⟨a,dx,ts,u,w,rfl,rfl,ha,hl,w1,w2⟩:=(r.grow g).child en eg hv hq;generalize ek:ts.map Kd.kv=kvs at hl
   cases hl with
   | o fs =>
    have w3:((cH (fs.map λ f=>((Sum.inr f.1:Key),f.2)) (.inr x)).bind λ v=>vAt H' v [])=some w:=by
     have:=w2;simp only [vAt,ha] at this;exact this
    obtain ⟨y,h1,h2⟩:=bind_some w3;have ey:y=w:=by cases y <;> exact Zj h2
    subst ey;rw [lV] at h1;exact ⟨a,C',dx,fs,y,rfl,ha,cl,n,h1,k v y H' g hv w1⟩
  · cases e2
 · cases e2⟩
theorem gz (hu:X.A.units+1 < cLine) (hs:Hj b) (he:Bx (PXm X a f)) (hk:Bx (PEd X b g)):Bx (PXm X (.Subscript a b pos) (pL f g)):=⟨have he:=he.out; have hk:=hk.out; (pN hu he hk hs).imp λ σ H Q ⟨Hs0,H0,nf,ρ,Hs,τ,i',q',m,r,e,eg,k⟩=>by
 obtain ⟨⟨i,q⟩,e1,e2⟩:=bind_some e;obtain ⟨d,e3,e4⟩:=bind_some e2;obtain ⟨ky,e5,e6⟩:=bind_some e4;split at e6
 ·rename_i cs en
  cases e6;refine ⟨Hs0,H0,nf,ρ,Hs,τ,i,q,_,r,e1,en,λ v v1 H1 g1 hv hq=>?_⟩;have r1:=r.grow g1;obtain ⟨fp,st⟩:=r1.st;refine ⟨H1,H1,bM τ,[],d,st.bM r1.sm,.refl H1,e3,λ y Hs2 H2 g2 ry=>?_⟩;have hy:=lE ry e5;subst hy;obtain ⟨a,dx,ts,u,w,rfl,rfl,ha,hl,w1,w2⟩:=(r1.grow g2.hh).child en eg hv (cy g2.hh q hq);generalize ek:ts.map Kd.kv=kvs at hl
  cases hl with
  | d _ =>
   have w3:((cH kvs ky).bind λ v=>vAt H2 v [])=some w:=by
    have:=w2;simp only [vAt,ha] at this;exact this
   obtain ⟨y,h1,h2⟩:=bind_some w3;have ey:y=w:=by cases y <;> exact Zj h2
   subst ey;exact ⟨a,y,rfl,by rw [<- h1]; exact mW.k ha,k v y H2 (g1.trans g2.hh) hv w1⟩
 · cases e6⟩
theorem bh  : Bx (uh X [] ng):=⟨l6.imp λ E σ H ⟨Hs0,H0,nf,ρ,Hs,τ,o,r,e,k⟩=>by
 cases e
 exact k σ Hs H r⟩
section
variable {X:Cx} {a b c e o:Expr} {es:List Expr} {pos apos cpos pos':Pos} {x:Str} {st:Stmt} {rest:List Stmt} {f g:DSm}
theorem aF (h:Bx (PSm X st f)):Bx (uh X [st] f):=⟨have h:=h.out; d9 h⟩
end
section
variable {X:Cx} {a b c e o:Expr} {es:List Expr} {pos apos cpos pos':Pos} {x:Str} {st:Stmt} {rest:List Stmt} {f g:DSm}
theorem ai (h1:Bx (PSm X st f)) (h2:Bx (uh X rest g)):Bx (uh X (st::rest) (iz f g)):=⟨have h1:=h1.out; have h2:=h2.out; (ff h1 h2).imp λ E σ H ⟨Hs0,H0,nf,ρ,Hs,τ,o,r,e,k⟩=>by
 unfold iz at e
 cases q:f τ with
 | none=>rw [q] at e; cases e
 | some o1 =>
  rw [q] at e;refine ⟨Hs0,H0,nf,ρ,Hs,τ,o1,r,q,?_⟩
  cases o1 with
  | next τ'=>exact λ σ' Hs' H' r'=>⟨Hs0,H0,nf,ρ,Hs',τ',o,r',e,k⟩
  | ret s τ'=>cases e; exact k
  | brk τ'=>cases e; exact k
  | cnt τ'=>cases e; exact k⟩
end
section
variable {X:Cx} {a b c e o:Expr} {es:List Expr} {pos apos cpos pos':Pos} {x:Str} {st:Stmt} {rest:List Stmt} {f g:DSm}
theorem kE  : Bx (PSm X st AI):=⟨λ _ _ _ _ _ _ ⟨_,_,_,_,_,_,_,_,e,_⟩=>by cases e⟩
end
theorem bT (hc:Bx (PTm X c t)) (ha:Bx (uh X x f)) (hb:Bx (uh X y g)):Bx (PSm X (.If c x y pos) (xv t f g)):=⟨have hc:=hc.out; have ha:=ha.out; have hb:=hb.out; (xX hc ha hb).imp λ E σ H ⟨Hs0,H0,nf,ρ,Hs,τ,o,r,e,k⟩=>by
 obtain ⟨⟨bb,τ1⟩,e1,e2⟩:=bind_some e;refine ⟨Hs0,H0,nf,ρ,Hs,τ,bb,τ1,r,e1,λ Hs' H' r'=>?_⟩
 cases bb with
 | true=>exact ⟨Hs0,H0,nf,ρ,Hs',τ1,o,r',by simpa using e2,k⟩
 | false=>exact ⟨Hs0,H0,nf,ρ,Hs',τ1,o,r',by simpa using e2,k⟩⟩
theorem bw (h:Bx (PEm X e f)):Bx (PSm X (.Return (some e) pos) (uE f)):=⟨have h:=h.out; (iW h).imp λ E σ H ⟨Hs0,H0,nf,ρ,Hs,τ,o,r,e,k⟩=>by
 obtain ⟨⟨s,τ1⟩,e1,rfl⟩:=Zm e
 exact ⟨Hs0,H0,nf,ρ,Hs,τ,s,τ1,r,e1,λ v Hs' H' r'=>k v σ Hs' H' r'⟩⟩
theorem aM (i:Nat) (hN:X.N.Nodup) (hi:X.N[i]?=some x:=by exact rfl) (he:Bx (PEm X e f)) (hx:Loc X.env.scope x:=by walk_at "v") (hs:Sw X e x pos' pos:=by rfl) (hf:Xl X x:=by walk_at "v"):Bx (PSm X (.Assign [.Name x pos'] e pos) (pF i f)):=⟨have he:=he.out; (jM hN hi hx he hs hf).imp λ E σ H ⟨Hs0,H0,nf,ρ,Hs,τ,o,r,e,k⟩=>by
 obtain ⟨⟨s,τ1⟩,e1,e2⟩:=bind_some e;split at e2
 ·rename_i h
  cases e2;exact ⟨Hs0,H0,nf,ρ,Hs,τ,s,τ1,r,e1,λ v Hs' H' r'=>k _ Hs' H' (r'.into h.1 h.2)⟩
 · cases e2⟩
theorem cn (he:Bx (PEm X e f)) (hs:swapsWith e none pos.line X.env=pure false:=by rfl):Bx (PSm X (.Expr e pos) (hG f)):=⟨have he:=he.out; (eh he hs).imp λ E σ H ⟨Hs0,H0,nf,ρ,Hs,τ,o,r,e,k⟩=>by
 obtain ⟨⟨s,τ1⟩,e1,rfl⟩:=Zm e
 exact ⟨Hs0,H0,nf,ρ,Hs,τ,s,τ1,r,e1,λ v Hs' H' r'=>k σ Hs' H' r'.pop⟩⟩
theorem bY (he:Bx (PEd X e g)) (hs:swapsWith e none pos.line X.env=pure false:=by rfl):Bx (PSm X (.Expr e pos) (uG g)):=⟨have he:=he.out; (eh he hs).imp λ E σ H ⟨Hs0,H0,nf,ρ,Hs,τ,o,r,e,k⟩=>by
 obtain ⟨d,e1,rfl⟩:=Zm e;obtain ⟨fp,st⟩:=r.st
 exact ⟨H,H,bM τ,[],d,st.bM r.sm,.refl H,e1,λ v Hs' H' g1 rv=>k σ Hs H' (r.grow g1.hh)⟩⟩
theorem dI (h:Bx (PTd X e g)):Bx (PTm X e (tS g)):=⟨have h:=h.out; PT.imp h λ σ H Q ⟨Hs0,H0,nf,ρ,Hs,τ,b,τ',r,e,k⟩=>by
 obtain ⟨b',e1,e2⟩:=Zm e;cases e2;obtain ⟨fp,st⟩:=r.st
 exact ⟨H,H,bM τ,[],b,st.bM r.sm,.refl H,e1,λ Hs' H' g1=>k Hs H' (r.grow g1.hh)⟩⟩
theorem kB (h:Bx (PEm X e f)) (he:∀ whole,isTrue e X.env whole=(do let v <- whole; standAt e.pos; holding [v] (truthy v)):=by intro _; rfl):Bx (PTm X e (tE f)):=⟨have h:=h.out; (qW h he).imp λ σ H Q ⟨Hs0,H0,nf,ρ,Hs,τ,b,τ',r,e,k⟩=>by
 obtain ⟨⟨s,τ1⟩,e1,e2⟩:=bind_some e;split at e2
 ·rename_i b' es
  cases e2;have es':s=.shr (.bl b):=es;subst es';refine ⟨Hs0,H0,nf,ρ,Hs,τ,_,τ1,r,e1,λ v Hs' H' r'=>?_⟩;have:=r'.st;obtain ⟨fp,st⟩:=this
  cases st with
  | shr h _=>cases h; exact ⟨b,rfl,k Hs' H' r'.pop⟩
 · cases e2⟩
theorem kC (h:Bx (PTm X e f)):Bx (PTm X (.UnaryOp .Not e pos) (tNt f)):=⟨have h:=h.out; (zH h).imp λ σ H Q ⟨Hs0,H0,nf,ρ,Hs,τ,b,τ',r,e,k⟩=>by
 obtain ⟨⟨b',τ1⟩,e1,e2⟩:=Zm e;cases e2
 exact ⟨Hs0,H0,nf,ρ,Hs,τ,b',_,r,e1,λ Hs' H' r'=>k Hs' H' r'⟩⟩
theorem bz (hu:X.A.units+1 < cLine) (ho:Bx (PXm X o px)) (hi:Bx (PEd X i gk)) (hv:Bx (PEm X value fv)) (hs:swapsWith value (some (.Subscript o i pos')) pos.line X.env=pure false:=by rfl):Bx (PSm X (.Assign [.Subscript o i pos'] value pos) (gF px gk fv)):=⟨have ho:=ho.out; have hi:=hi.out; have hv:=hv.out; (uQ hu ho hi hv hs).imp λ E σ H ⟨Hs0,H0,nf,ρ,Hs,τ,o,r,e,k⟩=>by
 obtain ⟨⟨s,τ1⟩,e1,e⟩:=bind_some e;obtain ⟨⟨i,q⟩,e2,e⟩:=bind_some e;obtain ⟨d,e3,e⟩:=bind_some e;obtain ⟨ky,e4,e⟩:=bind_some e;obtain ⟨mv,e5,e⟩:=bind_some e;split at e
 ·rename_i cs en
  split at e
  ·rename_i hz
   cases e;refine ⟨Hs0,H0,nf,ρ,Hs,τ,s,τ1,r,e1,λ v Hs1 H1 r1=>?_⟩;refine ⟨Hs0,H0,nf,ρ,Hs1,τ1,i,q,_,r1.pop,e2,en,λ rt v1 H2 g2 hrt hq=>?_⟩;have r2:=r1.grow g2;obtain ⟨fp,st⟩:=r2.pop.st;refine ⟨H2,H2,bM τ1,[],d,st.bM r2.sm,.refl H2,e3,λ y Hs3 H3 g3 ry=>?_⟩;have hy:=lE ry e4;subst hy;obtain ⟨a,dx,ts,u,fv,rfl,rfl,ha,hl,ku,fin⟩:=(r2.grow g3.hh).vm e5 en hrt (cy g3.hh q hq);obtain ⟨l1,l2,hsub,spl⟩:=nj ky ku;obtain ⟨p1,p2,p3⟩:=spl ⟨ky,v,mv,fv⟩ rfl;generalize ek:ts.map Kd.kv=kvs at hl
   cases hl with
   | d _ =>
    refine ⟨a,_,rfl,zt.k ha (by rw [<- ek,Za,<- Za (f:=Kd.km)]; exact le5 (Yz hz)),?_⟩;have:=fin l1 ky l2 (.dK (putK kvs ky v)) hsub (by rw [p1,ek]; exact .d _) p3;rw [p2] at this;exact k σ Hs1 _ this
  · cases e
 · cases e⟩
theorem cT (cl:Cls X.K C) (n:cU X.K C x) (ho:Bx (PXm X o px)) (hv:Bx (PEm X value fv)) (hs:swapsWith value (some (.Attribute o x pos')) pos.line X.env=pure false:=by rfl):Bx (PSm X (.Assign [.Attribute o x pos'] value pos) (uF C x px fv)):=⟨have ho:=ho.out; have hv:=hv.out; (zI ho hv hs).imp λ E σ H ⟨Hs0,H0,nf,ρ,Hs,τ,o,r,e,k⟩=>by
 obtain ⟨⟨s,τ1⟩,e1,e⟩:=bind_some e;obtain ⟨⟨i,q⟩,e2,e⟩:=bind_some e;obtain ⟨mv,e5,e⟩:=bind_some e;split at e
 ·rename_i C' cs en
  split at e
  ·rename_i hz
   obtain ⟨hc,hz⟩:=hz;subst hc;cases e;refine ⟨Hs0,H0,nf,ρ,Hs,τ,s,τ1,r,e1,λ v Hs1 H1 r1=>?_⟩;refine ⟨Hs0,H0,nf,ρ,Hs1,τ1,i,q,_,r1.pop,e2,en,λ rt v1 H2 g2 hrt hq=>?_⟩;obtain ⟨a,dx,ts,u,fv,rfl,rfl,ha,hl,ku,fin⟩:=(r1.grow g2).vm e5 en hrt hq;obtain ⟨l1,l2,hsub,spl⟩:=nj (.inr x) ku;obtain ⟨p1,p2,p3⟩:=spl ⟨.inr x,v,mv,fv⟩ rfl;have ku':(ts.map Kd.k).Nodup:=ku;generalize ek:ts.map Kd.kv=kvs at hl
   cases hl with
   | o fs =>
    have nf:(fs.map Prod.fst).Nodup:=by
     have e0:ts.map Kd.k=(fs.map Prod.fst).map (λ x=>(Sum.inr x:Key)):=by
      rw [Z7,show ts.map Kd.k=(ts.map Kd.kv).map Prod.fst by rw [Z7]; rfl,ek,Z7];rfl
     rw [e0] at ku';exact List.Pairwise.of_map _ (λ a b h e=>h (by rw [e])) ku'
    refine ⟨a,C',dx,fs,rfl,ha,cl,n,?_,?_⟩
    ·have:=Z9 List.length ek
     rw [Za,Za] at this;rw [Za] at hz;omega
    ·have:=fin l1 (.inr x) l2 (.ins C' dx (kU x v fs)) hsub (by rw [p1,ek,<- qV nf]; exact .o _) p3
     rw [p2] at this;exact k σ Hs1 _ this
  · cases e
 · cases e⟩
theorem oP (ho:Bx (PXm X o px)) (he:Bx (PVm X e fv)) (hbase:attributeBase o "append" X.env (eval o X.env)=eval o X.env:=by rfl) (hfew:((backTo cpos (starEach [e] X.env)).all (λ x=>!x.1)&&(backToKw cpos (keywordEach [] X.env)).all (λ x=>x.1.isSome)
  && decide ([e].length+([]:List Keyword).length+(if ([]:List Keyword).isEmpty then 0 else 1) < 30))=true:=by rfl) (hline:(apos.endLine == cpos.line)=true:=by rfl) (hst:starEach [e] X.env=(false,eval e X.env)::starEach [] X.env:=by rfl) (hplain:(backTo cpos (starEach [] X.env)).any (·.1)=false:=by rfl) (hs:swapsWith (.Call (.Attribute o "append" apos) [e] [] cpos) none pos.line X.env=pure false:=by rfl):Bx (PSm X (.Expr (.Call (.Attribute o "append" apos) [e] [] cpos) pos) (pI px fv)):=⟨have ho:=ho.out; have he:=he.out; (eh (pO Yn PySem.F.slot_list_append PySem.F.type_list_append jY ho (aT he c8 hst) hbase hfew hline hst hplain) hs).imp λ E σ H ⟨Hs0,H0,nf,ρ,Hs,τ,o,r,e,k⟩=>by
 obtain ⟨⟨i,q⟩,e1,e⟩:=bind_some e;split at e
 ·rename_i cs0 en0
  obtain ⟨⟨s,τ1⟩,e2,e⟩:=bind_some e;obtain ⟨mv,e3,e⟩:=bind_some e;split at e
  ·rename_i cs en
   split at e
   ·rename_i hz
    cases e;refine ⟨Hs0,H0,nf,ρ,Hs,τ,i,q,_,r,e1,en0,λ rt v1 H1 g1 hrt hq=>⟨(r.grow g1).isList en0 hrt hq,?_⟩⟩;refine ⟨Hs0,H0,nf,ρ,Hs,τ,s,τ1,r.grow g1,e2,λ v Hs2 H2 g2 r2=>?_⟩;obtain ⟨a,dx,ts,u,fv,rfl,rfl,ha,hl,ku,fin⟩:=r2.vm e3 en hrt (cy g2 q hq);rw [p7 hl] at ha;refine ⟨a,_,v,rfl,rfl,ha,by rw [Za]; rw [Za] at hz; exact le5 (Yz hz),?_⟩
    have:=fin ts (.inl 0) [] (.lst (ts.map Kd.v++[v])) (by rw [Zz]; exact .refl _) (by
     have:=rE (dx:=dx) (ts:=ts++[⟨.inl 0,v,mv,fv⟩]);rw [Zk (f:=Kd.v)] at this
     exact this) trivial
    rw [Zk] at this;exact k σ Hs2 _ this
   · cases e
  · cases e
 · cases e⟩
theorem oK (ho:Bx (PXm X o px)) (hi:Bx (PEd X i gi)) (he:Bx (PVm X e fv)) (hbase:attributeBase o "insert" X.env (eval o X.env)=eval o X.env:=by rfl) (hfew:((backTo cpos (starEach [i,e] X.env)).all (λ x=>!x.1)&&(backToKw cpos (keywordEach [] X.env)).all (λ x=>x.1.isSome)
  && decide ([i,e].length+([]:List Keyword).length+(if ([]:List Keyword).isEmpty then 0 else 1) < 30))=true:=by rfl) (hline:(apos.endLine == cpos.line)=true:=by rfl) (hst:starEach [i,e] X.env=(false,eval i X.env)::starEach [e] X.env:=by rfl) (hst2:starEach [e] X.env=(false,eval e X.env)::starEach [] X.env:=by rfl) (hplain:(backTo cpos (starEach [e] X.env)).any (·.1)=false:=by rfl) (hs:swapsWith (.Call (.Attribute o "insert" apos) [i,e] [] cpos) none pos.line X.env=pure false:=by rfl):Bx (PSm X (.Expr (.Call (.Attribute o "insert" apos) [i,e] [] cpos) pos) (AJ px gi fv)):=⟨have ho:=ho.out; have hi:=hi.out; have he:=he.out; (eh (D9 (KK:=X.K) rfl ho hi he hbase hfew hline hst hst2 hplain) hs).imp λ E σ H ⟨Hs0,H0,nf,ρ,Hs,τ,o,r,e,k⟩=>by
 obtain ⟨⟨i,q⟩,e1,e⟩:=bind_some e;split at e
 ·rename_i cs0 en0
  obtain ⟨d,e4,e5⟩:=bind_some e;obtain ⟨⟨s,τ1⟩,e2,e6⟩:=bind_some e5;obtain ⟨mv,e3,e7⟩:=bind_some e6;clear e e5 e6;split at e7
  ·rename_i j cs en
   split at e7
   ·rename_i hz
    obtain ⟨h0,h1,hz⟩:=hz;cases e7;refine ⟨Hs0,H0,nf,ρ,Hs,τ,i,q,_,r,e1,en0,λ rt v1 H1 g1 hrt hq=>⟨(r.grow g1).isList en0 hrt hq,?_⟩⟩;have r1:=r.grow g1;obtain ⟨fp,st⟩:=r1.st;refine ⟨H1,H1,bM τ,[],_,st.bM r1.sm,.refl H1,e4,λ y Hs2 H2 g2 ry=>?_⟩;cases ry;have r2:=r1.grow g2.hh;refine ⟨Hs0,H0,nf,ρ,Hs,τ,s,τ1,r2,e2,λ v Hs3 H3 g3 r3=>?_⟩;obtain ⟨a,dx,ts,u,fv,rfl,rfl,ha,hl,ku,fin⟩:=r3.vm e3 en hrt (cy g3 q (cy g2.hh q hq));rw [p7 hl] at ha;rw [Za] at h1 hz;refine ⟨a,_,j,v,rfl,rfl,ha,h0,by rw [Za]; exact h1,by rw [Za]; exact le5 (Yz hz),by omega,?_⟩
    have:=fin (ts.take j.toNat) (.inl 0) (ts.drop j.toNat) (.lst ((ts.map Kd.v).take j.toNat++v::(ts.map Kd.v).drop j.toNat)) (by rw [Xu]; exact .refl _) (by
     have:=rE (dx:=dx) (ts:=ts.take j.toNat++⟨.inl 0,v,mv,fv⟩::ts.drop j.toNat);rw [Zk (f:=Kd.v),Zh,X3,X4] at this
     exact this) trivial
    rw [Zk,Zh,X3,X4] at this;exact k σ Hs3 _ this
   · cases e7
  · cases e7
 · cases e⟩
theorem wZ (ho:Bx (PXm X o px)) (hbase:attributeBase o "clear" X.env (eval o X.env)=eval o X.env:=by rfl) (hline:(apos.endLine == cpos.line)=true:=by rfl) (hs:swapsWith (.Call (.Attribute o "clear" apos) [] [] cpos) none pos.line X.env=pure false:=by rfl):Bx (PSm X (.Expr (.Call (.Attribute o "clear" apos) [] [] cpos) pos) (AL px)):=⟨have ho:=ho.out; (eh (zM Yn PySem.F.slot_list_clear PySem.F.type_list_clear yt ho hbase hline) hs).imp λ E σ H ⟨Hs0,H0,nf,ρ,Hs,τ,o,r,e,k⟩=>by
 obtain ⟨⟨i,q⟩,e1,e⟩:=bind_some e;split at e
 ·rename_i cs en
  cases e;refine ⟨Hs0,H0,nf,ρ,Hs,τ,i,q,_,r,e1,en,λ rt v1 H1 g1 hrt hq=>⟨(r.grow g1).isList en hrt hq,?_⟩⟩;obtain ⟨a,dx,ts,u,rfl,rfl,ha,hl,ku,hrp,fin⟩:=(r.grow g1).tf en hrt hq;rw [p7 hl] at ha;refine ⟨a,_,rfl,rfl,ha,?_⟩;exact k σ Hs _ (fin [] [] (.lst []) (List.nil_sublist _) (λ k hk=>by cases hk) (rE (dx:=dx) (ts:=[])) trivial)
 · cases e⟩
theorem wY (m:M1 X o "pop" apos e cpos) (ho:Bx (PXm X o px)) (he:Bx (PEd X e gk)) (hs:swapsWith (.Call (.Attribute o "pop" apos) [e] [] cpos) none pos.line X.env=pure false:=by rfl):Bx (PSm X (.Expr (.Call (.Attribute o "pop" apos) [e] [] cpos) pos) (AH px gk)):=⟨have ho:=ho.out; have he:=he.out; (eh (ye ho he m) hs).imp λ E σ H ⟨Hs0,H0,nf,ρ,Hs,τ,o,r,e,k⟩=>by
 obtain ⟨⟨i,q⟩,e1,e⟩:=bind_some e;obtain ⟨d,e2,e⟩:=bind_some e;obtain ⟨ky,e3,e⟩:=bind_some e;split at e
 ·rename_i cs en
  split at e
  ·rename_i hz
   cases e;refine ⟨Hs0,H0,nf,ρ,Hs,τ,i,q,_,r,e1,en,λ rt v1 H1 g1 hrt hq=>?_⟩;have r1:=r.grow g1;obtain ⟨a,dx,ts,u,rfl,rfl,ha,hl,ku,hrp,fin⟩:=r1.tf en hrt hq;rw [EZ hl] at ha;obtain ⟨fp,st⟩:=r1.st;refine ⟨a,rfl,.inl ⟨_,.inl ha⟩,H1,H1,bM τ,[],_,st.bM r1.sm,.refl H1,e2,λ y Hs2 H2 g2 ry=>?_⟩;have hy:=lE ry e3;subst hy;have r2:=r1.grow g2.hh;obtain ⟨a',dx',ts',u',ea,ec,ha',hl',ku',hrp',fin'⟩:=r2.tf en hrt (cy g2.hh q hq);cases ea;have ha2:=ha';rw [EZ hl'] at ha2;have eq:=g2.hh _ _ ha;rw [ha2] at eq;rw [ec] at hz;obtain ⟨w,hw⟩:=CP hz;refine ⟨_,ky,w,ha2,rfl,hw,?_⟩
   have:=fin' (ts'.filter λ c=>decide (c.k≠ky)) [] (.dK (qq (ts'.map Kd.kv) ky)) List.filter_sublist (λ k hk=>by cases hk) (by
    rw [Zz];unfold qq;rw [X6]
    exact .d _) (by
    rw [Zz];show ((ts'.filter _).map Kd.k).Nodup
    exact List.Nodup.sublist (List.filter_sublist.map _) ku')
   rw [Zz] at this
   have em:(ts'.filter λ c=>decide (c.k≠ky)).map Kd.km=tW (ts.map Kd.km) ky:=by
    rw [ec];unfold tW;rw [X6];rfl
   rw [em] at this;exact k σ Hs _ this
  · cases e
 · cases e⟩
theorem FW (h:Bx (PEd X e g)):Bx (PQm X e (qS g)):=⟨have h:=h.out; PE.imp h λ σ H Q ⟨Hs0,H0,nf,ρ,Hs,τ,a,r,e,k⟩=>by
 obtain ⟨d,e1,e2⟩:=bind_some e;split at e2
 ·rename_i hs
  cases e2;obtain ⟨fp,st⟩:=r.st;exact ⟨H,H,bM τ,[],d,st.bM r.sm,.refl H,e1,λ v Hs' H' g1 rv=>k v Hs H' g1.hh (r.grow g1.hh) (.refl _) (.v (uB rv hs) .nil)⟩
 · cases e2⟩
theorem bC (h:Bx (PEd X e g)):Bx (PQm X e (qN g)):=⟨have h:=h.out; PE.imp h λ σ H Q ⟨Hs0,H0,nf,ρ,Hs,τ,a,r,e,k⟩=>by
 obtain ⟨d,e1,e2⟩:=Zm e;cases e2;obtain ⟨fp,st⟩:=r.st
 exact ⟨H0,Hs,er τ,[],d,st.er,r.sm,e1,λ v Hs' H' g1 rv=>k v Hs' H' g1.hh (r.ext' g1) g1.ss (.v rv .nil)⟩⟩
theorem bI (h:Bx (PXm X e f)):Bx (PQm X e (qX f)):=⟨have h:=h.out; PE.imp h λ σ H Q ⟨Hs0,H0,nf,ρ,Hs,τ,a,r,e,k⟩=>by
 obtain ⟨⟨i,q⟩,e1,e2⟩:=bind_some e;split at e2
 ·rename_i t cs eg
  cases e2;exact ⟨Hs0,H0,nf,ρ,Hs,τ,i,q,_,r,e1,eg,λ v v1 H' g hv hq=>k v1 Hs H' g (r.grow g) (.refl _) (.p hv hq .nil)⟩
 ·rename_i d eg
  cases e2;refine ⟨Hs0,H0,nf,ρ,Hs,τ,i,q,_,r,e1,eg,λ v v1 H' g hv hq=>?_⟩;have r':=r.grow g;obtain ⟨fp,st⟩:=r'.st;obtain ⟨b,m,e3,e4⟩:=eJ eg;obtain ⟨v',fp1,v1',w1,w2,w3,_⟩:=st.sv e3 e4;rw [hv] at w1;cases w1;rw [hq] at w2;cases w2
  cases w3 with
  | s rr=>exact k v1 Hs H' g r' (.refl _) (.v rr .nil)
 · cases e2⟩
theorem bp  : Bx (PAm X [] oZ):=⟨c8.imp λ σ H Q ⟨Hs0,H0,nf,ρ,Hs,τ,as,r,e,k⟩=>by
 cases e
 exact k [] Hs H (.refl H) r (.refl _) .nil⟩
theorem ak (h1:Bx (PQm X e h)) (h2:Bx (PAm X es g)) (hs:Se X e es:=by rfl):Bx (PAm X (e::es) (bK h g)):=⟨have h1:=h1.out; have h2:=h2.out; (aT h1 h2 hs).imp λ σ H Q ⟨Hs0,H0,nf,ρ,Hs,τ,as,r,e,k⟩=>by
 obtain ⟨a,e1,e2⟩:=bind_some e;obtain ⟨as',e3,e4⟩:=Zm e2;cases e4;refine ⟨Hs0,H0,nf,ρ,Hs,τ,a,r,e1,λ v Hs1 H1 g1 r1 s1 a1=>?_⟩;refine ⟨Hs0,H0,nf,ρ,Hs1,τ,as',r1,e3,λ vs Hs2 H2 g2 r2 s2 a2=>?_⟩
 exact k (v::vs) Hs2 H2 (g1.trans g2) r2 (s1.trans s2) ((a1.ext s2 g2).app a2)⟩
theorem dM (Fo:Go X.prog X.w X.K X.mg X.base k x (spM F X.K)) (hr:d2 jj X.A) (ha:Bx (PAm X (e::es) g)) (hj:k<=jj:=by decide) (hg:Gl X x:=by rfl) (hdb:Dg x:=by decide) (he:Se X e es:=by rfl) (hpl:Sb X pos es:=by rfl):Bx (PEm X (.Call (.Name x p) (e::es) [] pos) (eC F g)):=by
 have ⟨f',fd',ps',hm,hk,hb,Fo⟩:=Fo.go;have hr:=hr.mono hj;exact ⟨A3 Fo hr hg hm hk hb ha.out hdb he hpl⟩
theorem dJ (c:Cls X.K C) (Fo:GoM X.prog X.w X.K X.mg X.base k C m (spM F X.K)) (hr:d2 jj X.A) (ho:Bx (PXm X o fx)) (ha:Bx (PAm X (e::es) g)) (hj:k<=jj:=by decide) (hst:Se X e es:=by rfl) (hpl:Sb X pos es:=by rfl) (ht:eval (.Call (.Attribute o m apos) (e::es) [] pos) X.env=(do
  let ov <- eval o X.env
  standAt apos.atName
  let (f,first) <- holding [ov] (getMethod ov m pl)
  callWith pos f first (backTo pos (starEach (e::es) X.env)) (backToKw pos (keywordEach [] X.env))):=by rfl):Bx (PEm X (.Call (.Attribute o m apos) (e::es) [] pos) (eM C m F fx g)):=by
 have ⟨f',fd',ps',hm,hb,Fo⟩:=Fo.go;have hr:=hr.mono hj;exact ⟨A1 ho.out c hm Fo hr hb ha.out hst hpl ht⟩
theorem xb (Fo:GoI X.prog X.w X.K X.mg X.base k C (spM F X.K)) (hr:d2 jj X.A) (hm:X.mg x=some (.ref C)) (ha:Bx (PAm X (e::es) g)) (hj:k+1<=jj:=by decide) (hg:Gl X x:=by rfl) (hdb:Dg x:=by decide) (he:Se X e es:=by rfl) (hpl:Sb X pos es:=by rfl):Bx (PEm X (.Call (.Name x p) (e::es) [] pos) (eK C F g)):=by
 have ⟨f',fd',ps',M,hb,Fo⟩:=Fo.go;have hr:=hr.mono hj;exact ⟨A2 M Fo hr hg hm hb ha.out hdb he hpl⟩
theorem gT  : Bx (PVm X (.Dict [] [] pos) eD0):=⟨yg.imp λ σ H Q ⟨Hs0,H0,nf,ρ,Hs,τ,s,τ',r,e,k⟩=>by
 cases e;intro p hp
 exact k (.ref p) Hs _ (aC hp _) (r.AS (aC hp _) (fq:=[p]) (Od.n (ts:=[]) (dx:=0) (u:=.dK []) aw (.d []) (r.sm.free hp) (by show ([]:List Key).Nodup; exact .nil) (by simp) (λ c hc=>by cases hc)) λ c hc=>by rw [Zr.mp hc]; exact hp)⟩
theorem Aj (h:Bx (PEo X e g)):Bx (PVm X e (eF g)):=⟨ML h.out⟩
theorem qB (hk:PE X kx (tC (kV kc))) (hv:Bx (PVm X value fv)):Bx (PVm X (.Dict [some kx] [value] pos) (eD1 kc fv)):=⟨have hv:=hv.out; (@A7 X pos [some kx] [value] _ (@xY _ _ _ _ _ _ _ _ _ hk hv AX) rfl rfl (by simp) (by simp)).imp λ σ H Q ⟨Hs0,H0,nf,ρ,Hs,τ,s,τ',r,e,k⟩=>by
 obtain ⟨⟨s1,τ1⟩,e1,e2⟩:=bind_some e;obtain ⟨mv,e3,e4⟩:=Zm e2;cases e4;intro p hp;refine ⟨Hs0,upd H0 p (.dK []),nf.upd,ρ,Hs,τ,s1,τ1,r.hold hp,e1,λ v Hs2 H2 g2 r2=>?_⟩;obtain ⟨ex,hsp,hpp,fp,np,st⟩:=r2.Dq (r.old hp) (r.ext.ss.free (r.sm.free hp));refine ⟨hpp,[(kc,v)],rfl,Zb rfl,?_⟩
 have sm0:bU H (upd H2 p (.dK [(kc,v)])):=λ b o q=>by
  have nb:b≠p:=λ z=>by rw [z,hp] at q; cases q
  rw [ar nb];exact g2 _ _ (by rw [ar nb]; exact q)
 have ex':Ext Hs0 H0 Hs2 (upd H2 p (.dK [(kc,v)])):=by
  refine ⟨ex.ss,λ b o q=>?_,λ b o q=>?_,ex.fr⟩
  · rw [ar (show b≠p from λ z=>by rw [z,hsp] at q; cases q)]; exact ex.sh b o q
  · rw [ar (show b≠p from λ z=>by rw [z,r.old hp] at q; cases q)]; exact ex.hh b o q
 have fin:∀ {fq fr:List Addr},Od X.K Hs2 H2 fq v mv->p ∉ fq->p ∉ fr->(∀ c ∈ fq,H0 c=none)->(∀ c ∈ fq,c ∉ fr)->StM X.K H0 Hs2 H2 ρ σ τ1 fr->Q (.ref p) (upd H2 p (.dK [(kc,v)])):=λ {fq fr} od n1 n2 z j sr=>by
  refine k (.ref p) Hs2 _ sm0 ⟨ex',(p::fq)++fr,.mu (fq:=p::fq) ?_ (λ e=>by cases e) (λ c hc=>?_) (λ c hc=>?_) (sr.mv (.refl _) λ c hc=>⟨(sr.live c hc).1,ar (show c≠p from λ q=>n2 (by rw [<- q]; exact hc))⟩)⟩
  ·have:=Od.n (K:=X.K) (Hs:=Hs2) (H:=upd H2 p (.dK [(kc,v)])) (a:=p) (dx:=0) (t:=.d) (ts:=[⟨kc,v,mv,fq⟩]) (u:=.dK [(kc,v)]) aw (.d _) hsp (by show [kc].Nodup; simp) (by
    rw [Yl,List.flatMap_nil,Zz]
    exact Zu.mpr ⟨n1,od.nd⟩) (λ c hc=>by
    rw [Zr.mp hc]
    exact od.mv (.refl _) λ x hx=>⟨(od.live x hx).1,ar (show x≠p from λ q=>n1 (by rw [<- q]; exact hx))⟩)
   rw [Yl,List.flatMap_nil,Zz] at this;exact this
  ·rcases Zi.mp hc with q | q
   · rw [q]; exact r.old hp
   · exact z c q
  ·rcases Zi.mp hc with q | q
   · rw [q]; exact n2
   · exact j c q
 cases st with
 | no st=>cases e3
 | shr h st=>cases e3; exact fin (.s h) (by simp) np (λ c hc=>by cases hc) (λ c hc=>by cases hc) st
 | @mu _ _ b _ _ _ _ fq fr od hpn z j st =>
  cases b with
  | true=>cases e3
  | false=>cases e3; exact fin od (λ q=>np (Zp _ q)) (λ q=>np (Zc _ q)) z j st⟩
theorem dz (i:Nat) (hN:X.N.Nodup) (hi:X.N[i]?=some x:=by exact rfl) (hx:Loc X.env.scope x:=by walk_at "v") (hf:Xl X x:=by walk_at "v"):Bx (PGm X (.Name x pos) (gNm i)):=⟨(gL hN hi hx hf).imp λ v σ H Q ⟨Hs0,H0,nf,ρ,Hs,τ,τ',d,r,rv,e,k⟩=>by
 cases e
 exact k _ (r.xK rv)⟩
theorem lS  : Bx (Hh X [] rP):=⟨A5.imp λ v σ H Q ⟨Hs0,H0,nf,ρ,Hs,τ,τ',d,r,rv,e,k⟩=>by
 cases rv with
 | nil=>cases e; exact ⟨rfl,k σ r⟩
 | cons _ _=>simp [rP] at e⟩
theorem fk (h1:Bx (PGm X e g)) (h2:Bx (Hh X es h)) (hs:(assignEach (e::es) X.env).map (·.2)=assign e X.env::(assignEach es X.env).map (·.2):=by rfl):Bx (Hh X (e::es) (iI g h)):=⟨have h1:=h1.out; have h2:=h2.out; (ya h1 h2 hs).imp λ v σ H Q ⟨Hs0,H0,nf,ρ,Hs,τ,τ',d,r,rv,e,k⟩=>by
 cases rv with
 | nil=>simp [iI] at e
 | cons rx rr =>
  obtain ⟨τ1,e1,e2⟩:=bind_some e
  exact ⟨_,_,rfl,Hs0,H0,nf,ρ,Hs,τ,τ1,_,r,rx,e1,λ σ' r'=>⟨Hs0,H0,nf,ρ,Hs,τ1,τ',_,r',rr,e2,k⟩⟩⟩
theorem oT (h:Bx (Hh X es g)) (hc:X.calm=true:=by rfl) (hn:(assignEach es X.env).length=n:=by rfl) (hst:(assignEach es X.env).findIdx? (·.1)=none:=by rfl):Bx (PGm X (.Tuple es k' pos) (gTm n g)):=⟨have h:=h.out; (D3 hc h hn hst).imp λ v σ H Q ⟨Hs0,H0,nf,ρ,Hs,τ,τ',d,r,rv,e,k⟩=>by
 cases rv with
 | @tup a xs ds h rr =>
  simp only [gTm] at e;split at e
  ·rename_i hl
   exact ⟨a,xs,rfl,r.sm.tup h,by rw [rr.length]; exact hl,Hs0,H0,nf,ρ,Hs,τ,τ',ds,r,rr,e,k⟩
  · cases e
 | _=>simp [gTm] at e⟩
theorem iq (hi:Bx (PId X tg iter it)) (hg:Bx (PGm X tg g)) (hb:Bx (uh X body b)) (hp:PassesOwn (model X.prog X.w) X.A X.env X.xe:=by exact .never) (hc:X.calm=true:=by rfl) (hs:Fs X iter:=by intro _; rfl):Bx (PSm X (.For tg iter body [] pos) (sO it g b)):=⟨have hi:=hi.out; have hg:=hg.out; have hb:=hb.out; (qZ hp hc hi hg hb hs).imp λ E σ H ⟨Hs0,H0,nf,ρ,Hs,τ,o,r,e,k⟩=>by
 obtain ⟨ds,e1,e2⟩:=bind_some e;obtain ⟨fp,hst⟩:=r.st;refine ⟨H0,Hs,er τ,[],ds,hst.er,r.sm,e1,λ J Hs1 H1 g1 hJ=>?_⟩;have r1:=r.ext' g1;have kk:=k.rebase r1.ext;refine ⟨λ i m σ H=>m=ds.length - i/\i<=ds.length/\∃ Hs2 τ2,bF X.K Hs1 H0 ρ Hs2 H σ τ2/\forM (λ d τ=>(g d τ).bind b) (ds.drop i) τ2=some o,⟨ds.length,by simp,Z4 _,Hs1,τ,r1.rebase,by simpa using e2⟩,?_⟩
 rintro i m σ2 H2 ⟨rfl,hi,Hs2,τ2,r2,e3⟩
 obtain ⟨hgo,hstop⟩:=hJ Hs2 H2 r2.ext.ss r2.sm
 by_cases hlt:i < ds.length
 ·have ed:ds.drop i=ds[i]::ds.drop (i+1):=Y1 hlt
  rw [ed] at e3;obtain ⟨go,yl⟩:=hgo i ds[i] (List.getElem?_eq_getElem hlt);refine .inr ⟨go,λ σ' H'=>∃ Hs' τ',bF X.K Hs1 H0 ρ Hs' H' σ' τ'/\forM (λ d τ=>(g d τ).bind b) (ds.drop (i+1)) τ'=some o,?_,?_⟩
  ·rintro σ' H' ⟨Hs',τ',r',e'⟩
   exact ⟨ds.length - (i+1),by omega,rfl,hlt,Hs',τ',r',e'⟩
  ·intro x H' y
   obtain ⟨Hs3,g3,rx⟩:=yl x H' y;have r3:=r2.ext' g3;unfold forM at e3
   cases q:(g ds[i] τ2).bind b with
   | none=>simp only [q] at e3; cases e3
   | some o1 =>
    simp only [q] at e3;obtain ⟨τ3,q1,q2⟩:=bind_some q;refine ⟨Hs1,H0,nf,ρ,Hs3,τ2,τ3,ds[i],r3,rx,q1,λ σ' r'=>?_⟩;refine ⟨Hs1,H0,nf,ρ,Hs3,τ3,o1,r',q2,?_⟩
    cases o1 with
    | next τ'=>exact λ σ4 Hs4 H4 r4=>⟨Hs4,τ',r4,e3⟩
    | cnt τ'=>exact λ σ4 Hs4 H4 r4=>⟨Hs4,τ',r4,e3⟩
    | brk τ'=>cases e3; exact kk
    | ret s τ'=>cases e3; exact kk
 ·have e0:i=ds.length:=by omega
  subst e0;rw [Xz] at e3;have e':F5.next τ2=o:=by simpa [forM] using e3
  subst e'
  exact .inl ⟨hstop _ (Zl _),kk σ2 Hs2 H2 r2⟩⟩
theorem t7 (i:Nat) (hN:X.N[i]?=some x:=by exact rfl) (hv:Vis X.env.scope x:=by walk_at "w") (hd:Dg x:=by decide) (hcd:Dc x:=by decide):Bx (PTd X (.Name x p) (CB i)):=⟨(xT (gG hN hv hd hcd) (λ _=>rfl)).imp λ σ H Q ⟨H0,Hs,τ,fp,d,st,sm,e,k⟩=>by
 unfold CB at e;split at e
 ·rename_i ds q
  cases e;obtain ⟨a,h1,h2,_⟩:=st.Cp q
  cases h2 with
  | lst h n r=>exact ⟨_,h1,_,.inl ⟨_,SqL.of h,by rw [r.emp]⟩,k Hs H (.refl sm)⟩
 · cases e⟩
theorem lR (i j:Nat) (hN:X.N.Nodup) (hi:X.N[i]?=some x:=by exact rfl) (hj:X.N[j]?=some y:=by exact rfl) (hx:Loc X.env.scope x:=by walk_at "v") (hv:Vis X.env.scope y:=by walk_at "w") (hd:(y == ("__debug__":Str))=false:=by decide) (hcd:(y == ("__classdict__":Str))=false:=by decide) (hbase:attributeBase (.Name y py) "pop" X.env (eval (.Name y py) X.env)=eval (.Name y py) X.env:=by rfl) (hline:(apos.endLine == cpos.line)=true:=by rfl) (hs:swapsWith (.Call (.Attribute (.Name y py) "pop" apos) [] [] cpos) (some (.Name x pos')) pos.line X.env=pure false:=by rfl) (hf:Xl X x:=by walk_at "v"):Bx (PSd X (.Assign [.Name x pos'] (.Call (.Attribute (.Name y py) "pop" apos) [] [] cpos) pos) (sM i j)):=⟨(jM hN hi hx (zM Yn PySem.F.slot_list_pop PySem.F.type_list_pop EM (gG hj hv hd hcd) hbase hline) hs hf).imp λ E σ H ⟨Hs0,H0,Hs,τ,o,r,e,k⟩=>by
 unfold sM at e;split at e
 ·rename_i ds q
  obtain ⟨d,e1,rfl⟩:=Zm e;obtain ⟨fp,st⟩:=r.st;obtain ⟨a,h1,h2,h3,h4⟩:=st.Cp q
  cases h2 with
  | @lst xs _ hH hn hr =>
   obtain ⟨v,hv1,hv2⟩:=hr.get e1;rw [<- hr.length] at hv1;refine ⟨_,h1,.inl ⟨rfl,_,SqL.of hH⟩,a,xs,v,rfl,rfl,hH,hv1,?_⟩;have s1:=st.mut q h1 (o:=.lst xs.dropLast) (d':=.lst ds.dropLast) (.lst aw hn hr.dropLast);obtain ⟨fp',_,s2⟩:=s1.xK (i:=i) hv2;refine k _ Hs _ ⟨⟨r.ext.ss,λ b u z=>?_,λ b u z=>?_,r.ext.fr⟩,fp',s2⟩
   · rw [ar (show b≠a from λ w=>by rw [w,hn] at z; cases z)]; exact r.ext.sh b u z
   · rw [ar (show b≠a from λ w=>by rw [w,h3] at z; cases z)]; exact r.ext.hh b u z
 · cases e⟩
theorem qz (i:Nat) (hN:X.N.Nodup) (O:cY X scope cl x cs) (hy:X.N[i]?=some y:=by exact rfl) (hi:Bx (PId X (.Name x px) iter it)) (hcd:∀ s H fp C,Bx (PTd (bW X scope cl (x::cs.map (·.1)) s H fp C) cnd c):=by intros; walk_at "h") (he:∀ s H fp C,Bx (PEd (bW X scope cl (x::cs.map (·.1)) s H fp C) elt g):=by intros; walk_at "g") (hx:Loc X.env.scope y:=by walk_at "v") (hc:X.calm=true:=by rfl) (hs:Fs X iter:=by intro _; rfl) (hsw:swapsWith (.ListComp elt [⟨.Name x px,iter,[cnd],0⟩] scope pos) (some (.Name y py)) spos.line X.env=pure true:=by rfl) (hf:Xl X y:=by walk_at "v"):Bx (PSm X (.Assign [.Name y py] (.ListComp elt [⟨.Name x px,iter,[cnd],0⟩] scope pos) spos) (pF i (eO (gI it c g cs)))):=⟨uP hN hy hx hc O hi.out (λ s H fp C=>(hcd s H fp C).out) (λ s H fp C=>(he s H fp C).out) hs hsw hf⟩
theorem t8 (hh:X.A.handled=none) (hm:X.mg "sorted"=none) (he:Bx (PEd X e f)) (hg:Gl X "sorted":=by rfl) (hst:starEach [e] X.env=(false,eval e X.env)::starEach [] X.env:=by rfl) (hpl:(backTo pos (starEach [] X.env)).any (·.1)=false:=by rfl):Bx (PEo X (.Call (.Name "sorted" p) [e] [] pos) (wM f)):=⟨have he:=he.out; (zm hh hg hm ⟨he⟩ hst hpl).out⟩
theorem bE (ha:Bx (PEd X a f)) (hb:Bx (PEd X b g)):Bx (PEd X (.BinOp a .Add b pos) (dOp i0 f g)):=iK Ir ha hb
theorem qD (ha:Bx (PEd X a f)) (hb:Bx (PEd X b g)):Bx (PEd X (.BinOp a .Sub b pos) (dOp CZ f g)):=iK Ij ha hb
theorem ji (ha:Bx (PEd X a f)) (hb:Bx (PEd X b g)):Bx (PEd X (.BinOp a .Mult b pos) (dOp vh f g)):=iK Im ha hb
theorem aZ (ha:Bx (PEd X a f)) (hb:Bx (PEd X b g)):Bx (PEd X (.BinOp a .FloorDiv b pos) (dOp oDiv f g)):=iK Iq ha hb
theorem bA (ha:Bx (PEd X a f)) (hb:Bx (PEd X b g)):Bx (PEd X (.BinOp a .Mod b pos) (dOp oMod f g)):=iK Io ha hb
theorem FX (ha:Bx (PEd X a f)) (hb:Bx (PEd X b g)):Bx (PEd X (.BinOp a .Pow b pos) (dOp Iu f g)):=iK Ik ha hb
theorem FU (ha:Bx (PEd X a f)) (hb:Bx (PEd X b g)):Bx (PTd X (.Compare a [.Lt] [b] pos) (dT (dOp oLt f g))):=cS MN ha hb 
theorem NF (ha:Bx (PEd X a f)) (hb:Bx (PEd X b g)):Bx (PEd X (.Compare a [.Gt] [b] pos) (dOp oGt f g)):=jB K4 ha hb 
theorem t6 (ha:Bx (PEd X a f)) (hb:Bx (PEd X b g)):Bx (PTd X (.Compare a [.Gt] [b] pos) (dT (dOp oGt f g))):=cS K4 ha hb 
theorem FV (ha:Bx (PEd X a f)) (hb:Bx (PEd X b g)):Bx (PTd X (.Compare a [.Is] [b] pos) (dT (dOp Gb f g))):=cS Ip ha hb 
theorem CL (ha:Bx (PEd X a f)) (hb:Bx (PEd X b g)):Bx (PEd X (.Compare a [.IsNot] [b] pos) (dOp kZ f g)):=jB zQ ha hb 
theorem mI (ha:Bx (PEd X a f)) (hb:Bx (PEd X b g)):Bx (PTd X (.Compare a [.IsNot] [b] pos) (dT (dOp kZ f g))):=cS zQ ha hb 
theorem L3 (ha:Bx (PEd X a f)) (hb:Bx (PEd X b g)) (hm:behindInMarks .In b=false:=by rfl): Bx (PEd X (.Compare a [.In] [b] pos) (dOp Bp f g)):=jB Ek ha hb hm
theorem KP (ha:Bx (PEd X a f)) (hb:Bx (PEd X b g)) (hm:behindInMarks .In b=false:=by rfl): Bx (PTd X (.Compare a [.In] [b] pos) (dT (dOp Bp f g))):=cS Ek ha hb hm
theorem zj (ha:Bx (PEd X a f)) (hb:Bx (PEd X b g)) (hm:behindInMarks .NotIn b=false:=by rfl): Bx (PTd X (.Compare a [.NotIn] [b] pos) (dT (dOp jV f g))):=cS ym ha hb hm
theorem xx (ha:Bx (PEd X a f)) (hb:Bx (PEd X b g)) (hr:d2 jj X.A:=by assumption):Bx (PEd X (.Compare a [.Eq] [b] pos) (dOp oEq f g)):=jB (K5 hr.units) ha hb 
theorem cb (ha:Bx (PEd X a f)) (hb:Bx (PEd X b g)) (hr:d2 jj X.A:=by assumption):Bx (PTd X (.Compare a [.Eq] [b] pos) (dT (dOp oEq f g))):=cS (K5 hr.units) ha hb 
theorem jy (ha:Bx (PEd X a f)) (hb:Bx (PEd X b g)) (hr:d2 jj X.A:=by assumption):Bx (PTd X (.Compare a [.NotEq] [b] pos) (dT (dOp oNe f g))):=cS (MM hr.units) ha hb 
theorem Ak (ha:Bx (PEd X a f)):Bx (PEd X (.UnaryOp .USub a pos) (dUn Ga f)):=CJ Il ha
theorem cf (h:Bx (PEd X e f)) (he:Se X e []:=by rfl):Bx (PAd X [e] (ay f c5)):=aI h bJ he
theorem cJ {e2:Expr} {f2:DE} (h:Bx (PEd X e f)) (h2:Bx (PEd X e2 f2)) (he:Se X e [e2]:=by rfl) (he2:Se X e2 []:=by rfl):Bx (PAd X [e,e2] (ay f (ay f2 c5))):=aI h (cf h2 he2) he
theorem jC {e2 e3:Expr} {f2 f3:DE} (h:Bx (PEd X e f)) (h2:Bx (PEd X e2 f2)) (h3:Bx (PEd X e3 f3)) (he:Se X e [e2,e3]:=by rfl) (he2:Se X e2 [e3]:=by rfl) (he3:Se X e3 []:=by rfl):Bx (PAd X [e,e2,e3] (ay f (ay f2 (ay f3 c5)))):=aI h (cJ h2 h3 he2 he3) he
theorem kS (i:Nat) {j:Int} (hN:X.N[i]?=some x:=by exact rfl) (hv:Vis X.env.scope x:=by walk_at "w") (hd:Dg x:=by decide) (hcd:Dc x:=by decide):Bx (PEd X (.Subscript (.Name x p) (.Constant (.int j) k q) r) (dOp oIx (aB i) (dC (.int j)))):=aV (aa i hN hv hd hcd) ab (λ _ _=>rfl)
theorem e9 (i:Nat) {x:Str} {f:DE} {pos':Pos} (hN:X.N.Nodup) (he:Bx (PEd X e f)) (hi:X.N[i]?=some x:=by exact rfl) (hx:Loc X.env.scope x:=by walk_at "v") (hs:Sw X e x pos' pos:=by rfl) (hf:Xl X x:=by walk_at "v"):Bx (PSd X (.Assign [.Name x pos'] e pos) (xu i f)):=w6 i hN hi he hx hs hf
def Ic (mg:Str->Option Value) (x:Str) (i:Int):Prop:=∃ t,mg x=some (.int i t)
theorem KQ (h:Ic X.mg x i) (hg:Gl X x:=by rfl) (hd:(x == ("__debug__":Str))=false:=by decide):Bx (PEd X (.Name x pos) (dC (.int i))):=h.elim λ _ h=>⟨Bd (v:=.int i) hg h ⟨_,rfl⟩ (λ _=>.int _) hd⟩
theorem ckN {X:Cx} {scope:Scope} {cl:List (Str×Addr)} {x:Str} (cs:List (Str×Nat)) (h0:closureFor scope X.env=pure cl:=by rfl) (h1:scope.kind=.function:=by rfl) (h2:(scope.names.all λ y=>!(y.2 == .cell))=true:=by rfl)
 (h3:(scope.names.all λ y=>!(y.2 == .local)||(scope.names.lookup y.1 == some .local))=true:=by rfl) (h4:scope.names.lookup x=some .local:=by rfl) (h5:CU X cl:=by repeat' first | exact trivial | rfl | constructor)
 (h6:((relabel scope X.env).names.all λ p=>!(p.2 == .cell||p.2 == .free)||(cl.lookup p.1).isSome)=true:=by rfl)
 (h7:AllP X scope cs:=by repeat' first | exact trivial | rfl | constructor) (h8:(x::cs.map (·.1)).Nodup:=by decide +kernel):cY X scope cl x cs:=CG cs h0 h1 h2 h3 h4 h5 h6 h7 h8
theorem ck0 {X:Cx} {scope:Scope} {x:Str} (h1:scope.kind=.function:=by rfl) (h2:∀ y ∈ scope.names,y.2≠.cell:=by decide +kernel) (h3:∀ y ∈ scope.names,y.2≠.free:=by decide +kernel) (h4:∀ y ∈ scope.names,y.2=.local->scope.names.lookup y.1=some .local:=by decide +kernel) (h5:scope.names.lookup x=some .local:=by rfl):cY X scope [] x []:=CI h1 h2 h3 h4 h5
section
variable {P:Program} {w:World} {K:W.Frag} {mg:Str->Option Value} {base:Heap} {x q:Str} {st:Stmt} {ps:List Str} {k:Nat} {C:Addr}
abbrev Bdy (P:Program) (w:World) (K:W.Frag) (mg:Str->Option Value) (base:Heap) (k:Nat) (q:Str) (st:Stmt) (N:List Str) (J:Cx->List Stmt->Prop):Prop:=∀ {cdv:Value} {A:Around} {outer:List Env} {s:Shared} {H:Hp} {E:XK} {f:Addr},d2 k (A.deeper (envOfC q (aK st) s.heap.objs.size f cdv))->N.Nodup->Bx (J (zd CX0 P w K mg base N q (aK st) f cdv A outer s H E).nox (bP st))
theorem oD (N:List Str) {b:DS} (D:Df K mg x st ps) (h:Bdy P w K mg base k x st N λ X b'=>xp X b' b) (S:dS N ps (aK st):=by exact ⟨rfl,rfl,rfl,by decide +kernel,rfl,by decide +kernel,by decide +kernel⟩):Go P w K mg base (k+1) x (spF (cc N.length ps.length b) K) :=
 have ⟨a,d,F,m,bi⟩:=D
 ⟨a,d,ps,m,F.kp,bi,F.okD S λ cdv A outer s H E hr=>(h hr S.nd).out⟩
theorem oDm (N:List Str) {b:DS} (D:Mf K C x q st ps) (h:Bdy P w K mg base k q st N λ X b'=>xp X b' b) (S:dS N ps (aK st):=by exact ⟨rfl,rfl,rfl,by decide +kernel,rfl,by decide +kernel,by decide +kernel⟩):GoM P w K mg base (k+1) C x (spF (cc N.length ps.length b) K) :=
 have ⟨a,d,F,m,bi⟩:=D
 ⟨a,d,ps,m,bi,F.okD S λ cdv A outer s H E hr=>(h hr S.nd).out⟩
theorem oM (N:List Str) {b:DSm} (D:Df K mg x st ps) (h:Bdy P w K mg base k x st N λ X b'=>uh X b' b) (S:dS N ps (aK st):=by exact ⟨rfl,rfl,rfl,by decide +kernel,rfl,by decide +kernel,by decide +kernel⟩):Go P w K mg base (k+1) x (spM (jK N.length ps.length b) K) :=
 have ⟨a,d,F,m,bi⟩:=D
 ⟨a,d,ps,m,F.kp,bi,F.okM S λ cdv A outer s H E hr=>(h hr S.nd).out⟩
theorem oMm (N:List Str) {b:DSm} (D:Mf K C x q st ps) (h:Bdy P w K mg base k q st N λ X b'=>uh X b' b) (S:dS N ps (aK st):=by exact ⟨rfl,rfl,rfl,by decide +kernel,rfl,by decide +kernel,by decide +kernel⟩):GoM P w K mg base (k+1) C x (spM (jK N.length ps.length b) K) :=
 have ⟨a,d,F,m,bi⟩:=D
 ⟨a,d,ps,m,bi,F.okM S λ cdv A outer s H E hr=>(h hr S.nd).out⟩
theorem oMi (N:List Str) {b:DSm} (D:If K C q st ps) (h:Bdy P w K mg base k q st N λ X b'=>uh X b' b) (S:dS N ps (aK st):=by exact ⟨rfl,rfl,rfl,by decide +kernel,rfl,by decide +kernel,by decide +kernel⟩):GoI P w K mg base (k+1) C (spM (jK N.length ps.length b) K) :=
 have ⟨a,d,F,m,bi⟩:=D
 ⟨a,d,ps,m,bi,F.okM S λ cdv A outer s H E hr=>(h hr S.nd).out⟩
theorem oLM (N:List Str) {b:DSm} {a:Addr} {d:FuncData} (F:Fun K x x st a d) (h:Bdy P w K mg base k x st N λ X b'=>uh X b' b) (S:dS N ps (aK st):=by exact ⟨rfl,rfl,rfl,by decide +kernel,rfl,by decide +kernel,by decide +kernel⟩):fD P w K mg base CX0 (k+1) a d ps (spM (jK N.length ps.length b) K):=F.okM S λ cdv A outer s H E hr=>(h hr S.nd).out
theorem oNv (D:Df K mg x st ps):Go P w K mg base k x (spF (λ _=>none) K) :=
 have ⟨a,d,F,m,bi⟩:=D
 ⟨a,d,ps,m,F.kp,bi,rS⟩
theorem Fn0.df {f:Addr} {h:Heap} (e:Fn0 K x st f) (X:K.In h) (G:h.Ns mainGlobals mg) (hb:∀ (kV doc pm:Value) (an:Option Addr) (cdv ct:Value) (us:List Value),us.length=ps.length->bindArgs (PySem.W.fnOf x x (cB st) (bP st) (aK st) .none kV doc pm an cdv ct) ⟨us,[]⟩=pure (ps.zip us)):Df K mg x st ps :=
 have ⟨d,F,m,b⟩:=e.mk X G hb
 ⟨f,d,F,m,b⟩
theorem BS {f:Addr} {oc:Value} {od an:Option Addr} {osl:Array (Option Value)} {kV doc pm cdv ct:Value} (a:W.findIn K (.ref C) x=some (some (.ref f))) (i:PySem.W.isFn K (.ref f)=true) (l:K.lookup f=some ⟨oc,od,.func (PySem.W.fnOf x q (cB st) (bP st) (aK st) .none kV doc pm an cdv ct),osl⟩) (c:PySem.W.codeIn K cdv q=true) (k:W.keepIn K (.ref f)=true) (hb:∀ (kV doc pm:Value) (an:Option Addr) (cdv ct:Value) (us:List Value),us.length=ps.length->bindArgs (PySem.W.fnOf x q (cB st) (bP st) (aK st) .none kV doc pm an cdv ct) ⟨us,[]⟩=pure (ps.zip us)):Mf K C x q st ps :=
 ⟨f,_,j7 (st:=st) l c k,⟨a,i,k⟩,(j7 (st:=st) l c k).binds hb⟩
theorem Kp {f:Addr} {oc:Value} {od an:Option Addr} {osl:Array (Option Value)} {kV doc pm cdv ct:Value} (a:W.findIn K (.ref C) "__init__"=some (some (.ref f))) (i:PySem.W.isFn K (.ref f)=true) (l:K.lookup f=some ⟨oc,od,.func (PySem.W.fnOf "__init__" q (cB st) (bP st) (aK st) .none kV doc pm an cdv ct),osl⟩) (c:PySem.W.codeIn K cdv q=true) (k:W.keepIn K (.ref f)=true) (mk:PySem.W.makesIn K C=true) (kc:W.keepIn K (.ref C)=true) (hb:∀ (kV doc pm:Value) (an:Option Addr) (cdv ct:Value) (us:List Value),us.length=ps.length->bindArgs (PySem.W.fnOf "__init__" q (cB st) (bP st) (aK st) .none kV doc pm an cdv ct) ⟨us,[]⟩=pure (ps.zip us)):If K C q st ps :=
 ⟨f,_,j7 (st:=st) l c k,⟨mk,a,i,kc⟩,(j7 (st:=st) l c k).binds hb⟩
def Lf (K:W.Frag) (mg:Str->Option Value) (x:Str) (st:Stmt) (y:Str):Prop:=∃ a d,Fun K x x st a d/\mg x=some (.ref a)/\∀ (s:Shared) (u:Value),BindsTo s d ⟨[u],[]⟩ [(y,u)]
theorem Kj {f:Addr} {y:Str} {h:Heap} (e:Fn0 K x st f) (X:K.In h) (G:h.Ns mainGlobals mg) (hb:∀ (kV doc pm:Value) (an:Option Addr) (cdv ct:Value) (s:Shared) (u:Value),BindsTo s (PySem.W.fnOf x x (cB st) (bP st) (aK st) .none kV doc pm an cdv ct) ⟨[u],[]⟩ [(y,u)]):Lf K mg x st y:=by
 obtain ⟨od,an,sl,oc,kV,dc,pm,cd,ct,a,l,c,k⟩:=e;exact ⟨_,_,j7 (st:=st) l c k,PySem.W.mg_of X G a,hb _ _ _ _ _ _⟩
end
end L2
end
section
local macro_rules | `(tactic| walk_at "v")=>`(tactic| first | exact .inl rfl | exact .inr rfl | assumption)
local macro_rules | `(tactic| walk_at "w")=>`(tactic| first | exact .inl rfl | exact .inr (.inl rfl) | exact .inr (.inr rfl))
end
section
namespace L2
open PySem PySem.Spec PyProof.Rows
def zq (c:Int):List (Key×Mt)->Option (List (Key×Mt))
 | []=>some []
 | (k,.n .l ks)::r=>if ks.length < 100000 then (zq c r).map ((k,.n .l (ks++[(.inl 0,.s (.int c))]))::·) else none
 | _=>none
def pH (i jx:Nat) (c:Int):DSm:=λ τ=>match τ[i]? with
 | some (.mu b (.n .l cs))=>if jx < τ.length then (zq c cs).map λ cs'=>.next ((τ.set jx .no).set i (.mu b (.n .l cs'))) else none
 | _=>none
theorem sj {c:Int}:∀ {cs cs':List (Key×Mt)},zq c cs=some cs'->cs'.length=cs.length
 | [],_,e=>by cases e; rfl
 | (k,.s d)::r,_,e=>by cases e
 | (k,.n .d ks)::r,_,e=>by cases e
 | (k,.n (.o C) ks)::r,_,e=>by cases e
 | (k,.n .l ks)::r,cs',e=>by
  have e':(if ks.length < 100000 then (zq c r).map ((k,Mt.n .l (ks++[(.inl 0,.s (.int c))]))::·) else none)=some cs':=e;split at e'
  ·obtain ⟨r',e1,rfl⟩:=Zm e'
   rw [Zy,Zy,sj e1]
  · cases e'
theorem xm {c:Int}:∀ {cs cs':List (Key×Mt)} {n:Nat},zq c cs=some cs'->n < cs.length->∃ k ks,cs[n]?=some (k,.n .l ks)/\ks.length < 100000/\cs'[n]?=some (k,.n .l (ks++[(.inl 0,.s (.int c))]))
 | [],_,n,_,h=>absurd h (Nat.not_lt_zero _)
 | (k,.s d)::r,_,n,e,h=>by cases e
 | (k,.n .d ks)::r,_,n,e,h=>by cases e
 | (k,.n (.o C) ks)::r,_,n,e,h=>by cases e
 | (k,.n .l ks)::r,cs',n,e,h=>by
  have e':(if ks.length < 100000 then (zq c r).map ((k,Mt.n .l (ks++[(.inl 0,.s (.int c))]))::·) else none)=some cs':=e;split at e'
  ·rename_i hz
   obtain ⟨r',e1,rfl⟩:=Zm e'
   cases n with
   | zero=>exact ⟨k,ks,rfl,hz,rfl⟩
   | succ n =>
    obtain ⟨k2,ks2,h1,h2,h3⟩:=xm (n:=n) e1 (by simpa using h);exact ⟨k2,ks2,by simpa using h1,h2,by simpa using h3⟩
  · cases e'
section
variable {X:Cx} {pos px pz epos apos cpos p2 p3:Pos} {x z:Str} {i jx:Nat} {c:Int} {kk:Nat}
theorem sQ (hp:PassesOwn (model X.prog X.w) X.A X.env X.xe) (hc:X.calm=true) (hz:X.N[i]?=some z) (hv:Vis X.env.scope z) (hN:X.N.Nodup) (hx:X.N[jx]?=some x) (lx:Loc X.env.scope x) (vx:Vis X.env.scope x) (n2:jx≠i)
   (hd:(z == ("__debug__":Str))=false:=by decide) (hcl:(z == ("__classdict__":Str))=false:=by decide) (hdx:(x == ("__debug__":Str))=false:=by decide) (hclx:(x == ("__classdict__":Str))=false:=by decide) (hs:∀ x,foldedSetIterable (.Name z pz) X.env x=pure x:=by intro _; rfl)
   (hfx:X.fn x=true\/X.env.scope.names.lookup x=some .local:=by first | exact .inl rfl | exact .inr rfl | assumption)
   (hbase:attributeBase (.Name x p2) "append" X.env (eval (.Name x p2) X.env)=eval (.Name x p2) X.env:=by rfl)
   (hfew:((backTo cpos (starEach [.Constant (.int c) kk p3] X.env)).all (λ x=>!x.1)&&(backToKw cpos (keywordEach [] X.env)).all (λ x=>x.1.isSome)
     && decide ([Expr.Constant (.int c) kk p3].length+([]:List Keyword).length+(if ([]:List Keyword).isEmpty then 0 else 1) < 30))=true:=by rfl)
   (hline:(apos.endLine == cpos.line)=true:=by rfl) (hst:starEach [.Constant (.int c) kk p3] X.env=(false,eval (.Constant (.int c) kk p3) X.env)::starEach [] X.env:=by rfl) (hplain:(backTo cpos (starEach [] X.env)).any (·.1)=false:=by rfl)
   (hsw:swapsWith (.Call (.Attribute (.Name x p2) "append" apos) [.Constant (.int c) kk p3] [] cpos) none epos.line X.env=pure false:=by rfl) :
   PSm X (.For (.Name x px) (.Name z pz) [.Expr (.Call (.Attribute (.Name x p2) "append" apos) [.Constant (.int c) kk p3] [] cpos) epos] [] pos) (pH i jx c) :=
 (qZ hp hc (l7 (gG hz hv hd hcl)) (gL hN hx lx hfx) (d9 (eh (pO Yn PySem.F.slot_list_append PySem.F.type_list_append jY (gG hx vx hdx hclx) (aT lB c8 hst) hbase hfew hline hst hplain) hsw)) hs).imp λ E σ H ⟨Hs0,H0,nf,ρ,Hs,τ,o,r,e,k⟩=>by
   unfold pH at e;split at e
   · rename_i b0 cs ei
     by_cases hj:jx < τ.length
     case neg=>rw [if_neg hj] at e; cases e
     rw [if_pos hj] at e;obtain ⟨cs',e1,rfl⟩:=Zm e;obtain ⟨fp,st⟩:=r.st;obtain ⟨v,fp1,v1,w1,w2,w3,_⟩:=st.sv (q:=[]) ei rfl;have ev:v=v1:=by cases v <;> exact Zj w2
     subst ev;obtain ⟨a,dx,ts,u,rfl,rfl,ec,ha,hl,_⟩:=w3.inv;rw [p7 hl] at ha;have li:=(List.getElem?_eq_some_iff.mp ei).1;have ei':(τ.set jx .no)[i]?=some (.mu b0 (.n .l cs)):=by rw [List.getElem?_set_ne n2]; exact ei
     have li':i < (τ.set jx .no).length:=by rw [Xg]; exact li
     have ll:=sj e1;have r0:=r.forget jx (σ[jx]?.getD none)
     have es:σ.set jx (σ[jx]?.getD none)=σ:=by
      apply List.ext_getElem?;intro m
      by_cases hm:jx=m
      ·subst hm
       by_cases hj:jx < σ.length
       · rw [List.getElem?_set_self hj,List.getElem?_eq_getElem hj]; rfl
       · rw [List.getElem?_eq_none (by rw [Xg]; omega),List.getElem?_eq_none (by omega)]
      · rw [List.getElem?_set_ne hm]
     rw [es] at r0;refine ⟨_,w1,a,rfl,⟨_,SqL.of ha⟩,λ n m σ' H'=>m=cs.length - n/\n<=cs.length/\σ'[i]?=some (some (.ref a))/\∃ Hs2,bF X.K Hs0 H0 ρ Hs2 H' σ' ((τ.set jx .no).set i (.mu b0 (.n .l (cs'.take n++cs.drop n)))),⟨cs.length,by simp,Z4 _,w1,Hs,by rw [List.take_zero,List.drop_zero,List.nil_append,xJ ei']; exact r0⟩,?_⟩
     rintro n m σ2 H2 ⟨rfl,hn,oi,Hs2,r2⟩
     have hg2:a6 ((τ.set jx .no).set i (.mu b0 (.n .l (cs'.take n++cs.drop n)))) i []=some (.n .l (cs'.take n++cs.drop n)):=by
      unfold a6;rw [List.getElem?_set_self li'];rfl
     obtain ⟨a2,dx2,ts2,u2,q1,q2,ha2,hl2,_⟩:=r2.tf hg2 oi rfl;cases q1;rw [p7 hl2] at ha2
     have lt2:ts2.length=cs.length:=by
      have:=Z9 List.length q2;rw [Z0,Z1,Yv,Za] at this;omega
     by_cases hlt:n < cs.length
     ·obtain ⟨k1,ks,h1,h2,h3⟩:=xm e1 hlt
      have hn2:(cs'.take n++cs.drop n)[n]?=some (k1,.n .l ks):=by
       rw [List.getElem?_append_right (by rw [Z1]; omega),List.getElem?_drop,Z1,<- h1];congr 1;omega
      have hk:=hn2;rw [q2,List.getElem?_map] at hk;obtain ⟨kd,q4,q5⟩:=Zm hk;have hx2:(ts2.map Kd.v)[n]?=some kd.v:=by rw [List.getElem?_map,q4]; rfl
      refine .inr ⟨⟨_,kd.v,SqL.of ha2,hx2⟩,λ σ' H'=>σ'[i]?=some (some (.ref a))/\∃ Hs2,bF X.K Hs0 H0 ρ Hs2 H' σ' ((τ.set jx .no).set i (.mu b0 (.n .l (cs'.take (n+1)++cs.drop (n+1))))),λ σ' H' h=>⟨cs.length - (n+1),by omega,rfl,hlt,h⟩,?_⟩
      rintro x H' ⟨rfl,hy⟩
      have ex:=hy _ (SqL.of ha2);rw [hx2] at ex;cases ex;have oi':(σ2.set jx (some kd.v))[i]?=some (some (.ref a)):=by rw [List.getElem?_set_ne n2]; exact oi
      have jl:jx < σ2.length:=by
       obtain ⟨fp2,st2⟩:=r2.st;have:=st2.len;rw [this,Xg,Xg];exact hj
      have r3:=r2.forget jx (some kd.v);rw [List.set_comm _ _ (Ne.symm n2),List.set_set] at r3
      have hg3:a6 ((τ.set jx .no).set i (.mu b0 (.n .l (cs'.take n++cs.drop n)))) i [.i n]=some (.n .l ks):=by
       unfold a6;rw [List.getElem?_set_self li'];show Mt.get _ _=_;unfold Mt.get;have:sR .l (cs'.take n++cs.drop n) (.i n)=some n:=if_pos (List.getElem?_eq_some_iff.mp hn2).1;rw [this];simp only [hn2];rfl
      have hv3:vAt H' (.ref a) [.i n]=some kd.v:=by
       unfold vAt;rw [ha2];simp only [hx2];rfl
      refine ⟨kd.v,List.getElem?_set_self jl,r3.isList hg3 oi' hv3,?_⟩;have r4:=r3.push (.int c);obtain ⟨a4,dx4,ts4,u4,fv,z1,z2,ha4,hl4,ku,fin⟩:=r4.vm rfl hg3 oi' hv3;rw [p7 hl4] at ha4;refine ⟨a4,_,.int c,z1,rfl,ha4,by rw [Za]; have:=Z9 List.length z2; rw [Za] at this; exact le5 (Yz (this ▸ h2)),?_⟩
      have:=fin ts4 (.inl 0) [] (.lst (ts4.map Kd.v++[.int c])) (by rw [Zz]; exact .refl _) (by
        have:=rE (dx:=dx4) (ts:=ts4++[⟨.inl 0,.int c,.s (.int c),fv⟩]);rw [Zk (f:=Kd.v)] at this
        exact this) trivial
      rw [Zk,<- z2] at this;refine ⟨oi',Hs2,?_⟩
      have em:dH ((τ.set jx .no).set i (.mu b0 (.n .l (cs'.take n++cs.drop n)))) i [.i n] (.n .l (ks++[(.inl 0,.s (.int c))]))=(τ.set jx .no).set i (.mu b0 (.n .l (cs'.take (n+1)++cs.drop (n+1)))):=by
       unfold dH;rw [List.getElem?_set_self li'];show List.set _ i (Sm.mu b0 (Mt.put _ _ _))=_;unfold Mt.put;have:sR .l (cs'.take n++cs.drop n) (.i n)=some n:=if_pos (List.getElem?_eq_some_iff.mp hn2).1;rw [this,List.set_set];simp only [hn2];have ep:∀ m m2:Mt,Mt.put m [] m2=m2:=λ m m2=>by cases m <;> rfl
       rw [ep];congr 3;apply List.ext_getElem?;intro m
       by_cases hm:n=m
       ·subst hm
        rw [List.getElem?_set_self (by have:=(List.getElem?_eq_some_iff.mp hn2).1; exact this),List.getElem?_append_left (by rw [Z1]; omega),List.getElem?_take_of_lt (by omega),h3]
       ·rw [List.getElem?_set_ne hm]
        by_cases hm2:m < n
        · rw [List.getElem?_append_left (by rw [Z1]; omega),List.getElem?_append_left (by rw [Z1]; omega),List.getElem?_take_of_lt hm2,List.getElem?_take_of_lt (by omega)]
        ·rw [List.getElem?_append_right (by rw [Z1]; omega),List.getElem?_append_right (by rw [Z1]; omega),List.getElem?_drop,List.getElem?_drop,Z1,Z1]
         congr 1;omega
      exact em ▸ this
     ·have e0:n=cs.length:=by omega
      subst e0;refine .inl ⟨⟨_,SqL.of ha2,by rw [Za,lt2]; exact Zl _⟩,k σ2 Hs2 H2 ?_⟩;rw [Xz,Zz,<- ll,List.take_length] at r2;exact r2
   · cases e
end
end L2
end
section
local macro_rules | `(tactic| walk_at "v")=>`(tactic| first | exact .inl rfl | exact .inr rfl | assumption)
local macro_rules | `(tactic| walk_at "w")=>`(tactic| first | exact .inl rfl | exact .inr (.inl rfl) | exact .inr (.inr rfl))
namespace L2
open PySem PySem.Spec PyProof.Rows
theorem lvl {a b n:Nat} (h:a<=b:=by decide):a<=b+n:=Nat.le_add_right_of_le h
section
variable {X:Cx} {pos px pz epos apos cpos p2 p3:Pos} {x z:Str} {i jx:Nat} {c:Int} {kk:Nat}
theorem oO (hN:X.N.Nodup) (n2:jx≠i) (hz:X.N[i]?=some z:=by exact rfl) (hx:X.N[jx]?=some x:=by exact rfl) (hp:PassesOwn (model X.prog X.w) X.A X.env X.xe:=by exact .never) (hc:X.calm=true:=by rfl) (hv:Vis X.env.scope z:=by walk_at "w") (lx:Loc X.env.scope x:=by walk_at "v") (vx:Vis X.env.scope x:=by walk_at "w")
 (hd:(z == ("__debug__":Str))=false:=by decide) (hcl:(z == ("__classdict__":Str))=false:=by decide) (hdx:(x == ("__debug__":Str))=false:=by decide) (hclx:(x == ("__classdict__":Str))=false:=by decide) (hs:∀ x,foldedSetIterable (.Name z pz) X.env x=pure x:=by intro _; rfl)
 (hfx:Xl X x:=by walk_at "v")
 (hbase:attributeBase (.Name x p2) "append" X.env (eval (.Name x p2) X.env)=eval (.Name x p2) X.env:=by rfl)
 (hfew:((backTo cpos (starEach [.Constant (.int c) kk p3] X.env)).all (λ x=>!x.1)&&(backToKw cpos (keywordEach [] X.env)).all (λ x=>x.1.isSome)
   && decide ([Expr.Constant (.int c) kk p3].length+([]:List Keyword).length+(if ([]:List Keyword).isEmpty then 0 else 1) < 30))=true:=by rfl)
 (hline:(apos.endLine == cpos.line)=true:=by rfl) (hst:starEach [.Constant (.int c) kk p3] X.env=(false,eval (.Constant (.int c) kk p3) X.env)::starEach [] X.env:=by rfl) (hplain:(backTo cpos (starEach [] X.env)).any (·.1)=false:=by rfl)
 (hsw:swapsWith (.Call (.Attribute (.Name x p2) "append" apos) [.Constant (.int c) kk p3] [] cpos) none epos.line X.env=pure false:=by rfl) :
 Bx (PSm X (.For (.Name x px) (.Name z pz) [.Expr (.Call (.Attribute (.Name x p2) "append" apos) [.Constant (.int c) kk p3] [] cpos) epos] [] pos) (pH i jx c)):=⟨sQ hp hc hz hv hN hx lx vx n2 hd hcl hdx hclx hs hfx hbase hfew hline hst hplain hsw⟩
end
end L2
end
section
namespace L2
open PySem PySem.Spec PyProof.Rows
def kq (X:Cx) (scope:Scope) (cl:List (Str×Addr)) (x:Str) (N:List Str) (s:Shared) (H:Hp) (fp:List Addr) (C B:Addr):Cx where
 prog:=X.prog
 w:=X.w
 K:=X.K
 mg:=X.mg
 base:=X.base
 A:=X.A
 N:=N
 s₀:=s
 H₀:=H
 env:=compEnvC scope ((x,B)::cl) C X.env
 outer:=X.stack
 stack:=X.stack
 ex:=fp
 calm:=X.calm
 fn:=λ y=>y == x
 pn:=[]
 xe:=λ _ _=>False
structure mT (X:Cx) (scope:Scope) (cl:List (Str×Addr)) (x:Str) (cs:List (Str×Nat)):Prop where
 ze:closureFor scope X.env=pure cl
 kind:scope.kind=.function
 cel:∀ n,cellsFrom n scope.names cl=(x,n)::cl
 psh:∀ h,pushCells h scope.names=h.push { cls:=.type "cell",data:=.cell none }
 names:∀ y ∈ scope.names,y.2=.local->scope.names.lookup y.1=some .local
 own:(relabel scope X.env).names.lookup x=some .cell
 sub:∀ y c,cl.lookup y=some c->X.env.cells.lookup y=some c
 has:∀ B y,((relabel scope X.env).names.lookup y=some .cell\/(relabel scope X.env).names.lookup y=some .free)->∃ c,((x,B)::cl).lookup y=some c
 Dk:∀ p ∈ cs,X.N[p.2]?=some p.1/\(X.env.kindOf p.1=some .cell\/X.env.kindOf p.1=some .free)/\((relabel scope X.env).names.lookup p.1=some .cell\/(relabel scope X.env).names.lookup p.1=some .free)
 nd:(x::cs.map (·.1)).Nodup
theorem jb {x:Str} {B:Addr} {cl:List (Str×Addr)} {y:Str} {c:Addr} (h:((x,B)::cl).lookup y=some c):(y=x/\c=B)\/(y≠x/\cl.lookup y=some c):=by grind
theorem yp {M:Model} {A:Around} {E:Value->Shared->Prop} {s:Shared} {scope:Scope} {g:Addr} {cl:List (Str×Addr)} {q:Str} {env:Env} {x:Str} {Q:Env->Shared->Prop}
  (hc:∀ n,cellsFrom n scope.names cl=(x,n)::cl) (hp:∀ h,pushCells h scope.names=h.push { cls:=.type "cell",data:=.cell none })
  (h:Q { scope,locals:=s.heap.objs.size,globals:=g,cells:=(x,s.heap.objs.size+1)::cl,qual:=q,func:=none,code:=env.code,frame:=env.frame,builtins:=env.builtins } { s with heap:=(s.heap.push { cls:=.type "dict",data:=.dict #[] }).push { cls:=.type "cell",data:=.cell none } }) :
  wpAny M A (newFunctionEnv scope g cl [] q none .none (some env)) Q E s:=by
 simp only [newFunctionEnv,Option.isSome_some,if_true];refine Zo (wpAny_alloc ?_);refine Zo (wpAny_layCells _ (λ name kind cells=>by cases hkc:kind == NameKind.cell <;> simp [hkc]) _ _ _ _ ?_);rw [hc,hp];refine Zo ?_
 rw [List.forIn_nil];refine Z3 (Z3 ?_);rw [show ({ s with heap:=s.heap.push { cls:=.type "dict",data:=.dict #[] } }:Shared).heap.objs.size=s.heap.objs.size+1 from Y7 ..];exact h
section
variable {X:Cx} {pins:List (Addr×Obj)} {σ:St} {H:Hp} {s:Shared} {scope:Scope} {cl:List (Str×Addr)} {x:Str} {cs:List (Str×Nat)} {fp:List Addr} {C B:Addr} {h':Heap} {t':Nat}
theorem qv (O:mT X scope cl x cs) (I:Inv X pins σ H s) (f2:∀ b ∈ fp,pj X pins H b) (there:∀ b ∈ fp,b < s.heap.objs.size) (hC:s.heap.objs.size<=C)
  (old:∀ b o,s.heap.get? b=some o->h'.get? b=some o) (hn:h'.Ns C λ _=>none) (hB:s.heap.objs.size<=B) (hb:h'.IsCell B none) :
  Inv (kq X scope cl x (x::cs.map (·.1)) s H fp C B) [] (none::aG σ cs) H { s with heap:=h',toks:=t' }:=by
 have low:∀ y c,cl.lookup y=some c->c < s.heap.objs.size:=λ y c e=>by
  obtain ⟨v,o,ho,_⟩:=I.cell y c (O.sub y c e);exact Zs ho
 have inj:∀ y z c,((x,B)::cl).lookup y=some c->((x,B)::cl).lookup z=some c->y=z:=λ y z c h1 h2=>by
  rcases jb h1 with ⟨rfl,rfl⟩ | ⟨_,k1⟩ <;> rcases jb h2 with ⟨rfl,e2⟩ | ⟨_,k2⟩
  · rfl
  · exact absurd (Zv (low z _ k2) hB) (Ym _)
  · subst e2; exact absurd (Zv (low y _ k1) hB) (Ym _)
  · exact I.ok.inj y z c (O.sub y c k1) (O.sub z c k2)
 refine ⟨⟨I.ok.mod,O.kind,I.ok.glob,I.ok.blt,hC,inj,λ y hy=>O.has B y hy,λ y c h e=>by rcases jb e with ⟨_,rfl⟩ | ⟨z,_⟩; exact hB; exact absurd (eq_of_beq h) z,I.ok.hd,I.ok.frames,.inl rfl,
   λ b hb=>⟨Zx (Zv (there b hb) hC),λ y c e=>by rcases jb e with ⟨_,rfl⟩ | ⟨_,e⟩; exact Nat.ne_of_gt (Zv (there b hb) hB); exact (f2 b hb).2.2.2.2.1 y c (O.sub y c e)⟩,I.bs,Z2 I.ok.bsz I.sz,λ b o e hb=>?_,λ b hb z=>?_,I.stack,I.pA⟩,
  rfl,I.bare,Un.kept old,⟨_,hn,λ i y v e1 e2 e3=>?_⟩,λ y c e=>?_,I.hok.fresh hC,λ y c e=>by rcases jb e with ⟨_,rfl⟩ | ⟨_,e⟩; exact I.hok.fresh hB; exact I.j9 y c (O.sub y c e),λ p hp=>absurd (show p ∈ ([]:List (Addr×Obj)) from hp) (by simp),I.hok.kept old,?_⟩
 ·rcases (f2 b hb).2.2.2.1 with z | z
  · exact I.ok.C8 b o e z
  · exact absurd (Zv (Zs e) (Z2 I.ok.bsz z)) (Ym _)
 · exact (Zi.mp (I.lq b z)).elim (f2 b hb).2.1 (f2 b hb).2.2.1
 ·cases i with
  | zero=>simp at e2
  | succ j =>
   have e1':(cs.map (·.1))[j]?=some y:=by simpa [kq] using e1
   have e2':(aG σ cs)[j]?=some (some v):=by simpa using e2
   unfold aG at e2';rw [List.getElem?_map] at e1' e2'
   cases q:cs[j]? with
   | none=>rw [q] at e1'; cases e1'
   | some p =>
    rw [q] at e1' e2';have ey:p.1=y:=by simpa using e1'
    have ev:(σ[p.2]?).join=some v:=by simpa using e2'
    have ev':σ[p.2]?=some (some v):=by
     cases z:σ[p.2]? with
     | none=>rw [z] at ev; cases ev
     | some o=>rw [z] at ev; exact Z9 some ev
    obtain ⟨c1,c2,c3⟩:=O.Dk p (List.mem_of_getElem? q);subst ey;obtain ⟨m,hm,hl⟩:=I.loc
    obtain ⟨u,ru,lk⟩:=hl p.2 p.1 v c1 ev' (by
     rcases c2 with c2 | c2
     · exact .inr (.inl c2)
     · exact .inr (.inr c2))
    obtain ⟨c',ec0⟩:=O.has B p.1 c3;have npx:p.1≠x:=λ e=>(Zu.mp O.nd).1 (e ▸ Z6.mpr ⟨p,List.mem_of_getElem? q,rfl⟩)
    have ec':cl.lookup p.1=some c':=by rcases jb ec0 with ⟨z,_⟩ | ⟨_,z⟩; exact absurd z npx; exact z
    refine ⟨u,ru,.inr ⟨c3,c',ec0,?_⟩⟩;rcases lk with ⟨k,_⟩ | ⟨_,c,ec,o,ho,hd⟩
    ·rcases c2 with c2 | c2
     · rw [c2] at k; cases k
     · rw [c2] at k; cases k
    ·have:=O.sub p.1 c' ec'
     rw [ec] at this;cases this;exact ⟨o,old _ o ho,hd⟩
 ·rcases jb e with ⟨_,rfl⟩ | ⟨_,e⟩
  · exact ⟨_,hb⟩
  ·obtain ⟨v,o,ho,hd⟩:=I.cell y c (O.sub y c e)
   exact ⟨v,o,old c o ho,hd⟩
 · simp [kq,aG]
end
section
variable {X:Cx}
theorem qw {elt iter:Expr} {x:Str} {px pos:Pos} {scope:Scope} {cl:List (Str×Addr)} {cs:List (Str×Nat)} {te:TE} {pins:List (Addr×Obj)} {σ:St} {H:Hp} {s:Shared} {Q:VK} {it:Addr} {fp:List Addr} {tn:Nat->Heap->Prop} {J:It}
  {RR:Value->Addr->Result->Shared->Prop} {E:Value->Shared->Prop} (hc:X.calm=true) (O:mT X scope cl x cs) (he:∀ s H fp C B,PE (kq X scope cl x (x::cs.map (·.1)) s H fp C B) elt te)
  (I:Inv X pins σ H s) (T:Turn X.prog X.w X.K (.Name x px) J fp it tn) (st:tn 0 s.heap) (f2:∀ b ∈ fp,pj X pins H b)
  (h : ∃ W:Nat->Nat->List V->Hp->Prop,(∃ m,W 0 m [] H)/\∀ i m ys H',W i m ys H' ->
    (J.stop i H'/\ys.length<=sizeLine/\∀ p,H' p=none->Q (.ref p) (upd H' p (.lst ys))) \/
    (J.go i H'/\ys.length < sizeLine/\∀ v H2,J.yld i H' v H2->te (some v::aG σ cs) H2 λ y H3=>∃ m',m' < m/\W (i+1) m' (ys++[y]) H3))
  (hRR:∀ D C s' H' ys,s.heap.objs.size<=D->s.heap.objs.size<=C->D≠C->(∃ m,s'.heap.Ns C m)->Inv X pins σ (upd H' D (.lst ys)) s'->H' C=none->Q (.ref D) (upd H' D (.lst ys))->RR (.ref D) C (.ok .next) s') :
  wpAny (model X.prog X.w) X.A (newList []) (λ acc s₃=>wpAny (model X.prog X.w) X.A (newFunctionEnv scope X.env.globals cl [] X.env.qual none .none (some X.env)) (λ cenv s₄ =>
    codeAny (model X.prog X.w) X.A (.compStart (.ListComp elt [⟨.Name x px,iter,[],0⟩] scope pos) 0 (.ref it) acc { cenv with scope:=relabel scope X.env }) (RR acc cenv.locals) s₄) E s₃) E s:=by
 obtain ⟨W,⟨m0,w0⟩,turn⟩:=h;refine Xw (yp O.cel O.psh ?_);generalize hH2:s.heap.push { cls:=.type "list",dict:=none,data:=.seq ([]:List Value).toArray }=H2;have hC:H2.objs.size=s.heap.objs.size+1:=by rw [<- hH2,Y7]
 have hDC:s.heap.objs.size≠H2.objs.size:=by rw [hC]; exact Zx (Xa _)
 have hCle:s.heap.objs.size<=H2.objs.size:=by rw [hC]; exact Nat.le_succ _
 have hs1:(H2.push { cls:=.type "dict",data:=.dict #[] }).objs.size=H2.objs.size+1:=Y7 ..;have keep2:∀ b o,H2.get? b=some o->((H2.push { cls:=.type "dict",data:=.dict #[] }).push { cls:=.type "cell",data:=.cell none }).get? b=some o:=λ b o e=>Heap.get?_push_of_some _ (Heap.get?_push_of_some _ e)
 have hacc:=keep2 _ _ (hH2 ▸ Heap.get?_push_size _ rfl);have old:∀ b o,s.heap.get? b=some o->((H2.push { cls:=.type "dict",data:=.dict #[] }).push { cls:=.type "cell",data:=.cell none }).get? b=some o:=λ b o e=>keep2 b o (hH2 ▸ Heap.get?_push_of_some _ e)
 have hns:((H2.push { cls:=.type "dict",data:=.dict #[] }).push { cls:=.type "cell",data:=.cell none }).Ns H2.objs.size λ _=>none:=(Heap.Ns.new H2 (.type "dict")).keeps λ b o e=>Heap.get?_push_of_some _ e
 have hcl:((H2.push { cls:=.type "dict",data:=.dict #[] }).push { cls:=.type "cell",data:=.cell none }).IsCell (H2.objs.size+1) none:=⟨_,by rw [<- hs1]; exact Heap.get?_push_size _ rfl,rfl⟩
 have there:∀ b ∈ fp,b < s.heap.objs.size:=λ b hb=>by
  obtain ⟨o,e,_⟩:=T.obj _ _ st b hb;exact Zs e
 generalize (H2.push { cls:=.type "dict",data:=.dict #[] }).push { cls:=.type "cell",data:=.cell none }=h₁ at old hacc hns hcl ⊢;have hB:s.heap.objs.size<=H2.objs.size+1:=Nat.le_succ_of_le hCle;have hDB:s.heap.objs.size≠H2.objs.size+1:=by rw [hC]; exact Zx (Nat.lt_succ_of_lt (Xa _))
 generalize hBB:H2.objs.size+1=B at hcl hB hDB ⊢;generalize hD:s.heap.objs.size=D at hDC hCle hacc hB hDB;generalize hCC:H2.objs.size=C at hDC hCle hns ⊢;have st1:=T.keep _ _ _ st λ b _ o e=>old b o e
 exact oB (s1:={ s with heap:=h₁ }) hc I T f2 there w0 turn hRR hD hDC hCle st1 hacc (qv O I f2 there (by rw [hD]; exact hCle) old hns (by rw [hD]; exact hB) hcl) (gL O.nd rfl (.inr O.own) (.inl (beq_self_eq_true x))) (he _ _ _ _ _) ⟨rfl,rfl,rfl,rfl,rfl,rfl,rfl,rfl,rfl,rfl,rfl,rfl⟩ rfl λ z c e=>(jb e).elim (λ e=>.inl (e.2 ▸ Nat.lt_of_le_of_ne hB hDB)) λ e=>.inr (O.sub z c e.2)
theorem yh {elt iter:Expr} {x:Str} {px pos:Pos} {scope:Scope} {cl:List (Str×Addr)} {cs:List (Str×Nat)} {wi:TI} {te:TE} (hc:X.calm=true) (O:mT X scope cl x cs) (hi:PI X (.Name x px) iter wi)
  (he:∀ s H fp C B,PE (kq X scope cl x (x::cs.map (·.1)) s H fp C B) elt te) (hs:∀ x,foldedSetIterable iter X.env x=pure x:=by intro _; rfl) :
  PE X (.ListComp elt [⟨.Name x px,iter,[],0⟩] scope pos) (xG wi te cs):=by
 intro pins s σ H Q I h;rw [eval_ListComp];refine Y5 rfl hs O.ze O.kind O.names (thn (hi pins s σ H _ I h) λ v s1 h1=>thn h1 λ itv s2 h2=>?_);obtain ⟨it,fp,tn,J,H2,rfl,I2,T,st2,f2,hw⟩:=h2;refine qw hc O he I2 T st2 f2 hw λ D C s' H' ys hD hC hDC ⟨m,hm⟩ I' hn q=>?_
 refine ⟨m,hm,λ h' hs'=>?_⟩;have hn':upd H' D (.lst ys) C=none:=by rw [ar (Ne.symm hDC)]; exact hn
 have FC:=I2.tK hC hn';exact ⟨.ref D,upd H' D (.lst ys),I'.turned (λ b o hb e=>(hs'.2 b hb).trans e) hn' FC.2.1 FC.2.2.2.1 FC.2.2.2.2.1 FC.2.2.2.2.2,rfl,q⟩
theorem ckC {X:Cx} {scope:Scope} {cl:List (Str×Addr)} {x:Str} (cs:List (Str×Nat)) (h0:closureFor scope X.env=pure cl:=by rfl) (h1:scope.kind=.function:=by rfl) (h2:∀ n,cellsFrom n scope.names cl=(x,n)::cl:=by intro _; rfl) (h2':∀ h,pushCells h scope.names=h.push { cls:=.type "cell",data:=.cell none }:=by intro _; rfl)
  (h3:(scope.names.all λ y=>!(y.2 == .local)||(scope.names.lookup y.1 == some .local))=true:=by rfl) (h4:(relabel scope X.env).names.lookup x=some .cell:=by rfl) (h5:CU X cl:=by repeat' first | exact trivial | rfl | constructor)
  (h6:((relabel scope X.env).names.all λ p=>!(p.2 == .cell||p.2 == .free)||(p.1 == x||(cl.lookup p.1).isSome))=true:=by rfl)
  (h7:AllP X scope cs:=by repeat' first | exact trivial | rfl | constructor) (h8:(x::cs.map (·.1)).Nodup:=by decide +kernel):mT X scope cl x cs where
 ze:=h0
 kind:=h1
 cel:=h2
 psh:=h2'
 names:=λ y hy z=>by
  have:=Yy.mp h3 y hy;rw [z] at this
  simpa using this
 own:=h4
 sub:=λ y c e=>h5.all (y,c) (Yg e)
 has := λ B y hy=>by
  have key:∀ k,(relabel scope X.env).names.lookup y=some k->(k=.cell\/k=.free)->∃ c,((x,B)::cl).lookup y=some c:=λ k e hk=>by
   have:=Yy.mp h6 (y,k) (Yg e);have this:y=x\/(cl.lookup y).isSome=true:=by rcases hk with rfl | rfl <;> simpa using this
   rw [X0]
   by_cases z:y=x
   ·subst z
    rw [beq_self_eq_true];exact ⟨_,rfl⟩
   ·rw [show (y == x)=false from beq_false_of_ne z]
    exact Yu.mp (this.resolve_left z)
  rcases hy with hy | hy
  · exact key _ hy (.inl rfl)
  · exact key _ hy (.inr rfl)
 Dk:=λ p hp=>⟨(h7.all p hp).1,.inl (h7.all p hp).2.1,.inl (h7.all p hp).2.2⟩
 nd:=h8
end
end L2
end
section
local macro_rules | `(tactic| walk_at "v")=>`(tactic| first | exact .inl rfl | exact .inr rfl | assumption)
local macro_rules | `(tactic| walk_at "w")=>`(tactic| first | exact .inl rfl | exact .inr (.inl rfl) | exact .inr (.inr rfl))
namespace N16
open PySem L2
def top (i:Nat):Stmt:=PySem.Challenge.pw_stylehouse_k16_ends.main.body.getD i (.Pass ⟨0,0,0,0⟩)
structure Adr where
 cL:Addr
 af:Addr
structure Txt (K:W.Frag) (mg:Str->Option Value) (t:Adr):Prop where
 vy:mg "Trait"=some (.ref t.cL)
 mF:Cls K t.cL
 ib:cU K t.cL "told"
 z3:mg "Tree"=some (.ref t.af)
 aD:Cls K t.af
 fh:cU K t.af "given"
 cz:cU K t.af "names"
 dG:cU K t.af "holders"
 cA:cU K t.af "boxes"
 bD:cU K t.af "marks"
 ia:cU K t.af "words"
 i9:cU K t.af "rows"
 wu:Df K mg "is_name" (top 27) ["thing"]
 om:Df K mg "_law_whole" (top 39) ["_law_found"]
 oj:Df K mg "check_name" (top 32) ["name"]
 tO:Df K mg "trait_of" (top 10) ["told"]
 Kz:Lf K mg "law" (top 52) "_law_script"
 my:Df K mg "check_place" (top 33) ["place","row"]
 qm:Df K mg "_law_cell" (top 35) ["_law_script","_law_k"]
 tQ:Df K mg "_law_mix" (top 36) ["_law_cell_here","_law_way"]
 oo:Df K mg "_law_under" (top 41) ["_law_rows","_law_box"]
 qj:Df K mg "_law_name" (top 37) ["_law_cell_here","_law_way"]
 kg:Df K mg "_law_same_row" (top 40) ["_law_found","_law_due"]
 wz:Df K mg "beneath" (top 2) ["tree","box"]
 yR:Df K mg "row_of" (top 3) ["tree","box"]
 og:Df K mg "holders_of" (top 5) ["tree","box"]
 qi:Df K mg "_law_pool" (top 38) ["_law_script","_law_at"]
 Cv:Df K mg "ahead" (top 4) ["tree","box"]
 tP:Df K mg "depth_of" (top 6) ["tree","box"]
 wq:Df K mg "spot_of" (top 7) ["tree","box"]
 wy:Df K mg "ends_of" (top 14) ["tree","pattern"]
 oe:Df K mg "is_counted" (top 12) ["place","first","step"]
 qk:Df K mg "_law_many" (top 42) ["_law_cell_here","_law_way","_law_most"]
 oq:Df K mg "_law_plain" (top 45) ["_law_cell_here","_law_way","_law_pool_here"]
 qh:Df K mg "joined_to" (top 17) ["tree","join","box"]
 kf:Df K mg "has_trait" (top 11) ["tree","box","told"]
 wx:Df K mg "has_all" (top 18) ["tree","box","traits"]
 jd:Df K mg "_law_trait" (top 46) ["_law_cell_here","_law_way","_law_pool_here","_law_deep"]
 k9:Df K mg "_law_pattern" (top 50) ["_law_cell_here","_law_way","_law_pool_here","_law_most"]
 ot:Df K mg "_law_leads" (top 48) ["_law_rows","_law_facts","_law_join","_law_one","_law_box"]
 lL:Df K mg "_law_has" (top 44) ["_law_rows","_law_facts","_law_marks","_law_trait_here","_law_box"]
 tR:Df K mg "_law_all" (top 47) ["_law_rows","_law_facts","_law_marks","_law_traits","_law_box"]
 wt:Df K mg "reaches" (top 15) ["tree","pattern","place","box","known"]
 oa:Df K mg "link_of" (top 16) ["tree","pattern","place","box","known"]
 mz:Df K mg "_law_closed" (top 51) ["_law_tree","_law_rows","_law_facts","_law_marks","_law_pattern_here"]
 k8:Df K mg "_law_reached" (top 49) ["_law_rows","_law_facts","_law_marks","_law_step","_law_early","_law_box"]
 ql:Df K mg "_law_grow" (top 43) ["_law_tree","_law_rows","_law_facts","_law_marks","_law_pool_here","_law_cell_here","_law_way"]
 jq:If K t.cL "Trait.__init__" (inClass (top 9) 0) ["self","told"]
 kj:If K t.af "Tree.__init__" (inClass (top 31) 0) ["self","name"]
 ox:Mf K t.af "check" "Tree.check" (inClass (top 31) 2) ["self","box"]
 lg:Mf K t.af "name_of" "Tree.name_of" (inClass (top 31) 11) ["self","box"]
 kh:Mf K t.af "marks_of" "Tree.marks_of" (inClass (top 31) 12) ["self","box"]
 jn:Mf K t.af "holder_of" "Tree.holder_of" (inClass (top 31) 15) ["self","box"]
 ki:Mf K t.af "boxes_of" "Tree.boxes_of" (inClass (top 31) 16) ["self","box"]
 ou:Mf K t.af "enter" "Tree.enter" (inClass (top 31) 1) ["self","holder","name"]
 qo:Mf K t.af "mark" "Tree.mark" (inClass (top 31) 6) ["self","box","word"]
 qp:Mf K t.af "bare" "Tree.bare" (inClass (top 31) 7) ["self","box","word"]
 oy:Mf K t.cL "fits" "Trait.fits" (inClass (top 9) 1) ["self","tree","box"]
 tT:Mf K t.af "put" "Tree.put" (inClass (top 31) 3) ["self","holder","place","name"]
 Hr:mg "all"=none
 Hq:mg "any"=none
 Dn:mg "bool"=none
 jD:mg "enumerate"=none
 Ho:mg "int"=none
 cP:mg "isinstance"=none
 fF:mg "len"=none
 g8:mg "list"=none
 fE:mg "range"=none
 gs:mg "reversed"=none
 xy:mg "sorted"=none
 Hn:mg "str"=none
 pk:mg "tuple"=none
 k5:Ic mg "LONGEST_NAME" 8
 nO:Ic mg "MOST_BOXES" 90
 p5:Ic mg "MOST_DEEP" 12
abbrev gOD (f:∀ (P:Program) (w:World) (K:W.Frag) (mg:Str->Option Value) (base:Heap),DS->Prop) (t:Adr):Type:={G:DS // ∀ {P w K mg base},Txt K mg t->f P w K mg base G}
abbrev gO0 (f:∀ (P:Program) (w:World) (K:W.Frag) (mg:Str->Option Value) (base:Heap),DS->Prop):Type:={G:DS // ∀ {t P w K mg base},Txt K mg t->f P w K mg base G}
abbrev gFD (k:Nat) (x:Str) (n m:Nat) (P:Program) (w:World) (K:W.Frag) (mg:Str->Option Value) (base:Heap) (G:DS):Prop:=Go P w K mg base k x (spF (cc n m G) K)
abbrev gMD (k:Nat) (C:Addr) (x:Str) (n m:Nat) (P:Program) (w:World) (K:W.Frag) (mg:Str->Option Value) (base:Heap) (G:DS):Prop:=GoM P w K mg base k C x (spF (cc n m G) K)
abbrev gOM (f:∀ (P:Program) (w:World) (K:W.Frag) (mg:Str->Option Value) (base:Heap),DSm->Prop) (t:Adr):Type:={G:DSm // ∀ {P w K mg base},Txt K mg t->f P w K mg base G}
abbrev gFM (k:Nat) (x:Str) (n m:Nat) (P:Program) (w:World) (K:W.Frag) (mg:Str->Option Value) (base:Heap) (G:DSm):Prop:=Go P w K mg base k x (spM (jK n m G) K)
abbrev gMM (k:Nat) (C:Addr) (x:Str) (n m:Nat) (P:Program) (w:World) (K:W.Frag) (mg:Str->Option Value) (base:Heap) (G:DSm):Prop:=GoM P w K mg base k C x (spM (jK n m G) K)
abbrev gIM (k:Nat) (C:Addr) (n m:Nat) (P:Program) (w:World) (K:W.Frag) (mg:Str->Option Value) (base:Heap) (G:DSm):Prop:=GoI P w K mg base k C (spM (jK n m G) K)
section
variable {P:Program} {w:World} {K:W.Frag} {mg:Str->Option Value} {base:Heap} {t:Adr}
set_option maxHeartbeats 4000000
theorem jm (T:Txt K mg t):GoI P w K mg base 1 t.cL (uz t.cL ["told"]):=by
 obtain ⟨a,d,F,m,bi⟩:=T.jq;refine ⟨a,d,_,m,bi,?_⟩;refine F.ok (N:=["self","told"]) ⟨rfl,rfl,rfl,by decide +kernel,rfl,by decide +kernel,by decide +kernel⟩ (λ vs H Q E h=>?_) (λ cdv A outer s H vs Q E hr h=>?_)
 ·obtain ⟨x,ws,dx,rfl,hl,_⟩:=h
  exact Z9 (·+1) hl
 obtain ⟨x,ws,dx,rfl,hl,hH,q⟩:=h
 obtain ⟨v0,rfl⟩:∃ v0:V,ws=[v0]:=by
  match ws,hl with
  | [v0],_=>exact ⟨v0,rfl⟩
 refine ⟨_,(d9 (zI (pv 0) (pv 1) rfl)),?_⟩;refine ⟨_,rfl,_,rfl,x,_,dx,_,rfl,hH,T.mF,T.ib,(by show 0 < 1000; decide),?_⟩;exact q
noncomputable def fU:gO0 (gFD 1 "is_counted" 3 3):=⟨_,λ T=>oD ["place","first","step"] T.oe λ hr nd =>
 (ae (aA (cb (aa 2) ab) (ag (ao (xx (aa 0) (aa 1)))) aq) (ag (ao (xx (bA (aa 0) (aa 2)) (bA (aa 1) (aa 2))))))⟩
noncomputable def f9:=cc 3 3 (fU).1
theorem nC (T:Txt K mg t):Go P w K mg base 1 "is_counted" (spF (f9) K):=(fU).2 T
noncomputable def kK:gO0 (gFD 1 "is_name" 1 1):=⟨_,λ T=>oD ["thing"] T.wu λ hr nd =>
 (ae (aA (bX (bH (aJ wV T.cP (cJ (aa 0) (kH (n:="str") T.Hn))))) (ag (ao aS)) aq) (ae (aA (bX (kD F9 F9 ab (aJ ip T.fF (cf (aa 0))) (KQ T.k5))) (ag (ao aS)) aq) (ag (ao (aJ (KO rfl) T.Hr (cf (aW (iu ck0 (xc (aa 0)) (λ _ _ _ _=>(ub Ej Ej aH (aa 0) aH))))))))))⟩
noncomputable def kQ:=cc 1 1 (kK).1
theorem vc (T:Txt K mg t):Go P w K mg base 1 "is_name" (spF (kQ) K):=(kK).2 T
noncomputable def fZ (t:Adr):gOM (gMM 1 t.af "enter" 4 3) t:=⟨_,λ T=>oMm ["self","holder","name","box"] T.ou λ hr nd =>
 (ai (aM 3 nd (he:=av (sg (cD T.aD T.fh (aa 0))))) (ai (cT T.aD T.fh (au 0) (av (a5 (bE (aa 3) ab)))) (ai (bz (eR hr) (dq T.aD T.cz (au 0)) (aa 3) (av (a5 (aa 2)))) (ai (bz (eR hr) (dq T.aD T.dG (au 0)) (aa 3) (av (a5 (aa 1)))) (ai (bz (eR hr) (dq T.aD T.cA (au 0)) (aa 3) (av (jh (a9 bJ)))) (ai (bz (eR hr) (dq T.aD T.bD (au 0)) (aa 3) (av gT)) (ai (bz (eR hr) (dq T.aD T.ia (au 0)) (aa 3) (av (jh (a9 bJ)))) (ai (bz (eR hr) (dq T.aD T.i9 (au 0)) (aa 3) (av (a5 (cC bJ)))) (aF (bw (av (a5 (aa 3)))))))))))))⟩
noncomputable def gr (t:Adr):=jK 4 3 (fZ t).1
theorem iZ (T:Txt K mg t):GoM P w K mg base 1 t.af "enter" (spM (gr t) K):=(fZ t).2 T
noncomputable def f6 (t:Adr):gOD (gMD 1 t.af "check" 2 2) t:=⟨_,λ T=>oDm ["self","box"] T.ox λ hr nd =>
 (ag (aA (jg hr.units rfl (aa 1) (cD T.aD T.cz (aa 0))) (ag gS) aq))⟩
noncomputable def d7 (t:Adr):=cc 2 2 (f6 t).1
theorem bV (T:Txt K mg t):GoM P w K mg base 1 t.af "check" (spF (d7 t) K):=(f6 t).2 T
noncomputable def fm:gO0 (gFD 1 "check_place" 2 2):=⟨_,λ T=>oD ["place","row"] T.my λ hr nd =>
 (ag (aA (bX (kD F9 F9 ab (aa 0) (aJ ip T.fF (cf (aa 1))))) (ag gS) aq))⟩
noncomputable def fu:=cc 2 2 (fm).1
theorem ma (T:Txt K mg t):Go P w K mg base 1 "check_place" (spF (fu) K):=(fm).2 T
noncomputable def gY:gO0 (gFD 1 "_law_cell" 2 2):=⟨_,λ T=>oD ["_law_script","_law_k"] T.qm λ hr nd =>
 (ae (aA (FU (aa 1) (aJ ip T.fF (cf (aa 0)))) (ag (ao (aV (aa 0) (aa 1)))) aq) (ag (ao ab)))⟩
noncomputable def dX:=cc 2 2 (gY).1
theorem bo (T:Txt K mg t):Go P w K mg base 1 "_law_cell" (spF (dX) K):=(gY).2 T
noncomputable def iN:gO0 (gFD 1 "_law_mix" 3 2):=⟨_,λ T=>oD ["_law_cell_here","_law_way","_law_first"] T.tQ λ hr nd =>
 (ae (e9 2 nd (bA (bE (ji (aa 0) ab) (ji (aa 1) ab)) ab)) (ag (ao (bA (ji (aa 2) (bE ab (ji ab (aa 1)))) ab))))⟩
noncomputable def cu:=cc 3 2 (iN).1
theorem a7 (T:Txt K mg t):Go P w K mg base 1 "_law_mix" (spF (cu) K):=(iN).2 T
noncomputable def jk:gO0 (gFD 1 "_law_whole" 1 1):=⟨_,λ T=>oD ["_law_found"] T.om λ hr nd =>
 (ag (ao (mM (aJ wV T.cP (cJ (aa 0) (kH (n:="int") T.Ho))) (jA (mL (aJ wV T.cP (cJ (aa 0) (kH (n:="bool") T.Dn))))))))⟩
noncomputable def gj:=cc 1 1 (jk).1
theorem nD (T:Txt K mg t):Go P w K mg base 1 "_law_whole" (spF (gj) K):=(jk).2 T
noncomputable def fX (t:Adr):gOD (gFD 1 "_law_under" 5 2) t:=⟨_,λ T=>oD ["_law_rows","_law_box","_law_told","_law_todo","_law_one"] T.oo λ hr nd =>
 (ae (dv 2 nd (he:=a9 bJ)) (ae (dv 3 nd (he:=a9 (cf (aa 1)))) (ae (fj (wX 3 (t6 (aJ ip T.fF (cf (aa 3))) ab)) (ae (lR 4 3 nd) (ae (ir 2 (he:=aa 4)) (ag (oS 3 (he:=aW (jz T.g8 T.gs (aO hr.units (λ _ _=>rfl) (aa 0) (aa 4))))))))) (ag (iJ 2)))))⟩
noncomputable def gm (t:Adr):=cc 5 2 (fX t).1
theorem nE (T:Txt K mg t):Go P w K mg base 1 "_law_under" (spF (gm t) K):=(fX t).2 T
noncomputable def fY:gO0 (gFD 1 "_law_leads" 7 5):=⟨_,λ T=>oD ["_law_rows","_law_facts","_law_join","_law_one","_law_box","_law_holder","_law_far"] T.ot λ hr nd =>
 (ae (e9 5 nd (aV (aO hr.units (λ _ _=>rfl) (aa 1) (aa 4)) ab)) (ae (aA (cb (aa 2) aH) (ag (ao (mM (CL (aa 5) d5) (jA (xx (aa 5) (aa 3)))))) aq) (ae (aA (cb (aa 2) aH) (ae (fj (mI (aa 5) d5) (ae (aA (cb (aa 5) (aa 3)) (ag (ao aS)) aq) (ag (e9 5 nd (aV (aO hr.units (λ _ _=>rfl) (aa 1) (aa 5)) ab))))) (ag (ao aS))) aq) (ae (aA (eX (gA (FV (aa 5) d5) (eV (zj (aa 3) (aO hr.units (λ _ _=>rfl) (aa 0) (aa 5)))))) (ag (ao aS)) aq) (ae (e9 6 nd (qD (iy (aO hr.units (λ _ _=>rfl) (aa 0) (aa 5)) (aa 4)) (iy (aO hr.units (λ _ _=>rfl) (aa 0) (aa 5)) (aa 3)))) (ag (ao (CK (xx (aa 6) ab) (jA (mM (xx (aa 2) aH) (jA (NF (aa 6) ab))))))))))))⟩
noncomputable def cv:=cc 7 5 (fY).1
theorem nG (T:Txt K mg t):Go P w K mg base 1 "_law_leads" (spF (cv) K):=(fY).2 T
noncomputable def eE (t:Adr):gOD (gMD 2 t.af "name_of" 2 2) t:=⟨_,λ T=>oDm ["self","box"] T.lg λ hr nd =>
 (ae (gB (be T.aD (bV T) hr (aa 0) (cf (aa 1)))) (ag (ao (aO hr.units (λ _ _=>rfl) (cD T.aD T.cz (aa 0)) (aa 1)))))⟩
noncomputable def eI (t:Adr):=cc 2 2 (eE t).1
theorem kY (T:Txt K mg t):GoM P w K mg base 2 t.af "name_of" (spF (eI t) K):=(eE t).2 T
noncomputable def dO (t:Adr):gOD (gMD 2 t.af "marks_of" 2 2) t:=⟨_,λ T=>oDm ["self","box"] T.kh λ hr nd =>
 (ae (gB (be T.aD (bV T) hr (aa 0) (cf (aa 1)))) (ag (cK (t8 hr.hd T.xy (aO hr.units (λ _ _=>rfl) (cD T.aD T.bD (aa 0)) (aa 1))))))⟩
noncomputable def dY (t:Adr):=cc 2 2 (dO t).1
theorem jT (T:Txt K mg t):GoM P w K mg base 2 t.af "marks_of" (spF (dY t) K):=(dO t).2 T
noncomputable def c7 (t:Adr):gOD (gMD 2 t.af "holder_of" 2 2) t:=⟨_,λ T=>oDm ["self","box"] T.jn λ hr nd =>
 (ae (gB (be T.aD (bV T) hr (aa 0) (cf (aa 1)))) (ag (ao (aO hr.units (λ _ _=>rfl) (cD T.aD T.dG (aa 0)) (aa 1)))))⟩
noncomputable def bL (t:Adr):=cc 2 2 (c7 t).1
theorem c6 (T:Txt K mg t):GoM P w K mg base 2 t.af "holder_of" (spF (bL t) K):=(c7 t).2 T
noncomputable def dQ (t:Adr):gOD (gMD 2 t.af "boxes_of" 2 2) t:=⟨_,λ T=>oDm ["self","box"] T.ki λ hr nd =>
 (ae (gB (be T.aD (bV T) hr (aa 0) (cf (aa 1)))) (ag (cK (kF T.g8 (cf (aO hr.units (λ _ _=>rfl) (cD T.aD T.cA (aa 0)) (aa 1)))))))⟩
noncomputable def cG (t:Adr):=cc 2 2 (dQ t).1
theorem dF (T:Txt K mg t):GoM P w K mg base 2 t.af "boxes_of" (spF (cG t) K):=(dQ t).2 T
noncomputable def fW:gO0 (gFD 2 "check_name" 1 1):=⟨_,λ T=>oD ["name"] T.oj λ hr nd =>
 (ag (aA (bX (bH (aj (vc T) hr (cf (aa 0))))) (ag gS) aq))⟩
noncomputable def gh:=cc 1 1 (fW).1
theorem d3 (T:Txt K mg t):Go P w K mg base 2 "check_name" (spF (gh) K):=(fW).2 T
noncomputable def gX:gO0 (gFD 2 "_law_name" 4 2):=⟨_,λ T=>oD ["_law_cell_here","_law_way","_law_letters","_law_size"] T.qj λ hr nd =>
 (ae (e9 2 nd aH) (ae (e9 3 nd (bE ab (bA (aj (a7 T) hr (cJ (aa 0) (bE (aa 1) ab))) ab))) (ag (ao (xh aH (aW (iu (ckN [("_law_letters",2),("_law_cell_here",0),("_law_way",1)]) (bZ T.fE (cf (aa 3))) (λ _ _ _ _=>(aV (aa 1) (bA (aj (a7 T) hr (cJ (aa 2) (bE (aa 3) (ji ab (aa 0))))) ab))))))))))⟩
noncomputable def fw:=cc 4 2 (gX).1
theorem jR (T:Txt K mg t):Go P w K mg base 2 "_law_name" (spF (fw) K):=(gX).2 T
noncomputable def dN:gO0 (gFD 2 "_law_same_row" 3 2):=⟨_,λ T=>oD ["_law_found","_law_due","_law_k"] T.kg λ hr nd =>
 (ae (aA (eX (gA (bX (bH (aJ wV T.cP (cJ (aa 0) (kH (n:="list") T.g8))))) (eV (jy (aJ ip T.fF (cf (aa 0))) (aJ ip T.fF (cf (aa 1))))))) (ag (ao aS)) aq) (ae (eW (bZ T.fE (cf (aJ ip T.fF (cf (aa 1))))) (dA 2 nd) (ag (aA (eX (gA (bX (bH (aj (nD T) hr (cf (aV (aa 0) (aa 2)))))) (eV (jy (aV (aa 0) (aa 2)) (aV (aa 1) (aa 2)))))) (ag (ao aS)) aq))) (ag (ao aS))))⟩
noncomputable def cE:=cc 3 2 (dN).1
theorem jQ (T:Txt K mg t):Go P w K mg base 2 "_law_same_row" (spF (cE) K):=(dN).2 T
noncomputable def fo:gO0 (gFD 2 "_law_many" 4 3):=⟨_,λ T=>oD ["_law_cell_here","_law_way","_law_most","_law_draw"] T.qk λ hr nd =>
 (ae (e9 3 nd (aj (a7 T) hr (cJ (aa 0) (aa 1)))) (ae (aA (t6 (bA (aa 3) ab) ab) (ag (ao (qD (aa 2) (bA (aZ (aa 3) ab) ab)))) aq) (ag (ao (bA (aZ (aa 3) ab) (bE (aa 2) ab))))))⟩
noncomputable def kR:=cc 4 3 (fo).1
theorem pT (T:Txt K mg t):Go P w K mg base 2 "_law_many" (spF (kR) K):=(fo).2 T
noncomputable def d6:gO0 (gFD 2 "_law_plain" 7 3):=⟨_,λ T=>oD ["_law_cell_here","_law_way","_law_pool_here","_law_draw","_law_kind","_law_first","_law_every"] T.oq λ hr nd =>
 (ae (e9 3 nd (aj (a7 T) hr (cJ (aa 0) (aa 1)))) (ae (e9 4 nd (bA (aa 3) ab)) (ae (aA (eX (gA (cb (aa 4) ab) (eV (cb (aa 4) ab)))) (ag (ao (cC (cf aH)))) aq) (ae (aA (cb (aa 4) ab) (ag (ao (cC (cJ aH (aV (aa 2) (bA (aZ (aa 3) ab) ab)))))) aq) (ae (aA (cb (aa 4) ab) (ag (ao (cC (cJ aH (aV (aa 2) (bA (aZ (aa 3) ab) ab)))))) aq) (ae (e9 5 nd (bA (aZ (aa 3) ab) ab)) (ae (e9 6 nd (bA (aZ (aa 3) ab) ab)) (ae (aA (cb (bA (aZ (aa 3) ab) ab) ab) (ae (e9 5 nd (bA (aa 0) (FX ab ab))) (ag (e9 6 nd (aZ (aa 3) ab)))) aq) (ae (aA (cb (bA (aZ (aa 3) ab) ab) ab) (ag (e9 6 nd (bA (aa 0) (FX ab ab)))) aq) (ag (ao (cC (jC (aV (aW (a9 (cJ aH aH))) (bA (aa 4) ab)) (aa 5) (aa 6))))))))))))))⟩
noncomputable def gq:=cc 7 3 (d6).1
theorem iY (T:Txt K mg t):Go P w K mg base 2 "_law_plain" (spF (gq) K):=(d6).2 T
noncomputable def kN (t:Adr):gOD (gFD 3 "beneath" 5 2) t:=⟨_,λ T=>oD ["tree","box","found","left","one"] T.wz λ hr nd =>
 (ae (dv 2 nd (he:=a9 bJ)) (ae (dv 3 nd (he:=jz T.g8 T.gs (be T.aD (dF T) hr (aa 0) (cf (aa 1))))) (ae (fj (t7 3) (ae (lR 4 3 nd) (ae (ir 2 (he:=aa 4)) (ag (oS 3 (he:=aW (jz T.g8 T.gs (be T.aD (dF T) hr (aa 0) (cf (aa 4)))))))))) (ag (iJ 2)))))⟩
noncomputable def cW (t:Adr):=cc 5 2 (kN t).1
theorem vf (T:Txt K mg t):Go P w K mg base 3 "beneath" (spF (cW t) K):=(kN t).2 T
noncomputable def mR (t:Adr):gOD (gFD 3 "row_of" 3 2) t:=⟨_,λ T=>oD ["tree","box","holder"] T.yR λ hr nd =>
 (ae (e9 2 nd (be T.aD (c6 T) hr (aa 0) (cf (aa 1)))) (ag (ao (xi (FV (aa 2) d5) (aW (a9 (cf (aa 1)))) (be T.aD (dF T) hr (aa 0) (cf (aa 2)))))))⟩
noncomputable def mS (t:Adr):=cc 3 2 (mR t).1
theorem rj (T:Txt K mg t):Go P w K mg base 3 "row_of" (spF (mS t) K):=(mR t).2 T
noncomputable def fV (t:Adr):gOD (gFD 3 "holders_of" 4 2) t:=⟨_,λ T=>oD ["tree","box","found","holder"] T.og λ hr nd =>
 (ae (dv 2 nd (he:=a9 bJ)) (ae (e9 3 nd (be T.aD (c6 T) hr (aa 0) (cf (aa 1)))) (ae (fj (mI (aa 3) d5) (ae (ir 2 (he:=aa 3)) (ag (e9 3 nd (be T.aD (c6 T) hr (aa 0) (cf (aa 3))))))) (ag (iJ 2)))))⟩
noncomputable def gc (t:Adr):=cc 4 2 (fV t).1
theorem fM (T:Txt K mg t):Go P w K mg base 3 "holders_of" (spF (gc t) K):=(fV t).2 T
noncomputable def iL (t:Adr):gOD (gFD 3 "trait_of" 1 1) t:=⟨_,λ T=>oD ["told"] T.tO λ hr nd =>
 (ag (ao (xf (jm T) hr T.vy (cf (aa 0)))))⟩
noncomputable def eY (t:Adr):=cc 1 1 (iL t).1
theorem sU (T:Txt K mg t):Go P w K mg base 3 "trait_of" (spF (eY t) K):=(iL t).2 T
noncomputable def dR (t:Adr):gOM (gIM 3 t.af 2 2) t:=⟨_,λ T=>oMi ["self","name"] T.kj λ hr nd =>
 (ai (bY (aj (d3 T) hr (cf (aa 1)))) (ai (cT T.aD T.fh (au 0) (av (a5 ab))) (ai (cT T.aD T.cz (au 0) (av gT)) (ai (cT T.aD T.dG (au 0) (av gT)) (ai (cT T.aD T.cA (au 0) (av gT)) (ai (cT T.aD T.bD (au 0) (av gT)) (ai (cT T.aD T.ia (au 0) (av gT)) (ai (cT T.aD T.i9 (au 0) (av gT)) (aF (cn (dJ T.aD (iZ T) hr (au 0) (ak (bC d5) (ak (bC (aa 1)) bp)))))))))))))⟩
noncomputable def dZ (t:Adr):=jK 2 2 (dR t).1
theorem jU (T:Txt K mg t):GoI P w K mg base 3 t.af (spM (dZ t) K):=(dR t).2 T
noncomputable def gZ (t:Adr):gOM (gMM 3 t.af "mark" 3 3) t:=⟨_,λ T=>oMm ["self","box","word"] T.qo λ hr nd =>
 (ai (bY (be T.aD (bV T) hr (aa 0) (cf (aa 1)))) (ai (bY (aj (d3 T) hr (cf (aa 2)))) (ai (bT (dI (wW hr.units rfl (aa 2) (aO hr.units (λ _ _=>rfl) (cD T.aD T.bD (aa 0)) (aa 1)))) (aF (bw (av (a5 aS)))) bh) (ai (bz (eR hr) (gz (eR hr) (λ _ _=>rfl) (dq T.aD T.bD (au 0)) (aa 1)) (aa 2) (av (a5 aS))) (aF (bw (av (a5 aS))))))))⟩
noncomputable def b5 (t:Adr):=jK 3 3 (gZ t).1
theorem gM (T:Txt K mg t):GoM P w K mg base 3 t.af "mark" (spM (b5 t) K):=(gZ t).2 T
noncomputable def g0 (t:Adr):gOM (gMM 3 t.af "bare" 3 3) t:=⟨_,λ T=>oMm ["self","box","word"] T.qp λ hr nd =>
 (ai (bY (be T.aD (bV T) hr (aa 0) (cf (aa 1)))) (ai (bY (aj (d3 T) hr (cf (aa 2)))) (ai (bT (dI (jg hr.units rfl (aa 2) (aO hr.units (λ _ _=>rfl) (cD T.aD T.bD (aa 0)) (aa 1)))) (aF (bw (av (a5 aS)))) bh) (ai (wY ⟨rfl,rfl,rfl,rfl⟩ (gz (eR hr) (λ _ _=>rfl) (dq T.aD T.bD (au 0)) (aa 1)) (aa 2)) (aF (bw (av (a5 aS))))))))⟩
noncomputable def fA (t:Adr):=jK 3 3 (g0 t).1
theorem pU (T:Txt K mg t):GoM P w K mg base 3 t.af "bare" (spM (fA t) K):=(g0 t).2 T
noncomputable def gW:gO0 (gFD 3 "_law_pool" 9 2):=⟨_,λ T=>oD ["_law_script","_law_at","_law_letters","_law_one","_law_draw","_law_place","_law_sign","_law_two","_law_three"] T.qi λ hr nd =>
 (ae (e9 2 nd aH) (ae (e9 3 nd (aj (jR T) hr (cJ (aj (bo T) hr (cJ (aa 0) (aa 1))) ab))) (ae (e9 4 nd (aj (a7 T) hr (cJ (aj (bo T) hr (cJ (aa 0) (bE (aa 1) ab))) ab))) (ae (e9 5 nd (bA (aa 4) (aJ ip T.fF (cf (aa 3))))) (ae (e9 6 nd (aV (aa 2) (bA (aZ (aa 4) ab) ab))) (ae (e9 7 nd (bE (bE (mK (aa 3) dw (cp (aa 5))) (aa 6)) (mK (aa 3) (cp (bE (aa 5) ab)) dw))) (ae (e9 8 nd (mK (bE (aa 3) (aa 6)) (cp (Ak ab)) dw)) (ag (ao (aW (a9 (aI (aa 3) (jC (aa 7) (aa 8) (aj (jR T) hr (cJ (aj (bo T) hr (cJ (aa 0) (bE (aa 1) ab))) ab)))))))))))))))⟩
noncomputable def g6:=cc 9 2 (gW).1
theorem pS (T:Txt K mg t):Go P w K mg base 3 "_law_pool" (spF (g6) K):=(gW).2 T
noncomputable def qJ (t:Adr):gOD (gFD 4 "ahead" 3 2) t:=⟨_,λ T=>oD ["tree","box","row"] T.Cv λ hr nd =>
 (ae (e9 2 nd (aj (rj T) hr (cJ (aa 0) (aa 1)))) (ag (cK (mJ (aa 2) dw (cp (iy (aa 2) (aa 1)))))))⟩
noncomputable def qK (t:Adr):=cc 3 2 (qJ t).1
theorem vg (T:Txt K mg t):Go P w K mg base 4 "ahead" (spF (qK t) K):=(qJ t).2 T
noncomputable def iM (t:Adr):gOD (gFD 4 "depth_of" 2 2) t:=⟨_,λ T=>oD ["tree","box"] T.tP λ hr nd =>
 (ag (ao (aJ ip T.fF (cf (aj (fM T) hr (cJ (aa 0) (aa 1)))))))⟩
noncomputable def iQ (t:Adr):=cc 2 2 (iM t).1
theorem sV (T:Txt K mg t):Go P w K mg base 4 "depth_of" (spF (iQ t) K):=(iM t).2 T
noncomputable def kJ (t:Adr):gOD (gFD 4 "spot_of" 3 2) t:=⟨_,λ T=>oD ["tree","box","row"] T.wq λ hr nd =>
 (ae (e9 2 nd (aj (rj T) hr (cJ (aa 0) (aa 1)))) (ag (ao (cC (cJ (bE (iy (aa 2) (aa 1)) ab) (aJ ip T.fF (cf (aa 2))))))))⟩
noncomputable def kP (t:Adr):=cc 3 2 (kJ t).1
theorem vb (T:Txt K mg t):Go P w K mg base 4 "spot_of" (spF (kP t) K):=(kJ t).2 T
noncomputable def ba (F:List D->Option Sl):{G:DS // ∀ {t:Adr} {P:Program} {w:World} {K:W.Frag} {mg:Str->Option Value} {base:Heap} (n:Nat),Txt K mg t->Go P w K mg base (0+n) "_law_has" (spF F K)->Go P w K mg base (0+n+1) "_law_has" (spF (cc 9 5 G) K)}:=⟨_,λ n T hF=>oD ["_law_rows","_law_facts","_law_marks","_law_trait_here","_law_box","_law_kind","_law_one","_law_row","_law_place"] T.lL λ hr nd =>
 (ae (e9 5 nd (kS 3)) (ae (aA (cb (aa 5) aH) (ag (ao (xx (aV (aO hr.units (λ _ _=>rfl) (aa 1) (aa 4)) ab) (kS 3)))) aq) (ae (aA (cb (aa 5) aH) (ag (ao (L3 (kS 3) (aO hr.units (λ _ _=>rfl) (aa 2) (aa 4))))) aq) (ae (aA (cb (aa 5) aH) (ag (ao (mL (aj (hj:=Zl _) hF hr (aI (aa 0) (aI (aa 1) (jC (aa 2) (kS 3) (aa 4)))))))) aq) (ae (aA (cb (aa 5) aH) (ae (eW (iw (kS 3)) (dA 6 nd) (ag (aA (bH (aj (hj:=Zl _) hF hr (aI (aa 0) (aI (aa 1) (jC (aa 2) (aa 6) (aa 4)))))) (ag (ao aS)) aq))) (ag (ao aS))) aq) (ae (aA (cb (aa 5) aH) (ag (ao aS)) aq) (ae (e9 7 nd (aW (a9 (cf (aa 4))))) (ae (aA (mI (aV (aO hr.units (λ _ _=>rfl) (aa 1) (aa 4)) ab) d5) (ag (e9 7 nd (aW (kF T.g8 (cf (aO hr.units (λ _ _=>rfl) (aa 0) (aV (aO hr.units (λ _ _=>rfl) (aa 1) (aa 4)) ab))))))) aq) (ae (aA (cb (aa 5) aH) (ag (e9 7 nd (aW (jz T.g8 T.gs (aa 7))))) aq) (ae (e9 8 nd (bE (iy (aa 7) (aa 4)) ab)) (ae (aA (cb (kS 3) ab) (ag (ao (xx (aa 8) (kS 3)))) aq) (ag (ao (xx (bA (qD (aa 8) (kS 3)) (kS 3)) ab))))))))))))))⟩
noncomputable def dB:Nat->List D->Option Sl
 | 0=>λ _=>none
 | n+1=>cc 9 5 (ba (dB n)).1
theorem jN (T:Txt K mg t):∀ n,Go P w K mg base (0+n) "_law_has" (spF (dB n) K)
 | 0=>oNv T.lL
 | n+1=>(ba _).2 n T (jN T n)
noncomputable def dD:List D->Option Sl:=dB 4
theorem sW (T:Txt K mg t):Go P w K mg base 4 "_law_has" (spF (dD) K):=jN T 4
noncomputable def gV (t:Adr):gOD (gFD 5 "joined_to" 3 3) t:=⟨_,λ T=>oD ["tree","join","box"] T.qh λ hr nd =>
 (ae (aA (cb (aa 1) aH) (ag (cK (fT (fM T) hr (cJ (aa 0) (aa 2))))) aq) (ae (aA (cb (aa 1) aH) (ag (cK (mJ (aj (fM T) hr (cJ (aa 0) (aa 2))) dw (cp ab)))) aq) (ae (aA (cb (aa 1) aH) (ag (cK (mJ (aj (vg T) hr (cJ (aa 0) (aa 2))) (cp (Ak ab)) dw))) aq) (ag (cK (fT (vg T) hr (cJ (aa 0) (aa 2))))))))⟩
noncomputable def cN (t:Adr):=cc 3 3 (gV t).1
theorem pQ (T:Txt K mg t):Go P w K mg base 5 "joined_to" (spF (cN t) K):=(gV t).2 T
noncomputable def iP (t:Adr):gOM (gMM 5 t.af "put" 5 4) t:=⟨_,λ T=>oMm ["self","holder","place","name","box"] T.tT λ hr nd =>
 (ai (bY (be T.aD (bV T) hr (aa 0) (cf (aa 1)))) (ai (bY (aj (ma T) hr (cJ (aa 2) (aO hr.units (λ _ _=>rfl) (cD T.aD T.cA (aa 0)) (aa 1))))) (ai (bY (aj (d3 T) hr (cf (aa 3)))) (ai (bT (dI (t6 (bE (aJ wU T.fF (cf (cD T.aD T.cz (aa 0)))) ab) (KQ T.nO))) (aF kE) bh) (ai (bT (dI (t6 (bE (aj (sV T) hr (cJ (aa 0) (aa 1))) ab) (KQ T.p5))) (aF kE) bh) (ai (aM 4 nd (he:=dJ T.aD (iZ T) hr (au 0) (ak (bC (aa 1)) (ak (bC (aa 3)) bp)))) (ai (oK (gz (eR hr) (λ _ _=>rfl) (dq T.aD T.cA (au 0)) (aa 1)) (aa 2) (a5 (aa 4))) (aF (bw (av (a5 (aa 4))))))))))))⟩
noncomputable def iR (t:Adr):=jK 5 4 (iP t).1
theorem sZ (T:Txt K mg t):GoM P w K mg base 5 t.af "put" (spM (iR t) K):=(iP t).2 T
noncomputable def cV (F:List D->Option Sl):{G:DS // ∀ {t:Adr} {P:Program} {w:World} {K:W.Frag} {mg:Str->Option Value} {base:Heap} (n:Nat),Txt K mg t->Go P w K mg base (2+n) "_law_trait" (spF F K)->Go P w K mg base (2+n+1) "_law_trait" (spF (cc 5 4 G) K)}:=⟨_,λ n T hF=>oD ["_law_cell_here","_law_way","_law_pool_here","_law_deep","_law_draw"] T.jd λ hr nd =>
 (ae (e9 4 nd (aj (hj:=lvl) (a7 T) hr (cJ (aa 0) (bE (aa 1) ab)))) (ae (aA (eX (gA (cb (aa 3) ab) (eV (FU (bA (aa 4) ab) ab)))) (ag (ao (aj (hj:=lvl) (iY T) hr (jC (aa 0) (aa 1) (aa 2))))) aq) (ae (aA (cb (bA (aa 4) ab) ab) (ag (ao (cC (cJ aH (aj (hj:=Zl _) hF hr (aI (aa 0) (jC (bE (aa 1) ab) (aa 2) (qD (aa 3) ab)))))))) aq) (ag (ao (cC (cJ aH (gU qx T.pk (cf (aW (iu (ckN [("_law_cell_here",0),("_law_pool_here",2),("_law_deep",3),("_law_way",1)]) (bZ T.fE (cf (bA (aZ (aa 4) ab) ab))) (λ _ _ _ _=>(aj (hj:=Zl _) hF hr (aI (aa 1) (jC (bE (bE (aa 4) (ji ab (aa 0))) ab) (aa 2) (qD (aa 3) ab))))))))))))))))⟩
noncomputable def cq:Nat->List D->Option Sl
 | 0=>λ _=>none
 | n+1=>cc 5 4 (cV (cq n)).1
theorem h9 (T:Txt K mg t):∀ n,Go P w K mg base (2+n) "_law_trait" (spF (cq n) K)
 | 0=>oNv T.jd
 | n+1=>(cV _).2 n T (h9 T n)
noncomputable def gn:List D->Option Sl:=cq 3
theorem nF (T:Txt K mg t):Go P w K mg base 5 "_law_trait" (spF (gn) K):=h9 T 3
noncomputable def iO:gO0 (gFD 5 "_law_all" 6 5):=⟨_,λ T=>oD ["_law_rows","_law_facts","_law_marks","_law_traits","_law_box","_law_one"] T.tR λ hr nd =>
 (ae (eW (iw (aa 3)) (dA 5 nd) (ag (aA (bX (bH (aj (sW T) hr (aI (aa 0) (aI (aa 1) (jC (aa 2) (aa 5) (aa 4))))))) (ag (ao aS)) aq))) (ag (ao aS)))⟩
noncomputable def eZ:=cc 6 5 (iO).1
theorem sX (T:Txt K mg t):Go P w K mg base 5 "_law_all" (spF (eZ) K):=(iO).2 T
noncomputable def kO (t:Adr):gOM (gFM 6 "_law_grow" 13 7) t:=⟨_,λ T=>oM ["_law_tree","_law_rows","_law_facts","_law_marks","_law_pool_here","_law_cell_here","_law_way","_law_draw","_law_number","_law_holder","_law_place","_law_name_here","_law_k"] T.ql λ hr nd =>
 (ai (aM 7 nd (he:=av (a5 (aj (a7 T) hr (cJ (aa 5) (aa 6)))))) (ai (aM 8 nd (he:=av (sg (aJ wU T.fF (cf (aa 1)))))) (ai (aM 9 nd (he:=av (a5 (qD (aa 8) ab)))) (ai (bT (dI (cb (bA (aa 7) ab) ab)) (aF (aM 9 nd (he:=av (a5 ab)))) bh) (ai (bT (dI (t6 (bA (aa 7) ab) ab)) (aF (aM 9 nd (he:=av (a5 (bA (aZ (aa 7) ab) (aa 8)))))) bh) (ai (aM 10 nd (he:=av (sg (bA (aj (a7 T) hr (cJ (aa 5) (bE (aa 6) ab))) (bE (aJ ip T.fF (cf (aO hr.units (λ _ _=>rfl) (aa 1) (aa 9)))) ab))))) (ai (aM 11 nd (he:=av (a5 (aV (aa 4) (bA (aZ (aa 7) ab) ab))))) (ai (cn (dJ T.aD (sZ T) hr (au 0) (ak (bC (aa 9)) (ak (bC (aa 10)) (ak (bC (aa 11)) bp))))) (ai (oK (gz (eR hr) (λ _ _=>rfl) (au 1) (aa 9)) (aa 10) (a5 (aa 8))) (ai (bz (eR hr) (au 1) (aa 8) (av (jh (a9 bJ)))) (ai (bz (eR hr) (au 2) (aa 8) (av (a5 (cC (cJ (aa 9) (aa 11)))))) (ai (bz (eR hr) (au 3) (aa 8) (av (jh (a9 bJ)))) (aF (iq (bZ T.fE (cf ab)) (dz 12 nd) (aF (bT (dI (cb (bA (aj (a7 T) hr (cJ (aa 5) (bE (bE (aa 6) ab) (aa 12)))) ab) ab)) (ai (cn (dJ T.aD (gM T) hr (au 0) (ak (bC (aa 8)) (ak (bC (aV (aa 4) (aa 12))) bp)))) (aF (oP (gz (eR hr) (λ _ _=>rfl) (au 3) (aa 8)) (a5 (aV (aa 4) (aa 12)))))) bh))))))))))))))))⟩
noncomputable def g7 (t:Adr):=jK 13 7 (kO t).1
theorem jS (T:Txt K mg t):Go P w K mg base 6 "_law_grow" (spM (g7 t) K):=(kO t).2 T
noncomputable def eD:gO0 (gFD 6 "_law_reached" 7 6):=⟨_,λ T=>oD ["_law_rows","_law_facts","_law_marks","_law_step","_law_early","_law_box","_law_one"] T.k8 λ hr nd =>
 (ae (aA (bX (bH (aj (sX T) hr (aI (aa 0) (aI (aa 1) (jC (aa 2) (kS 3) (aa 5))))))) (ag (ao aS)) aq) (ae (aA (cb (kS 3) aH) (ag (ao aS)) aq) (ae (eW (kG (aa 4)) (dA 6 nd) (ag (aA (bH (aj (nG T) hr (aI (aa 0) (aI (aa 1) (jC (kS 3) (aa 6) (aa 5)))))) (ag (ao aS)) aq))) (ag (ao aS)))))⟩
noncomputable def cg:=cc 7 6 (eD).1
theorem kX (T:Txt K mg t):Go P w K mg base 6 "_law_reached" (spF (cg) K):=(eD).2 T
noncomputable def cO:gO0 (gFD 6 "_law_pattern" 10 4):=⟨_,λ T=>oD ["_law_cell_here","_law_way","_law_pool_here","_law_most","_law_steps","_law_draw","_law_k","_law_join","_law_many_here","_law_traits"] T.k9 λ hr nd =>
 (ae (dv 4 nd (he:=a9 bJ)) (ae (e9 5 nd (aj (a7 T) hr (cJ (aa 0) (aa 1)))) (ae (eW (bZ T.fE (cf (bE ab (bA (aa 5) (aa 3))))) (dA 6 nd) (ae (e9 7 nd aH) (ae (aA (t6 (aa 6) ab) (ag (e9 7 nd (aV (aW (a9 (aI aH (jC aH aH aH)))) (bA (aj (a7 T) hr (cJ (aa 0) (bE (bE (aa 1) ab) (aa 6)))) ab)))) aq) (ae (e9 8 nd (aV (aW (a9 (aI ab (aI ab (jC ab ab ab))))) (bA (aj (a7 T) hr (cJ (aa 0) (bE (bE (aa 1) ab) (aa 6)))) ab))) (ae (qA 9 nd (ckN [("_law_cell_here",0),("_law_pool_here",2),("_law_way",1),("_law_k",6)]) (hi:=bZ T.fE (cf (aa 8))) (he:=(λ _ _ _ _=>(aj (nF T) hr (aI (aa 1) (jC (bE (bE (bE (aa 3) ab) (ji ab (aa 4))) (ji ab (aa 0))) (aa 2) ab)))))) (ae (aA (cb (bA (aZ (aj (a7 T) hr (cJ (aa 0) (bE (bE (aa 1) ab) (aa 6)))) ab) ab) ab) (ag (e9 9 nd (aW (zk (aW (a9 (cf (aj (iY T) hr (jC (aa 0) (bE (bE (aa 1) ab) (aa 6)) (aa 2)))))) ab)))) aq) (ag (ir 4 (he:=cC (cJ (aa 7) (gU qx T.pk (cf (aa 9))))))))))))) (ag (w9 4 (ao (gU qx T.pk (cf (aa 4)))))))))⟩
noncomputable def eG:=cc 10 4 (cO).1
theorem gH (T:Txt K mg t):Go P w K mg base 6 "_law_pattern" (spF (eG) K):=(cO).2 T
noncomputable def aX (t:Adr) (F:List D->Option Sl):{G:DS // ∀ {P:Program} {w:World} {K:W.Frag} {mg:Str->Option Value} {base:Heap} (n:Nat),Txt K mg t->Go P w K mg base (4+n) "has_trait" (spF F K)->Go P w K mg base (4+n+1) "has_trait" (spF (cc 6 3 G) K)}:=⟨_,λ n T hF=>oD ["tree","box","told","kind","spot","place"] T.kf λ hr nd =>
 (ae (e9 3 nd (kS 2)) (ae (aA (cb (aa 3) aH) (ag (ao aS)) aq) (ae (aA (cb (aa 3) aH) (ag (ao (xx (be T.aD (hj:=lvl) (kY T) hr (aa 0) (cf (aa 1))) (kS 2)))) aq) (ae (aA (cb (aa 3) aH) (ag (ao (L3 (kS 2) (be T.aD (hj:=lvl) (jT T) hr (aa 0) (cf (aa 1)))))) aq) (ae (aA (cb (aa 3) aH) (ag (ao (mL (aj (hj:=Zl _) hF hr (jC (aa 0) (aa 1) (kS 2)))))) aq) (ae (aA (cb (aa 3) aH) (ag (ao (aJ (KN rfl) T.Hq (cf (aW (iu (ckN [("tree",0),("box",1)]) (iw (kS 2)) (λ _ _ _ _=>(aj (hj:=Zl _) hF hr (jC (aa 1) (aa 2) (aa 0)))))))))) aq) (ae (e9 4 nd (aj (hj:=lvl) (vb T) hr (cJ (aa 0) (aa 1)))) (ae (e9 5 nd (xi (cb (aa 3) aH) (kS 4) (bE (qD (kS 4) (kS 4)) ab))) (ag (ao (aj (hj:=lvl) (nC T) hr (jC (aa 5) (kS 2) (kS 2)))))))))))))⟩
noncomputable def cM (t:Adr):Nat->List D->Option Sl
 | 0=>λ _=>none
 | n+1=>cc 6 3 (aX t (cM t n)).1
theorem iX (T:Txt K mg t):∀ n,Go P w K mg base (4+n) "has_trait" (spF (cM t n) K)
 | 0=>oNv T.kf
 | n+1=>(aX t _).2 n T (iX T n)
noncomputable def dU (t:Adr):List D->Option Sl:=cM t 4
theorem pR (T:Txt K mg t):Go P w K mg base 8 "has_trait" (spF (dU t) K):=iX T 4
noncomputable def f7 (t:Adr):gOD (gMD 9 t.cL "fits" 3 3) t:=⟨_,λ T=>oDm ["self","tree","box"] T.oy λ hr nd =>
 (ag (ao (aj (pR T) hr (jC (aa 1) (aa 2) (cD T.mF T.ib (aa 0))))))⟩
noncomputable def cX (t:Adr):=cc 3 3 (f7 t).1
theorem nH (T:Txt K mg t):GoM P w K mg base 9 t.cL "fits" (spF (cX t) K):=(f7 t).2 T
noncomputable def kL (t:Adr):gOD (gFD 10 "has_all" 4 3) t:=⟨_,λ T=>oD ["tree","box","traits","told"] T.wx λ hr nd =>
 (ae (eW (iw (aa 2)) (dA 3 nd) (ag (aA (bX (bH (be T.mF (nH T) hr (aj (sU T) hr (cf (aa 3))) (cJ (aa 0) (aa 1))))) (ag (ao aS)) aq))) (ag (ao aS)))⟩
noncomputable def dW (t:Adr):=cc 4 3 (kL t).1
theorem vd (T:Txt K mg t):Go P w K mg base 10 "has_all" (spF (dW t) K):=(kL t).2 T
end
end N16
end
section
local macro_rules | `(tactic| walk_at "v")=>`(tactic| first | exact .inl rfl | exact .inr rfl | assumption)
local macro_rules | `(tactic| walk_at "w")=>`(tactic| first | exact .inl rfl | exact .inr (.inl rfl) | exact .inr (.inr rfl))
namespace N16
open PySem L2 PySem.W PyProof.Rows
def intsOf (ds:List D):List Int:=ds.filterMap λ d=>match d with
 | .int n=>some n
 | _=>none
theorem lG (l:List Int):intsOf (l.map .int)=l:=by
 induction l with
 | nil=>rfl
 | cons x l ih=>exact Z9 (x::·) ih
noncomputable def haF (t:Adr) (dT tr:D) (b:Int):Bool:=match dW t [dT,.int b,tr] with
 | some (.shr (.bl c))=>c
 | _=>false
noncomputable def jnF (t:Adr) (dT j:D) (b:Int):List Int:=match cN t [dT,j,.int b] with
 | some (.own (.lst ds))=>intsOf ds
 | _=>[]
def Km:D->D
 | .tup (j::_)=>j
 | _=>.non
def KY:D->D
 | .tup (_::r::_)=>r
 | _=>.non
noncomputable def rcF (t:Adr) (dT:D) (ss:List D):Nat->Int->Bool
 | 0,b=>haF t dT (KY (ss.getD 0 .non)) b
 | p+1,b=>haF t dT (KY (ss.getD (p+1) .non)) b&&(jnF t dT (Km (ss.getD (p+1) .non)) b).any (rcF t dT ss p)
noncomputable def lkF (t:Adr) (dT:D) (ss:List D) (p:Nat) (b:Int):Option Int:=(jnF t dT (Km (ss.getD (p+1) .non)) b).find? (rcF t dT ss p)
structure Rx (t:Adr) (dT:D) (ss:List D) (Bs:List Int):Prop where
 ln:ss.length<=8
 lb:Bs.length<=100
 st:∀ (p:Nat) (s:D),ss[p]?=some s->∃ j tr,s=.tup [j,tr]/\∀ b ∈ Bs,dW t [dT,.int b,tr]=some (.shr (.bl (haF t dT tr b)))/\(p≠0->cN t [dT,j,.int b]=some (.own (.lst ((jnF t dT j b).map .int)))/\∀ c ∈ jnF t dT j b,c ∈ Bs)
def Kn (t:Adr) (dT:D) (ss:List D) (Bs:List Int) (kvs:List (List Key×V)):Prop:=(kvs.map (·.1)).Nodup/\∀ k v,(k,v) ∈ kvs->∃ (p:Nat) (b:Int),p < ss.length/\b ∈ Bs/\k=[.inl (p:Int),.inl b]/\v=.bl (rcF t dT ss p b)
theorem vE {α:Type} [DecidableEq α]:∀ (l k:List α),l.Nodup->(∀ x ∈ l,x ∈ k)->l.length<=k.length
 | [],_,_,_=>Z4 _
 | x::l,k,nd,h=>by
  rw [Zu] at nd;have hx:=h x (Ze ..)
  have:=vE l (k.erase x) nd.2 λ y hy=>by
   have ne:y≠x:=λ e=>nd.1 (e ▸ hy)
   exact (List.mem_erase_of_ne ne).mpr (h y (Zd _ hy))
  rw [List.length_erase_of_mem hx] at this;have:0 < k.length:=List.length_pos_of_mem hx;rw [Zy];omega
section
variable {t:Adr} {dT:D} {ss:List D} {Bs:List Int} {kvs:List (List Key×V)}
theorem Kn.nil:Kn t dT ss Bs []:=⟨Xc,λ k v h=>absurd h Z8⟩
theorem Kn.len (x:Rx t dT ss Bs) (h:Kn t dT ss Bs kvs):kvs.length < sizeLine:=by
 have h1:=vE (kvs.map (·.1)) ((List.range ss.length).flatMap λ (p:Nat)=>Bs.map λ b=>[(.inl (p:Int):Key),.inl b]) h.1 λ k hk=>by
  obtain ⟨⟨k',v⟩,hm,rfl⟩:=Z6.mp hk;obtain ⟨p,b,hp,hb,rfl,_⟩:=h.2 _ _ hm;exact Yi.mpr ⟨p,Xm.mpr hp,Z6.mpr ⟨b,hb,rfl⟩⟩
 have h2:∀ n:Nat,((List.range n).flatMap λ (p:Nat)=>Bs.map λ b=>[(.inl (p:Int):Key),.inl b]).length=n * Bs.length:=λ n=>by
  induction n with
  | zero=>simp
  | succ n ih=>rw [List.range_succ,Yh,Z0,ih]; simp [Nat.succ_mul]
 rw [Za,h2] at h1;have:=Nat.mul_le_mul x.ln x.lb;rw [Y0];omega
theorem Kn.get {k:List Key} {v:V} (h:Kn t dT ss Bs kvs) (e:cH kvs k=some v):∃ (p:Nat) (b:Int),k=[.inl (p:Int),.inl b]/\v=.bl (rcF t dT ss p b):=by
 obtain ⟨⟨k',v'⟩,e1,rfl⟩:=Zm e;have:=List.find?_some e1;obtain ⟨p,b,_,_,h3,h4⟩:=h.2 _ _ (List.mem_of_find?_eq_some e1);exact ⟨p,b,by simpa [h3] using (Xx this).symm,h4⟩
theorem Kn.put {p:Nat} {b:Int} (h:Kn t dT ss Bs kvs) (hp:p < ss.length) (hb:b ∈ Bs):Kn t dT ss Bs (putK kvs [.inl (p:Int),.inl b] (.bl (rcF t dT ss p b))):=by
 unfold putK;split
 ·refine ⟨?_,λ k v hk=>?_⟩
  ·have:(kvs.map λ kv=>if kv.1=[.inl (p:Int),.inl b] then (kv.1,(.bl (rcF t dT ss p b):V)) else kv).map (·.1)=kvs.map (·.1):=by
    rw [Z7];exact Zw λ a _=>by simp only [Function.comp]; split <;> rfl
   rw [this];exact h.1
  ·obtain ⟨⟨k',v'⟩,hm,e⟩:=Z6.mp hk
   split at e
   ·rename_i e1
    cases e;exact ⟨p,b,hp,hb,e1,rfl⟩
   ·cases e
    exact h.2 _ _ hm
 ·rename_i hn
  refine ⟨?_,λ k v hk=>?_⟩
  ·rw [Zk,Yd]
   refine ⟨h.1,Zu.mpr ⟨Z8,Xc⟩,λ x hx y hy e=>hn ?_⟩;rw [Zr.mp hy] at e;obtain ⟨q,hq,rfl⟩:=Z6.mp hx;exact Y3.mpr ⟨q,hq,Zq e⟩
  ·rcases Zg.mp hk with hk | hk
   · exact h.2 _ _ hk
   ·cases Zr.mp hk
    exact ⟨p,b,hp,hb,rfl,rfl⟩
end
theorem sk {α:Type} (f:α->Bool):∀ l:List α,l.any f=(l.find? f).isSome
 | []=>rfl
 | x::l=>by
  rw [Y4,List.find?_cons,sk f l];cases f x <;> rfl
theorem pJ {K:W.Frag} {H:Hp}:∀ {xs:List V} {js:List Int},Rps K H xs (js.map .int)->xs=js.map .int
 | [],[],_=>rfl
 | x::xs,j::js,h=>by
  cases h with
  | cons h r =>
   cases h;rw [pJ r];rfl
def Upd (H H':Hp) (a:Addr):Prop:=∀ c u,c≠a->H c=some u->H' c=some u
theorem Upd.same {Hs H H':Hp} {a:Addr} (h:Upd H H' a) (s:bU Hs H) (n:Hs a=none):bU Hs H':=λ c u e=>h c u (λ q=>by rw [q,n] at e; cases e) (s c u e)
theorem Upd.trans {H H' H2:Hp} {a:Addr} (h:Upd H H' a) (h':Upd H' H2 a):Upd H H2 a:=λ c u n e=>h' c u n (h c u n e)
theorem Upd.of {H H':Hp} {a:Addr} (h:bU H H'):Upd H H' a:=λ c u _ e=>h c u e
def L5 (K:W.Frag) (t:Adr) (dT:D) (ss:List D) (Bs:List Int) (p:Nat) (r:Int->V):Sp:=λ vs H Q _=>∃ Hs vt vp a kvs b,vs=[vt,vp,.int (p:Int),.int b,.ref a]/\bU Hs H/\Rp K Hs vt dT/\Rp K Hs vp (.tup ss)/\Hs a=none/\H a=some (.dT kvs)/\Kn t dT ss Bs kvs/\b ∈ Bs /\
 ∀ H' kvs',Upd H H' a->H' a=some (.dT kvs')->Kn t dT ss Bs kvs'->Q (r b) H'
def HZ:Option Int->V
 | some c=>.int c
 | none=>.non
abbrev xH (K:W.Frag) (t:Adr) (dT:D) (ss:List D) (Bs:List Int) (p:Nat):Sp:=L5 K t dT ss Bs p λ b=>.bl (rcF t dT ss p b)
abbrev AB (K:W.Frag) (t:Adr) (dT:D) (ss:List D) (Bs:List Int) (p:Nat):Sp:=L5 K t dT ss Bs (p+1) λ b=>HZ (lkF t dT ss p b)
section
variable {P:Program} {w:World} {K:W.Frag} {mg:Str->Option Value} {base:Heap} {t:Adr} {dT:D} {ss:List D} {Bs:List Int}
set_option maxHeartbeats 4000000
theorem rh (T:Txt K mg t) (x:Rx t dT ss Bs) {p:Nat} (hp:p < ss.length) (hl:∀ q,p=q+1->Go P w K mg base (2 * p+11) "link_of" (AB K t dT ss Bs q)) {a0:Addr} {d0:FuncData} (F:Fun K "reaches" "reaches" (top 15) a0 d0):fD P w K mg base CX0 (2 * p+12) a0 d0 ["tree","pattern","place","box","known"] (xH K t dT ss Bs p):=by
 obtain ⟨sp,hsp,f1,d1,p1,m1,k1,b1,o1⟩:∃ sp,(∀ q,p=q+1->sp=AB K t dT ss Bs q)/\∃ f1 d1 p1,mg "link_of"=some (.ref f1)/\keepIn K (.ref f1)=true/\Binds K d1 p1 []/\fD P w K mg base CX0 (2 * p+11) f1 d1 p1 sp:=by
  cases p with
  | zero =>
    obtain ⟨a,d,F,m,bi⟩:=T.oa;exact ⟨_,λ q h=>by omega,a,d,_,m,F.kp,bi,rS⟩
  | succ q =>
    obtain ⟨f1,d1,p1,m1,k1,b1,o1⟩:=hl q rfl;exact ⟨_,λ q' h=>by cases h; rfl,f1,d1,p1,m1,k1,b1,o1⟩
 refine F.ok (N:=["tree","pattern","place","box","known","key"]) ⟨rfl,rfl,rfl,by decide +kernel,rfl,by decide +kernel,by decide +kernel⟩ (λ vs H Q E h=>by obtain ⟨_,_,_,_,_,_,rfl,_⟩:=h; rfl) λ cdv A outer s H vs Q E hr h=>?_
 obtain ⟨Hs,vt,vp,a,kvs,b,rfl,sm,rt,rp,na,ha,kn,hb,k⟩:=h
 refine ⟨_,ff (jM (i:=5) (show (["tree","pattern","place","box","known","key"]:List Str).Nodup by decide +kernel) rfl (Or.inl rfl) (zJ (aT (pv 2) (aT (pv 3) c8))))
  (ff (xX (uN (nu (eR hr) (pv 5) (pv 4))) (d9 (uQ (eR hr) (pv 4) (pv 5)
    (zN (aj (vd T) hr (jC (aa 0) (aa 3) (aV (aV (aa 1) (aa 2)) ab)) (by omega)).out
      (uT (D6 (xx (aa 2) ab).out (uT (Ea (Bf (iB o1 (hr.mono (by omega)) rfl m1 k1 b1 .nil kW (aT (pv 0) (aT (pv 1) (aT (pv 2) (aT (pv 3) (aT (pv 4) c8)))))))))))) rfl)) l6)
  (d9 (iW (pN (eR hr) (pv 4) (pv 5) (λ _ _=>rfl))))),?_⟩
 obtain ⟨sp0,es⟩:∃ s0,ss[p]?=some s0:=⟨_,List.getElem?_eq_getElem hp⟩
 obtain ⟨j,tr,rfl,hs⟩:=x.st p _ es;obtain ⟨h1,h2⟩:=hs b hb;have eg:ss.getD p .non=.tup [j,tr]:=by rw [List.getD_eq_getElem?_getD,es]; rfl
 refine ⟨_,rfl,_,rfl,by rw [Y0]; exact (by decide:2<=16777216),λ q hq=>?_⟩;have qa:q≠a:=λ e=>by rw [e,ha] at hq; cases hq
 have s1:bU H (upd H q (.tup [.int (p:Int),.int b])):=aC hq _;have ha1:upd H q (.tup [.int (p:Int),.int b]) a=some (.dT kvs):=s1 _ _ ha;have hq1:upd H q (.tup [.int (p:Int),.int b]) q=some (.tup (([.inl (p:Int),.inl b]:List Key).map kV)):=aw;generalize upd H q (.tup [.int (p:Int),.int b])=H1 at s1 ha1 hq1 ⊢;refine ⟨_,rfl,_,rfl,a,_,rfl,mW.t ha1 hq1,_,rfl,?_⟩
 cases ev:cH kvs [.inl (p:Int),.inl b] with
 | some v =>
  obtain ⟨p',b',e1,e2⟩:=kn.get ev;have ep:p'=p:=by have:=(List.cons.inj e1).1; have:=Sum.inl.inj this; omega
  have eb:b'=b:=by have:=(List.cons.inj (List.cons.inj e1).2).1; exact (Sum.inl.inj this).symm
  subst ep eb;refine Cf ?_
  refine ⟨_,rfl,_,rfl,a,v,rfl,ev ▸ mW.t ha1 hq1,?_⟩;rw [e2];exact k H1 kvs (.of s1) ha1 kn
 | none =>
  refine Ce ?_
  have fin:∀ (H2:Hp) (kv2:List (List Key×V)),Upd H1 H2 a->H2 a=some (.dT kv2)->Kn t dT ss Bs kv2->∃ a' H4,(V.ref a)=.ref a'/\zt H2 a' (.ref q) (.bl (rcF t dT ss p b)) H4/\∃ v,some (some (V.ref a))=some (some v)/\∃ y,some (some (V.ref q))=some (some y)/\∃ a2 v2,v=.ref a2/\mW H4 a2 y (some v2)/\Q v2 H4:=λ H2 kv2 u2 h2 kn2=>by
    have hq2:=u2 q _ qa hq1;have z:upd H2 a (.dT (putK kv2 [.inl (p:Int),.inl b] (.bl (rcF t dT ss p b)))) q=some (.tup (([.inl (p:Int),.inl b]:List Key).map kV)):=by rw [ar qa]; exact hq2
    have g:=mW.t (H:=upd H2 a (.dT (putK kv2 [.inl (p:Int),.inl b] (.bl (rcF t dT ss p b))))) (a:=a) (k:=[.inl (p:Int),.inl b]) aw z;rw [xD,if_pos rfl] at g;refine ⟨a,_,rfl,zt.t h2 hq2 (kn2.len x),_,rfl,_,rfl,a,_,rfl,g,k _ _ ?_ aw (kn2.put hp hb)⟩;intro c u nc hc;rw [ar nc];exact u2 c u nc (s1 c u hc)
  have st1:StR K H1 Hs H1 [some vt,some vp,some (.int (p:Int)),some (.int b),some (.ref a),some (.ref q)] [.shr dT,.shr (.tup ss),.shr (.int (p:Int)),.shr (.int b),.no,.no] []:=.shr rt (.shr rp (.shr (.int _) (.shr (.int _) (.no (.no .nil)))));have ei:oIx (.tup ss) (.int (p:Int))=some (.tup [j,tr]):=mQ es;refine ⟨H1,Hs,_,[],.bl (haF t dT tr b),st1,sm.trans s1,?_,λ v Hs' H2 g rv=>?_⟩
  · simp [dFn,ay,c5,aB,dOp,dC,ei]
    exact (show (dW t [dT,.int b,tr]).bind slD=_ by rw [h1]; rfl)
  cases rv;have u2:Upd H1 H2 a:=.of g.hh;have ha2:=g.hh _ _ ha1
  cases ec:haF t dT tr b with
  | false =>
    refine ⟨_,rfl,Cf ?_⟩
    have:rcF t dT ss p b=false:=by
      cases p with
      | zero=>unfold rcF; rw [eg]; exact ec
      | succ p=>unfold rcF; rw [eg]; show (haF t dT tr b&&_)=_; rw [ec]; rfl
    rw [<- this];exact ⟨_,rfl,_,rfl,fin H2 kvs u2 ha2 kn⟩
  | true =>
    refine ⟨_,rfl,Ce ?_⟩;refine ⟨H1,Hs,_,[],.bl (decide (p=0)),st1.ext ⟨.refl _,(sm.trans s1).trans g.hh,g.hh,λ _ h _=>h⟩,(sm.trans s1).trans g.hh,?_,λ v Hs3 H3 g3 rv=>?_⟩
    · simp [aB,dOp,dC,oEq]
      exact (show some (decide ((p:Int)=0))=_ by simp)
    cases rv;have u3:=u2.trans (.of g3.hh);have ha3:=g3.hh _ _ ha2
    cases p with
    | zero =>
      refine ⟨_,rfl,Ce ?_⟩;have:rcF t dT ss 0 b=true:=by unfold rcF; rw [eg]; exact ec
      rw [<- this];exact ⟨_,rfl,_,rfl,fin H3 kvs u3 ha3 kn⟩
    | succ p =>
      refine ⟨_,rfl,Cf ?_⟩;rw [hsp p rfl];refine ⟨_,rfl,_,rfl,_,rfl,_,rfl,_,rfl,Hs,vt,vp,a,kvs,b,rfl,((sm.trans s1).trans g.hh).trans g3.hh,rt,rp,na,ha3,kn,hb,λ H4 kv4 u4 ha4 kn4=>?_⟩
      have:(!decide (HZ (lkF t dT ss p b)=.non))=rcF t dT ss (p+1) b:=by
       unfold rcF;rw [eg];show _=(haF t dT tr b&&_);rw [ec,Bool.true_and,sk];have:(jnF t dT (Km (.tup [j,tr])) b).find? (rcF t dT ss p)=lkF t dT ss p b:=by unfold lkF; rw [eg]
       rw [this]
       cases lkF t dT ss p b with
       | none=>rfl
       | some c=>rfl
      have fz:=fin H4 kv4 (u3.trans u4) ha4 kn4;rw [<- this] at fz;exact ⟨_,rfl,_,rfl,fz⟩
theorem Bm (T:Txt K mg t) (x:Rx t dT ss Bs) {p:Nat} (hp:p+1 < ss.length) (hl:Go P w K mg base (2 * p+12) "reaches" (xH K t dT ss Bs p)) {a0:Addr} {d0:FuncData} (F:Fun K "link_of" "link_of" (top 16) a0 d0):fD P w K mg base CX0 (2 * p+13) a0 d0 ["tree","pattern","place","box","known"] (AB K t dT ss Bs p):=by
 obtain ⟨f1,d1,p1,m1,k1,b1,o1⟩:=hl;refine F.ok (N:=["tree","pattern","place","box","known","one"]) ⟨rfl,rfl,rfl,by decide +kernel,rfl,by decide +kernel,by decide +kernel⟩ (λ vs H Q E h=>by obtain ⟨_,_,_,_,_,_,rfl,_⟩:=h; rfl) λ cdv A outer s H vs Q E hr h=>?_
 obtain ⟨Hs,vt,vp,a,kvs,b,rfl,sm,rt,rp,na,ha,kn,hb,k⟩:=h
 refine ⟨_,ff (qZ .never rfl (l7 (fT (pQ T) hr (jC (aa 0) (aV (aV (aa 1) (aa 2)) ab) (aa 3)) (by omega)).out) (gL (i:=5) (show (["tree","pattern","place","box","known","one"]:List Str).Nodup by decide +kernel) rfl (Or.inl rfl))
   (d9 (xX (qW (iB o1 (hr.mono (by omega)) rfl m1 k1 b1 .nil kW (aT (pv 0) (aT (pv 1) (aT (yb zO (pv 2) lB) (aT (pv 5) (aT (pv 4) c8))))))) (d9 (iW (pv 5))) l6)))
  (d9 (iW zK)),?_⟩
 obtain ⟨sp0,es⟩:∃ s0,ss[p+1]?=some s0:=⟨_,List.getElem?_eq_getElem hp⟩
 obtain ⟨j,tr,rfl,hs⟩:=x.st _ _ es;obtain ⟨h1,h2⟩:=hs b hb;obtain ⟨h2,h3⟩:=h2 (by omega);have eg:ss.getD (p+1) .non=.tup [j,tr]:=by rw [List.getD_eq_getElem?_getD,es]; rfl
 have ei:oIx (.tup ss) (.int ((p+1:Nat):Int))=some (.tup [j,tr]):=mQ es;have el:lkF t dT ss p b=(jnF t dT j b).find? (rcF t dT ss p):=by unfold lkF; rw [eg]; rfl
 replace k:∀ H' kvs',Upd H H' a->H' a=some (.dT kvs')->Kn t dT ss Bs kvs'->Q (HZ (lkF t dT ss p b)) H':=k
 rw [el] at k;have st1:StR K H Hs H [some vt,some vp,some (.int ((p+1:Nat):Int)),some (.int b),some (.ref a),none] [.shr dT,.shr (.tup ss),.shr (.int ((p+1:Nat):Int)),.shr (.int b),.no,.no] []:=.shr rt (.shr rp (.shr (.int _) (.shr (.int _) (.no (.no .nil)))));generalize jnF t dT j b=js at h2 h3 k;refine ⟨H,Hs,_,[],.lst (js.map .int),st1,sm,?_,λ l Hs' H1 g ow hl=>?_⟩
 ·simp only [CF,ay,c5,aB,dOp,dC,List.getElem?_cons_zero,List.getElem?_cons_succ,Yj,ei]
  exact (show (cN t [dT,j,.int b]).bind slO=_ by rw [h2]; rfl)
 obtain ⟨ls,hl1,hl2⟩:∃ ls,H1 l=some (.lst ls)/\ls=js.map .int:=by
  cases ow with
  | lst h n r=>exact ⟨_,h,pJ r⟩
 subst hl2;have la:l≠a:=λ e=>by rw [e,ha] at hl; cases hl
 have ha1:=g.hh _ _ ha;have sm1:=sm.trans g.hh;refine ⟨l,rfl,⟨_,SqL.of hl1⟩,λ n m σ' H'=>m=js.length - n/\n<=js.length/\(js.take n).find? (rcF t dT ss p)=none/\(∃ o,σ'=[some vt,some vp,some (.int ((p+1:Nat):Int)),some (.int b),some (.ref a),o])/\∃ kv',Upd H1 H' a/\H' a=some (.dT kv')/\Kn t dT ss Bs kv',⟨js.length,by simp,Z4 _,rfl,⟨none,rfl⟩,kvs,.of (.refl _),ha1,kn⟩,?_⟩
 rintro n m σ' H2 ⟨rfl,hn,hf,⟨o,rfl⟩,kv2,u2,ha2,kn2⟩
 have hl2:H2 l=some (.lst (js.map .int)):=u2 l _ la hl1
 by_cases hlt:n < js.length
 ·have ej:js[n]?=some js[n]:=List.getElem?_eq_getElem hlt
  have hx:(js.map V.int)[n]?=some (.int js[n]):=by rw [List.getElem?_map,ej]; rfl
  refine .inr ⟨⟨_,_,SqL.of hl2,hx⟩,λ σ' H'=>rcF t dT ss p js[n]=false/\(∃ o,σ'=[some vt,some vp,some (.int ((p+1:Nat):Int)),some (.int b),some (.ref a),o])/\∃ kv',Upd H1 H' a/\H' a=some (.dT kv')/\Kn t dT ss Bs kv',λ σ' H' h=>⟨js.length - (n+1),by omega,rfl,hlt,by rw [List.take_add_one,ej,List.find?_append,hf]; simp [h.1],h.2⟩,?_⟩
  rintro v H3 ⟨rfl,hy⟩
  have ex:=hy _ (SqL.of hl2);rw [hx] at ex;cases ex;refine ⟨_,rfl,_,rfl,_,rfl,_,_,rfl,rfl,_,rfl,_,rfl,Hs,vt,vp,a,kv2,js[n],by show [vt,vp,V.int (((p+1:Nat):Int) - 1),V.int js[n],V.ref a]=_; rw [show ((p+1:Nat):Int) - 1=(p:Int) by omega],u2.same sm1 na,rt,rp,na,ha2,kn2,h3 _ (Xn hlt),λ H4 kv4 u4 ha4 kn4=>⟨_,rfl,?_⟩⟩
  cases ec:rcF t dT ss p js[n] with
  | true =>
   refine Ce ⟨_,rfl,?_⟩
   have:js.find? (rcF t dT ss p)=some js[n]:=by
    have e:=Z9 (List.find? (rcF t dT ss p)) (Xu n js);rw [List.find?_append,hf,Y1 hlt,List.find?_cons,ec] at e;exact e.symm
   rw [this] at k;exact k H4 kv4 ((Upd.of g.hh).trans (u2.trans u4)) ha4 kn4
  | false=>exact Cf ⟨rfl,⟨_,rfl⟩,kv4,u2.trans u4,ha4,kn4⟩
 ·have e0:n=js.length:=by omega
  subst e0;rw [List.take_length] at hf;rw [hf] at k;exact .inl ⟨⟨_,SqL.of hl2,by rw [Za]; exact Zl _⟩,k H2 kv2 ((Upd.of g.hh).trans u2) ha2 kn2⟩
theorem Bl (T:Txt K mg t) (x:Rx t dT ss Bs) {a0:Addr} {d0:FuncData} (F:Fun K "reaches" "reaches" (top 15) a0 d0) (m0:mg "reaches"=some (.ref a0)) (bi:Binds K d0 ["tree","pattern","place","box","known"] []):∀ p,p < ss.length->fD P w K mg base CX0 (2 * p+12) a0 d0 ["tree","pattern","place","box","known"] (xH K t dT ss Bs p)
 | 0,hp=>rh T x hp (λ q h=>by omega) F
 | p+1,hp=>rh T x hp (λ q h=>by
  cases h;obtain ⟨a1,d1,F1,m1,b1⟩:=T.oa
  exact ⟨a1,d1,_,m1,F1.kp,b1,Bm T x hp ⟨a0,d0,_,m0,F.kp,bi,Bl T x F m0 bi p (by omega)⟩ F1⟩) F
def Mp (K:W.Frag) (t:Adr) (dT:D) (ss:List D) (Bs:List Int):Sp:=λ vs H Q E=>∃ p,p < ss.length/\xH K t dT ss Bs p vs H Q E
theorem Ii (T:Txt K mg t) (x:Rx t dT ss Bs):Go P w K mg base 28 "reaches" (Mp K t dT ss Bs):=by
 obtain ⟨a0,d0,F,m0,bi⟩:=T.wt;refine ⟨a0,d0,_,m0,F.kp,bi,⟨λ vs H Q E h=>?_,λ A outer s H args us vs Q E hr he hb hv h=>?_⟩⟩
 ·obtain ⟨p,hp,h⟩:=h
  exact (Bl (P:=P) (w:=w) (base:=base) T x F m0 bi p hp).len vs H Q E h
 ·obtain ⟨p,hp,h⟩:=h
  have:=x.ln;exact ((Bl T x F m0 bi p hp).mono (by omega)).run A outer s H args us vs Q E hr he hb hv h
theorem piK {X:Cx} {tg:Expr} {l:Expr} {tl:TE} (K:W.Frag) (hl:PE X l tl) (hK:X.K=K:=by rfl):PI X tg l (Fe K tl):=by subst hK; exact l7 hl
noncomputable def bsF (t:Adr) (dT:D):List Int:=match cW t [dT,.int 0] with
 | some (.own (.lst ds))=>intsOf ds
 | _=>[]
noncomputable def endsF (t:Adr) (dT:D) (ss:List D) (p:Nat):List Int:=(0::bsF t dT).filter (rcF t dT ss p)
open Classical in
noncomputable def gf (t:Adr):List Sm->Option (Sm×List Sm)
 | [.mu b m,.shr (.tup ss)]=>if Rx t (frz m) ss (0::bsF t (frz m))/\cW t [frz m,.int 0]=some (.own (.lst ((bsF t (frz m)).map .int))) then some (.mu false (.n .l ((List.range ss.length).map λ p=>(.inl 0,lM ((endsF t (frz m) ss p).map .int)))),[.mu b m,.shr (.tup ss)]) else none
 | _=>none
theorem ve (T : Txt K mg t):Go P w K mg base 31 "ends_of" (spM (gf t) K):=by
  obtain ⟨a0,d0,F,m0,bi⟩:=T.wy;refine ⟨a0,d0,_,m0,F.kp,bi,F.ok (N:=["tree","pattern","known","order"]) ⟨rfl,rfl,rfl,by decide +kernel,rfl,by decide +kernel,by decide +kernel⟩ (λ vs H Q E h=>?_) λ cdv A outer s H vs Q E hr h=>?_⟩
  · obtain ⟨Hs,fp,as,sl,as',sm,st,e,_⟩:=h
    unfold gf at e;split at e
    · have:=st.len
      rw [Za] at this;exact this
    · cases e
  obtain ⟨Hs,fp,as,sl,as',sm,st,e,k⟩:=h
  obtain ⟨b,m,ss,rfl⟩:∃ b m ss,as=[.mu b m,.shr (.tup ss)]:=by
    unfold gf at e;split at e
    · exact ⟨_,_,_,rfl⟩
    · cases e
  simp only [gf] at e;split at e
  case isFalse=>cases e
  rename_i hc;obtain ⟨x,eb⟩:=hc;cases e;obtain ⟨f1,d1,p1,m1,k1,b1,o1⟩:=Ii (P:=P) (w:=w) (base:=base) T x
  obtain ⟨vt,vp,rfl⟩:∃ vt vp,vs=[vt,vp]:=by
    have:=st.len;rw [Za] at this
    match vs,this with
    | [u,v],_=>exact ⟨u,v,rfl⟩
  obtain ⟨rt,rp⟩:Rp K H vt (frz m)/\Rp K H vp (.tup ss):=by
    cases st.bM sm with
    | shr h r=>cases r with
      | shr h2 _=>exact ⟨h,h2⟩
  generalize hdT:frz m=dT at x eb rt o1 k;have hlb:=x.lb;have hln:=x.ln;rw [Zy] at hlb
  refine ⟨_,ff (jM (i:=2) (show (["tree","pattern","known","order"]:List Str).Nodup by decide +kernel) rfl (Or.inr rfl) yf)
    (ff (jM (i:=3) (show (["tree","pattern","known","order"]:List Str).Nodup by decide +kernel) rfl (Or.inr rfl) (xa (aW (a9 (cf ab))) (aW (fT (vf T) hr (cJ (aa 0) ab)))).out)
    (d9 (iW (yh (cs:=[("tree",0),("pattern",1),("known",2),("order",3)]) rfl (ckC [("tree",0),("pattern",1),("known",2),("order",3)]) (nr rfl T.fE (aT (aJ ip T.fF (cf (aa 1))).out c8))
      (λ s2 H2 fp2 C2 B2=>rf (cs:=[("tree",1),("pattern",2),("place",0),("known",3)]) rfl (ckN [("tree",1),("pattern",2),("place",0),("known",3)]) (piK K (pv 4)) (λ s3 H3 fp3 C3=>qW (iB o1 (hr.mono (by decide)) rfl m1 k1 b1 .nil kW (aT (pv 1) (aT (pv 2) (aT (pv 3) (aT (pv 0) (aT (pv 4) c8))))))) (λ s3 H3 fp3 C3=>pv 0)))))),?_⟩
  intro a ha;have s1:bU H (upd H a (.dT [])):=aC ha _;have ha1:upd H a (.dT []) a=some (.dT []):=aw;generalize upd H a (.dT [])=H1 at s1 ha1 ⊢;have st1:StR K H1 H H1 [some vt,some vp,some (.ref a),none] [.shr dT,.shr (.tup ss),.no,.no] []:=.shr rt (.shr rp (.no (.no .nil)));refine ⟨H1,H,_,[],.lst ((0::bsF t dT).map .int),st1,s1,?_,λ lo Hs2 H2 g2 ow hlo=>?_⟩
  · have e1:CF (cW t) (ay (aB 0) (ay (dC (.int 0)) c5)) [.shr dT,.shr (.tup ss),.no,.no]=some (.lst ((bsF t dT).map .int)):=by
      show (cW t [dT,.int 0]).bind slO=_;rw [eb];rfl
    unfold FP;rw [e1];exact if_pos (by rw [Za]; show 1+_<=_; omega)
  obtain ⟨ls,hl2,els⟩:∃ ls,H2 lo=some (.lst ls)/\ls=(0::bsF t dT).map .int:=by
    cases ow with
    | lst h n r=>exact ⟨_,h,pJ r⟩
  subst els;have s2:bU H H2:=s1.trans g2.hh;have ha2:=g2.hh _ _ ha1;have la:lo≠a:=λ e=>by rw [e,ha1] at hlo; cases hlo
  refine ⟨H2,H,[.shr dT,.shr (.tup ss),.no,.no],[],.int (ss.length:Int),.shr rt (.shr rp (.no (.no .nil))),s2,rfl,λ v Hs3 H3 g3 rv=>?_⟩;cases rv;have s3:bU H H3:=s2.trans g3.hh;have ha3:=g3.hh _ _ ha2;have hl3:=g3.hh _ _ hl2;refine ⟨(ss.length:Int),rfl,by omega,by omega,?_⟩;rw [show ((ss.length:Int)).toNat=ss.length from rfl];generalize hB:0::bsF t dT=Bs at *;have hlB:Bs.length<=100:=x.lb;refine ⟨λ n mm ys H'=>mm=ss.length - n/\n<=ss.length/\∃ ts:List Kd,ys=ts.map Kd.v/\ts.map Kd.km=(List.range n).map (λ p=>((.inl 0:Key),lM ((Bs.filter (rcF t dT ss p)).map .int)))/\(ts.flatMap Kd.fp).Nodup/\(∀ c ∈ ts,Od K Hs H' c.fp c.v c.m/\∀ q ∈ c.fp,H3 q=none/\H' q≠none)/\∃ kv',Upd H3 H' a/\H' a=some (.dT kv')/\Kn t dT ss Bs kv',⟨ss.length,by simp,Z4 _,[],rfl,rfl,Xc,λ c hc=>absurd hc Z8,[],.of (.refl _),ha3,.nil⟩,?_⟩
  rintro n mm ys H4 ⟨rfl,hn4,ts,rfl,ekm,ndp,hod,kv4,u4,ha4,kn4⟩
  have lts:ts.length=n:=by have:=Z9 List.length ekm; simpa using this
  have hl4:H4 lo=some (.lst (Bs.map .int)):=u4 lo _ la hl3;have s4:bU H H4:=u4.same s3 (by exact ha)
  by_cases hlt:n < ss.length
  · refine .inr ⟨hlt,by rw [Za,lts,Y0]; omega,?_⟩
    rintro v H5 ⟨rfl,rfl⟩
    refine ⟨_,rfl,lo,rfl,⟨_,SqL.of hl4⟩,λ i mi zs H'=>mi=Bs.length - i/\i<=Bs.length/\zs=((Bs.take i).filter (rcF t dT ss n)).map .int/\∃ kv',Upd H5 H' a/\H' a=some (.dT kv')/\Kn t dT ss Bs kv',⟨Bs.length,by simp,Z4 _,rfl,kv4,.of (.refl _),ha4,kn4⟩,?_⟩
    rintro i mi zs H6 ⟨rfl,hi6,rfl,kv6,u6,ha6,kn6⟩
    have hl6:H6 lo=some (.lst (Bs.map .int)):=u6 lo _ la hl4;have s6:bU H H6:=u6.same s4 ha
    have lys:(((Bs.take i).filter (rcF t dT ss n)).map V.int).length<=i:=by
      rw [Za];exact Z2 (Y2 ..) (by rw [Z1]; omega)
    by_cases hil:i < Bs.length
    · have ej:Bs[i]?=some Bs[i]:=List.getElem?_eq_getElem hil
      have hx:(Bs.map V.int)[i]?=some (.int Bs[i]):=by rw [List.getElem?_map,ej]; rfl
      refine .inr ⟨⟨_,_,SqL.of hl6,hx⟩,by rw [Y0]; omega,?_⟩
      rintro v H7 ⟨e7,hy⟩
      subst e7;have ex:=hy _ (SqL.of hl6);rw [hx] at ex;cases ex;refine ⟨_,rfl,_,rfl,_,rfl,_,rfl,_,rfl,n,hlt,H,vt,vp,a,kv6,Bs[i],?_,s6,rt,rp,ha,ha6,kn6,Xn hil,λ H8 kv8 u8 ha8 kn8=>⟨_,rfl,?_⟩⟩
      · show [vt,vp,V.int (0+(n:Int)),V.int Bs[i],V.ref a]=_
        rw [Int.zero_add]
      have tk:Bs.take (i+1)=Bs.take i++[Bs[i]]:=by rw [List.take_add_one,ej]; rfl
      cases ec:rcF t dT ss n Bs[i] with
      | true =>
        refine Ce ⟨_,rfl,Bs.length - (i+1),by omega,rfl,hil,?_,kv8,u6.trans u8,ha8,kn8⟩;rw [tk,List.filter_append,Zk];simp [ec]
      | false =>
        refine Cf ⟨Bs.length - (i+1),by omega,rfl,hil,?_,kv8,u6.trans u8,ha8,kn8⟩;rw [tk,List.filter_append,Zk];simp [ec]
    · have e0 : i = Bs.length:=by omega
      subst e0;rw [List.take_length] at *;refine .inl ⟨⟨_,SqL.of hl6,by rw [Za]; exact Zl _⟩,by rw [Y0]; omega,λ p hp=>?_⟩;have hpH:H p=none:=s6.free hp
      have hp3 : H3 p=none:=by
        cases q:H3 p with
        | none=>rfl
        | some u => by_cases pa:p=a
                    · rw [pa,ha6] at hp; cases hp
                    · rw [u6 p _ pa (u4 p _ pa q)] at hp; cases hp
      have hp5 : H5 p=none:=by
        cases q:H5 p with
        | none=>rfl
        | some u => by_cases pa:p=a
                    · rw [pa,ha6] at hp; cases hp
                    · rw [u6 p _ pa q] at hp; cases hp
      have ux:∀ q u,q≠a->H5 q=some u->upd H6 p (.lst ((Bs.filter (rcF t dT ss n)).map V.int)) q=some u:=λ q u na e=>by
        rw [ar (λ z=>by rw [z,hp5] at e; cases e)];exact u6 q u na e
      have pa:p≠a:=λ z=>by rw [z,ha6] at hp; cases hp
      have hsp:Hs p=none:=sm.free hpH;refine ⟨ss.length - (n+1),by omega,rfl,hlt,ts++[⟨.inl 0,.ref p,lM ((Bs.filter (rcF t dT ss n)).map .int),[p]⟩],by rw [Zk]; rfl,by rw [Zk,ekm,List.range_succ,Zk]; rfl,?_,λ c hc=>?_,kv6,?_,by rw [ar (Ne.symm pa)]; exact ha6,kn6⟩
      · rw [Yh,Yd]
        refine ⟨ndp,by simp,λ q hq z hz e=>?_⟩;have:z=p:=by simpa using hz
        subst this;subst e;obtain ⟨c,hc,hqc⟩:=Yi.mp hq;exact ((hod c hc).2 q hqc).2 hp5
      · rcases Zg.mp hc with hc | hc
        · obtain ⟨o1,o2⟩:=hod c hc
          have nq:∀ q ∈ c.fp,q≠a:=λ q hq z=>by have:=(o2 q hq).1; rw [z,ha3] at this; cases this
          have eqq:∀ q ∈ c.fp,upd H6 p (.lst ((Bs.filter (rcF t dT ss n)).map V.int)) q=H5 q:=λ q hq=>by
            cases z:H5 q with
            | none=>exact absurd z (o2 q hq).2
            | some u=>exact ux q u (nq q hq) z
          exact ⟨o1.mv (.refl _) λ q hq=>⟨(o1.live q hq).1,eqq q hq⟩,λ q hq=>⟨(o2 q hq).1,by rw [eqq q hq]; exact (o2 q hq).2⟩⟩
        · rw [Zr.mp hc]
          refine ⟨Od.lst aw hsp (Rps.ints _),λ q hq=>?_⟩;have:q=p:=by simpa using hq
          subst this;exact ⟨hp3,by rw [aw]; exact Option.some_ne_none _⟩
      · intro q u na e
        refine ux q u na (u4 q u na e)
  · have e0:n=ss.length:=by omega
    subst e0;refine .inl ⟨Zl _,by rw [Za,lts,Y0]; omega,λ p hp=>?_⟩;have sf:bU H (upd H4 p (.lst (ts.map Kd.v))):=s4.trans (aC hp _);have hpH:H p=none:=s4.free hp
    have nfl:∀ q ∈ ts.flatMap Kd.fp,H q=none/\H4 q≠none:=λ q hq=>by
      obtain ⟨c,hc,hqc⟩:=Yi.mp hq;exact ⟨s3.free ((hod c hc).2 q hqc).1,((hod c hc).2 q hqc).2⟩
    have hfree:∀ q ∈ p::ts.flatMap Kd.fp,H q=none:=λ q hq=>by
      rcases Zi.mp hq with rfl | hq
      · exact hpH
      · exact (nfl q hq).1
    have eo:Od K Hs (upd H4 p (.lst (ts.map Kd.v))) (p::ts.flatMap Kd.fp) (.ref p) (.n .l (ts.map Kd.km)):=by
      refine .n (dx:=0) (u:=.lst ((ts.map Kd.kv).map (·.2))) ?_ (.l _) (sm.free hpH) trivial (Zu.mpr ⟨λ z=>(nfl p z).2 hp,ndp⟩) λ c hc=>?_
      · rw [aw,Z7]
        rfl
      · obtain ⟨o1,o2⟩:=hod c hc
        refine o1.mv (.refl _) λ q hq=>⟨(o1.live q hq).1,ar λ z=>(o2 q hq).2 (by rw [z]; exact hp)⟩
    rw [ekm] at eo;have ee:∀ q,endsF t dT ss q=Bs.filter (rcF t dT ss q):=λ q=>by unfold endsF; rw [hB]
    simp only [ee] at k;refine k _ Hs _ _ ⟨.refl _,sm.trans sf,λ c u e=>?_,λ _ h _=>h⟩ (.mu eo (λ z=>by cases z) (λ c hc=>?_) (λ c hc z=>?_) (st.mv (.refl _) λ q hq=>⟨(st.live q hq).1,?_⟩))
    · unfold off at e
      split at e
      · cases e
      · exact sf c u e
    · unfold off
      split
      · rfl
      · exact hfree c hc
    · exact (st.live c z).2.1 (hfree c hc)
    · cases z:H q with
      | none=>exact absurd z (st.live q hq).2.1
      | some u=>exact sf q u z
end
end N16
end
section
local macro_rules | `(tactic| walk_at "v")=>`(tactic| first | exact .inl rfl | exact .inr rfl | assumption)
local macro_rules | `(tactic| walk_at "w")=>`(tactic| first | exact .inl rfl | exact .inr (.inl rfl) | exact .inr (.inr rfl))
namespace N16
open PySem L2
section
variable {P:Program} {w:World} {K:W.Frag} {mg:Str->Option Value} {base:Heap} {t:Adr}
set_option maxHeartbeats 4000000
noncomputable def ft (t:Adr):gOM (gFM 32 "_law_closed" 12 5) t:=⟨_,λ T=>oM ["_law_tree","_law_rows","_law_facts","_law_marks","_law_pattern_here","_law_ends","_law_order","_law_early","_law_k","_law_step","_law_due","_law_row"] T.mz λ hr nd =>
 (ai (aM 5 nd (he:=dM (ve T) hr (ak (bI (au 0)) (ak (bC (aa 4)) bp)))) (ai (bT (dI (eX (gA (bX (bH (aJ wV T.cP (cJ (aa 5) (kH (n:="list") T.g8))))) (eV (jy (aJ ip T.fF (cf (aa 5))) (aJ ip T.fF (cf (aa 4)))))))) (aF (bw (av (a5 aS)))) bh) (ai (aM 6 nd (he:=av (Aj (fT (nE T) hr (cJ (aa 1) ab))))) (ai (aM 7 nd (he:=av (jh (a9 bJ)))) (ai (iq (qC T.jD (cf (aa 4))) (oT (n:=2) (fk (dz 8 nd) (fk (dz 9 nd) lS))) (ai (qz 10 nd (ckN [("_law_rows",1),("_law_facts",2),("_law_marks",3),("_law_step",9),("_law_early",7)]) (hi:=kG (aa 6)) (hcd:=(λ _ _ _ _=>(bH (aj (kX T) hr (aI (aa 1) (aI (aa 2) (aI (aa 3) (jC (aa 4) (aa 5) (aa 0))))))))) (he:=(λ _ _ _ _=>(aa 0)))) (ai (bT (dI (bX (bH (aj (jQ T) hr (cJ (aV (aa 5) (aa 8)) (aa 10)))))) (aF (bw (av (a5 aS)))) bh) (aF (aM 7 nd (he:=av (Aj (kF T.g8 (cf (aV (aa 5) (aa 8))))))))))) (ai (oO (i:=5) (jx:=11) nd (by decide)) (ai (wZ (au 5)) (aF (bw (av (a5 aS)))))))))))⟩
noncomputable def cF (t:Adr):=jK 12 5 (ft t).1
theorem de (T:Txt K mg t):Go P w K mg base 32 "_law_closed" (spM (cF t) K):=(ft t).2 T
noncomputable def CS (t:Adr):{G:DSm // ∀ {P w K mg base a d},Txt K mg t->Fun K "law" "law" (top 52) a d->fD P w K mg base CX0 33 a d ["_law_script"] (spM (jK 14 1 G) K)}:=⟨_,λ T F=>oLM ["_law_script","_law_pool_here","_law_name_here","_law_tree","_law_rows","_law_facts","_law_marks","_law_k","_law_most","_law_again","_law_cell_here","_law_draw","_law_box","_law_word"] F λ hr nd =>
 (ai (aM 1 nd (he:=av (a5 (aj (pS T) hr (cJ (aa 0) ab))))) (ai (aM 2 nd (he:=av (a5 (aV (aa 1) (bA (aj (bo T) hr (cJ (aa 0) ab)) ab))))) (ai (aM 3 nd (he:=xb (jU T) hr T.z3 (ak (bC (aa 2)) bp))) (ai (aM 4 nd (he:=av (qB (kc:=.inl 0) lB (jh (a9 bJ))))) (ai (aM 5 nd (he:=av (qB (kc:=.inl 0) lB (a5 (cC (cJ d5 (aa 2))))))) (ai (aM 6 nd (he:=av (qB (kc:=.inl 0) lB (jh (a9 (cf (aV (aa 1) (bA (aj (bo T) hr (cJ (aa 0) ab)) ab)))))))) (ai (cn (dJ T.aD (gM T) hr (au 3) (ak (bC ab) (ak (FW (aV (aO hr.units (λ _ _=>rfl) (aa 6) ab) ab)) bp)))) (ai (iq (bZ T.fE (cf (aj (pT T) hr (jC (aj (bo T) hr (cJ (aa 0) ab)) ab ab)))) (dz 7 nd) (aF (cn (dM (jS T) hr (ak (bI (au 3)) (ak (bI (au 4)) (ak (bI (au 5)) (ak (bI (au 6)) (ak (bC (aa 1)) (ak (bC (aj (bo T) hr (cJ (aa 0) (bE ab (aa 7))))) (ak (bC (aa 7)) bp))))))))))) (ai (aM 8 nd (he:=av (a5 ab))) (ai (bT (dI (cb (bA (aj (bo T) hr (cJ (aa 0) ab)) ab) ab)) (aF (aM 8 nd (he:=av (a5 ab)))) bh) (ai (aM 9 nd (he:=av (a5 (aj (gH T) hr (aI (aj (bo T) hr (cJ (aa 0) ab)) (jC ab (aa 1) (aa 8))))))) (ai (bT (kC (kB (dM (de T) hr (ak (bI (au 3)) (ak (bI (au 4)) (ak (bI (au 5)) (ak (bI (au 6)) (ak (bC (aa 9)) bp)))))))) (aF (bw (av (a5 aS)))) bh) (ai (iq (ua T.jD (cf (aW (mJ (aa 0) (cp ab) (cp ab))))) (oT (n:=2) (fk (dz 7 nd) (fk (dz 10 nd) lS))) (aF (bT (kC (kB (dM (de T) hr (ak (bI (au 3)) (ak (bI (au 4)) (ak (bI (au 5)) (ak (bI (au 6)) (ak (bC (aj (gH T) hr (aI (aa 10) (jC (aa 7) (aa 1) ab)))) bp)))))))) (aF (bw (av (a5 aS)))) bh))) (ai (cn (dM (jS T) hr (ak (bI (au 3)) (ak (bI (au 4)) (ak (bI (au 5)) (ak (bI (au 6)) (ak (bC (aa 1)) (ak (bC (aj (bo T) hr (cJ (aa 0) ab))) (ak (bC ab) bp))))))))) (ai (bT (kC (kB (dM (de T) hr (ak (bI (au 3)) (ak (bI (au 4)) (ak (bI (au 5)) (ak (bI (au 6)) (ak (bC (aa 9)) bp)))))))) (aF (bw (av (a5 aS)))) bh) (ai (aM 11 nd (he:=av (a5 (aj (a7 T) hr (cJ (aj (bo T) hr (cJ (aa 0) ab)) ab))))) (ai (aM 12 nd (he:=av (sg (bA (aZ (aa 11) ab) (aJ wU T.fF (cf (aa 4))))))) (ai (aM 13 nd (he:=av (a5 (aV (aa 1) (bA (aa 11) ab))))) (ai (bT (dI (KP (aa 13) (aO hr.units (λ _ _=>rfl) (aa 6) (aa 12)))) (ai (cn (dJ T.aD (pU T) hr (au 3) (ak (bC (aa 12)) (ak (bC (aa 13)) bp)))) (aF (bz (eR hr) (au 6) (aa 12) (av (jh (t9 (ckN [("_law_word",13)]) (kG (aO hr.units (λ _ _=>rfl) (aa 6) (aa 12))) (λ _ _ _ _=>(jy (aa 0) (aa 1))) (λ _ _ _ _=>(aa 0)))))))) (ai (cn (dJ T.aD (gM T) hr (au 3) (ak (bC (aa 12)) (ak (bC (aa 13)) bp)))) (aF (oP (gz (eR hr) (λ _ _=>rfl) (au 6) (aa 12)) (a5 (aa 13)))))) (aF (bw (dM (de T) hr (ak (bI (au 3)) (ak (bI (au 4)) (ak (bI (au 5)) (ak (bI (au 6)) (ak (bC (aa 9)) bp)))))))))))))))))))))))))))⟩
noncomputable def F6 (t:Adr):=jK 14 1 (CS t).1
end
end N16
end
section
namespace L2
open PySem
section
variable {τ τ':List Sl} {f g h:DE} {x y z d:D}
theorem aU {i:Nat} (q:τ[i]?=some (.shr d)):aB i τ=some d:=by unfold aB; rw [q]
theorem e_v {i:Nat} (q:τ[i]?=some (.shr d):=by rfl):aB i τ=some d:=aU q
theorem e_c:dC d τ=some d:=rfl
theorem az {o:D->D->Option D} (h1:f τ=some x) (h2:g τ=some y) (h3:o x y=some z):dOp o f g τ=some z:=by unfold dOp; rw [h1,h2]; exact h3
theorem FK {o:D->Option D} (h1:f τ=some x) (h3:o x=some z):dUn o f τ=some z:=by unfold dUn; rw [h1]; exact h3
theorem ax:c5 τ=some []:=rfl
theorem ah {ga:DA} {xs:List D} (h1:f τ=some x) (h2:ga τ=some xs):ay f ga τ=some (x::xs):=by unfold ay; rw [h1,h2]; rfl
theorem bu {o:List D->Option D} {ga:DA} {xs:List D} (h1:ga τ=some xs) (h2:o xs=some z):jr o ga τ=some z:=by unfold jr; rw [h1]; exact h2
theorem mB {ga:DA} {xs:List D} (h1:ga τ=some xs) (h2:xs.length<=100000):KI ga τ=some (.tup xs):=by unfold KI; rw [h1]; exact if_pos h2
theorem eT {ga:DA} {xs:List D} (h1:ga τ=some xs) (h2:xs.length<=100000):Hf ga τ=some (.lst xs):=by unfold Hf; rw [h1]; exact if_pos h2
theorem cZ {F:List D->Option Sl} {ga:DA} {xs:List D} {s:Sl} (h1:ga τ=some xs) (h2:F xs=some s) (h3:slD s=some z):dFn F ga τ=some z:=by unfold dFn; rw [h1]; show (F xs).bind slD=_; rw [h2]; exact h3
theorem Cz {F:List D->Option Sl} {ga:DA} {xs:List D} {s:Sl} (h1:ga τ=some xs) (h2:F xs=some s) (h3:slO s=some z):CF F ga τ=some z:=by unfold CF; rw [h1]; show (F xs).bind slO=_; rw [h2]; exact h3
theorem KA {c:DT} {b:Bool} (h1:c τ=some b) (h2:b=true->f τ=some z) (h3:b=false->g τ=some z):dIf c f g τ=some z:=by
 unfold dIf; rw [h1]
 cases b with
 | true=>exact h2 rfl
 | false=>exact h3 rfl
theorem FN {b:Bool} (h1:f τ=some (.bl b)):CC f τ=some (.bl (!b)):=by unfold CC; rw [h1]; rfl
theorem aE {b:Bool} (h1:f τ=some (.bl b)):dT f τ=some b:=by unfold dT; rw [h1]; rfl
theorem Dw {f g:DT} {b c:Bool} (h1:f τ=some b) (h2:b=false->g τ=some c) (h3:b=true->c=true):dOr f g τ=some c:=by
 unfold dOr; rw [h1]
 cases b with
 | false=>exact h2 rfl
 | true=>rw [h3 rfl]; rfl
theorem gD {f:DT} {b:Bool} (h1:f τ=some b):Ai f τ=some (!b):=by unfold Ai; rw [h1]; rfl
theorem yj:L0 τ=some none:=rfl
theorem fL {i:Int} (h:f τ=some (.int i)):dP f τ=some (some i):=by unfold dP; rw [h]; rfl
theorem Cy {l u:DO} {lo hi:Option Int} (h1:f τ=some x) (h2:l τ=some lo) (h3:u τ=some hi) (h4:oSl x lo hi=some z):dSl f l u τ=some z:=by unfold dSl; rw [h1]; show (l τ).bind _=_; rw [h2]; show (u τ).bind _=_; rw [h3]; exact h4
theorem oz {it:DI} {g:DE} {cs:List (Str×Nat)} {ds es:List D} (h1:it τ=some ds) (hl:ds.length<=100000) (h2:ud (λ d=>g (.shr d::jt τ cs)) ds=some es):wN it g cs τ=some (.lst es):=by
 unfold wN; rw [h1]; show (if ds.length<=100000 then _ else _)=_; rw [if_pos hl,h2]; rfl
theorem ik {C:Addr} {n:Str} {fs:List (Str×D)} (h1:f τ=some (.obj C fs)) (h2:fs.lookup n=some z):dUn (C0 C n) f τ=some z:=by unfold dUn; rw [h1]; show (if C=C then _ else _)=_; rw [if_pos rfl]; exact h2
theorem c9 {C:Addr} {m:Str} {F:List D->Option Sl} {o:DE} {ga:DA} {fs:List (Str×D)} {xs:List D} {s:Sl} (h1:o τ=some (.obj C fs)) (h2:ga τ=some xs) (h0:fs.lookup m=none) (h3:F (.obj C fs::xs)=some s) (h4:slD s=some z):ko C m F o ga τ=some z:=by
 unfold ko; rw [h1]; show (ga τ).bind _=_; rw [h2]; show (if C=C/\_ then _ else _)=_; rw [if_pos ⟨rfl,h0⟩,h3]; exact h4
theorem rX {C:Addr} {ns:List Str} {ga:DA} {xs:List D} (h1:ga τ=some xs) (h2:xs.length=ns.length):zc C ns ga τ=some (.obj C (ns.zip xs)):=by unfold zc; rw [h1]; exact if_pos h2
theorem yH {ds:List D} (h:f τ=some (.lst ds)):Cm f τ=some ds:=by unfold Cm; rw [h]; rfl
theorem tH {ds:List D} (h:f τ=some (.tup ds)):yI f τ=some ds:=by unfold yI; rw [h]; rfl
theorem qd {ga:DA} {j:Int} (h:ga τ=some [.int j]) (h1:-(2 ^ 62)<=j/\j < 2 ^ 62):lI ga τ=some (ph 0 j.toNat):=by unfold lI; rw [h]; exact if_pos h1
theorem Hx {i:Nat} {d0:D} {f:DT} {b:Bool} (q:τ[i]?=some (.own d0)) (h:f (τ.set i (.shr d0))=some b):DH i f τ=some b:=by unfold DH; rw [q]; exact h
end
section
variable {τ τ':List Sl} {f g:DS} {e:DE} {d:D} {o:Out}
theorem aY (h:f τ=some (.next τ')) (h2:g τ'=some o):g9 f g τ=some o:=by simp only [g9,h]; exact h2
theorem lu {s:Sl} (h:f τ=some (.ret s)):g9 f g τ=some (.ret s):=by simp only [g9,h]
theorem bf {i:Nat} (h:e τ=some d):xu i e τ=some (.next (τ.set i (.shr d))):=by unfold xu; rw [h]; rfl
theorem lr {i:Nat} (h:e τ=some d) (hi:i < τ.length):xM i e τ=some (.next (τ.set i (.own d))):=by unfold xM; rw [if_pos hi,h]; rfl
theorem bq (h:e τ=some d):qT e τ=some (.ret (.shr d)):=by unfold qT; rw [h]; rfl
theorem jJ (h:e τ=some d):AG e τ=some (.ret (.own d)):=by unfold AG; rw [h]; rfl
theorem uC {i:Nat} (q:τ[i]?=some (.own d)):xN i τ=some (.ret (.own d)):=by unfold xN; rw [q]
theorem DU (h:e τ=some d):xO e τ=some (.next τ):=by unfold xO; rw [h]; rfl
theorem mU {c:DT} {b:Bool} {r:Option Out} (h:c τ=some b) (h1:b=true->f τ=r) (h2:b=false->g τ=r):sIf c f g τ=r:=by
 unfold sIf; rw [h]
 cases b with
 | true=>exact h1 rfl
 | false=>exact h2 rfl
theorem AF {i:Nat} {ds:List D} (h:e τ=some d) (q:τ[i]?=some (.own (.lst ds))) (hl:ds.length < 100000):AM i e τ=some (.next (τ.set i (.own (.lst (ds++[d]))))):=by unfold AM; rw [h]; show (match τ[i]? with | some (.own (.lst ds))=>_ | _=>_)=_; rw [q]; exact if_pos hl
theorem HL {i:Nat} (q:τ[i]?=some (.own d)) (h:f (τ.set i (.shr d))=some o):F8 i f τ=some o:=by unfold F8; rw [q]; exact h
theorem pE {it:DI} {gg:DG} {ds:List D} {r:Option Out} (h1:it τ=some ds) (h2:mV (λ d τ=>(gg d τ).bind f) ds τ=r):AK it gg f τ=r:=by unfold AK; rw [h1]; exact h2
theorem bN {n m:Nat} {b:DS} {ds:List D} {s:Sl} (h:b (fG n ds)=some (.ret s)) (hl:ds.length=m:=by rfl):cc n m b ds=some s:=by
 unfold cc;rw [if_pos hl,h]
theorem wk {it:DI} {gg:DG} {ds:List D} (P:Nat->List Sl->Prop) (h1:it τ=some ds) (h0:P 0 τ) (hs:∀ j d τ,ds[j]?=some d->P j τ->∃ τ1 τ2,gg d τ=some τ1/\f τ1=some (.next τ2)/\P (j+1) τ2):∃ τ',AK it gg f τ=some (.next τ')/\P ds.length τ':=by
 obtain ⟨τ',e,p⟩:=rR (o:=.next []) (b:=λ d τ=>(gg d τ).bind f) P 0 h0 (λ j d τ hd p=>by
  rw [Nat.zero_add] at *;obtain ⟨τ1,τ2,e1,e2,p2⟩:=hs j d τ hd p
  exact ⟨τ2,by rw [e1]; exact e2,p2⟩)
 rw [Nat.zero_add] at p;exact ⟨τ',pE h1 e,p⟩
theorem jL {lo:Int} {n j:Nat} {d:D} (h:(ph lo n)[j]?=some d):d=.int (lo+j)/\j < n:=by
 unfold ph at h;rw [List.getElem?_map] at h
 by_cases hj:j < n
 ·rw [List.getElem?_range hj] at h
  exact ⟨by simpa using h.symm,hj⟩
 ·rw [List.getElem?_eq_none (by simpa using hj)] at h
  cases h
theorem fJ {lo:Int} {n:Nat}:(ph lo n).length=n:=by simp [ph]
end
theorem aP (i j:Int):i0 (.int i) (.int j)=some (.int (i+j)):=rfl
theorem dg (i j:Int):CZ (.int i) (.int j)=some (.int (i - j)):=rfl
theorem me (i j:Int):oLt (.int i) (.int j)=some (.bl (decide (i < j))):=rfl
theorem aQ {i j:Int} (h:0 < j):oMod (.int i) (.int j)=some (.int (i % j)):=by
 simp only [oMod,Ne.symm (Int.ne_of_lt h),ne_eq,not_false_eq_true,if_true,Int.fmod_eq_emod_of_nonneg _ (Int.le_of_lt h)]
theorem dk {i j:Int} (h:0 < j) (z:Sz j):oDiv (.int i) (.int j)=some (.int (i / j)):=by
 simp only [oDiv,Ne.symm (Int.ne_of_lt h),ne_eq,not_false_eq_true,z,and_self,if_true,Int.fdiv_eq_ediv_of_nonneg _ (Int.le_of_lt h)]
theorem rm {i j:Int} (h:-(2 ^ 64) < j) (z:j < 2 ^ 64):vh (.int i) (.int j)=some (.int (i * j)):=by
 have:An i j:=.inr ⟨h,z⟩;simp only [vh,this,true_or,if_true]
theorem nI {i j:Int} (h:-(2 ^ 64) < i) (z:i < 2 ^ 64):vh (.int i) (.int j)=some (.int (i * j)):=by
 have:An i j:=.inl ⟨h,z⟩;simp only [vh,this,true_or,if_true]
theorem b9 (i j:Int):oEq (.int i) (.int j)=some (.bl (decide (i=j))):=rfl
theorem iD (i j:Int):oNe (.int i) (.int j)=some (.bl (!decide (i=j))):=rfl
theorem fO (i j:Str):oEq (.str i) (.str j)=some (.bl (decide (i=j))):=rfl
theorem md (i j:Str):oNe (.str i) (.str j)=some (.bl (!decide (i=j))):=rfl
theorem xl {α:Type} (x:α) (xs:List α):atI (x::xs) 0=some x:=by simp [atI,ixN]
theorem zp {α:Type} (x y:α) (xs:List α):atI (x::y::xs) 1=some y:=by
 have:(1:Int) < ((xs.length+1+1:Nat):Int):=by omega
 simp only [atI,ixN,Zy,this,if_true];rfl
theorem zo {α:Type} (x y z:α) (xs:List α):atI (x::y::z::xs) 2=some z:=by
 have:(2:Int) < ((xs.length+1+1+1:Nat):Int):=by omega
 simp only [atI,ixN,Zy,this,if_true];rfl
theorem pB (d:D):slD (.shr d)=some d:=rfl
theorem bS (x:D) (xs:List D):oIx (.tup (x::xs)) (.int 0)=some x:=xl _ _
theorem cQ (x y:D) (xs:List D):oIx (.tup (x::y::xs)) (.int 1)=some y:=zp _ _ _
theorem jW (x y z:D) (xs:List D):oIx (.tup (x::y::z::xs)) (.int 2)=some z:=zo _ _ _ _
theorem aR {τ:List Sl} {c:DT} {f g:DS} {r:Option Out} (h:c τ=some false) (h2:g τ=r):g9 (sIf c f gE) g τ=r:=by
 simp only [g9,sIf,h,Yj,Bool.false_eq_true,if_false,gE];exact h2
theorem b8 {τ:List Sl} {c:DT} {f g:DS} {s:Sl} (h:c τ=some true) (h2:f τ=some (.ret s)):g9 (sIf c f gE) g τ=some (.ret s):=by
 simp only [g9,sIf,h,Yj,if_true,h2]
end L2
end
section
namespace L2
open PySem
def Ret (P:D->Prop) (o:Option Out):Prop:=∃ d,o=some (.ret (.shr d))/\P d
def Nx (P:List Sl->Prop) (o:Option Out):Prop:=∃ τ',o=some (.next τ')/\P τ'
section
variable {τ τ':List Sl} {f g:DS} {e e2 e3:DE} {c:DT} {b:Bool} {d x y z:D} {P:D->Prop} {R:List Sl->Prop}
theorem l4 (h:f τ=some (.next τ')) (h2:Ret P (g τ')):Ret P (g9 f g τ):=by
 obtain ⟨d,e,p⟩:=h2;exact ⟨d,aY h e,p⟩
theorem HV (h:Nx R (f τ)) (h2:∀ τ',R τ'->Ret P (g τ')):Ret P (g9 f g τ):=by
 obtain ⟨τ',e,p⟩:=h;exact l4 e (h2 _ p)
theorem AQ (h:e τ=some d) (p:P d):Ret P (qT e τ):=⟨d,bq h,p⟩
theorem lA (h:e τ=some d) (p:P d):Ret P (g9 (qT e) g τ):=⟨d,lu (bq h),p⟩
theorem CY (h:c τ=some b) (h1:b=true->Ret P (g9 f g τ)) (h2:b=false->Ret P (g τ)):Ret P (g9 (sIf c f gE) g τ):=by
 cases b with
 | true =>
  obtain ⟨d,e,p⟩:=h1 rfl;refine ⟨d,?_,p⟩;rw [<- e];simp only [g9,sIf,h,Yj,if_true]
 | false =>
  obtain ⟨d,e,p⟩:=h2 rfl;exact ⟨d,aR h e,p⟩
theorem yq (h:f τ=some (.next τ')) (h2:Nx R (g τ')):Nx R (g9 f g τ):=by
 obtain ⟨d,e,p⟩:=h2;exact ⟨d,aY h e,p⟩
theorem rB (p:R τ):Nx R (gE τ):=⟨τ,rfl,p⟩
theorem EJ (h:f τ=some (.next τ')) (p:R τ'):Nx R (f τ):=⟨τ',h,p⟩
theorem G8 (h:c τ=some b) (h1:b=true->Nx R (f τ)) (h2:b=false->Nx R (g τ)):Nx R (sIf c f g τ):=by
 cases b with
 | true =>
  obtain ⟨d,e,p⟩:=h1 rfl;exact ⟨d,mU h (λ _=>e) (λ q=>nomatch q),p⟩
 | false =>
  obtain ⟨d,e,p⟩:=h2 rfl;exact ⟨d,mU h (λ q=>nomatch q) (λ _=>e),p⟩
theorem J2 {it:DI} {gg:DG} {ds:List D} (Q:Nat->List Sl->Prop) (h1:it τ=some ds) (h0:Q 0 τ) (hs:∀ j d τ,ds[j]?=some d->Q j τ->∃ τ1,gg d τ=some τ1/\Nx (Q (j+1)) (f τ1)) (h2:∀ τ',Q ds.length τ'->R τ'):Nx R (AK it gg f τ):=by
 obtain ⟨τ',e,p⟩:=wk Q h1 h0 λ j d τ hd q=>by
  obtain ⟨τ1,e1,τ2,e2,q2⟩:=hs j d τ hd q;exact ⟨τ1,τ2,e1,e2,q2⟩
 exact ⟨τ',e,h2 _ p⟩
theorem yS {n m:Nat} {b:DS} {ds:List D} (h:Ret P (b (fG n ds))) (hl:ds.length=m:=by rfl):∃ d,cc n m b ds=some (.shr d)/\P d:=by
 obtain ⟨d,e,p⟩:=h;exact ⟨d,bN e hl,p⟩
theorem Au {f g:DT} {b c:Bool} (h1:f τ=some b) (h2:g τ=some c):dOr f g τ=some (b||c):=by
 unfold dOr; rw [h1]; cases b <;> simp [h2]
theorem je {b c:Bool} (h1:e τ=some (.bl b)) (h2:e2 τ=some (.bl c)):tY e e2 τ=some (.bl (b&&c)):=by
 unfold tY; rw [h1]; cases b <;> simp [h2]
theorem yW {b c:Bool} (h1:e τ=some (.bl b)) (h2:e2 τ=some (.bl c)):KL e e2 τ=some (.bl (b||c)):=by
 unfold KL; rw [h1]; cases b <;> simp [h2]
end
theorem gQ {c:D->Option Bool} {g:D->Option D} {t:D->Bool}:∀ {ds:List D},(∀ d ∈ ds,c d=some (t d)/\g d=some d)->Dh c g ds=some (ds.filter t)
 | [],_=>rfl
 | d::ds,h=>by
  obtain ⟨h1,h2⟩:=h d (Ze ..);have ih:=gQ (c:=c) (g:=g) (t:=t) (ds:=ds) λ e m=>h e (Zd _ m)
  unfold Dh;rw [h1]
  cases q:t d with
  | true=>simp [h2,ih,q]
  | false=>simp [ih,q]
theorem xk {α:Type} {xs:List α} {j:Int} (h0:0<=j) (h1:j < xs.length):∃ (h:j.toNat < xs.length),atI xs j=some xs[j.toNat]:=by
 refine ⟨by omega,?_⟩;have e:=mQ (xs:=xs) (j:=j.toNat) (List.getElem?_eq_getElem (by omega));rw [show ((j.toNat:Nat):Int)=j by omega] at e;exact e
end L2
end
local macro_rules | `(tactic| walk_at "ee")=>`(tactic| first
 | with_reducible assumption
 | with_reducible exact L2.e_c
 | ((with_reducible apply L2.aU); exact rfl)
 | with_reducible exact L2.ax
 | ((with_reducible apply L2.ah) <;> walk_at "ee")
 | ((with_reducible apply L2.az) <;> walk_at "ee")
 | ((with_reducible apply L2.mB) <;> walk_at "ee")
 | ((with_reducible apply L2.eT) <;> walk_at "ee")
 | ((with_reducible apply L2.ik) <;> walk_at "ee")
 | ((with_reducible apply L2.FK) <;> walk_at "ee")
 | ((with_reducible apply L2.bu) <;> walk_at "ee")
 | ((with_reducible apply L2.cZ) <;> walk_at "ee")
 | ((with_reducible apply L2.rX) <;> walk_at "ee")
 | ((with_reducible apply L2.c9) <;> walk_at "ee")
 | ((with_reducible apply L2.aE) <;> walk_at "ee")
 | ((with_reducible apply L2.gD) <;> walk_at "ee")
 | with_reducible exact L2.yj
 | ((with_reducible apply L2.fL) <;> walk_at "ee")
 | ((with_reducible apply L2.Cy) <;> walk_at "ee")
 | ((with_reducible apply t_and2) <;> walk_at "ee")
 | ((with_reducible apply L2.Au) <;> walk_at "ee")
 | ((with_reducible apply L2.je) <;> walk_at "ee")
 | ((with_reducible apply L2.yW) <;> walk_at "ee")
 | ((with_reducible apply e_get2) <;> walk_at "ee")
 | with_reducible exact L2.pB _
 | with_reducible exact slD_own _
 | with_reducible exact L2.bS _ _
 | with_reducible exact L2.cQ _ _ _
 | with_reducible exact L2.jW _ _ _ _
 | with_reducible exact L2.aP _ _
 | with_reducible exact L2.dg _ _
 | with_reducible exact L2.b9 _ _
 | with_reducible exact L2.iD _ _
 | with_reducible exact L2.me _ _
 | with_reducible exact L2.fO _ _
 | with_reducible exact L2.md _ _
 | with_reducible exact L2.aQ (by decide)
 | with_reducible exact L2.dk (by decide) (by decide +kernel)
 | with_reducible exact L2.rm (by decide) (by decide)
 | with_reducible exact L2.nI (by decide) (by decide)
 | with_reducible exact L2.xl _ _
 | with_reducible exact L2.zp _ _ _
 | with_reducible exact L2.zo _ _ _ _
 | exact rfl
 | exact Zb rfl
 | skip)
section
namespace N16
open PySem L2
theorem HS {n m:Nat} {b:DS} {ds:List D} {τ:List Sl} (h:b (fG n ds)=some (.next τ)) (hl:ds.length=m:=by rfl):cc n m b ds=some (.shr .non):=by
 unfold cc;rw [if_pos hl,h]
theorem HK {τ:List Sl} {c:DT} {f g:DS} {b:Bool} {s:Sl} (h:c τ=some b) (h1:b=true->f τ=some (.ret s)) (h2:b=false->g τ=some (.ret s)):g9 (sIf c f gE) g τ=some (.ret s):=by
 cases b with
 | true=>exact b8 h (h1 rfl)
 | false=>exact aR h (h2 rfl)
theorem Kq {τ:List Sl} {f:DE} {x:Str} (h:f τ=some (.str x)):Ck f τ=some (chD x):=by unfold Ck; rw [h]; rfl
def lower (c:Nat):Bool:=decide (97<=c)&&decide (c<=122)
def bB (x:Str):Bool:=(decide (1<=(x.length:Int))&&decide ((x.length:Int)<=8))&&x.cps.toList.all lower
theorem lt1 (c d:Nat):[c] < [d]↔c < d:=by
 constructor
 ·intro z
  cases z with
  | rel h=>exact h
  | cons h=>cases h
 ·intro h
  exact List.Lex.rel h
theorem le1 (c d:Nat):Iv (.str ⟨#[c]⟩) (.str ⟨#[d]⟩)=some (.bl (decide (c<=d))):=by
 show some (D.bl (!decide ([d] < [c])))=_;congr 2
 by_cases h:c<=d
 ·rw [Zq h,Zn]
  · rfl
  ·intro z
   have:=(lt1 d c).mp z;omega
 ·rw [Zn h,Zq]
  · rfl
  · exact (lt1 d c).mpr (by omega)
theorem vw {g:D->Option D} {t:Nat->Bool}:∀ {cs:List Nat},(∀ c ∈ cs,g (.str ⟨#[c]⟩)=some (.bl (t c)))->ud g (cs.map λ c=>.str ⟨#[c]⟩)=some (cs.map λ c=>.bl (t c))
 | [],_=>rfl
 | c::cs,h=>by
  show (g (.str ⟨#[c]⟩)).bind (λ x=>(ud g (cs.map λ c=>.str ⟨#[c]⟩)).bind λ xs=>some (x::xs))=_;rw [h c (Ze ..),vw λ c m=>h c (Zd _ m)];rfl
theorem gC (t:Nat->Bool):∀ cs:List Nat,ug (cs.map λ c=>.bl (t c))=some (cs.map t)
 | []=>rfl
 | c::cs=>by
  show (ug (cs.map λ c=>.bl (t c))).map (t c::·)=_;rw [gC t cs]; rfl
theorem vT (x:Str) (hx:x.length<=100):kQ [.str x]=some (.shr (.bl (bB x))):=by
 unfold kQ kK;dsimp only;refine bN ?_
 refine aR (gD (b:=true) (aE (bu (ah e_v (ah e_c ax)) rfl))) ?_
 have hl:s9 [.str x]=some (.int (x.length:Int)):=by
  show (if x.length<=100000 then _ else none)=_;rw [if_pos (by omega)]
 refine HK (gD (aE (je (az e_c (bu (ah e_v ax) hl) rfl) (az (bu (ah e_v ax) hl) e_c rfl)))) (λ h=>?_) (λ h=>?_)
 ·unfold bB
  rw [Bool.not_eq_true'] at h;rw [h];exact bq e_c
 ·rw [Bool.not_eq_false'] at h
  refine bq (bu (ah (oz (Kq e_v) ?_ (vw λ c _=>je (az e_c e_v (le1 97 c)) (az e_v e_c (le1 c 122)))) ax) ?_)
  ·show (x.cps.toList.map _).length<=_
   rw [Za];exact Z2 hx (by decide)
  ·show (ug _).map _=_
   rw [gC];unfold bB;rw [h];show some (D.bl ((x.cps.toList.map lower).all id))=some (D.bl (x.cps.toList.all lower));rw [List.all_map];rfl
def scr (ns:List Int):D:=.fz (ns.map .int)
theorem BZ (ns:List Int):s9 [scr ns]=some (.int ns.length):=by
 show some (D.int ((ns.map D.int).length:Nat))=_;rw [Za]
theorem Fb {ns:List Int} {j:Int} (h0:0<=j) (h1:j < ns.length):∃ c:Int,oIx (scr ns) (.int j)=some (.int c):=by
 obtain ⟨h,e⟩:=xk (xs:=ns.map D.int) h0 (by rw [Za]; exact h1);refine ⟨ns[j.toNat]'(by rw [Za] at h; exact h),?_⟩;show atI (ns.map D.int) j=_;rw [e,List.getElem_map]
theorem iF (c:Int) {w:Int} (w0:0<=w) (w1:w<=10000):∃ r,cu [.int c,.int w]=some (.shr (.int r))/\0<=r/\r < 1000003:=by
 have m0:=Ye ((c * 48271+w * 7919) % 2147483647 * (16807+2 * w)) (b:=1000003) (by decide);have m1:=Yb ((c * 48271+w * 7919) % 2147483647 * (16807+2 * w)) (b:=1000003) (by decide);have e1:=rm (i:=(c * 48271+w * 7919) % 2147483647) (j:=16807+2 * w) (by omega) (by omega);refine ⟨_,?_,m0,m1⟩;unfold cu iN;refine bN ?_
 refine aY (bf (by walk_at "ee")) ?_
 exact bq (by walk_at "ee")
theorem kA (ns:List Int) {k:Int} (k0:0<=k):∃ c:Int,dX [scr ns,.int k]=some (.shr (.int c)):=by
 have hl:=BZ ns;have t:=me k (ns.length:Int);unfold dX gY
 by_cases h:k < (ns.length:Int)
 ·obtain ⟨c,hc⟩:=Fb k0 h
  rw [Zq h] at t;refine ⟨c,bN ?_⟩;exact b8 (by walk_at "ee") (bq (by walk_at "ee"))
 ·rw [Zn h] at t
  refine ⟨0,bN ?_⟩;show g9 _ _ [.shr (scr ns),.shr (.int k)]=_;exact aR (by walk_at "ee") (bq e_c)
def LET:Str:="abcdefghijklmnopqrstuvwxyz"
def okS (x:Str):Bool:=x.cps.all lower
def One (z:Str):Prop:=z.length=1/\okS z=true
theorem BY:LET.cps.toList.length=26:=by rfl
theorem EY:∀ c ∈ LET.cps.toList,lower c=true:=by decide +kernel
theorem z4 {k:Int} (k0:0<=k) (k1:k < 26):∃ z:Str,oIx (.str LET) (.int k)=some (.str z)/\One z:=by
 obtain ⟨h,e⟩:=xk k0 (by rw [BY]; omega);refine ⟨⟨#[LET.cps.toList[k.toNat]]⟩,?_,rfl,?_⟩
 ·show (if LET.length<=100000 then (atI LET.cps.toList k).map _ else none)=_
  rw [if_pos (by decide +kernel),e];rfl
 ·unfold okS
  rw [Array.all_eq_true_iff_forall_mem];intro c hc;have e:c=LET.cps.toList[k.toNat]:=by simpa using hc
  rw [e];exact EY _ (Xn h)
theorem strs_map:∀ ts:List Str,L2.sG (ts.map .str)=some ts
 | []=>rfl
 | t::ts=>by
  show (L2.sG (ts.map .str)).map _=_;rw [strs_map ts]; rfl
theorem nM {gg:D->Option D}:∀ {ds:List D},(∀ d ∈ ds,∃ z:Str,gg d=some (.str z)/\One z)->∃ ts:List Str,ud gg ds=some (ts.map .str)/\ts.length=ds.length/\∀ z ∈ ts,One z
 | [],_=>⟨[],rfl,rfl,λ q hq=>nomatch hq⟩
 | d::ds,h=>by
  obtain ⟨q,e1,p1⟩:=h d (Ze ..);obtain ⟨qs,e2,l2,p2⟩:=nM (gg:=gg) (ds:=ds) λ x hx=>h x (Zd _ hx)
  refine ⟨q::qs,by simp only [ud,e1,e2]; rfl,by simp [l2],λ x hx=>?_⟩;rcases Zi.mp hx with rfl | hx
  · exact p1
  · exact p2 x hx
theorem qM:∀ {ts:List Str},(∀ z ∈ ts,One z)->(ts.map (·.length)).sum=ts.length
 | [],_=>rfl
 | t::ts,h=>by
  rw [Zh,List.sum_cons,(h t (Ze ..)).1,qM λ z hz=>h z (Zd _ hz),Zy];omega
theorem pK {n:Nat} {d:D} (h:d ∈ ph 0 n):∃ j:Nat,j < n/\d=.int (j:Int):=by
 obtain ⟨j,hj⟩:=List.getElem?_of_mem h;obtain ⟨e,l⟩:=jL hj;exact ⟨j,l,by rw [e]; congr 1; omega⟩
theorem u0 {x y:Array Nat} (hx:x.all (lower)=true) (hy:y.all (lower)=true):(x++y).all (lower)=true:=by grind
theorem wm:∀ (ts:List Str) (a:Array Nat),(∀ z ∈ ts,One z)->a.all (lower)=true->(ts.foldl (λ acc p=>acc++(Str.cps "")++p.cps) a).size=a.size+ts.length/\(ts.foldl (λ acc p=>acc++(Str.cps "")++p.cps) a).all (lower)=true
 | [],a,_,h=>⟨rfl,h⟩
 | t::ts,a,h,ha=>by
  have h1:=h t (Ze ..);have h0:(Str.cps "").size=0:=by decide +kernel
  have h1':t.cps.size=1:=h1.1;obtain ⟨e1,e2⟩:=wm ts (a++(Str.cps "")++t.cps) (λ z hz=>h z (Zd _ hz)) (u0 (u0 ha (by decide +kernel)) h1.2);refine ⟨?_,e2⟩;rw [List.foldl_cons,e1,Array.size_append,Array.size_append,h1',h0,Zy];omega
theorem B6 {ts:List Str} (h:∀ z ∈ ts,One z) (n:ts≠[]):(Txt.join "" ts).length=ts.length/\okS (Txt.join "" ts)=true:=by
 match ts,n with
 | t::ts,_ =>
  have h1:=h t (Ze ..);have h1':t.cps.size=1:=h1.1;obtain ⟨e1,e2⟩:=wm ts t.cps (λ z hz=>h z (Zd _ hz)) h1.2;refine ⟨?_,e2⟩;show (ts.foldl (λ acc p=>acc++(Str.cps "")++p.cps) t.cps).size=_;rw [e1,h1',Zy];omega
theorem FO {τ:List Sl} {f g:DE} {z:Str} {ts:List Str} (h1:f τ=some (.str z)) (h2:g τ=some (.lst (ts.map .str))) (h3:(ts.map (·.length)).sum+ts.length * z.length<=100000):CD f g τ=some (.str (Txt.join z ts)):=by
 unfold CD;rw [h1];rw [h2];show (L2.sG (ts.map .str)).bind _=_;rw [strs_map];exact if_pos h3
theorem Bt (c:Int) {w:Int} (w0:0<=w) (w1:w<=9000):∃ z:Str,fw [.int c,.int w]=some (.shr (.str z))/\bB z=true:=by
 obtain ⟨r,er,r0,r1⟩:=iF c (w:=w+3) (by omega) (by omega)
 obtain ⟨ts,ets,lts,ots⟩:=nM (gg:=λ d=>dOp oIx (aB 1) (dOp oMod (dFn cu (ay (aB 2) (ay (dOp i0 (aB 3) (dOp vh (dC (.int 5)) (aB 0))) c5))) (dC (.int 26))) [.shr d,.shr (.str LET),.shr (.int c),.shr (.int w)]) (ds:=ph 0 (Int.toNat (1+r % 8))) (by
  intro d hm;obtain ⟨j,hj,rfl⟩:=pK hm;obtain ⟨q,eq,q0,q1⟩:=iF c (w:=w+5 * (j:Int)) (by omega) (by omega);obtain ⟨z,ez,lz⟩:=z4 (Ye _ (by decide)) (Yb _ (by decide))
  exact ⟨z,by walk_at "ee",lz⟩)
 rw [fJ] at lts;have ne:ts≠[]:=λ z=>by rw [z] at lts; simp at lts; omega
 obtain ⟨jl,jo⟩:=B6 ots ne
 have nk:bB (Txt.join "" ts)=true:=by
  unfold bB
  have jo':(Txt.join "" ts).cps.toList.all lower=true:=by
   rw [Array.all_toList];exact jo
  rw [Zq (by omega),Zq (by omega),jo'];rfl
 refine ⟨Txt.join "" ts,?_,nk⟩;unfold fw gX;dsimp only;refine bN ?_
 refine aY (bf e_c) ?_
 refine aY (bf (by walk_at "ee")) ?_
 exact bq (FO e_c (oz (qd rfl (by omega)) (by rw [fJ]; omega) ets) (by rw [qM ots,show Str.length ""=0 by decide +kernel]; omega))
theorem zT (c:Int) {w:Int} (w0:0<=w) (w1:w<=1000):∃ z:Str,fw [.int c,.int w]=some (.shr (.str z))/\bB z=true:=Bt c w0 (by omega)
theorem dm {z:Str} (h:bB z=true):gh [.str z]=some (.shr .non):=by
 have l:z.length<=100:=by
  unfold bB at h;rw [Yw,Yw] at h;have:=Xx h.1.2;omega
 have e:=vT z l;rw [h] at e;unfold gh fW;exact HS (mU (gD (aE (cZ (ah e_v ax) e rfl))) nofun λ _=>rfl)
theorem yA (ns:List Int):s9 [.lst (ns.map .int)]=some (.int (ns.length:Int)):=by
 show some (D.int ((ns.map D.int).length:Nat))=_;rw [Za]
theorem lh {ns:List Int} {p:Int} (h0:0<=p) (h1:p<=ns.length):fu [.int p,.lst (ns.map .int)]=some (.shr .non):=by
 have hl:=yA ns;have e1:oLe (.int 0) (.int p)=some (.bl true):=by show some (D.bl (decide _))=_; rw [Zq h0]
 have e2:oLe (.int p) (.int (ns.length:Int))=some (.bl true):=by show some (D.bl (decide _))=_; rw [Zq h1]
 unfold fu fm;exact HS (mU (gD (aE (je (az e_c e_v e1) (az e_v (bu (ah e_v ax) hl) e2)))) nofun λ _=>rfl)
theorem xA (i:Int):gj [.int i]=some (.shr (.bl true)):=rfl
theorem pD (ns:List Int) (hl:ns.length < 1000):cE [.lst (ns.map .int),.lst (ns.map .int)]=some (.shr (.bl true)):=by
 have hn:=yA ns;have e0:oNe (.int (ns.length:Int)) (.int (ns.length:Int))=some (.bl false):=by rw [iD,Zq rfl]; rfl
 obtain ⟨τ',e,s2,rfl⟩:=wk (f:=sIf (dOr (Ai (dT (dFn gj (ay (dOp oIx (aB 0) (aB 2)) c5)))) (dT (dOp oNe (dOp oIx (aB 0) (aB 2)) (dOp oIx (aB 1) (aB 2))))) (qT (dC (.bl false))) gE) (gg:=gN 2) (it:=lI (ay (jr s9 (ay (aB 1) c5)) c5))
  (λ j τ=>∃ s2,τ=[.shr (.lst (ns.map .int)),.shr (.lst (ns.map .int)),s2]) ((qd (ah (bu (ah e_v ax) hn) ax) (by omega)).trans (by rw [Int.toNat_natCast])) ⟨.no,rfl⟩ (λ j d τ hd ⟨s2,e⟩=>by
    subst e;obtain ⟨e,l⟩:=jL hd;rw [Int.zero_add] at e;subst e
    have hx:oIx (.lst (ns.map .int)) (.int (j:Int))=some (.int ns[j]):=by
     obtain ⟨h,e⟩:=xk (xs:=ns.map D.int) (j:=(j:Int)) (by omega) (by rw [Za]; omega);show atI (ns.map D.int) _=_;rw [e];simp
    have e1:oNe (.int ns[j]) (.int ns[j])=some (.bl false):=by rw [iD,Zq rfl]; rfl
    exact ⟨_,[.shr (.lst (ns.map .int)),.shr (.lst (ns.map .int)),.shr (.int (j:Int))],rfl,mU (Dw (b:=false) (gD (aE (cZ (ah (az e_v e_v hx) ax) (xA _) rfl))) (λ _=>aE (az (az e_v e_v hx) (az e_v e_v hx) e1)) nofun) nofun λ _=>rfl,_,rfl⟩)
 unfold cE dN;exact bN (aR (Dw (b:=false) (gD (b:=true) rfl) (λ _=>aE (az (bu (ah e_v ax) hn) (bu (ah e_v ax) hn) e0)) nofun) (aY e (bq e_c)))
end N16
end
section
namespace N16
open PySem L2
structure Pl where
 k:List Str
 l:List Str
structure B8 where
 i:Int
 h:Option Int
 n:Str
 r:List Int
 m:Pl
def bQ:Pl:=⟨[],[]⟩
def mkD (b:B8):D:=.dct (b.m.k.map λ x=>((.inr x:Key),.bl true))
def wdD (b:B8):D:=.lst []
def roD (b:B8):D:=.tup []
def kv {β:Type} (g:B8->β) (M:List B8):List (Key×β):=M.map λ b=>((.inl b.i:Key),g b)
def fd (M:List B8) (i:Int):Option B8:=M.find? λ b=>decide (b.i=i)
theorem lK {M:List B8} {i:Int} {b:B8} (h:fd M i=some b):b.i=i:=by simpa using List.find?_some h
theorem bt {M:List B8} {i:Int} {b:B8} (h:fd M i=some b):b ∈ M:=List.mem_of_find?_eq_some h
theorem zu (g:B8->D) (M:List B8) (i:Int):iS (kv g M) (.inl i)=(fd M i).map g:=by
 unfold iS kv fd
 induction M with
 | nil=>rfl
 | cons b M ih =>
  rw [Zh,List.find?_cons,List.find?_cons]
  by_cases h:b.i=i
  · simp [h]
  ·have:decide ((Sum.inl b.i:Key)=Sum.inl i)=false:=Zn λ z=>h (by injection z)
   rw [Zn h,this];exact ih
def hD:Option Int->D
 | none=>.non
 | some j=>.int j
def trF (gv:Int) (M:List B8):List (Str×D):=[("given",.int gv),("names",.dct (kv (λ b=>.str b.n) M)),("holders",.dct (kv (λ b=>hD b.h) M)),("boxes",.dct (kv (λ b=>.lst (b.r.map .int)) M)),("marks",.dct (kv mkD M)),("words",.dct (kv wdD M)),("rows",.dct (kv roD M))]
def trD (C:Addr) (gv:Int) (M:List B8):D:=.obj C (trF gv M)
def faD (M:List B8):D:=.dct (kv (λ b=>.tup [hD b.h,.str b.n]) M)
theorem ck {g:B8->D} {M:List B8} {i:Int} {b:B8} (h:fd M i=some b):fg (.dct (kv g M)) (.int i)=some (g b):=by
 show iS (kv g M) (.inl i)=_;rw [zu,h];rfl
theorem oA {g:B8->D} {M:List B8} {i:Int} {b:B8} (h:fd M i=some b):fP (.int i) (.dct (kv g M))=some (.bl false):=by
 show some (D.bl (!(iS (kv g M) (.inl i)).isSome))=_;rw [zu,h];rfl
theorem rF:∀ (l:List Str) ,nS (l.map λ x=>((.inr x:Key),D.bl true))=some l
 | []=>rfl
 | x::l=>by
  show (nS (l.map λ x=>((.inr x:Key),D.bl true))).map (x::·)=_;rw [rF l];rfl
section
variable {t:Adr} {gv:Int} {M:List B8} {i:Int} {b:B8} {z:Int}
theorem fN:(trF gv M).lookup (Str.ofString "names")=some (D.dct (kv (λ b=>.str b.n) M)):=rfl
theorem fH:(trF gv M).lookup (Str.ofString "holders")=some (D.dct (kv (λ b=>hD b.h) M)):=rfl
theorem fB:(trF gv M).lookup (Str.ofString "boxes")=some (D.dct (kv (λ b=>.lst (b.r.map .int)) M)):=rfl
theorem fK:(trF gv M).lookup (Str.ofString "marks")=some (D.dct (kv mkD M)):=rfl
theorem jw (h:fd M i=some b):d7 t [trD t.af gv M,.int i]=some (.shr .non):=by
 have e1:=oA (g:=λ b=>.str b.n) h;unfold d7 f6;exact HS (mU (aE (az e_v (ik e_v fN) e1)) nofun λ _=>rfl)
theorem chk (h:fd M i=some b):xO (ko t.af "check" (d7 t) (aB 0) (ay (aB 1) c5)) [.shr (trD t.af gv M),.shr (.int i)]=some (.next [.shr (trD t.af gv M),.shr (.int i)]) :=
 DU (c9 e_v (ah e_v ax) rfl (jw h) rfl)
theorem j6 (h:fd M i=some b):bL t [trD t.af gv M,.int i]=some (.shr (hD b.h)):=by
 unfold bL c7;exact bN (aY (chk h) (bq (az (ik e_v fH) e_v (ck h))))
theorem mN (h:fd M i=some b):cG t [trD t.af gv M,.int i]=some (.own (.lst (b.r.map .int))):=by
 unfold cG dQ;exact bN (aY (chk h) (jJ (bu (ah (az (ik e_v fB) e_v (ck h)) ax) rfl)))
theorem yu (h:fd M i=some b) (h64:b.m.k.length < 64):dY t [trD t.af gv M,.int i]=some (.own (.lst ((CV b.m.k).map .str))):=by
 unfold dY dO;refine bN (aY (chk h) (jJ ?_));unfold wM;rw [az (ik e_v fK) e_v (ck h)];show (nS (b.m.k.map λ x=>((.inr x:Key),D.bl true))).bind _=_;rw [rF];show (if b.m.k.length < 64 then _ else none)=_;rw [if_pos h64]
inductive Ch (M:List B8):Int->Nat->Prop where
 | top {i:Int} {b:B8} (h:fd M i=some b) (e:b.h=none):Ch M i 0
 | up {i j:Int} {n:Nat} {b:B8} (h:fd M i=some b) (e:b.h=some j) (c:Ch M j n):Ch M i (n+1)
theorem Bu (h:fd M i=some b):eI t [trD t.af gv M,.int i]=some (.shr (.str b.n)):=by
 unfold eI eE;exact bN (aY (chk h) (bq (az (ik e_v fN) e_v (ck h))))
inductive Hl (M:List B8):Int->List Int->Prop where
 | top {i:Int} {b:B8} (h:fd M i=some b) (e:b.h=none):Hl M i []
 | up {i j:Int} {l:List Int} {b:B8} (h:fd M i=some b) (e:b.h=some j) (c:Hl M j l):Hl M i (j::l)
theorem Hl.get {l:List Int} (h:Hl M i l):∃ b,fd M i=some b:=by
 cases h with
 | top h _=>exact ⟨_,h⟩
 | up h _ _=>exact ⟨_,h⟩
theorem Hl.of {n:Nat} (c:Ch M i n):∃ l,Hl M i l/\l.length=n:=by
 induction c with
 | top h e=>exact ⟨[],.top h e,rfl⟩
 | up h e c ih=>obtain ⟨l,h1,h2⟩:=ih; exact ⟨_::l,.up h e h1,Z9 (·+1) h2⟩
theorem nY {l:List Int} (c:Hl M i l):∀ (ds:List D) (b:B8),fd M i=some b->ds.length+l.length < 100000->bR (dT (dOp kZ (aB 3) (dC .non))) (g9 (AM 2 (aB 3)) (xu 3 (ko t.af "holder_of" (bL t) (aB 0) (ay (aB 3) c5)))) (l.length+1) [.shr (trD t.af gv M),.shr (.int z),.own (.lst ds),.shr (hD b.h)]=some (.next [.shr (trD t.af gv M),.shr (.int z),.own (.lst (ds++l.map .int)),.shr .non]):=by
 induction c with
 | @top i b h e =>
  intro ds b' hb hz;rw [h] at hb;cases hb;rw [e];have t1:dT (dOp kZ (aB 3) (dC .non)) [.shr (trD t.af gv M),.shr (.int z),.own (.lst ds),.shr (hD none)]=some false:=rfl;unfold bR;rw [t1,List.map_nil,Zz];rfl
 | @up i j l b h e c ih =>
  intro ds b' hb hz;rw [h] at hb;cases hb;obtain ⟨bj,hj⟩:=c.get;have hx:=ih (ds++[.int j]) bj hj (by rw [Z0]; show ds.length+1+l.length < _; rw [Zy] at hz; omega);rw [e];have t1:dT (dOp kZ (aB 3) (dC .non)) [.shr (trD t.af gv M),.shr (.int z),.own (.lst ds),.shr (hD (some j))]=some true:=rfl
  have t2:g9 (AM 2 (aB 3)) (xu 3 (ko t.af "holder_of" (bL t) (aB 0) (ay (aB 3) c5))) [.shr (trD t.af gv M),.shr (.int z),.own (.lst ds),.shr (hD (some j))]=some (.next [.shr (trD t.af gv M),.shr (.int z),.own (.lst (ds++[.int j])),.shr (hD bj.h)]) :=
   aY ((AF e_v rfl (by omega)).trans rfl) ((bf (c9 e_v (ah e_v ax) rfl (j6 hj) rfl)).trans rfl)
  conv=>lhs; unfold bR
  rw [t1];simp only [t2];rw [List.append_assoc] at hx;exact hx
theorem iH {l:List Int} (c:Hl M i l) (hn:l.length < 1000):gc t [trD t.af gv M,.int i]=some (.own (.lst (l.map .int))):=by
 obtain ⟨b,h⟩:=c.get;have w:=fI (nY (t:=t) (gv:=gv) (z:=i) c [] b h (by rw [X5]; omega));unfold gc fV;dsimp only;exact bN (aY (lr (eT ax (Z4 _)) (Zb rfl)) (aY ((bf (c9 e_v (ah e_v ax) rfl (j6 h) rfl)).trans rfl) (aY w (uC rfl))))
theorem zb {n:Nat} (c:Ch M i n) (hn:n < 1000):iQ t [trD t.af gv M,.int i]=some (.shr (.int (n:Int))):=by
 obtain ⟨l,h,e⟩:=Hl.of c;unfold iQ iM;refine bN (bq (bu (ah (cZ (ah e_v (ah e_v ax)) (iH h (by omega)) rfl) ax) ?_));show some (D.int ((l.map D.int).length:Int))=_;rw [Za,e]
end
end N16
end
section
namespace N16
open PySem L2
def trG (C:Addr) (g nm ho bx mk wd rw:Mt):Mt:=.n (.o C) [(.inr "given",g),(.inr "names",nm),(.inr "holders",ho),(.inr "boxes",bx),(.inr "marks",mk),(.inr "words",wd),(.inr "rows",rw)]
def kM (g:B8->Mt) (M:List B8):Mt:=.n .d (kv g M)
def mkM (b:B8):Mt:=.n .d (b.m.k.map λ x=>((.inr x:Key),.s (.bl true)))
def wdM (b:B8):Mt:=lM []
def roM (b:B8):Mt:=.s (.tup [])
def bxM (M:List B8):Mt:=kM (λ b=>lM (b.r.map .int)) M
def trM (C:Addr) (gv:Int) (M:List B8):Mt:=trG C (.s (.int gv)) (kM (λ b=>.s (.str b.n)) M) (kM (λ b=>.s (hD b.h)) M) (bxM M) (kM mkM M) (kM wdM M) (kM roM M)
def faM (M:List B8):Mt:=kM (λ b=>.s (.tup [hD b.h,.str b.n])) M
theorem yQ (g:B8->Mt) (M:List B8):frz (kM g M)=.dct (kv (λ b=>frz (g b)) M):=by
 unfold kM kv;rw [frz,mw,Z7];rfl
theorem yP (d:D):frz (.s d)=d:=by rw [frz]
theorem j8 (ns:List D):frz (lM ns)=.lst ns:=by
 unfold lM;rw [frz,mr,Z7];congr 1;exact (Zw (g:=id) λ d _=>by show frz (.s d)=id d; rw [frz]; rfl).trans (List.map_id _)
theorem Fw (b:B8):frz (mkM b)=mkD b:=by
 unfold mkM mkD;rw [frz,mw,Z7];exact Z9 D.dct (Zw λ x _=>by show (_,frz (.s _))=_; rw [yP])
theorem Fu (b:B8):frz (wdM b)=wdD b:=by
 unfold wdM wdD;rw [j8]
theorem Fv (b:B8):frz (roM b)=roD b:=by
 unfold roM roD;rw [yP]
theorem we (C:Addr) (gv:Int) (M:List B8):frz (trM C gv M)=trD C gv M:=by
 unfold trM trG bxM;rw [frz];simp only [rQ,Zh,List.map_nil,yQ,yP,j8,Fw,Fu,Fv,strOf];rfl
theorem wg (M:List B8):frz (bxM M)=.dct (kv (λ b=>.lst (b.r.map .int)) M):=by
 unfold bxM;rw [yQ];simp only [j8]
theorem Fx (M:List B8):frz (faM M)=faD M:=by
 unfold faM faD;rw [yQ];simp only [yP]
theorem Ar {C:Addr} {g nm ho bx mk wd rw:Mt} {k:Key}:(trG C g nm ho bx mk wd rw).get [.k (.inr "boxes"),.k k]=bx.get [.k k]:=rfl
theorem pw {C:Addr} {g nm ho bx mk wd rw x:Mt} {k:Key}:(trG C g nm ho bx mk wd rw).put [.k (.inr "boxes"),.k k] x=trG C g nm ho (bx.put [.k k] x) mk wd rw:=rfl
theorem nZ (g:B8->Mt) (M:List B8) (i:Int):(kM g M).get [.k (.inl i)]=(fd M i).map g:=by
 unfold kM;rw [za];unfold kv fd
 induction M with
 | nil=>rfl
 | cons b M ih =>
  rw [Zh,List.find?_cons,List.find?_cons]
  by_cases h:b.i=i
  · simp [h]
  ·have:decide ((Sum.inl b.i:Key)=Sum.inl i)=false:=Zn λ z=>h (by injection z)
   rw [Zn h,this];exact ih
end N16
end
section
namespace N16
open PySem L2
theorem uJ {C:Addr} {g ho bx mk wd rw mv:Mt} {cs:List (Key×Mt)} {b:Bool} {r:List Sm} {gk:DE} {fv:DEm} {s:Sm} {d:D} {k:Key} (h1:fv (.mu b (trG C g (.n .d cs) ho bx mk wd rw)::r)=some (s,.mu b (trG C g (.n .d cs) ho bx mk wd rw)::r)) (h3:gk (bM (.mu b (trG C g (.n .d cs) ho bx mk wd rw)::r))=some d) (h4:j4 d=some k) (h5:toM s=some mv) (h7:cs.length < 100000) :
  gF (l5 C "names" (cI 0)) gk fv (.mu b (trG C g (.n .d cs) ho bx mk wd rw)::r)=some (.next (.mu b (trG C g (.n .d (iV cs k mv)) ho bx mk wd rw)::r)):=by
 refine (fR h1 (lU bc rfl) h3 h4 h5 rfl h7).trans ?_
 rfl
theorem pM {C:Addr} {g nm bx mk wd rw mv:Mt} {cs:List (Key×Mt)} {b:Bool} {r:List Sm} {gk:DE} {fv:DEm} {s:Sm} {d:D} {k:Key} (h1:fv (.mu b (trG C g nm (.n .d cs) bx mk wd rw)::r)=some (s,.mu b (trG C g nm (.n .d cs) bx mk wd rw)::r)) (h3:gk (bM (.mu b (trG C g nm (.n .d cs) bx mk wd rw)::r))=some d) (h4:j4 d=some k) (h5:toM s=some mv) (h7:cs.length < 100000) :
  gF (l5 C "holders" (cI 0)) gk fv (.mu b (trG C g nm (.n .d cs) bx mk wd rw)::r)=some (.next (.mu b (trG C g nm (.n .d (iV cs k mv)) bx mk wd rw)::r)):=by
 refine (fR h1 (lU bc rfl) h3 h4 h5 rfl h7).trans ?_
 rfl
theorem uM {C:Addr} {g nm ho mk wd rw mv:Mt} {cs:List (Key×Mt)} {b:Bool} {r:List Sm} {gk:DE} {fv:DEm} {s:Sm} {d:D} {k:Key} (h1:fv (.mu b (trG C g nm ho (.n .d cs) mk wd rw)::r)=some (s,.mu b (trG C g nm ho (.n .d cs) mk wd rw)::r)) (h3:gk (bM (.mu b (trG C g nm ho (.n .d cs) mk wd rw)::r))=some d) (h4:j4 d=some k) (h5:toM s=some mv) (h7:cs.length < 100000) :
  gF (l5 C "boxes" (cI 0)) gk fv (.mu b (trG C g nm ho (.n .d cs) mk wd rw)::r)=some (.next (.mu b (trG C g nm ho (.n .d (iV cs k mv)) mk wd rw)::r)):=by
 refine (fR h1 (lU bc rfl) h3 h4 h5 rfl h7).trans ?_
 rfl
theorem uK {C:Addr} {g nm ho bx wd rw mv:Mt} {cs:List (Key×Mt)} {b:Bool} {r:List Sm} {gk:DE} {fv:DEm} {s:Sm} {d:D} {k:Key} (h1:fv (.mu b (trG C g nm ho bx (.n .d cs) wd rw)::r)=some (s,.mu b (trG C g nm ho bx (.n .d cs) wd rw)::r)) (h3:gk (bM (.mu b (trG C g nm ho bx (.n .d cs) wd rw)::r))=some d) (h4:j4 d=some k) (h5:toM s=some mv) (h7:cs.length < 100000) :
  gF (l5 C "marks" (cI 0)) gk fv (.mu b (trG C g nm ho bx (.n .d cs) wd rw)::r)=some (.next (.mu b (trG C g nm ho bx (.n .d (iV cs k mv)) wd rw)::r)):=by
 refine (fR h1 (lU bc rfl) h3 h4 h5 rfl h7).trans ?_
 rfl
theorem uI {C:Addr} {g nm ho bx mk rw mv:Mt} {cs:List (Key×Mt)} {b:Bool} {r:List Sm} {gk:DE} {fv:DEm} {s:Sm} {d:D} {k:Key} (h1:fv (.mu b (trG C g nm ho bx mk (.n .d cs) rw)::r)=some (s,.mu b (trG C g nm ho bx mk (.n .d cs) rw)::r)) (h3:gk (bM (.mu b (trG C g nm ho bx mk (.n .d cs) rw)::r))=some d) (h4:j4 d=some k) (h5:toM s=some mv) (h7:cs.length < 100000) :
  gF (l5 C "words" (cI 0)) gk fv (.mu b (trG C g nm ho bx mk (.n .d cs) rw)::r)=some (.next (.mu b (trG C g nm ho bx mk (.n .d (iV cs k mv)) rw)::r)):=by
 refine (fR h1 (lU bc rfl) h3 h4 h5 rfl h7).trans ?_
 rfl
theorem xR {C:Addr} {g nm ho bx mk wd mv:Mt} {cs:List (Key×Mt)} {b:Bool} {r:List Sm} {gk:DE} {fv:DEm} {s:Sm} {d:D} {k:Key} (h1:fv (.mu b (trG C g nm ho bx mk wd (.n .d cs))::r)=some (s,.mu b (trG C g nm ho bx mk wd (.n .d cs))::r)) (h3:gk (bM (.mu b (trG C g nm ho bx mk wd (.n .d cs))::r))=some d) (h4:j4 d=some k) (h5:toM s=some mv) (h7:cs.length < 100000) :
  gF (l5 C "rows" (cI 0)) gk fv (.mu b (trG C g nm ho bx mk wd (.n .d cs))::r)=some (.next (.mu b (trG C g nm ho bx mk wd (.n .d (iV cs k mv)))::r)):=by
 refine (fR h1 (lU bc rfl) h3 h4 h5 rfl h7).trans ?_
 rfl
theorem wo {C:Addr} {g nm ho bx mk wd rw mv:Mt} {b:Bool} {r:List Sm} {fv:DEm} {s:Sm} (h1:fv (.mu b (trG C g nm ho bx mk wd rw)::r)=some (s,.mu b (trG C g nm ho bx mk wd rw)::r)) (h5:toM s=some mv) :
  uF C "given" (cI 0) fv (.mu b (trG C g nm ho bx mk wd rw)::r)=some (.next (.mu b (trG C mv nm ho bx mk wd rw)::r)):=by
 refine (EU h1 bc h5 rfl (Zb rfl)).trans ?_
 rfl
def Nd (M:List B8):Prop:=(M.map B8.i).Nodup
theorem fd_none {M:List B8} {i:Int}:fd M i=none↔∀ b ∈ M,b.i≠i:=by
 unfold fd;rw [List.find?_eq_none];exact ⟨λ h b hb e=>h b hb (by simp [e]),λ h b hb e=>h b hb (by simpa using e)⟩
theorem tM {M:List B8} (nd:Nd M) {b:B8} (hb:b ∈ M):fd M b.i=some b:=by
 unfold Nd at nd;unfold fd
 induction M with
 | nil=>cases hb
 | cons c M ih =>
  rw [Zh,Zu] at nd;rw [List.find?_cons];rcases Zi.mp hb with rfl | hb
  · simp
  ·have ne:c.i≠b.i:=λ e=>nd.1 (by rw [e]; exact Yq hb)
   rw [Zn ne];exact ih nd.2 hb
theorem F2 {β:Type} (g:B8->β) (M:List B8) (i:Int):((kv g M).any λ c=>decide (c.1=.inl i))=(fd M i).isSome:=by
 unfold kv fd;rw [List.any_map,<- List.isSome_find?];congr 2
 funext b
 show decide ((Sum.inl b.i:Key)=Sum.inl i)=decide (b.i=i);exact Xp.mpr ⟨λ z=>by injection z,λ z=>by rw [z]⟩
theorem xS {g:B8->Mt} {M:List B8} {i:Int} {m:Mt} (h:fd M i=none):iV (kv g M) (.inl i) m=kv g M++[(.inl i,m)]:=by
 unfold iV;rw [F2,h];rfl
theorem B4 {β:Type} (g:B8->β) (M:List B8) (b:B8):kv g (M++[b])=kv g M++[(.inl b.i,g b)]:=by
 unfold kv;rw [Zk];rfl
theorem hW {g:B8->Mt} {M:List B8} {b:B8} (h:fd M b.i=none):iV (kv g M) (.inl b.i) (g b)=kv g (M++[b]):=by rw [xS h,B4]
theorem j1 {β:Type} (g:B8->β) (M:List B8):(kv g M).length=M.length:=Za _
def upR (M:List B8) (i:Int) (r:List Int):List B8:=M.map λ b=>if b.i=i then { b with r:=r } else b
theorem pq {β:Type} (g:B8->β) (M:List B8) (i:Int) (r:List Int) (hg:∀ b:B8,g { b with r:=r }=g b):kv g (upR M i r)=kv g M:=by
 unfold kv upR;rw [Z7];refine Zw λ b _=>?_
 show ((Sum.inl (if b.i=i then { b with r:=r } else b).i:Key),g (if b.i=i then { b with r:=r } else b))=_;split
 · rw [hg]
 · rfl
theorem zG {M:List B8} {i:Int} {b:B8} {r:List Int} (nd:Nd M) (h:fd M i=some b):(bxM M).put [.k (.inl i)] (lM (r.map .int))=bxM (upR M i r):=by
 have hb:=bt h;have hi:=lK h;obtain ⟨l1,l2,rfl⟩:=List.append_of_mem hb;have nd':=nd;unfold Nd at nd';rw [Zk,Zh,Yd,Zu] at nd';have n1:∀ c ∈ l1,c.i≠i:=λ c hc e=>nd'.2.2 c.i (Yq hc) b.i (Ze ..) (by rw [e,hi])
 have n2:∀ c ∈ l2,c.i≠i:=λ c hc e=>nd'.2.1.1 (by rw [hi,<- e]; exact Yq hc)
 have ix:((kv (λ b=>lM (b.r.map .int)) (l1++b::l2)).findIdx? λ c=>decide (c.1=.inl i))=some l1.length:=by
  unfold kv;rw [List.findIdx?_map,List.findIdx?_append]
  have e1:(l1.findIdx? ((λ c:Key×Mt=>decide (c.1=Sum.inl i)) ∘ λ b=>((.inl b.i:Key),lM (b.r.map .int))))=none:=by
   rw [List.findIdx?_eq_none_iff];intro c hc;exact Zn λ z=>n1 c hc (by injection z)
  rw [e1,List.findIdx?_cons];have e2:((λ c:Key×Mt=>decide (c.1=Sum.inl i)) ∘ λ b:B8=>((.inl b.i:Key),lM (b.r.map .int))) b=true:=Zq (by show (Sum.inl b.i:Key)=Sum.inl i; rw [hi]);rw [e2];simp
 have gx:(kv (λ b=>lM (b.r.map .int)) (l1++b::l2))[l1.length]?=some ((.inl b.i:Key),lM (b.r.map .int)):=by
  unfold kv;rw [List.getElem?_map,List.getElem?_append_right (Zl _),X1];rfl
 show (match (kv (λ b=>lM (b.r.map .int)) (l1++b::l2)).findIdx? (λ c=>decide (c.1=.inl i)) with | none=>Mt.n .d (kv (λ b=>lM (b.r.map .int)) (l1++b::l2)) | some j=>match (kv (λ b=>lM (b.r.map .int)) (l1++b::l2))[j]? with | none=>Mt.n .d (kv (λ b=>lM (b.r.map .int)) (l1++b::l2)) | some c=>.n .d ((kv (λ b=>lM (b.r.map .int)) (l1++b::l2)).set j (c.1,Mt.put c.2 [] (lM (r.map .int)))))=_;simp only [ix,gx];congr 1;unfold kv upR;rw [Zk,Zh,Zk,Zh,Zk,Zh,List.set_append_right _ _ (by rw [Za]; exact Zl _),Za,X1];congr 1
 ·rw [Z7]
  refine Zw λ c hc=>?_
  show _=((Sum.inl (if c.i=i then { c with r:=r } else c).i:Key),lM ((if c.i=i then { c with r:=r } else c).r.map .int));rw [if_neg (n1 c hc)]
 ·show (_,Mt.put (lM (b.r.map .int)) [] (lM (r.map .int)))::_=_
  rw [if_pos hi];congr 1;rw [Z7];refine Zw λ c hc=>?_
  show _=((Sum.inl (if c.i=i then { c with r:=r } else c).i:Key),lM ((if c.i=i then { c with r:=r } else c).r.map .int));rw [if_neg (n2 c hc)]
end N16
end
section
namespace N16
open PySem L2
section
variable {t:Adr} {gv:Int} {M:List B8} {nm:Str} {h:Option Int}
theorem jH {C:Addr} {b:Bool} {r:List Sm}:bM (.mu b (trM C gv M)::r)=.shr (trD C gv M)::bM r:=by
 show sI (.mu b (trM C gv M))::_=_;show Sl.shr (frz (trM C gv M))::_=_;rw [we]
theorem rW (hl:M.length < 1000) (hf:fd M gv=none):gr t [.mu true (trM t.af gv M),.shr (hD h),.shr (.str nm)]=some (.shr (.int gv),[.mu true (trM t.af (gv+1) (M++[⟨gv,h,nm,[],bQ⟩])),.no,.no]):=by
 unfold gr fZ;dsimp only;refine (iA (s:=.shr (.int gv)) (τ:=[.mu true (trM t.af (gv+1) (M++[⟨gv,h,nm,[],bQ⟩])),.shr (hD h),.shr (.str nm),.shr (.int gv)]) ?_).trans rfl;have hz:∀ g:B8->Mt,(kv g M).length < 100000:=λ g=>by rw [j1]; omega
 refine aN (τ':=[.mu true (trM t.af gv M),.shr (hD h),.shr (.str nm),.shr (.int gv)]) (cR (s:=.shr (.int gv)) (v_S ?_ rfl) (Zb rfl) rfl) ?_
 ·show dUn (C0 t.af "given") (aB 0) (bM (.mu true (trM t.af gv M)::[.shr (hD h),.shr (.str nm),.no]))=_
  rw [jH];exact ik (aU rfl) rfl
 refine aN (wo (mv:=.s (.int (gv+1))) (v_N (az (aU rfl) e_c (aP _ _))) rfl) ?_
 refine aN (uJ (v_N (aU rfl)) (aU rfl) rfl rfl (hz _)) ?_
 refine aN (pM (v_N (aU rfl)) (aU rfl) rfl rfl (hz _)) ?_
 refine aN (uM (v_O (eT ax (Z4 _)) rfl) (aU rfl) rfl rfl (hz _)) ?_
 refine aN (uK rfl (aU rfl) rfl rfl (hz _)) ?_
 refine aN (uI (v_O (eT ax (Z4 _)) rfl) (aU rfl) rfl rfl (hz _)) ?_
 refine aN (xR (v_N (mB ax (Z4 _))) (aU rfl) rfl rfl (hz _)) ?_
 refine (nN (v_N (aU rfl))).trans ?_
 have sn:∀ g:B8->Mt,iV (kv g M) (.inl gv) (g ⟨gv,h,nm,[],bQ⟩)=kv g (M++[⟨gv,h,nm,[],bQ⟩]):=λ g=>hW (b:=⟨gv,h,nm,[],bQ⟩) hf
 unfold trM bxM kM;rw [<- sn,<- sn,<- sn,<- sn,<- sn,<- sn];rfl
theorem gR {C:Addr} {x:Str} {cs:List (Key×Mt)} {mv:Mt} {b:Bool} {r:List Sm} {fv:DEm} {s:Sm} (h1:fv (.mu b (.n (.o C) cs)::r)=some (s,.mu b (.n (.o C) cs)::r)) (h5:toM s=some mv) (h7:cs.length < 1000) :
 uF C x (cI 0) fv (.mu b (.n (.o C) cs)::r)=some (.next (.mu b (.n (.o C) (iV cs (.inr x) mv))::r)):=(EU h1 bc h5 rfl h7).trans rfl
theorem Cg (hn:bB nm=true):dZ t [.mu true (.n (.o t.af) []),.shr (.str nm)]=some (.shr .non,[.mu true (trM t.af 1 [⟨0,none,nm,[],bQ⟩]),.no]):=by
 unfold dZ dR;dsimp only;refine (zA (τ:=[.mu true (trM t.af 1 [⟨0,none,nm,[],bQ⟩]),.shr (.str nm)]) ?_).trans rfl;refine aN (fQ (cZ (ah (aU rfl) ax) (dm hn) rfl)) ?_
 refine aN (gR (v_N e_c) rfl (Zb rfl)) ?_
 refine aN (gR rfl rfl (Zb rfl)) ?_
 refine aN (gR rfl rfl (Zb rfl)) ?_
 refine aN (gR rfl rfl (Zb rfl)) ?_
 refine aN (gR rfl rfl (Zb rfl)) ?_
 refine aN (gR rfl rfl (Zb rfl)) ?_
 refine aN (gR rfl rfl (Zb rfl)) ?_
 have e:=rW (t:=t) (gv:=0) (M:=[]) (nm:=nm) (h:=none) (by decide) rfl;refine ja (s:=.shr (.int 0)) (v_M (C:=t.af) (i:=0) (q:=[]) (ss:=[.mu true (trM t.af 0 []),.shr (hD none),.shr (.str nm)]) bc rfl rfl (aL (q_N e_c) (aL (q_N (aU rfl)) rfl)) rfl e ?_);rfl
end
end N16
end
section
namespace N16
open PySem L2
def insI (r:List Int) (p x:Int):List Int:=r.take p.toNat++x::r.drop p.toNat
theorem z9 (r:List Int) (p x:Int):Mt.n .l (Hd ((r.map D.int).map λ d=>((.inl 0:Key),Mt.s d)) p.toNat (.s (.int x)))=lM ((insI r p x).map .int):=by
 unfold lM insI Hd;rw [Zk,Zk,Zh,Zh,X3,X3,X4,X4]
theorem Ad {M:List B8} {i:Int} {b c:B8} (h:fd M i=some b):fd (M++[c]) i=some b:=by
 unfold fd at *;rw [List.find?_append,h];rfl
theorem zS {M:List B8} {b:B8} (nd:Nd M) (h:fd M b.i=none):Nd (M++[b]):=by
 unfold Nd at *;rw [Zk,Yd];refine ⟨nd,by simp,λ x hx y hy e=>?_⟩;obtain ⟨c,hc,rfl⟩:=Z6.mp hx;have:y=b.i:=by simpa using hy
 exact fd_none.mp h c hc (by rw [e,this])
theorem Ft {i j:Int} (h:i<=j):oGt (.int i) (.int j)=some (.bl false):=by
 show some (D.bl (decide _))=_;rw [Zn (by omega)]
theorem z6 {g:B8->D} (M:List B8):vi [.dct (kv g M)]=some (.int (M.length:Int)):=by
 show some (D.int ((kv g M).length:Nat))=_;rw [j1]
def ju (M:List B8) (h:Int) (b:B8) (p gv:Int) (nm:Str):List B8:=upR (M++[⟨gv,some h,nm,[],bQ⟩]) h (insI b.r p gv)
theorem Du {C:Addr} {gv:Int} {M:List B8} {i:Int} {r:List Int}:trM C gv (upR M i r)=trG C (.s (.int gv)) (kM (λ b=>.s (.str b.n)) M) (kM (λ b=>.s (hD b.h)) M) (bxM (upR M i r)) (kM mkM M) (kM wdM M) (kM roM M):=by
 unfold trM kM;rw [pq _ _ _ _ (λ _=>rfl),pq _ _ _ _ (λ _=>rfl),pq _ _ _ _ (λ _=>rfl),pq _ _ _ _ (λ _=>rfl),pq _ _ _ _ (λ _=>rfl)]
section
variable {t:Adr} {gv:Int} {M:List B8} {nm:Str} {h p:Int} {b:B8} {dp:Nat}
theorem DZ (nd:Nd M) (hf:fd M gv=none) (hb:fd M h=some b) (p0:0<=p) (p1:p<=(b.r.length:Int)) (hz:b.r.length < 1000) (hn:bB nm=true) (h90:M.length < 90) (ch:Ch M h dp) (h12:dp < 12) :
  iR t [.mu true (trM t.af gv M),.shr (.int h),.shr (.int p),.shr (.str nm)]=some (.shr (.int gv),[.mu true (trM t.af (gv+1) (ju M h b p gv nm)),.no,.no,.no]):=by
 unfold iR iP;dsimp only;refine (iA (s:=.shr (.int gv)) (τ:=[.mu true (trM t.af (gv+1) (ju M h b p gv nm)),.shr (.int h),.shr (.int p),.shr (.str nm),.shr (.int gv)]) ?_).trans rfl;have sn:∀ {x:Sm},bM [.mu true (trM t.af gv M),.shr (.int h),.shr (.int p),.shr (.str nm),x]=.shr (trD t.af gv M)::bM [.shr (.int h),.shr (.int p),.shr (.str nm),x]:=jH
 refine aN (fQ (τ:=[.mu true (trM t.af gv M),.shr (.int h),.shr (.int p),.shr (.str nm),.no]) (by rw [sn]; exact c9 (aU rfl) (ah (aU rfl) ax) rfl (jw hb) rfl)) ?_
 refine aN (fQ (by rw [sn]; exact cZ (ah (aU rfl) (ah (az (ik (aU rfl) fB) (aU rfl) (ck hb)) ax)) (lh p0 p1) rfl)) ?_
 refine aN (fQ (by rw [sn]; exact cZ (ah (aU rfl) ax) (dm hn) rfl)) ?_
 refine aN (ie (t_S (by rw [sn]; exact aE (az (az (bu (ah (ik (aU rfl) fN) ax) (z6 M)) e_c (aP _ _)) e_c (Ft (by omega))))) rfl) ?_
 refine aN (ie (t_S (by rw [sn]; exact aE (az (az (cZ (ah (aU rfl) (ah (aU rfl) ax)) (zb ch (by omega)) rfl) e_c (aP _ _)) e_c (Ft (by omega))))) rfl) ?_
 have e:=rW (t:=t) (nm:=nm) (h:=some h) (show M.length < 1000 by omega) hf;refine aN (τ':=[.mu true (trM t.af (gv+1) (M++[⟨gv,some h,nm,[],bQ⟩])),.shr (.int h),.shr (.int p),.shr (.str nm),.shr (.int gv)]) (cR (s:=.shr (.int gv)) (v_M (C:=t.af) (i:=0) (q:=[]) (ss:=[.mu true (trM t.af gv M),.shr (hD (some h)),.shr (.str nm)]) (τ':=[.mu true (trM t.af (gv+1) (M++[⟨gv,some h,nm,[],bQ⟩])),.shr (.int h),.shr (.int p),.shr (.str nm),.no]) bc rfl rfl (aL (q_N (aU rfl)) (aL (q_N (aU rfl)) rfl)) rfl e rfl) (Zb rfl) rfl) ?_
 have hb1:fd (M++[⟨gv,some h,nm,[],bQ⟩]) h=some b:=Ad hb;have nd1:Nd (M++[⟨gv,some h,nm,[],bQ⟩]):=zS (b:=⟨gv,some h,nm,[],bQ⟩) nd hf
 have hg:a6 [.mu true (trM t.af (gv+1) (M++[⟨gv,some h,nm,[],bQ⟩])),.shr (.int h),.shr (.int p),.shr (.str nm),.shr (.int gv)] 0 [.k (.inr "boxes"),.k (.inl h)]=some (lM (b.r.map .int)):=by
  rw [nK rfl];refine Ar.trans ?_
  refine (nZ _ _ _).trans ?_
  rw [hb1];rfl
 refine aN (ET (cs0:=_) (sq (lU bc rfl) (aU rfl) rfl rfl) hg (aU rfl) (v_N (aU rfl)) rfl hg ⟨p0,by rw [Za,Za]; exact p1,by rw [Za,Za]; omega⟩) ?_
 rw [jX rfl,z9];refine (nN (v_N (aU rfl))).trans ?_
 have ep:(trM t.af (gv+1) (M++[⟨gv,some h,nm,[],bQ⟩])).put [.k (.inr "boxes"),.k (.inl h)] (lM ((insI b.r p gv).map .int))=trM t.af (gv+1) (ju M h b p gv nm):=by
  refine pw.trans ?_
  rw [zG nd1 hb1];unfold ju;rw [Du]
 show some (F5.ret _ (List.set _ 0 (.mu true ((trM t.af (gv+1) (M++[⟨gv,some h,nm,[],bQ⟩])).put [.k (.inr "boxes"),.k (.inl h)] (lM ((insI b.r p gv).map .int))))))=_;rw [ep];rfl
end
end N16
end
section
namespace N16
open PySem L2
structure MOk (gv:Int) (M:List B8):Prop where
 nd:Nd M
 lt:∀ b ∈ M,0<=b.i/\b.i < gv
 root:∃ b,fd M 0=some b/\b.h=none
 hol:∀ b ∈ M,b.i≠0->∃ j p,b.h=some j/\fd M j=some p/\b.i ∈ p.r
 kid:∀ b ∈ M,∀ c ∈ b.r,∃ d,fd M c=some d/\d.h=some b.i
 rnd:∀ b ∈ M,b.r.Nodup
 ch:∀ b ∈ M,∃ n,Ch M b.i n/\n<=12
inductive Anc (M:List B8) (a:Int):Int->Prop where
 | refl:Anc M a a
 | up {x j:Int} {b:B8} (h:fd M x=some b) (e:b.h=some j) (c:Anc M a j):Anc M a x
inductive Sub (M:List B8):List Int->List Int->Prop where
 | nil:Sub M [] []
 | cons {c:Int} {cs l1 l2:List Int} {b:B8} (h:fd M c=some b) (h1:Sub M b.r l1) (h2:Sub M cs l2):Sub M (c::cs) (c::(l1++l2))
section
variable {gv:Int} {M:List B8}
theorem MOk.h0 (m:MOk gv M) {i j:Int} {b:B8} (hb:fd M i=some b) (hj:b.h=some j):i≠0:=λ e=>by
 obtain ⟨r,r1,r2⟩:=m.root;rw [e,r1] at hb;cases hb;rw [r2] at hj;cases hj
theorem MOk.B5 (m:MOk gv M) {i c:Int} {b:B8} (hb:fd M i=some b) (hc:c ∈ b.r):∃ d,fd M c=some d/\d.h=some i:=by
 obtain ⟨d,h1,h2⟩:=m.kid b (bt hb) c hc;rw [lK hb] at h2;exact ⟨d,h1,h2⟩
theorem MOk.dp (m:MOk gv M) {i:Int} {b:B8} (hb:fd M i=some b):∃ n,Ch M i n/\n<=12:=by
 have:=m.ch b (bt hb);rw [lK hb] at this;exact this
theorem Ch.uniq {i:Int} {n:Nat} (h:Ch M i n):∀ {k:Nat},Ch M i k->n=k:=by
 induction h with
 | top h e =>
  intro k h'
  cases h' with
  | top _ _=>rfl
  | up h1 e1 _=>rw [h] at h1; cases h1; rw [e] at e1; cases e1
 | up h e c ih =>
  intro k h'
  cases h' with
  | top h1 e1=>rw [h] at h1; cases h1; rw [e] at e1; cases e1
  | up h1 e1 c1 =>
   rw [h] at h1;cases h1;rw [e] at e1;cases e1;rw [ih c1]
theorem Anc.deep {a x:Int} (h:Anc M a x):∀ {n:Nat},Ch M x n->∃ k,Ch M a k/\k<=n/\(k=n->a=x):=by
 induction h with
 | refl=>intro n c; exact ⟨n,c,Zl _,λ _=>rfl⟩
 | up h e c ih =>
  intro n cx
  cases cx with
  | top h1 e1=>rw [h] at h1; cases h1; rw [e] at e1; cases e1
  | up h1 e1 c1 =>
   rw [h] at h1;cases h1;rw [e] at e1;cases e1;obtain ⟨k,k1,k2,_⟩:=ih c1;exact ⟨k,k1,by omega,λ e=>by omega⟩
theorem Anc.trans {a b c:Int} (h1:Anc M a b) (h2:Anc M b c):Anc M a c:=by
 induction h2 with
 | refl=>exact h1
 | up h e _ ih=>exact .up h e ih
theorem Anc.lin {a b x:Int} (h1:Anc M a x) (h2:Anc M b x):Anc M a b\/Anc M b a:=by
 induction h1 with
 | refl=>exact .inr h2
 | @up x j c h e _ ih =>
  cases h2 with
  | refl=>exact .inl (.up h e ‹_›)
  | up h' e' c' =>
   rw [h] at h';cases h';rw [e] at e';cases e';exact ih c'
theorem Sub.app {a b la lb:List Int} (h1:Sub M a la) (h2:Sub M b lb):Sub M (a++b) (la++lb):=by
 induction h1 with
 | nil=>exact h2
 | cons h _ _ ih1 ih2 =>
  have:=Sub.cons h ‹_› ih2;rw [List.cons_append,List.cons_append,List.append_assoc];exact this
theorem Sub.inv {c:Int} {cs l:List Int} (h:Sub M (c::cs) l):∃ b l',fd M c=some b/\l=c::l'/\Sub M (b.r++cs) l':=by
 cases h with
 | cons h h1 h2=>exact ⟨_,_,h,rfl,h1.app h2⟩
theorem Sub.len {s l:List Int} (h:Sub M s l):s.length<=l.length:=by
 induction h with
 | nil=>exact Zl _
 | cons _ _ _ _ ih=>rw [Zy,Zy,Z0]; omega
theorem Sub.roots {s l:List Int} (h:Sub M s l):∀ x ∈ s,x ∈ l:=by
 induction h with
 | nil=>intro x h; cases h
 | cons _ _ _ _ ih =>
  intro x hx;rcases Zi.mp hx with rfl | hx
  · exact Ze ..
  · exact Zd _ (Zc _ (ih x hx))
theorem Sub.mem (m:MOk gv M) {s l:List Int} (h:Sub M s l):∀ x ∈ l,∃ c ∈ s,Anc M c x:=by
 induction h with
 | nil=>intro x h; cases h
 | @cons c cs l1 l2 b h h1 h2 ih1 ih2 =>
  intro x hx;rcases Zi.mp hx with rfl | hx
  · exact ⟨_,Ze ..,.refl⟩
  ·rcases Zg.mp hx with hx | hx
   ·obtain ⟨d,hd,a⟩:=ih1 x hx
    obtain ⟨e,e1,e2⟩:=m.B5 h hd;exact ⟨c,Ze ..,(Anc.up e1 e2 .refl).trans a⟩
   ·obtain ⟨d,hd,a⟩:=ih2 x hx
    exact ⟨d,Zd _ hd,a⟩
theorem Sub.in {s l:List Int} (h:Sub M s l):∀ x ∈ l,∃ b,fd M x=some b:=by
 induction h with
 | nil=>intro x h; cases h
 | cons h _ _ ih1 ih2 =>
  intro x hx;rcases Zi.mp hx with rfl | hx
  · exact ⟨_,h⟩
  · exact (Zg.mp hx).elim (ih1 x) (ih2 x)
theorem Sub.closed {s l:List Int} (h:Sub M s l):∀ j ∈ l,∀ p,fd M j=some p->∀ c ∈ p.r,c ∈ l:=by
 induction h with
 | nil=>intro j h; cases h
 | @cons c cs l1 l2 b h h1 h2 ih1 ih2 =>
  intro j hj p hp x hx;rcases Zi.mp hj with rfl | hj
  ·rw [h] at hp
   cases hp;exact Zd _ (Zp _ (h1.roots x hx))
  ·rcases Zg.mp hj with hj | hj
   · exact Zd _ (Zp _ (ih1 j hj p hp x hx))
   · exact Zd _ (Zc _ (ih2 j hj p hp x hx))
def Apart (M:List B8) (s:List Int):Prop:=s.Pairwise λ c d=>∀ x,¬(Anc M c x/\Anc M d x)
theorem tD (m:MOk gv M) {i:Int} {b:B8} (hb:fd M i=some b):Apart M b.r:=by
 have nd:=m.rnd b (bt hb)
 have:∀ s:List Int,(∀ c ∈ s,c ∈ b.r)->s.Nodup->Apart M s:=λ s=>by
  induction s with
  | nil=>intro _ _; exact .nil
  | cons c s ih =>
   intro hs nd;rw [Zu] at nd;refine .cons (λ d hd x ⟨a1,a2⟩=>?_) (ih (λ y hy=>hs y (Zd _ hy)) nd.2)
   have key:∀ {u v:Int},u ∈ b.r->v ∈ b.r->u≠v->Anc M u v->False:=λ {u v} hu hv ne a=>by
    obtain ⟨n,hn,_⟩:=m.dp hb;obtain ⟨e,e1,e2⟩:=m.B5 hb hv;obtain ⟨f,f1,f2⟩:=m.B5 hb hu;obtain ⟨k,k1,_,k3⟩:=a.deep (.up e1 e2 hn);exact ne (k3 (k1.uniq (.up f1 f2 hn)))
   have hc:=hs c (Ze ..);have hd':=hs d (Zd _ hd);have ne:c≠d:=λ e=>nd.1 (e ▸ hd)
   rcases a1.lin a2 with a | a
   · exact key hc hd' ne a
   · exact key hd' hc (Ne.symm ne) a
 exact this b.r (λ _ h=>h) nd
theorem Sub.nodup (m:MOk gv M) {s l:List Int} (h:Sub M s l):Apart M s->l.Nodup:=by
 induction h with
 | nil=>exact λ _=>.nil
 | @cons c cs l1 l2 b h h1 h2 ih1 ih2 =>
  intro ap;have ap':=List.pairwise_cons.mp ap;rw [Zu,Yd];refine ⟨λ hc=>?_,ih1 (tD m h),ih2 ap'.2,λ x hx y hy e=>?_⟩
  ·rcases Zg.mp hc with hc | hc
   ·obtain ⟨d,hd,a⟩:=h1.mem m c hc
    obtain ⟨e,e1,e2⟩:=m.B5 h hd;obtain ⟨n,hn,_⟩:=m.dp h;obtain ⟨k,k1,k2,_⟩:=a.deep hn;have:=k1.uniq (.up e1 e2 hn);omega
   ·obtain ⟨d,hd,a⟩:=h2.mem m c hc
    exact ap'.1 d hd c ⟨.refl,a⟩
  ·subst e
   obtain ⟨d,hd,a⟩:=h1.mem m x hx;obtain ⟨e,e1,e2⟩:=m.B5 h hd;obtain ⟨d',hd',a'⟩:=h2.mem m x hy;exact ap'.1 d' hd' x ⟨(Anc.up e1 e2 .refl).trans a,a'⟩
theorem Sub.ex (m:MOk gv M):∀ (k:Nat) (cs:List Int),(∀ c ∈ cs,∃ b n,fd M c=some b/\Ch M c n/\13<=k+n)->∃ l,Sub M cs l:=by
 intro k
 induction k with
 | zero =>
  intro cs h
  cases cs with
  | nil=>exact ⟨[],.nil⟩
  | cons c cs =>
   obtain ⟨b,n,hb,hn,hl⟩:=h c (Ze ..);obtain ⟨n',h1,h2⟩:=m.dp hb;have:=hn.uniq h1;omega
 | succ k ih =>
  intro cs
  induction cs with
  | nil=>exact λ _=>⟨[],.nil⟩
  | cons c cs ihc =>
   intro h;obtain ⟨b,n,hb,hn,hl⟩:=h c (Ze ..);obtain ⟨l2,h2⟩:=ihc λ d hd=>h d (Zd _ hd)
   obtain ⟨l1,h1⟩:=ih b.r λ d hd=>by
    obtain ⟨e,e1,e2⟩:=m.B5 hb hd;exact ⟨e,n+1,e1,.up e1 e2 hn,by omega⟩
   exact ⟨_,.cons hb h1 h2⟩
theorem Sub.of (m:MOk gv M) {i:Int} {b:B8} (hb:fd M i=some b):∃ l,Sub M [i] (i::l)/\Sub M b.r l:=by
 obtain ⟨n,hn,_⟩:=m.dp hb
 obtain ⟨l,h⟩:=Sub.ex m 13 [i] λ c hc=>by
  rw [Zr.mp hc];exact ⟨b,n,hb,hn,by omega⟩
 obtain ⟨b',l',e1,rfl,h'⟩:=h.inv;rw [hb] at e1;cases e1;rw [Zz] at h';exact ⟨l',h,h'⟩
theorem Sub.iff (m:MOk gv M) {i:Int} {l:List Int} (h:Sub M [i] l) {x:Int} {b:B8} (hx:fd M x=some b):x ∈ l↔Anc M i x:=by
 constructor
 ·intro hl
  obtain ⟨c,hc,a⟩:=h.mem m x hl;rw [Zr.mp hc] at a;exact a
 ·intro a
  have:∀ {x:Int},Anc M i x->∀ b,fd M x=some b->x ∈ l:=λ {x} a=>by
   induction a with
   | refl=>exact λ _ _=>h.roots i (Zr.mpr rfl)
   | @up x j b h' e c ih =>
    intro b' hb'
    have ne:b.i≠0:=λ e0=>by
     obtain ⟨r,r1,r2⟩:=m.root;have e1:=lK h';rw [e0] at e1;rw [<- e1,r1] at h';cases h';rw [r2] at e;cases e
    obtain ⟨j',p,q1,q2,q4⟩:=m.hol b (bt h') ne;rw [e] at q1;cases q1;have:=h.closed j (ih p q2) p q2 b.i q4;rw [lK h'] at this;exact this
  exact this a b hx
theorem z5:∀ (l k:List Int),l.Nodup->(∀ x ∈ l,x ∈ k)->l.length<=k.length
 | [],_,_,_=>Z4 _
 | x::l,k,nd,h=>by
  rw [Zu] at nd;have hx:=h x (Ze ..)
  have:=z5 l (k.erase x) nd.2 λ y hy=>by
   have ne:y≠x:=λ e=>nd.1 (e ▸ hy)
   exact (List.mem_erase_of_ne ne).mpr (h y (Zd _ hy))
  rw [List.length_erase_of_mem hx] at this;have:0 < k.length:=List.length_pos_of_mem hx;rw [Zy];omega
theorem sub_len {l:List Int} (nd:l.Nodup) (h:∀ x ∈ l,∃ b,fd M x=some b):l.length<=M.length:=by
 have:=z5 l (M.map B8.i) nd λ x hx=>by
  obtain ⟨b,hb⟩:=h x hx;rw [<- lK hb];exact Yq (bt hb)
 rw [Za] at this;exact this
end
end N16
end
section
namespace N16
open PySem L2
theorem HM {τ:List Sl} {i:Nat} {f:DE} {ds es:List D} (h:f τ=some (.lst es)) (q:τ[i]?=some (.own (.lst ds))) (hl:ds.length+es.length<=100000):CW i f τ=some (.next (τ.set i (.own (.lst (ds++es))))):=by
 unfold CW;rw [h];show (match D.lst es,τ[i]? with | .lst es,some (.own (.lst ds))=>if ds.length+es.length<=100000 then some (Out.next (τ.set i (.own (.lst (ds++es))))) else none | _,_=>none)=_;rw [q];exact if_pos hl
theorem FL {τ:List Sl} {f:DE} {ds:List D} (h:f τ=some (.lst ds)):Di f τ=some (.lst ds.reverse):=by unfold Di; rw [h]; rfl
theorem DR {τ:List Sl} {i j:Nat} {ds:List D} {d:D} (q:τ[j]?=some (.own (.lst (ds++[d])))):sM i j τ=some (.next ((τ.set j (.own (.lst ds))).set i (.shr d))):=by
 unfold sM;rw [q];show ((ds++[d])[(ds++[d]).length - 1]?).map _=_;rw [Z0,List.length_singleton,Nat.add_sub_cancel,List.getElem?_append_right (Zl _),X1,List.dropLast_concat];rfl
section
variable {t:Adr} {gv:Int} {M:List B8} {c:DT} {gk:DE} {x0 x1:Sl}
theorem mX (hT:∀ (a y:Sl) (ds:List D),ds≠[]->c [x0,x1,a,.own (.lst ds),y]=some true)
  (hF:∀ a y:Sl,c [x0,x1,a,.own (.lst []),y]=some false)
  (hk:∀ (a s:Sl) (k:Int) (b:B8),fd M k=some b->gk [x0,x1,a,s,.shr (.int k)]=some (.lst (b.r.map .int))) :
  ∀ (l S acc:List Int) (y:Sl),Sub M S l->acc.length+l.length<=1000->∃ y',bR c (g9 (sM 4 3) (g9 (AM 2 (aB 4)) (CW 3 (Di gk)))) (l.length+1) [x0,x1,.own (.lst (acc.map .int)),.own (.lst (S.reverse.map .int)),y]=some (.next [x0,x1,.own (.lst ((acc++l).map .int)),.own (.lst []),y']):=by
 intro l
 induction l with
 | nil =>
  intro S acc y h hz;cases h;refine ⟨y,?_⟩;unfold bR;rw [show ([]:List Int).reverse.map D.int=[] from rfl,hF,Zz]
 | cons x l ih =>
  intro S acc y h hz
  cases S with
  | nil=>cases h
  | cons k S =>
   obtain ⟨b,l',hb,e,h'⟩:=h.inv;cases e;have hz':acc.length+(l.length+1)<=1000:=hz;have hl:=h'.len;rw [Z0] at hl;obtain ⟨y',w⟩:=ih (b.r++S) (acc++[x]) (.shr (.int x)) h' (by rw [Z0]; show acc.length+1+_<=_; omega);refine ⟨y',?_⟩;have e1:(x::S).reverse.map D.int=S.reverse.map D.int++[.int x]:=by rw [Xv,Zk]; rfl
   have t1:=hT (.own (.lst (acc.map .int))) y ((x::S).reverse.map .int) (by rw [e1]; simp)
   have t2:g9 (sM 4 3) (g9 (AM 2 (aB 4)) (CW 3 (Di gk))) [x0,x1,.own (.lst (acc.map .int)),.own (.lst ((x::S).reverse.map .int)),y]=some (.next [x0,x1,.own (.lst ((acc++[x]).map .int)),.own (.lst ((b.r++S).reverse.map .int)),.shr (.int x)]):=by
    rw [e1];refine aY ((DR rfl).trans rfl) ?_
    refine aY ((AF (aU rfl) rfl (by rw [Za]; omega)).trans rfl) ?_
    refine (HM (FL (hk _ _ x b hb)) rfl (by rw [Za,Xk,Xk,Za]; omega)).trans ?_
    rw [List.reverse_append,Zk,Zk,<- List.map_reverse];rfl
   show bR c _ (l.length+1+1) _=_
   conv=>lhs; unfold bR
   rw [t1];simp only [t2];rw [w,List.append_assoc];rfl
theorem F0 {i:Int} {b:B8} {l:List Int} (hb:fd M i=some b) (h:Sub M b.r l) (hl:l.length<=1000):cW t [trD t.af gv M,.int i]=some (.own (.lst (l.map .int))):=by
 have hT:∀ (a y:Sl) (ds:List D),ds≠[]->CB 3 [.shr (trD t.af gv M),.shr (.int i),a,.own (.lst ds),y]=some true:=λ a y ds ne=>by
  cases ds with
  | nil=>exact absurd rfl ne
  | cons d ds=>rfl
 obtain ⟨y',w⟩:=mX (x0:=.shr (trD t.af gv M)) (x1:=.shr (.int i)) hT (λ _ _=>rfl) (gk:=ko t.af "boxes_of" (cG t) (aB 0) (ay (aB 4) c5)) (λ a s k b hb=>c9 (aU rfl) (ah (aU rfl) ax) rfl (mN hb) rfl) l b.r [] .no h (by rw [X5,Nat.zero_add]; exact hl);unfold cW kN;dsimp only;refine bN (aY ((lr (eT ax (Z4 _)) (Zb rfl)).trans rfl) (aY ((lr (FL (c9 (aU rfl) (ah (aU rfl) ax) rfl (mN hb) rfl)) (Zb rfl)).trans rfl) (aY (Eq.trans ?_ (fI w)) (uC rfl))));rw [<- List.map_reverse];rfl
theorem xF {i:Int} {l:List Int} (h:Sub M [i] l) (hl:l.length<=1000):gm t [.dct (kv (λ b=>.lst (b.r.map .int)) M),.int i]=some (.own (.lst (l.map .int))):=by
 have hT:∀ (a y:Sl) (ds:List D),ds≠[]->DH 3 (dT (dOp oGt (jr s9 (ay (aB 3) c5)) (dC (.int 0)))) [.shr (.dct (kv (λ b=>.lst (b.r.map .int)) M)),.shr (.int i),a,.own (.lst ds),y]=some true:=λ a y ds ne=>by
  cases ds with
  | nil=>exact absurd rfl ne
  | cons d ds =>
   refine Hx rfl (aE (az (bu (ah (aU rfl) ax) rfl) e_c ?_));show some (D.bl (decide _))=_;rw [Zq (by rw [Zy]; omega)]
 obtain ⟨y',w⟩:=mX (x0:=.shr (.dct (kv (λ b=>.lst (b.r.map .int)) M))) (x1:=.shr (.int i)) hT (λ _ _=>rfl) (gk:=dOp fg (aB 0) (aB 4)) (λ a s k b hb=>az (aU rfl) (aU rfl) (ck hb)) l [i] [] .no h (by rw [X5,Nat.zero_add]; exact hl);unfold gm fX;dsimp only;exact bN (aY ((lr (eT ax (Z4 _)) (Zb rfl)).trans rfl) (aY ((lr (eT (ah (aU rfl) ax) (Zb rfl)) (Zb rfl)).trans rfl) (aY (fI w) (uC rfl))))
end
end N16
end
section
namespace N16
open PySem L2
theorem Dp (M:List B8) (j:Int) (r:List Int):(upR M j r).map B8.i=M.map B8.i:=by
 unfold upR;rw [Z7];refine Zw λ b _=>?_
 show (if b.i=j then { b with r:=r } else b).i=b.i;split <;> rfl
theorem EI {M:List B8} (nd:Nd M) (j:Int) (r:List Int):Nd (upR M j r):=by
 unfold Nd;rw [Dp];exact nd
theorem rT (M:List B8) (j:Int) (r:List Int) (x:Int):fd (upR M j r) x=(fd M x).map λ b=>if b.i=j then { b with r:=r } else b:=by
 unfold fd upR;rw [List.find?_map];congr 2
 funext b
 show decide ((if b.i=j then { b with r:=r } else b).i=x)=_;split <;> rfl
theorem vD (M:List B8) (j:Int) (r:List Int):(upR M j r).length=M.length:=Za _
theorem l3 (r:List Int):(r.map D.int).all sca=true:=by
 rw [List.all_map];exact Yy.mpr λ _ _=>rfl
end N16
end
section
namespace N16
open PySem L2
section
variable {gv:Int} {M:List B8}
theorem rL (r:List Int) (p x:Int):(insI r p x).Perm (x::r):=by
 unfold insI;refine List.perm_middle.trans ?_
 rw [Xu]
theorem qb {r:List Int} {p x y:Int}:y ∈ insI r p x↔y=x\/y ∈ r:=by
 rw [(rL r p x).mem_iff,Zi]
theorem MOk.new (m:MOk gv M):fd M gv=none:=fd_none.mpr λ b hb e=>by
 have:=(m.lt b hb).2;omega
theorem MOk.pos (m:MOk gv M):0 < gv:=by
 obtain ⟨r,r1,_⟩:=m.root;have:=m.lt r (bt r1);omega
theorem qf {M:List B8} {n:B8} (h:fd M n.i=none) (x:Int):fd (M++[n]) x=if x=n.i then some n else fd M x:=by
 unfold fd at *;rw [List.find?_append];split
 ·rename_i e
  rw [e,h,List.find?_cons,Zq rfl];rfl
 ·rename_i e
  rw [List.find?_cons,Zn (Ne.symm e)];cases List.find? (λ b=>decide (b.i=x)) M <;> rfl
theorem Ch.mono {M':List B8} (hm:∀ x d,fd M x=some d->∃ d',fd M' x=some d'/\d'.h=d.h) {x:Int} {n:Nat} (c:Ch M x n):Ch M' x n:=by
 induction c with
 | top h e =>
  obtain ⟨d',h1,h2⟩:=hm _ _ h;exact .top h1 (h2.trans e)
 | up h e c ih =>
  obtain ⟨d',h1,h2⟩:=hm _ _ h;exact .up h1 (h2.trans e) ih
theorem BQ (m:MOk gv M) {h p:Int} {b:B8} {nm:Str} {dp:Nat} (hb:fd M h=some b) (hc:Ch M h dp) (h12:dp < 12):MOk (gv+1) (ju M h b p gv nm):=by
 have hn:=m.new;have gp:=m.pos;have hl:0<=h/\h < gv:=by have:=m.lt b (bt hb); rw [lK hb] at this; exact this
 have nd':Nd (ju M h b p gv nm):=EI (zS (b:=⟨gv,some h,nm,[],bQ⟩) m.nd hn) _ _
 have fx:∀ x,fd (ju M h b p gv nm) x=(if x=gv then some ⟨gv,some h,nm,[],bQ⟩ else fd M x).map λ c=>if c.i=h then { c with r:=insI b.r p gv } else c:=λ x=>by
  unfold ju;rw [rT,qf (n:=⟨gv,some h,nm,[],bQ⟩) hn]
 have bn:=m.rnd b (bt hb)
 have gb:gv ∉ b.r:=λ e=>by
  obtain ⟨d,d1,_⟩:=m.kid b (bt hb) gv e;rw [hn] at d1;cases d1
 have un:∀ c ∈ ju M h b p gv nm,(c.i=gv/\c.h=some h/\c.r=[])\/∃ d,fd M c.i=some d/\d.i=c.i/\d.h=c.h/\((c.i=h/\d=b/\c.r=insI b.r p gv)\/(c.i≠h/\c.r=d.r)):=λ c hc=>by
  have e:=tM nd' hc;rw [fx] at e;split at e
  ·rename_i ei
   have e':(if gv=h then ({ i:=gv,h:=some h,n:=nm,r:=insI b.r p gv,m:=bQ }:B8) else ⟨gv,some h,nm,[],bQ⟩)=c:=Zj e;rw [if_neg (by omega)] at e';subst e';exact .inl ⟨rfl,rfl,rfl⟩
  ·cases hd:fd M c.i with
   | none=>rw [hd] at e; cases e
   | some d =>
    rw [hd] at e;have e':(if d.i=h then { d with r:=insI b.r p gv } else d)=c:=Zj e;have di:=lK hd;refine .inr ⟨d,rfl,di,?_⟩;split at e'
    ·rename_i hij
     have ep:d=b:=by
      rw [<- di,hij,hb] at hd;exact (Zj hd).symm
     subst e';subst ep;exact ⟨rfl,.inl ⟨hij,rfl,rfl⟩⟩
    ·rename_i hij
     subst e';exact ⟨rfl,.inr ⟨hij,rfl⟩⟩
 have old:∀ {x:Int} {d:B8},fd M x=some d->fd (ju M h b p gv nm) x=some (if d.i=h then { d with r:=insI b.r p gv } else d):=λ {x d} hd=>by
  have ne:x≠gv:=λ e=>by rw [e,hn] at hd; cases hd
  rw [fx,if_neg ne,hd];rfl
 have oh:∀ d:B8,(if d.i=h then { d with r:=insI b.r p gv } else d).h=d.h:=λ d=>by split <;> rfl
 refine ⟨nd',λ c hc=>?_,?_,λ c hc c0=>?_,λ c hc x hx=>?_,λ c hc=>?_,λ c hx=>?_⟩
 ·rcases un c hc with ⟨e,_⟩ | ⟨d,hd,di,_⟩
  · omega
  ·have:=m.lt d (bt hd)
   omega
 ·obtain ⟨r,r1,r2⟩:=m.root
  exact ⟨_,old r1,by rw [oh]; exact r2⟩
 ·rcases un c hc with ⟨e,e2,_⟩ | ⟨d,hd,di,dh,_⟩
  ·refine ⟨h,_,e2,old hb,?_⟩
   rw [if_pos (lK hb),e];exact qb.mpr (.inl rfl)
  ·obtain ⟨j',q,q1,q2,q4⟩:=m.hol d (bt hd) (by rw [di]; exact c0)
   refine ⟨j',_,by rw [<- dh]; exact q1,old q2,?_⟩;split
   ·rename_i hq
    have ep:q=b:=by
     rw [<- lK q2,hq,hb] at q2;exact (Zj q2).symm
    subst ep;rw [<- di];exact qb.mpr (.inr q4)
   ·rw [<- di]
    exact q4
 ·rcases un c hc with ⟨_,_,e⟩ | ⟨d,hd,di,dh,⟨e1,e2,e3⟩ | ⟨e1,e3⟩⟩
  ·rw [e] at hx
   cases hx
  ·rw [e3] at hx
   rcases qb.mp hx with rfl | hx
   ·refine ⟨⟨x,some h,nm,[],bQ⟩,?_,by rw [e1]⟩
    rw [fx,if_pos rfl];show some (if x=h then ({ i:=x,h:=some h,n:=nm,r:=insI b.r p x,m:=bQ }:B8) else ⟨x,some h,nm,[],bQ⟩)=_;rw [if_neg (by omega)]
   ·obtain ⟨e,k1,k2⟩:=m.kid b (bt hb) x hx
    exact ⟨_,old k1,by rw [oh,k2,lK hb,e1]⟩
  ·rw [e3] at hx
   obtain ⟨e,k1,k2⟩:=m.kid d (bt hd) x hx;exact ⟨_,old k1,by rw [oh,k2,di]⟩
 ·rcases un c hc with ⟨_,_,e⟩ | ⟨d,hd,di,dh,⟨e1,e2,e3⟩ | ⟨e1,e3⟩⟩
  · rw [e]; exact .nil
  ·rw [e3,(rL _ _ _).nodup_iff,Zu]
   exact ⟨gb,bn⟩
  ·rw [e3]
   exact m.rnd d (bt hd)
 ·have cm:∀ {x:Int} {n:Nat},Ch M x n->Ch (ju M h b p gv nm) x n:=Ch.mono λ x d hd=>⟨_,old hd,oh d⟩
  have hf:=tM nd' hx;rcases un c hx with ⟨e,e2,_⟩ | ⟨d,hd,di,dh,_⟩
  · exact ⟨dp+1,.up hf e2 (cm hc),h12⟩
  ·obtain ⟨n,n1,n2⟩:=m.dp hd
   exact ⟨n,cm n1,n2⟩
end
end N16
end
section
namespace N16
open PySem L2
theorem yV {cs:List Int} {j:Nat} {d:D} (h:(eA (cs.map .int))[j]?=some d):∃ c:Int,d=.tup [.int (j:Int),.int c]/\cs[j]?=some c:=by
 unfold eA at h;rw [List.getElem?_mapIdx,List.getElem?_map] at h;obtain ⟨d',hd',rfl⟩:=Zm h;obtain ⟨c,hc,rfl⟩:=Zm hd';exact ⟨c,rfl,hc⟩
theorem Fd {τ:List Sl} {f:DE} {as:List D} (h:f τ=some (.lst as)):vY (ay f c5) τ=some (eA as):=by
 unfold vY;rw [ah h ax];rfl
theorem zZ {f g:DSm} {τ τ':List Sm} {s:Sm} (h:f τ=some (.ret s τ')):iz f g τ=some (.ret s τ'):=by unfold iz; rw [h]
theorem jv {b:D->DSm} {ds:List D} {τ:List Sm} (P:Nat->List Sm->Prop) (h0:P 0 τ) (hs:∀ j d τ,ds[j]?=some d->P j τ->∃ τ2,b d τ=some (.next τ2)/\P (j+1) τ2):∃ τ',forM b ds τ=some (.next τ')/\P ds.length τ':=by
 induction ds generalizing τ P with
 | nil=>exact ⟨τ,rfl,h0⟩
 | cons d ds ih =>
  obtain ⟨τ2,e,p⟩:=hs 0 d τ rfl h0;obtain ⟨τ',e',p'⟩:=ih (λ j=>P (j+1)) p λ j d τ hd hp=>hs (j+1) d τ hd hp
  refine ⟨τ',?_,p'⟩;show (match b d τ with | some (.next τ')=>forM b ds τ' | some (.cnt τ')=>forM b ds τ' | some (.brk τ')=>some (.next τ') | r=>r)=_;rw [e];exact e'
section
variable {t:Adr} {gv:Int} {M:List B8}
theorem FY {x:Int} {r:List Int} {b:B8} (hx:b.i≠x) (h0:b.r=[]) (hn:fd M b.i=none):Mt.n .d (iV (kv (λ b=>lM (b.r.map .int)) (upR M x r)) (.inl b.i) (lM []))=bxM (upR (M++[b]) x r):=by
 have e:upR (M++[b]) x r=upR M x r++[b]:=by
  unfold upR;rw [Zk];show _++[if b.i=x then _ else _]=_;rw [if_neg hx]
 have:=hW (g:=λ b=>lM (b.r.map .int)) (M:=upR M x r) (by rw [rT,hn]; rfl);rw [h0] at this;rw [e];unfold bxM kM;rw [<- this];rfl
theorem FF {x:Int} {r:List Int} {b:B8} (hn:fd M b.i=none):Mt.n .d (iV (kv (λ b=>.s (.tup [hD b.h,.str b.n])) M) (.inl b.i) (.s (.tup [hD b.h,.str b.n])))=faM (upR (M++[b]) x r):=by
 unfold faM kM;rw [pq _ _ _ _ (λ _=>rfl),<- hW hn]
def stB (M:List B8) (i:Int) (p:Pl):List B8:=M.map λ b=>if b.i=i then { b with m:=p } else b
theorem Ct (M:List B8) (i x:Int) (p:Pl):fd (stB M i p) x=(fd M x).map λ b=>if b.i=i then { b with m:=p } else b:=by
 unfold fd stB;rw [List.find?_map];congr 2
 funext b
 show decide ((if b.i=i then { b with m:=p } else b).i=x)=_;split <;> rfl
theorem DJ (M:List B8) (i:Int) (p:Pl):(stB M i p).map B8.i=M.map B8.i:=by
 unfold stB;rw [Z7];refine Zw λ b _=>?_
 show (if b.i=i then { b with m:=p } else b).i=b.i;split <;> rfl
theorem EN (m:MOk gv M) (i:Int) (p:Pl):MOk gv (stB M i p):=by
 have nd':Nd (stB M i p):=by unfold Nd; rw [DJ]; exact m.nd
 have old:∀ {x:Int} {d:B8},fd M x=some d->fd (stB M i p) x=some (if d.i=i then { d with m:=p } else d):=λ {x d} h=>by rw [Ct,h]; rfl
 have un:∀ c ∈ stB M i p,∃ d ∈ M,d.i=c.i/\d.h=c.h/\d.r=c.r:=λ c hc=>by
  obtain ⟨d,hd,rfl⟩:=Z6.mp hc;refine ⟨d,hd,?_⟩;split <;> exact ⟨rfl,rfl,rfl⟩
 have oh:∀ d:B8,(if d.i=i then { d with m:=p } else d).h=d.h:=λ d=>by split <;> rfl
 have or:∀ d:B8,(if d.i=i then { d with m:=p } else d).r=d.r:=λ d=>by split <;> rfl
 refine ⟨nd',λ c hc=>?_,?_,λ c hc c0=>?_,λ c hc x hx=>?_,λ c hc=>?_,λ c hc=>?_⟩
 ·obtain ⟨d,hd,e1,_⟩:=un c hc
  rw [<- e1]; exact m.lt d hd
 ·obtain ⟨r,r1,r2⟩:=m.root
  exact ⟨_,old r1,(oh r).trans r2⟩
 ·obtain ⟨d,hd,e1,e2,_⟩:=un c hc
  obtain ⟨j,p,h1,h2,h3⟩:=m.hol d hd (by rw [e1]; exact c0);exact ⟨j,_,by rw [<- e2]; exact h1,old h2,by rw [or,<- e1]; exact h3⟩
 ·obtain ⟨d,hd,e1,_,e3⟩:=un c hc
  obtain ⟨e,h1,h2⟩:=m.kid d hd x (by rw [e3]; exact hx);exact ⟨_,old h1,by rw [oh,h2,e1]⟩
 ·obtain ⟨d,hd,_,_,e3⟩:=un c hc
  rw [<- e3]; exact m.rnd d hd
 ·obtain ⟨d,hd,e1,_⟩:=un c hc
  obtain ⟨n,h1,h2⟩:=m.ch d hd;rw [e1] at h1;exact ⟨n,Ch.mono (λ x e he=>⟨_,old he,oh e⟩) h1,h2⟩
theorem uL {g:B8->Mt} {m2:Mt} {M:List B8} {i:Int} {b:B8} (nd:Nd M) (h:fd M i=some b) (eg:∀ c:B8,(g c).put [] m2=m2):(kM g M).put [.k (.inl i)] m2=.n .d (M.map λ c=>((.inl c.i:Key),if c.i=i then m2 else g c)):=by
 have hb:=bt h;have hi:=lK h;obtain ⟨l1,l2,rfl⟩:=List.append_of_mem hb;have nd':=nd;unfold Nd at nd';rw [Zk,Zh,Yd,Zu] at nd';have n1:∀ c ∈ l1,c.i≠i:=λ c hc e=>nd'.2.2 c.i (Yq hc) b.i (Ze ..) (by rw [e,hi])
 have n2:∀ c ∈ l2,c.i≠i:=λ c hc e=>nd'.2.1.1 (by rw [hi,<- e]; exact Yq hc)
 have ix:((kv g (l1++b::l2)).findIdx? λ c=>decide (c.1=.inl i))=some l1.length:=by
  unfold kv;rw [List.findIdx?_map,List.findIdx?_append]
  have e1:(l1.findIdx? ((λ c:Key×Mt=>decide (c.1=Sum.inl i)) ∘ λ b=>((.inl b.i:Key),g b)))=none:=by
   rw [List.findIdx?_eq_none_iff];intro c hc;exact Zn λ z=>n1 c hc (by injection z)
  rw [e1,List.findIdx?_cons];have e2:((λ c:Key×Mt=>decide (c.1=Sum.inl i)) ∘ λ b:B8=>((.inl b.i:Key),g b)) b=true:=Zq (by show (Sum.inl b.i:Key)=Sum.inl i; rw [hi]);rw [e2];simp
 have gx:(kv g (l1++b::l2))[l1.length]?=some ((.inl b.i:Key),g b):=by
  unfold kv;rw [List.getElem?_map,List.getElem?_append_right (Zl _),X1];rfl
 show (match (kv g (l1++b::l2)).findIdx? (λ c=>decide (c.1=.inl i)) with | none=>Mt.n .d (kv g (l1++b::l2)) | some j=>match (kv g (l1++b::l2))[j]? with | none=>Mt.n .d (kv g (l1++b::l2)) | some c=>.n .d ((kv g (l1++b::l2)).set j (c.1,Mt.put c.2 [] m2)))=_;simp only [ix,gx];congr 1;unfold kv;rw [Zk,Zh,Zk,Zh,List.set_append_right _ _ (by rw [Za]; exact Zl _),Za,X1];congr 1
 ·refine Zw λ c hc=>?_
  rw [if_neg (n1 c hc)]
 ·show (_,Mt.put (g b) [] m2)::_=_
  rw [if_pos hi,eg];congr 1;refine Zw λ c hc=>?_
  rw [if_neg (n2 c hc)]
theorem kst {β:Type} {g:B8->β} {p:Pl} {i:Int} {b:B8} (nd:Nd M) (hb:fd M i=some b):(M.map λ c=>((.inl c.i:Key),if c.i=i then g { b with m:=p } else g c))=kv g (stB M i p):=by
 unfold kv stB;rw [Z7];refine Zw λ c hc=>?_
 show _=((Sum.inl (if c.i=i then { c with m:=p } else c).i:Key),g (if c.i=i then { c with m:=p } else c))
 by_cases e:c.i=i
 ·have hf:=tM nd hc
  rw [e,hb] at hf;cases hf;rw [if_pos e,if_pos e]
 · rw [if_neg e,if_neg e]
theorem uy {β:Type} {g:B8->β} {p:Pl} {i:Int} {b:B8} (nd:Nd M) (hb:fd M i=some b) (hg:g { b with m:=p }=g b):kv g (stB M i p)=kv g M:=by
 rw [<- kst nd hb];refine Zw λ c hc=>?_
 by_cases e:c.i=i
 ·have hf:=tM nd hc
  rw [e,hb] at hf;cases hf;rw [if_pos e,hg]
 · rw [if_neg e]
theorem qP {i:Int} {b:B8} (nd:Nd M) (hb:fd M i=some b):stB M i b.m=M:=by
 refine (Zw λ c hc=>?_).trans (List.map_id _)
 by_cases e:c.i=i
 ·have hf:=tM nd hc
  rw [e,hb] at hf;cases hf;rw [if_pos e];rfl
 ·rw [if_neg e]
  rfl
theorem Dv {C:Addr} {p:Pl} {i:Int} {b:B8} (nd:Nd M) (hb:fd M i=some b):(trM C gv M).put ([]++[.k (.inr "marks")]++[.k (.inl i)]) (mkM { b with m:=p })=trM C gv (stB M i p):=by
 refine (show _=trG C (.s (.int gv)) (kM (λ b=>.s (.str b.n)) M) (kM (λ b=>.s (hD b.h)) M) (bxM M) ((kM mkM M).put [.k (.inl i)] (mkM { b with m:=p })) (kM wdM M) (kM roM M) from rfl).trans ?_
 rw [uL nd hb (λ c=>by unfold mkM; rfl),kst nd hb];unfold trM bxM kM;rw [uy (p:=p) (g:=λ b=>Mt.s (.str b.n)) nd hb rfl,uy (p:=p) (g:=λ b=>Mt.s (hD b.h)) nd hb rfl,uy (p:=p) (g:=λ b=>lM (b.r.map .int)) nd hb rfl,uy (p:=p) (g:=wdM) nd hb rfl,uy (p:=p) (g:=roM) nd hb rfl]
theorem AR {g:B8->Mt} {x:Mt} {i:Int} {b:B8} (hb:fd M i=some b):iV (kv g M) (.inl i) x=M.map λ c=>((.inl c.i:Key),if c.i=i then x else g c):=by
 unfold iV
 rw [if_pos (by
  rw [Y3];refine ⟨((.inl b.i:Key),g b),?_,Zq (by rw [lK hb])⟩
  exact Z6.mpr ⟨b,bt hb,rfl⟩)]
 unfold kv;rw [Z7];refine Zw λ c hc=>?_
 show (if (Sum.inl c.i:Key)=Sum.inl i then ((Sum.inl c.i:Key),x) else (Sum.inl c.i,g c))=_
 by_cases e:c.i=i
 · rw [if_pos (by rw [e]),if_pos e]
 · rw [if_neg (λ z=>e (by injection z)),if_neg e]
theorem Kk:∀ (l:List Str) (w:Str),(iS (l.map λ x=>((.inr x:Key),D.bl true)) (.inr w)).isSome=decide (w ∈ l)
 | [],w=>rfl
 | x::l,w=>by
  have ih:=Kk l w;unfold iS at ih ⊢;rw [Zh,List.find?_cons]
  by_cases e:x=w
  ·rw [Zq (show (Sum.inr x:Key)=Sum.inr w by rw [e]),Zq (show w ∈ x::l by rw [e]; exact Ze ..)]
   rfl
  ·rw [Zn (show ¬ (Sum.inr x:Key)=Sum.inr w from λ z=>e (by injection z))]
   refine ih.trans ?_
   by_cases h:w ∈ l
   · rw [Zq h,Zq (Zd _ h)]
   · rw [Zn h,Zn (λ z=>(Zi.mp z).elim (λ z=>e z.symm) h)]
theorem kin (b:B8) (w:Str):C1 (.str w) (mkD b)=some (.bl (decide (w ∈ b.m.k))):=by
 show some (D.bl (iS (b.m.k.map λ x=>((.inr x:Key),D.bl true)) (.inr w)).isSome)=_;rw [Kk]
theorem Np (b:B8) (w:Str):fP (.str w) (mkD b)=some (.bl (!decide (w ∈ b.m.k))):=by
 show some (D.bl (!(iS (b.m.k.map λ x=>((.inr x:Key),D.bl true)) (.inr w)).isSome))=_;rw [Kk]
theorem LY (l:List Str) (w:Str):((l.map λ x=>((.inr x:Key),Mt.s (.bl true))).any λ c=>decide (c.1=.inr w))=decide (w ∈ l):=by
 rw [Y8,decide_eq_true_iff,Y3];constructor
 ·rintro ⟨c,hc,e⟩
  obtain ⟨x,hx,rfl⟩:=Z6.mp hc;have:=Xx e;injection this with this
  rw [<- this]; exact hx
 · exact λ h=>⟨_,Z6.mpr ⟨w,h,rfl⟩,Zq rfl⟩
def nA (p:Pl) (w:Str):Pl:=if w ∈ p.k then p else { p with k:=p.k++[w] }
theorem zV {C:Addr} {r:List Sm} {i:Int} {b:B8} (hb:fd M i=some b):a6 (.mu true (trM C gv M)::r) 0 ([]++[.k (.inr "marks")]++[.k (.inl i)])=some (mkM b):=by
 rw [nK rfl];refine (show _=(kM mkM M).get [.k (.inl i)] from rfl).trans ?_
 rw [nZ,hb];rfl
def l8 (p:Pl) (w:Str):Pl:={ p with k:=p.k.filter λ x=>!decide (x=w) }
theorem pY {i:Int} {b:B8} {w:Str} (nd:Nd M) (hb:fd M i=some b) (hn:bB w=true) (hk:b.m.k.length < 1000):b5 t [.mu true (trM t.af gv M),.shr (.int i),.shr (.str w)]=some (.shr (.bl (!decide (w ∈ b.m.k))),[.mu true (trM t.af gv (stB M i (nA b.m w))),.no,.no]):=by
 unfold b5 gZ;have sn:∀ {r:List Sm},bM (.mu true (trM t.af gv M)::r)=.shr (trD t.af gv M)::bM r:=jH
 refine (iA (τ:=[.mu true (trM t.af gv (stB M i (nA b.m w))),.shr (.int i),.shr (.str w)]) ?_).trans rfl;refine aN (fQ (τ:=[.mu true (trM t.af gv M),.shr (.int i),.shr (.str w)]) (by rw [sn]; exact c9 e_v (ah e_v ax) rfl (jw hb) rfl)) ?_
 refine aN (fQ (cZ (ah e_v ax) (dm hn) rfl)) ?_
 have et:=t_S (τ:=[.mu true (trM t.af gv M),.shr (.int i),.shr (.str w)]) (g:=dT (dOp C1 (aB 2) (dOp fg (dUn (C0 t.af "marks") (aB 0)) (aB 1)))) (by rw [sn]; exact aE (az e_v (az (ik e_v fK) e_v (ck hb)) (kin b w)));unfold nA
 by_cases h:w ∈ b.m.k
 ·rw [Zq h] at et
  rw [Zq h,if_pos h,qP nd hb];exact zZ (p4 et (nN (v_N e_c)))
 ·rw [Zn h] at et
  rw [Zn h,if_neg h];refine aN (ie et rfl) ?_
  refine aN ((fR (v_N e_c) (sq (lU bc rfl) e_v rfl rfl) e_v rfl rfl (zV hb) (by rw [Za]; omega)).trans ?_) (nN (v_N e_c));rw [jX rfl]
  have e2:iV (b.m.k.map λ x=>((.inr x:Key),Mt.s (.bl true))) (.inr w) (.s (.bl true))=(b.m.k++[w]).map λ x=>((.inr x:Key),Mt.s (.bl true)):=by
   unfold iV;rw [LY,Zn h,if_neg Zf,Zk];rfl
  rw [e2];have e3:=Dv (C:=t.af) (gv:=gv) (p:={ b.m with k:=b.m.k++[w] }) nd hb;rw [show (Mt.n .d ((b.m.k++[w]).map λ x=>((.inr x:Key),Mt.s (.bl true))))=mkM { b with m:={ b.m with k:=b.m.k++[w] } } from rfl,e3];rfl
theorem CN {i:Int} {b:B8} {w:Str} (nd:Nd M) (hb:fd M i=some b) (hn:bB w=true):fA t [.mu true (trM t.af gv M),.shr (.int i),.shr (.str w)]=some (.shr (.bl (decide (w ∈ b.m.k))),[.mu true (trM t.af gv (stB M i (l8 b.m w))),.no,.no]):=by
 unfold fA g0;dsimp only;have sn:∀ {r:List Sm},bM (.mu true (trM t.af gv M)::r)=.shr (trD t.af gv M)::bM r:=jH
 refine (iA (τ:=[.mu true (trM t.af gv (stB M i (l8 b.m w))),.shr (.int i),.shr (.str w)]) ?_).trans rfl;refine aN (fQ (τ:=[.mu true (trM t.af gv M),.shr (.int i),.shr (.str w)]) (by rw [sn]; exact c9 e_v (ah e_v ax) rfl (jw hb) rfl)) ?_
 refine aN (fQ (cZ (ah e_v ax) (dm hn) rfl)) ?_
 have et:=t_S (τ:=[.mu true (trM t.af gv M),.shr (.int i),.shr (.str w)]) (g:=dT (dOp fP (aB 2) (dOp fg (dUn (C0 t.af "marks") (aB 0)) (aB 1)))) (by rw [sn]; exact aE (az e_v (az (ik e_v fK) e_v (ck hb)) (Np b w)))
 by_cases h:w ∈ b.m.k
 ·rw [Zq h] at et
  rw [Zq h];refine aN (ie et rfl) ?_
  refine aN ((Kh (sq (lU bc rfl) e_v rfl rfl) e_v rfl (zV hb) (by rw [LY,Zq h])).trans ?_) (nN (v_N e_c));rw [jX rfl]
  have e2:tW (b.m.k.map λ x=>((.inr x:Key),Mt.s (.bl true))) (.inr w)=(b.m.k.filter λ x=>!decide (x=w)).map λ x=>((.inr x:Key),Mt.s (.bl true)):=by
   unfold tW;rw [X6];congr 1;refine List.filter_congr λ x _=>?_
   by_cases e:x=w
   · subst e; simp
   · simp [e]
  rw [e2];have e3:=Dv (C:=t.af) (gv:=gv) (p:=l8 b.m w) nd hb;rw [show (Mt.n .d ((b.m.k.filter λ x=>!decide (x=w)).map λ x=>((.inr x:Key),Mt.s (.bl true))))=mkM { b with m:=l8 b.m w } from rfl,e3];rfl
 ·rw [Zn h] at et
  have e4:l8 b.m w=b.m:=by
   unfold l8;rw [List.filter_eq_self.mpr λ x hx=>by rw [Zn (λ e=>h (by rw [<- e]; exact hx))]; rfl]
  rw [Zn h,e4,qP nd hb];exact zZ (p4 et (nN (v_N e_c)))
end
end N16
end
section
namespace N16
open PySem L2
theorem mf {x y:Str} (h:x.length+y.length<=100000):i0 (.str x) (.str y)=some (.str (x++y)):=if_pos h
theorem len_app (x y:Str):(x++y).length=x.length+y.length:=by
 show (x.cps++y.cps).size=_;rw [Array.size_append];rfl
theorem Cw {τ:List Sl} {f:DE} {l u:DO} {z:Str} {lo hi:Option Int} (h1:f τ=some (.str z)) (h2:l τ=some lo) (h3:u τ=some hi) (h4:z.length<=100000):KH f l u τ=some (.str (Txt.slice z lo hi)):=by
 unfold KH;rw [h1];rw [h2];rw [h3];exact if_pos h4
theorem jI (z:Str) {a b:Nat} {l u:Option Int} (hab:a<=b) (hb:b<=z.length) (e:Builtin.Str.strSliceIndices l u 1 z.length=Builtin.Str.strSliceIndices (some (a:Int)) (some (b:Int)) 1 z.length):(Txt.slice z l u).cps.toList=(z.cps.toList.drop a).take (b - a):=by
 have hl:z.cps.toList.length=z.length:=Xj;unfold Txt.slice;rw [e];split
 ·rename_i h
  rw [StrLaws.strSliceIndices_plain hab hb,Za,List.length_range] at h;have h':b - a=z.length:=by simpa using h
  have ha:a=0:=by omega
  subst ha;rw [List.drop_zero,h',<- hl,List.take_length]
 ·show (List.filterMap _ _)=_
  exact StrLaws.sliced_plain z hab hb
theorem iE {x:Str}:bB x=true↔1<=x.length/\x.length<=8/\∀ c ∈ x.cps.toList,lower c=true:=by
 unfold bB;rw [Yw,Yw,decide_eq_true_eq,decide_eq_true_eq,Yy];constructor
 ·rintro ⟨⟨h1,h2⟩,h3⟩
  exact ⟨by omega,by omega,h3⟩
 ·rintro ⟨h1,h2,h3⟩
  exact ⟨⟨by omega,by omega⟩,h3⟩
theorem iG (x:Str):x.length=x.cps.toList.length:=by rfl
theorem qI (x y:Str):(x++y).cps.toList=x.cps.toList++y.cps.toList:=by
 show (x.cps++y.cps).toList=_;rw [Array.toList_append]
theorem Bk {z:Str} (h:One z):∀ c ∈ z.cps.toList,lower c=true:=by
 have h2:=h.2;unfold okS at h2;rw [Array.all_eq_true_iff_forall_mem] at h2;intro c hc;exact h2 c (by simpa using hc)
theorem D0 (ns:List Int):∃ a b c d:Str,g6 [scr ns,.int 1]=some (.shr (.lst [.str a,.str b,.str c,.str d]))/\bB a=true/\bB b=true/\bB c=true/\bB d=true:=by
 obtain ⟨c1,e1⟩:=kA ns (k:=1) (by decide);obtain ⟨c2,e2⟩:=kA ns (k:=1+1) (by decide);obtain ⟨z,ez,nz⟩:=zT c1 (w:=1) (by decide) (by decide);obtain ⟨y,ey,ny⟩:=zT c2 (w:=4) (by decide) (by decide);obtain ⟨z1,z8,zl⟩:=iE.mp nz;obtain ⟨r,er,r0,r1⟩:=iF c2 (w:=2) (by decide) (by decide)
 have hl:s9 [.str z]=some (.int (z.length:Int)):=by
  show (if z.length<=100000 then _ else _)=_;rw [if_pos (by omega)]
 have em:=aQ (i:=r) (j:=(z.length:Int)) (by omega);obtain ⟨s,es,os⟩:=z4 (Ye _ (by decide)) (Yb _ (by decide));have ls:=os.1;have sl:=Bk os;have a1:=Txt.slice_le z none (some (r % (z.length:Int)));have a2:=Txt.slice_le z (some (r % (z.length:Int)+1)) none;have f1:=mf (x:=Txt.slice z none (some (r % (z.length:Int)))) (y:=s) (by omega);have f2:=mf (x:=Txt.slice z none (some (r % (z.length:Int)))++s) (y:=Txt.slice z (some (r % (z.length:Int)+1)) none) (by rw [len_app]; omega);have f3:=mf (x:=z) (y:=s) (by omega);have p0:=Ye r (b:=(z.length:Int)) (by omega);have p1:=Yb r (b:=(z.length:Int)) (by omega);obtain ⟨p,hp⟩:∃ p:Nat,r % (z.length:Int)=(p:Int):=⟨(r % (z.length:Int)).toNat,by omega⟩
 rw [hp] at p1;have s1:(Txt.slice z none (some (p:Int))).cps.toList=(z.cps.toList.drop 0).take (p - 0):=jI z (Z4 _) (by omega) (StrLaws.sliceIdx_none_lo _ _);have s2:(Txt.slice z (some ((p:Int)+1)) none).cps.toList=(z.cps.toList.drop (p+1)).take (z.length - (p+1)):=jI z (by omega) (Zl _) (StrLaws.sliceIdx_none_hi _ _)
 have zs:∀ c ∈ (z++s).cps.toList,lower c=true:=by
  intro c hc;rw [qI] at hc;rcases Zg.mp hc with h | h
  · exact zl c h
  · exact sl c h
 have lzs:=len_app z s
 have s3:(Txt.slice (z++s) (some (-8)) none).cps.toList=((z++s).cps.toList.drop ((z++s).length - 8)).take ((z++s).length - ((z++s).length - 8)):=by
  refine jI (z++s) (by omega) (Zl _) ?_
  rw [PyProof.Rows.sliceIdx_lo_neg _ (by decide),StrLaws.sliceIdx_none_hi];congr 2;omega
 refine ⟨z,Txt.slice z none (some (r % (z.length:Int)))++s++Txt.slice z (some (r % (z.length:Int)+1)) none,Txt.slice (z++s) (some (-8)) none,y,?_,nz,?_,?_,ny⟩
 ·unfold g6 gW
  dsimp only;refine bN ?_
  refine aY (bf (d:=.str LET) e_c) ?_
  refine aY (bf (by walk_at "ee")) ?_
  refine aY (bf (by walk_at "ee")) ?_
  refine aY (bf (by walk_at "ee")) ?_
  refine aY (bf (by walk_at "ee")) ?_
  refine aY (bf (az (az (Cw e_v yj (fL e_v) (by omega)) e_v f1) (Cw e_v (fL (az e_v e_c (aP _ _))) yj (by omega)) f2)) ?_
  refine aY (bf (Cw (az e_v e_v f3) (fL (FK e_c rfl)) yj (by rw [len_app]; omega))) ?_
  exact bq (by walk_at "ee")
 ·rw [hp]
  refine iE.mpr ⟨by rw [len_app,len_app]; omega,?_,λ c hc=>?_⟩
  ·rw [len_app,len_app,iG (Txt.slice z none _),iG (Txt.slice z (some _) none),s1,s2,Z1,Z1,Yv,Yv]
   omega
  ·rw [qI,qI,s1,s2] at hc
   rcases Zg.mp hc with h | h
   ·rcases Zg.mp h with h | h
    · exact zl c (Xi (Yt h))
    · exact sl c h
   · exact zl c (Xi (Yt h))
 ·refine iE.mpr ⟨?_,?_,λ c hc=>?_⟩
  ·rw [iG,s3,Z1,Yv,<- iG]
   omega
  ·rw [iG,s3,Z1,Yv,<- iG]
   omega
  ·rw [s3] at hc
   exact zs c (Xi (Yt hc))
end N16
end
section
namespace N16
open PySem L2
def PL (a b c d:Str):D:=.lst [.str a,.str b,.str c,.str d]
structure PlN (a b c d:Str):Prop where
 a:bB a=true
 b:bB b=true
 c:bB c=true
 d:bB d=true
theorem sS {a b c d:Str} (h:PlN a b c d) {k:Int} (k0:0<=k) (k1:k < 4):∃ x:Str,oIx (PL a b c d) (.int k)=some (.str x)/\bB x=true:=by
 have:k=0\/k=1\/k=2\/k=3:=by omega
 rcases this with rfl | rfl | rfl | rfl
 · exact ⟨a,rfl,h.a⟩
 · exact ⟨b,rfl,h.b⟩
 · exact ⟨c,rfl,h.c⟩
 · exact ⟨d,rfl,h.d⟩
def kT (k:Bool):Str:=if k=true then "back" else "front"
inductive Tr:Nat->D->Prop where
 | any (n:Nat):Tr n (.tup [.str "any"])
 | name (n:Nat) (x:Str):Tr n (.tup [.str "name",.str x])
 | mark (n:Nat) (x:Str):Tr n (.tup [.str "mark",.str x])
 | F7 (n:Nat) (k:Bool) (f e:Int) (h:0<=e):Tr n (.tup [.str (kT k),.int f,.int e])
 | neg (n:Nat) (d:D) (h:Tr n d):Tr (n+1) (.tup [.str "not",d])
 | one (n:Nat) (ds:List D) (h3:ds.length<=100) (h:∀ d ∈ ds,Tr n d):Tr (n+1) (.tup [.str "one",.tup ds])
section
variable {pa pb pc pd:Str}
theorem uS (hP:PlN pa pb pc pd) (c:Int) {w:Int} (w0:0<=w) (w1:w<=10000):∃ d,gq [.int c,.int w,PL pa pb pc pd]=some (.shr d)/\∀ n,Tr n d:=by
 obtain ⟨r,er,r0,r1⟩:=iF c w0 w1;obtain ⟨x,ex,_⟩:=sS hP (Ye _ (by decide)) (Yb _ (by decide))
 have fb:∃ k:Bool,oIx (.lst [.str "front",.str "back"]) (.int (r % 6 % 2))=some (.str (kT k)):=by
  have:r % 6 % 2=0\/r % 6 % 2=1:=by omega
  rcases this with h | h
  · rw [h]; exact ⟨false,rfl⟩
  · rw [h]; exact ⟨true,rfl⟩
 obtain ⟨k,ek⟩:=fb
 have key:Ret (λ d=>∀ n,Tr n d) ((d6).1 (fG 7 [.int c,.int w,PL pa pb pc pd])):=by
  unfold d6;refine l4 (bf (by walk_at "ee")) ?_
  refine l4 (bf (by walk_at "ee")) ?_
  refine CY (by walk_at "ee") (λ _=>lA (by walk_at "ee") λ n=>.any n) (λ _=>?_);refine CY (by walk_at "ee") (λ _=>lA (by walk_at "ee") λ n=>.name n _) (λ _=>?_);refine CY (by walk_at "ee") (λ _=>lA (by walk_at "ee") λ n=>.mark n x) (λ _=>?_);refine l4 (bf (by walk_at "ee")) ?_
  refine l4 (bf (by walk_at "ee")) ?_
  refine HV (R:=λ τ=>∃ f e:Int,0<=e/\τ=[.shr (.int c),.shr (.int w),.shr (PL pa pb pc pd),.shr (.int r),.shr (.int (r % 6)),.shr (.int f),.shr (.int e)]) (G8 (by walk_at "ee") (λ _=>EJ (aY (bf (by walk_at "ee")) (bf (by walk_at "ee"))) ⟨_,_,by omega,rfl⟩) (λ _=>rB ⟨_,_,by omega,rfl⟩)) ?_
  rintro _ ⟨f,e,he,rfl⟩
  refine HV (R:=λ τ=>∃ f e:Int,0<=e/\τ=[.shr (.int c),.shr (.int w),.shr (PL pa pb pc pd),.shr (.int r),.shr (.int (r % 6)),.shr (.int f),.shr (.int e)]) (G8 (by walk_at "ee") (λ _=>EJ (bf (d:=.int (c % 10 ^ (Int.toNat 30))) (by walk_at "ee")) ⟨_,_,Ye _ (by decide +kernel),rfl⟩) (λ _=>rB ⟨_,_,he,rfl⟩)) ?_
  rintro _ ⟨f,e,he,rfl⟩
  exact AQ (by walk_at "ee") λ n=>.F7 n k f e he
 exact yS key
theorem pZ {m:Nat} {gg:D->Option D}:∀ {ds:List D},(∀ d ∈ ds,∃ x,gg d=some x/\Tr m x)->∃ xs:List D,ud gg ds=some xs/\xs.length=ds.length/\∀ d ∈ xs,Tr m d
 | [],_=>⟨[],rfl,rfl,λ d h=>absurd h Z8⟩
 | d::ds,h=>by
  obtain ⟨x,e1,p1⟩:=h d (Ze ..);obtain ⟨xs,e2,l2,p2⟩:=pZ (m:=m) (gg:=gg) (ds:=ds) λ x hx=>h x (Zd _ hx)
  refine ⟨x::xs,by simp only [ud,e1,e2]; rfl,by simp [l2],λ d hd=>?_⟩;rcases Zi.mp hd with rfl | hd
  · exact p1
  · exact p2 d hd
def Hg (pa pb pc pd:Str) (n:Nat) (F:List D->Option Sl):Prop:=∀ c w:Int,0<=w->w+100 * n<=1200->∃ d,F [.int c,.int w,PL pa pb pc pd,.int n]=some (.shr d)/\Tr n d
theorem LV (hP:PlN pa pb pc pd) {F:List D->Option Sl} {n:Nat} (hF:∀ m,n=m+1->Hg pa pb pc pd m F):Hg pa pb pc pd n (cc 5 4 (cV F).1):=by
 intro c w w0 w1;obtain ⟨r,er,r0,r1⟩:=iF c (w:=w+13) (by omega) (by omega);obtain ⟨dp,ep,tp⟩:=uS hP c w0 (by omega)
 have key:Ret (λ d=>Tr n d) ((cV F).1 (fG 5 [.int c,.int w,PL pa pb pc pd,.int n])):=by
  unfold cV;refine l4 (bf (by walk_at "ee")) ?_
  refine CY (by walk_at "ee") (λ _=>lA (by walk_at "ee") (tp n)) (λ h=>?_);have hn:n≠0:=λ z=>by subst z; simp at h
  obtain ⟨m,rfl⟩:∃ m,n=m+1:=⟨n - 1,by omega⟩
  have em:CZ (.int ((m+1:Nat):Int)) (.int 1)=some (.int (m:Int)):=by
   rw [dg]; congr 2; omega
  refine CY (by walk_at "ee") (λ _=>?_) (λ _=>?_)
  ·obtain ⟨d,e,t⟩:=hF m rfl c (w+7) (by omega) (by omega)
   exact lA (by walk_at "ee") (.neg m d t)
  ·have q0:=Ye (r / 4) (b:=4) (by decide)
   obtain ⟨xs,exs,l1,hx⟩:=pZ (gg:=λ d=>dFn F (ay (aB 1) (ay (dOp i0 (dOp i0 (aB 4) (dOp vh (dC (.int 19)) (aB 0))) (dC (.int 23))) (ay (aB 2) (ay (dOp CZ (aB 3) (dC (.int 1))) c5)))) [.shr d,.shr (.int c),.shr (PL pa pb pc pd),.shr (.int ((m+1:Nat):Int)),.shr (.int w)]) (ds:=ph 0 (Int.toNat (r / 4 % 4))) (by
    intro d hm;obtain ⟨j,hj,rfl⟩:=pK hm;obtain ⟨d,e,t⟩:=hF m rfl c (w+19 * (j:Int)+23) (by omega) (by omega)
    exact ⟨d,by walk_at "ee",t⟩)
   rw [fJ] at l1;have et:rl [.lst xs]=some (.tup xs):=rfl;refine AQ (mB (ah e_c (ah (bu (ah (oz (qd (by walk_at "ee") (by omega)) (by rw [fJ]; omega) ?_) ax) et) ax)) (by simp)) (.one m xs (by omega) hx);exact exs
 exact yS key
theorem uo (hP:PlN pa pb pc pd):∀ n,Hg pa pb pc pd n (cq (n+1))
 | 0=>LV hP (F:=cq 0) λ m e=>by cases e
 | n+1=>LV hP (F:=cq (n+1)) λ m e=>by cases e; exact uo hP n
theorem Aq (hP:PlN pa pb pc pd):Hg pa pb pc pd 2 gn:=uo hP 2
def stD (j:Str) (tr:List D):D:=.tup [.str j,.tup tr]
def tF:List Str:=[" ",">","+","~"]
def KS (j:Nat) (s:Str×List D):Prop:=(∀ d ∈ s.2,Tr 2 d)/\s.2.length<=100/\(j=0->s.1="")/\(j≠0->s.1 ∈ tF)
structure Pt (ss:List (Str×List D)):Prop where
 n0:0 < ss.length
 n8:ss.length<=8
 st:∀ (p:Nat) (s:Str×List D),ss[p]?=some s->KS p s
def ptL (ss:List (Str×List D)):List D:=ss.map λ s=>stD s.1 s.2
def ptD (ss:List (Str×List D)):D:=.tup (ptL ss)
theorem B7 (r:Int):∃ x:Str,oIx (.lst [.str " ",.str ">",.str "+",.str "~"]) (.int (r % 4))=some (.str x)/\x ∈ tF:=by
 have:r % 4=0\/r % 4=1\/r % 4=2\/r % 4=3:=by omega
 rcases this with h | h | h | h <;> rw [h]
 · exact ⟨" ",rfl,by decide⟩
 · exact ⟨">",rfl,by decide⟩
 · exact ⟨"+",rfl,by decide⟩
 · exact ⟨"~",rfl,by decide⟩
theorem BW (r:Int):∃ n:Int,oIx (.lst [.int 0,.int 1,.int 1,.int 2,.int 0]) (.int (r % 5))=some (.int n)/\0<=n/\n<=2:=by
 have:r % 5=0\/r % 5=1\/r % 5=2\/r % 5=3\/r % 5=4:=by omega
 rcases this with h | h | h | h | h <;> rw [h]
 · exact ⟨0,rfl,by decide,by decide⟩
 · exact ⟨1,rfl,by decide,by decide⟩
 · exact ⟨1,rfl,by decide,by decide⟩
 · exact ⟨2,rfl,by decide,by decide⟩
 · exact ⟨0,rfl,by decide,by decide⟩
theorem nv (hP:PlN pa pb pc pd) (c:Int) {w m:Int} (w0:0<=w) (w1:w<=100) (m0:0 < m) (m1:m<=8):∃ ss,eG [.int c,.int w,PL pa pb pc pd,.int m]=some (.shr (ptD ss))/\Pt ss:=by
 obtain ⟨r,er,r0,r1⟩:=iF c w0 (by omega);have k0:=Ye r (b:=m) (by omega);have k1:=Yb r (b:=m) m0
 have key:Ret (λ d=>∃ ss,d=ptD ss/\Pt ss) ((cO).1 (fG 10 [.int c,.int w,PL pa pb pc pd,.int m])):=by
  unfold cO;dsimp only;refine l4 (lr (eT ax (Z4 _)) (show 4 < 10 by decide)) ?_
  refine l4 (bf (cZ (ah e_v (ah e_v ax)) er rfl)) ?_
  refine HV (R:=λ τ=>∃ (ss:List (Str×List D)) (x6 x7 x8 x9:Sl),ss.length=(1+r % m).toNat/\(∀ p s,ss[p]?=some s->KS p s)/\τ=[.shr (.int c),.shr (.int w),.shr (PL pa pb pc pd),.shr (.int m),.own (.lst (ptL ss)),.shr (.int r),x6,x7,x8,x9]) (J2 (λ j τ=>∃ (ss:List (Str×List D)) (x6 x7 x8 x9:Sl),ss.length=j/\(∀ p s,ss[p]?=some s->KS p s)/\τ=[.shr (.int c),.shr (.int w),.shr (PL pa pb pc pd),.shr (.int m),.own (.lst (ptL ss)),.shr (.int r),x6,x7,x8,x9]) (qd (j:=1+r % m) (ah (az e_c (az e_v e_v (aQ m0)) (aP _ _)) ax) (by omega)) ⟨[],_,_,_,_,rfl,(λ p s h=>by simp at h),rfl⟩ ?_ λ τ' ⟨ss,x6,x7,x8,x9,l,h,e⟩=>⟨ss,x6,x7,x8,x9,by rw [l,fJ],h,e⟩) ?_
  ·rintro j d τ ed ⟨ss,x6,x7,x8,x9,l,h,rfl⟩
   obtain ⟨rfl,jl⟩:=jL ed;rw [Int.zero_add];refine ⟨[.shr (.int c),.shr (.int w),.shr (PL pa pb pc pd),.shr (.int m),.own (.lst (ptL ss)),.shr (.int r),.shr (.int (j:Int)),x7,x8,x9],rfl,?_⟩;have step:∀ {Q:List Sl->Prop} {f g:DS} {τ:List Sl} (R:List Sl->Prop),Nx R (f τ)->(∀ τ',R τ'->Nx Q (g τ'))->Nx Q (g9 f g τ):=λ R ⟨τ',e,p⟩ k=>yq e (k τ' p)
   refine yq (bf e_c) ?_
   refine step (λ τ=>∃ x:Str,(j=0->x="")/\(j≠0->x ∈ tF)/\τ=[.shr (.int c),.shr (.int w),.shr (PL pa pb pc pd),.shr (.int m),.own (.lst (ptL ss)),.shr (.int r),.shr (.int (j:Int)),.shr (.str x),x8,x9]) (G8 (aE (az e_v e_c (rfl))) (λ q=>?_) (λ q=>rB ⟨"",λ _=>rfl,λ z=>absurd (of_decide_eq_false q) (by omega),rfl⟩)) ?_
   ·obtain ⟨a,ea,_,_⟩:=iF c (w:=w+3+(j:Int)) (by omega) (by omega)
    obtain ⟨x,ex,sx⟩:=B7 a;exact EJ (bf (az (eT (ah e_c (ah e_c (ah e_c (ah e_c ax)))) (Zb rfl)) (az (cZ (ah e_v (ah (az (az e_v e_c (aP _ _)) e_v (aP _ _)) ax)) ea rfl) e_c (aQ (by decide))) ex)) ⟨x,λ z=>absurd (Xx q) (by omega),λ _=>sx,rfl⟩
   rintro τ ⟨x,sx0,sx,rfl⟩
   obtain ⟨a,ea,_,_⟩:=iF c (w:=w+40+(j:Int)) (by omega) (by omega);obtain ⟨n,en,n0,n1⟩:=BW a;have em:∀ {τ:List Sl},τ[0]?=some (.shr (.int c))->τ[1]?=some (.shr (.int w))->τ[6]?=some (.shr (.int (j:Int)))->dFn cu (ay (aB 0) (ay (dOp i0 (dOp i0 (aB 1) (dC (.int 40))) (aB 6)) c5)) τ=some (.int a):=λ h0 h1 h6=>cZ (ah (aU h0) (ah (az (az (aU h1) e_c (aP _ _)) (aU h6) (aP _ _)) ax)) ea rfl
   refine yq (bf (az (eT (ah e_c (ah e_c (ah e_c (ah e_c (ah e_c ax))))) (Zb rfl)) (az (em rfl rfl rfl) e_c (aQ (by decide))) en)) ?_
   obtain ⟨ys,eys,l1,hy⟩:=pZ (gg:=λ d=>dFn gn (ay (aB 1) (ay (dOp i0 (dOp i0 (dOp i0 (aB 3) (dC (.int 60))) (dOp vh (dC (.int 31)) (aB 4))) (dOp vh (dC (.int 11)) (aB 0))) (ay (aB 2) (ay (dC (.int 2)) c5)))) [.shr d,.shr (.int c),.shr (PL pa pb pc pd),.shr (.int w),.shr (.int (j:Int))]) (ds:=ph 0 (Int.toNat n)) (by
    intro d hm;obtain ⟨i,hi,rfl⟩:=pK hm;obtain ⟨d,e,t⟩:=Aq hP c (w+60+31 * (j:Int)+11 * (i:Int)) (by omega) (by omega)
    exact ⟨d,cZ (ah e_v (ah (az (az (az e_v e_c (aP _ _)) (az e_c e_v (nI (by decide) (by decide))) (aP _ _)) (az e_c e_v (nI (by decide) (by decide))) (aP _ _)) (ah e_v (ah e_c ax)))) e rfl,t⟩)
   rw [fJ] at l1;refine yq (bf (oz (qd (ah e_v ax) (by omega)) (by rw [fJ]; omega) eys)) ?_
   refine step (λ τ=>∃ zs:List D,(∀ z ∈ zs,Tr 2 z)/\zs.length<=100/\τ=[.shr (.int c),.shr (.int w),.shr (PL pa pb pc pd),.shr (.int m),.own (.lst (ptL ss)),.shr (.int r),.shr (.int (j:Int)),.shr (.str x),.shr (.int n),.shr (.lst zs)]) (G8 (aE (az (az (az (em rfl rfl rfl) e_c (dk (by decide) (by decide +kernel))) e_c (aQ (by decide))) e_c (b9 _ _))) (λ q=>?_) (λ q=>rB ⟨ys,hy,by omega,rfl⟩)) ?_
   ·obtain ⟨d,e,t⟩:=uS hP c (w:=w+50+(j:Int)) (by omega) (by omega)
    have er:KJ (Hf (ay (dFn gq (ay (aB 0) (ay (dOp i0 (dOp i0 (aB 1) (dC (.int 50))) (aB 6)) (ay (aB 2) c5)))) c5)) (dC (.int 12)) [.shr (.int c),.shr (.int w),.shr (PL pa pb pc pd),.shr (.int m),.own (.lst (ptL ss)),.shr (.int r),.shr (.int (j:Int)),.shr (.str x),.shr (.int n),.shr (.lst ys)]=some (.lst (List.replicate 12 [d]).flatten):=by
     unfold KJ;rw [eT (ah (cZ (ah e_v (ah (az (az e_v e_c (aP _ _)) e_v (aP _ _)) (ah e_v ax))) e rfl) ax) (Zb rfl)];rfl
    refine EJ (bf er) ⟨_,λ z hz=>?_,(by show 12<=100; decide),rfl⟩;obtain ⟨l,hl,hz⟩:=List.mem_flatten.mp hz;rw [List.eq_of_mem_replicate hl] at hz;rw [Zr.mp hz];exact t 2
   rintro τ ⟨zs,hz,lz,rfl⟩
   refine EJ (AF (mB (ah e_v (ah (bu (ah e_v ax) rfl) ax)) (Zb rfl)) rfl (by rw [show (ptL ss).length=ss.length from Za _]; omega)) ⟨ss++[(x,zs)],_,_,_,_,by rw [Z0,l]; rfl,λ p s hs=>?_,by unfold ptL; rw [Zk]; rfl⟩
   by_cases hp:p < ss.length
   ·rw [List.getElem?_append_left hp] at hs
    exact h p s hs
   ·rw [List.getElem?_append_right (by omega)] at hs
    obtain ⟨hh,e⟩:=List.getElem?_eq_some_iff.mp hs;have e0:p=j:=by simp at hh; omega
    have es:s=(x,zs):=by rw [<- e]; simp
    subst es;exact ⟨hz,lz,λ z=>sx0 (e0 ▸ z),λ z=>sx (e0 ▸ z)⟩
  ·rintro τ ⟨ss,x6,x7,x8,x9,l,h,rfl⟩
   exact ⟨_,HL rfl (bq (bu (ah e_v ax) rfl)),ss,rfl,by omega,by omega,h⟩
 obtain ⟨d,e,ss,rfl,h⟩:=yS key;exact ⟨ss,e,h⟩
end
end N16
end
section
namespace N16
open PySem L2
theorem mx {b:D->DS} {d:D} {ds:List D} {τ τ':List Sl} {r:Option Out} (h:b d τ=some (.next τ')) (h2:mV b ds τ'=r):mV b (d::ds) τ=r:=by
 rw [mV,h]; exact h2
theorem eqs {a b:Str} (h:a=b):oEq (.str a) (.str b)=some (.bl true):=by rw [fO,Zq h]
theorem nes {a b:Str} (h:a≠b):oEq (.str a) (.str b)=some (.bl false):=by rw [fO,Zn h]
theorem m8:∀ l:List Str,zy (l.map .str)=some (l.map V.str)
 | []=>rfl
 | x::l=>by
  show (scD (.str x)).bind (λ v=>(zy (l.map .str)).map (v::·))=_;rw [m8 l];rfl
theorem rM (p:Str):∀ l:List Str,inV (.str p) (l.map V.str)=decide (p ∈ l)
 | []=>by simp [inV]
 | x::l=>by
  have ih:=rM p l;unfold inV at *;rw [Zh,Y4,ih]
  by_cases h:p=x
  ·subst h
   simp [eqV]
  ·have h':¬ x=p:=λ z=>h z.symm
   simp [eqV,h,h']
theorem qc (p:Str) (l:List Str):Bp (.str p) (.lst (l.map .str))=some (.bl (decide (p ∈ l))):=by
 show (inS (.str p) (l.map .str)).map D.bl=_;unfold inS;rw [m8];show some (D.bl (inV (.str p) _))=_;rw [rM]
theorem rK:∀ ns:List Int,eQ (ns.map .int)=some ns
 | []=>rfl
 | n::ns=>by
  show (eQ (ns.map .int)).map _=_;rw [rK ns];rfl
theorem lH {ns:List Int} {k:Int} (hl:ns.length<=1000) (hk:k ∈ ns):Em (.lst (ns.map .int)) (.int k)=some (.int (ns.idxOf k:Nat)):=by
 show (eQ (ns.map .int)).bind _=_;rw [rK];exact if_pos ⟨hl,hk⟩
theorem vj {ns:List Int} (h:ns.Nodup):ns.reverse.Nodup:=by grind
theorem Ci {ns:List Int} {k:Int} (h:ns.Nodup) (hk:k ∈ ns):ns.reverse.idxOf k=ns.length - 1 - ns.idxOf k:=by
 have hi:=Y6.mpr hk;have hr:ns.length - 1 - ns.idxOf k < ns.reverse.length:=by rw [Xk]; omega
 have e:=(vj h).idxOf_getElem _ hr;rw [List.getElem_reverse] at e;simp only [show ns.length - 1 - (ns.length - 1 - ns.idxOf k)=ns.idxOf k by omega,List.getElem_idxOf hi] at e;exact e
structure eB (M:List B8) (i:Int) (b:B8) (rw:List Int):Prop where
 at_:fd M i=some b
 ro:(b.h=none/\rw=[i])\/∃ j bj,b.h=some j/\fd M j=some bj/\rw=bj.r
 mem:i ∈ rw
 nd:rw.Nodup
 len:rw.length<=1000
 ms:b.m.k.length < 64
 mm:∀ x,x ∈ b.m.l↔x ∈ b.m.k
def plc (k:Bool) (rw:List Int) (i:Int):Int:=if k=true then (rw.length:Int) - (rw.idxOf i:Nat) else (rw.idxOf i:Nat)+1
def FR (p f e:Int):Bool:=if e=0 then decide (p=f) else decide (p % e=f % e)
structure RdR (M:List B8) (R:D):Prop where
 at_:∀ i b,fd M i=some b->fg R (.int i)=some (.lst (b.r.map .int))
 nin:∀ i b,fd M i=some b->fP (.int i) R=some (.bl false)
def mlD (M:List B8):D:=.dct (kv (λ b=>.lst (b.m.l.map .str)) M)
section
variable {t:Adr} {gv:Int} {M:List B8} {i:Int} {b:B8} {rw:List Int}
theorem ni (S:eB M i b rw):mS t [trD t.af gv M,.int i]=some (.shr (.lst (rw.map .int))):=by
 unfold mS mR;refine bN (aY ((bf (c9 e_v (ah e_v ax) rfl (j6 S.at_) rfl)).trans rfl) (bq ?_));rcases S.ro with ⟨h,rfl⟩ | ⟨j,bj,h,hj,rfl⟩
 ·rw [h]
  exact KA (b:=true) (aE (az e_v e_c rfl)) (λ _=>eT (ah e_v ax) (Zb rfl)) nofun
 ·rw [h]
  exact KA (b:=false) (aE (az e_v e_c rfl)) nofun λ _=>c9 e_v (ah e_v ax) rfl (mN hj) rfl
theorem sH (S:eB M i b rw):kP t [trD t.af gv M,.int i]=some (.shr (.tup [.int ((rw.idxOf i:Nat)+1),.int (rw.length:Int)])):=by
 unfold kP kJ;exact bN (aY ((bf (cZ (ah e_v (ah e_v ax)) (ni S) rfl)).trans rfl) (bq (mB (ah (az (az e_v e_v (lH S.len S.mem)) e_c (aP _ _)) (ah (bu (ah e_v ax) (yA rw)) ax)) (Zb rfl))))
theorem t4 (p f:Int) {e:Int} (he:0<=e):f9 [.int p,.int f,.int e]=some (.shr (.bl (FR p f e))):=by
 unfold f9 fU FR;have t0:=b9 e 0;refine bN ?_
 by_cases h:e=0
 ·rw [Zq h] at t0
  rw [if_pos h];exact b8 (aE (az e_v e_c t0)) (bq (az e_v e_v (b9 _ _)))
 ·rw [Zn h] at t0
  rw [if_neg h];exact aR (aE (az e_v e_c t0)) (bq (az (az e_v e_v (aQ (by omega))) (az e_v e_v (aQ (by omega))) (b9 _ _)))
theorem F3 (vs:List Bool):K8 [.lst (vs.map .bl)]=some (.bl (vs.any id)):=by
 have e:∀ vs:List Bool,ug (vs.map .bl)=some vs:=λ vs=>by
  induction vs with
  | nil=>rfl
  | cons v vs ih =>
   show (ug (vs.map .bl)).map _=_;rw [ih];rfl
 show (ug (vs.map .bl)).map _=_;rw [e];rfl
theorem vC {P:D->Bool->Prop}:∀ {ds:List D},(∀ (j:Nat) (d:D),ds[j]?=some d->∃ v,P d v)->∃ vs:List Bool,vs.length=ds.length/\∀ (j:Nat) (d:D) (v:Bool),ds[j]?=some d->vs[j]?=some v->P d v
 | [],_=>⟨[],rfl,λ j d v h=>by simp at h⟩
 | d::ds,h=>by
  obtain ⟨v,p⟩:=h 0 d rfl;obtain ⟨vs,l,q⟩:=vC (P:=P) (ds:=ds) λ j d e=>h (j+1) d (by simpa using e)
  refine ⟨v::vs,by simp [l],λ j d' v' h1 h2=>?_⟩
  cases j with
  | zero=>simp at h1 h2; subst h1 h2; exact p
  | succ j=>exact q j d' v' (by simpa using h1) (by simpa using h2)
theorem zY {g:D->Option D}:∀ {ds:List D} {vs:List Bool},vs.length=ds.length->(∀ (j:Nat) (d:D) (v:Bool),ds[j]?=some d->vs[j]?=some v->g d=some (.bl v))->ud g ds=some (vs.map .bl)
 | [],[],_,_=>rfl
 | [],_::_,h,_=>by cases h
 | _::_,[],h,_=>by cases h
 | d::ds,v::vs,h,hh=>by
  have e:=zY (g:=g) (ds:=ds) (vs:=vs) (by simpa using h) λ j d v h1 h2=>hh (j+1) d v (by simpa using h1) (by simpa using h2)
  simp only [ud,hh 0 d v rfl rfl,e];rfl
theorem Ac {G:List D->Option Sl} {a0 a1 a2 a3 a4:D} {s5 s7 s8:Sl}:∀ {ds:List D} {vs:List Bool} (s6:Sl),vs.length=ds.length->(∀ (j:Nat) (d:D) (v:Bool),ds[j]?=some d->vs[j]?=some v->G [a0,a1,a2,d,a4]=some (.shr (.bl v))) ->
    ∃ s6',mV (λ d τ=>(gN 6 d τ).bind (sIf (dT (dFn G (ay (aB 0) (ay (aB 1) (ay (aB 2) (ay (aB 6) (ay (aB 4) c5))))))) (qT (dC (.bl true))) gE)) ds [.shr a0,.shr a1,.shr a2,.shr a3,.shr a4,s5,s6,s7,s8] =
      if vs.any id=true then some (.ret (.shr (.bl true))) else some (.next [.shr a0,.shr a1,.shr a2,.shr a3,.shr a4,s5,s6',s7,s8])
  | [],[],s6,_,_=>⟨s6,rfl⟩
  | [],_::_,_,h,_=>by cases h
  | _::_,[],_,h,_=>by cases h
  | d :: ds,v::vs,s6,h,hh=>by
    have h0:=hh 0 d v rfl rfl;have t:dT (dFn G (ay (aB 0) (ay (aB 1) (ay (aB 2) (ay (aB 6) (ay (aB 4) c5)))))) [.shr a0,.shr a1,.shr a2,.shr a3,.shr a4,s5,.shr d,s7,s8]=some v:=aE (cZ (ah (aU rfl) (ah (aU rfl) (ah (aU rfl) (ah (aU rfl) (ah (aU rfl) ax))))) h0 rfl)
    cases v with
    | true =>
      refine ⟨s6,?_⟩;show (match (sIf _ _ _ [.shr a0,.shr a1,.shr a2,.shr a3,.shr a4,s5,.shr d,s7,s8]:Option Out) with | some (.next τ')=>_ | some (.cnt τ')=>_ | some (.brk τ')=>_ | r=>r)=_;rw [mU (b:=true) (r:=some (.ret (.shr (.bl true)))) t (λ _=>bq e_c) nofun];rfl
    | false =>
      obtain ⟨s6',e⟩:=Ac (a3:=a3) (s5:=s5) (s7:=s7) (s8:=s8) (.shr d) (by simpa using h) λ j d v h1 h2=>hh (j+1) d v (by simpa using h1) (by simpa using h2)
      refine ⟨s6',?_⟩;rw [show ((false::vs).any id)=vs.any id from rfl,<- e];exact mx (τ':=[.shr a0,.shr a1,.shr a2,.shr a3,.shr a4,s5,.shr d,s7,s8]) (mU (b:=false) t nofun λ _=>rfl) rfl
end
theorem d8 {k:Bool} {x:Str} (h:("back":Str)≠x/\("front":Str)≠x):oEq (.str (kT k)) (.str x)=some (.bl false):=by
 cases k
 · exact nes h.2
 · exact nes h.1
theorem BV (x:Str) (ss:List Str):x ∈ CV ss↔x ∈ ss:=(List.mergeSort_perm ss leS).mem_iff
section
variable {t:Adr} {gv:Int} {M:List B8} {i:Int} {b:B8} {rw:List Int} {R:D} {F G:List D->Option Sl}
theorem has_any:cc 6 3 (aX t F).1 [trD t.af gv M,.int i,.tup [.str "any"]]=some (.shr (.bl true)):=by rfl
theorem yM (S:eB M i b rw) (x:Str):cc 6 3 (aX t F).1 [trD t.af gv M,.int i,.tup [.str "name",.str x]]=some (.shr (.bl (decide (b.n=x)))):=by
 unfold aX;dsimp only;refine bN (aY (bf (az e_v e_c (bS _ _))) ?_);refine aR (aE (az e_v e_c (nes (by decide)))) ?_
 exact b8 (aE (az e_v e_c (eqs rfl))) (bq (az (c9 e_v (ah e_v ax) rfl (Bu S.at_) rfl) (az e_v e_c (cQ _ _ _)) (fO _ _)))
theorem yN (S:eB M i b rw) (x:Str):cc 6 3 (aX t F).1 [trD t.af gv M,.int i,.tup [.str "mark",.str x]]=some (.shr (.bl (decide (x ∈ b.m.k)))):=by
 unfold aX;dsimp only;refine bN (aY (bf (az e_v e_c (bS _ _))) ?_);refine aR (aE (az e_v e_c (nes (by decide)))) ?_
 refine aR (aE (az e_v e_c (nes (by decide)))) ?_
 refine b8 (aE (az e_v e_c (eqs rfl))) (bq (az (az e_v e_c (cQ _ _ _)) (c9 e_v (ah e_v ax) rfl (yu S.at_ S.ms) rfl) ?_));rw [qc];congr 3;exact propext (BV x b.m.k)
theorem Co {d:D} {v:Bool} (h:F [trD t.af gv M,.int i,d]=some (.shr (.bl v))):cc 6 3 (aX t F).1 [trD t.af gv M,.int i,.tup [.str "not",d]]=some (.shr (.bl (!v))):=by
 unfold aX;dsimp only;refine bN (aY (bf (az e_v e_c (bS _ _))) ?_);refine aR (aE (az e_v e_c (nes (by decide)))) ?_
 refine aR (aE (az e_v e_c (nes (by decide)))) ?_
 refine aR (aE (az e_v e_c (nes (by decide)))) ?_
 exact b8 (aE (az e_v e_c (eqs rfl))) (bq (FN (cZ (ah e_v (ah e_v (ah (az e_v e_c (cQ _ _ _)) ax))) h rfl)))
theorem Cn {ds:List D} {vs:List Bool} (hl:vs.length=ds.length) (h3:ds.length<=100) (h:∀ (j:Nat) (d:D) (v:Bool),ds[j]?=some d->vs[j]?=some v->F [trD t.af gv M,.int i,d]=some (.shr (.bl v))) :
  cc 6 3 (aX t F).1 [trD t.af gv M,.int i,.tup [.str "one",.tup ds]]=some (.shr (.bl (vs.any id))):=by
 unfold aX;dsimp only;refine bN (aY (bf (az e_v e_c (bS _ _))) ?_);refine aR (aE (az e_v e_c (nes (by decide)))) ?_
 refine aR (aE (az e_v e_c (nes (by decide)))) ?_
 refine aR (aE (az e_v e_c (nes (by decide)))) ?_
 refine aR (aE (az e_v e_c (nes (by decide)))) ?_
 refine b8 (aE (az e_v e_c (eqs rfl))) (bq (bu (ah (oz (tH (az e_v e_c (cQ _ _ _))) (by omega) (zY hl λ j d v h1 h2=>?_)) ax) (F3 vs)));exact cZ (ah e_v (ah e_v (ah e_v ax))) (h j d v h1 h2) rfl
theorem yL (S:eB M i b rw) (k:Bool) (f:Int) {e:Int} (he:0<=e):cc 6 3 (aX t F).1 [trD t.af gv M,.int i,.tup [.str (kT k),.int f,.int e]]=some (.shr (.bl (FR (plc k rw i) f e))):=by
 unfold aX;dsimp only;refine bN (aY (bf (az e_v e_c (bS _ _))) ?_);refine aR (aE (az e_v e_c (d8 (by decide)))) ?_
 refine aR (aE (az e_v e_c (d8 (by decide)))) ?_
 refine aR (aE (az e_v e_c (d8 (by decide)))) ?_
 refine aR (aE (az e_v e_c (d8 (by decide)))) ?_
 refine aR (aE (az e_v e_c (d8 (by decide)))) ?_
 refine aY (bf (cZ (ah e_v (ah e_v ax)) (sH S) rfl)) ?_
 have ef:oEq (.str (kT k)) (.str "front")=some (.bl (!k)):=by
  cases k
  · exact eqs rfl
  · exact nes (by decide)
 refine aY (bf (d:=.int (plc k rw i)) (KA (aE (az e_v e_c ef)) (λ h=>?_) (λ h=>?_))) ?_
 ·have hk:k=false:=by simpa using h
  subst hk;exact az e_v e_c (bS _ _)
 ·have hk:k=true:=by simpa using h
  subst hk;refine az (az (az e_v e_c (cQ _ _ _)) (az e_v e_c (bS _ _)) (dg _ _)) e_c ((aP _ _).trans ?_);congr 2;show (rw.length:Int) - ((rw.idxOf i:Nat)+1)+1=(rw.length:Int) - (rw.idxOf i:Nat);omega
 · exact bq (cZ (ah e_v (ah (az e_v e_c (cQ _ _ _)) (ah (az e_v e_c (jW _ _ _ _)) ax))) (t4 _ _ he) rfl)
theorem qg (S:eB M i b rw):fg (faD M) (.int i)=some (.tup [hD b.h,.str b.n]):=ck S.at_
theorem B3:cc 9 5 (ba G).1 [R,faD M,mlD M,.tup [.str "any"],.int i]=some (.shr (.bl true)):=by rfl
theorem yD (S:eB M i b rw) (x:Str):cc 9 5 (ba G).1 [R,faD M,mlD M,.tup [.str "name",.str x],.int i]=some (.shr (.bl (decide (b.n=x)))):=by
 unfold ba;dsimp only;refine bN (aY (bf (az e_v e_c (bS _ _))) ?_);exact b8 (aE (az e_v e_c (eqs rfl))) (bq (az (az (az e_v e_v (qg S)) e_c (cQ _ _ _)) (az e_v e_c (cQ _ _ _)) (fO _ _)))
theorem yE (S:eB M i b rw) (x:Str):cc 9 5 (ba G).1 [R,faD M,mlD M,.tup [.str "mark",.str x],.int i]=some (.shr (.bl (decide (x ∈ b.m.k)))):=by
 unfold ba;dsimp only;refine bN (aY (bf (az e_v e_c (bS _ _))) ?_);refine aR (aE (az e_v e_c (nes (by decide)))) ?_
 refine b8 (aE (az e_v e_c (eqs rfl))) (bq (az (az e_v e_c (cQ _ _ _)) (az e_v e_v (ck S.at_)) ?_));rw [qc];congr 3;exact propext (S.mm x)
theorem B1 {d:D} {v:Bool} (h:G [R,faD M,mlD M,d,.int i]=some (.shr (.bl v))):cc 9 5 (ba G).1 [R,faD M,mlD M,.tup [.str "not",d],.int i]=some (.shr (.bl (!v))):=by
 unfold ba;dsimp only;refine bN (aY (bf (az e_v e_c (bS _ _))) ?_);refine aR (aE (az e_v e_c (nes (by decide)))) ?_
 refine aR (aE (az e_v e_c (nes (by decide)))) ?_
 exact b8 (aE (az e_v e_c (eqs rfl))) (bq (FN (cZ (ah e_v (ah e_v (ah e_v (ah (az e_v e_c (cQ _ _ _)) (ah e_v ax))))) h rfl)))
theorem B0 {ds:List D} {vs:List Bool} (hl:vs.length=ds.length) (h:∀ (j:Nat) (d:D) (v:Bool),ds[j]?=some d->vs[j]?=some v->G [R,faD M,mlD M,d,.int i]=some (.shr (.bl v))) :
  cc 9 5 (ba G).1 [R,faD M,mlD M,.tup [.str "one",.tup ds],.int i]=some (.shr (.bl (vs.any id))):=by
 unfold ba;dsimp only;refine bN (aY (bf (az e_v e_c (bS _ _))) ?_);refine aR (aE (az e_v e_c (nes (by decide)))) ?_
 refine aR (aE (az e_v e_c (nes (by decide)))) ?_
 refine aR (aE (az e_v e_c (nes (by decide)))) ?_
 refine b8 (aE (az e_v e_c (eqs rfl))) ?_
 obtain ⟨s6,e⟩:=Ac .no hl h
 have ef:AK (yI (dOp oIx (aB 3) (dC (.int 1)))) (gN 6) (sIf (dT (dFn G (ay (aB 0) (ay (aB 1) (ay (aB 2) (ay (aB 6) (ay (aB 4) c5))))))) (qT (dC (.bl true))) gE) [.shr (R),.shr (faD M),.shr (mlD M),.shr (.tup [.str "one",.tup ds]),.shr (.int i),.shr (.str "one"),.no,.no,.no]=(if vs.any id=true then some (.ret (.shr (.bl true))) else some (.next [.shr (R),.shr (faD M),.shr (mlD M),.shr (.tup [.str "one",.tup ds]),.shr (.int i),.shr (.str "one"),s6,.no,.no])):=by
  unfold AK;rw [tH (az e_v e_c (cQ _ _ _))];exact e
 cases hv:vs.any id with
 | true =>
  rw [hv] at ef;exact lu ef
 | false =>
  rw [hv] at ef;exact aY ef (bq e_c)
theorem yC (hR:RdR M R) (S:eB M i b rw) (k:Bool) (f:Int) {e:Int} (he:0<=e):cc 9 5 (ba G).1 [R,faD M,mlD M,.tup [.str (kT k),.int f,.int e],.int i]=some (.shr (.bl (FR (plc k rw i) f e))):=by
 unfold ba;dsimp only;refine bN (aY (bf (az e_v e_c (bS _ _))) ?_);refine aR (aE (az e_v e_c (d8 (by decide)))) ?_
 refine aR (aE (az e_v e_c (d8 (by decide)))) ?_
 refine aR (aE (az e_v e_c (d8 (by decide)))) ?_
 refine aR (aE (az e_v e_c (d8 (by decide)))) ?_
 refine aR (aE (az e_v e_c (d8 (by decide)))) ?_
 refine aY (bf (eT (ah e_v ax) (Zb rfl))) ?_
 refine aY (τ':=[.shr (R),.shr (faD M),.shr (mlD M),.shr (.tup [.str (kT k),.int f,.int e]),.shr (.int i),.shr (.str (kT k)),.no,.shr (.lst (rw.map .int)),.no]) ?_ ?_
 ·rcases S.ro with ⟨h,rfl⟩ | ⟨j,bj,h,hj,rfl⟩
  ·have fi:=qg S
   rw [h] at fi;exact mU (aE (az (az (az e_v e_v fi) e_c (bS _ _)) e_c rfl)) nofun λ _=>rfl
  ·have fi:=qg S
   rw [h] at fi;exact mU (aE (az (az (az e_v e_v fi) e_c (bS _ _)) e_c rfl)) (λ _=>(bf (bu (ah (az e_v (az (az e_v e_v fi) e_c (bS _ _)) (hR.at_ _ _ hj)) ax) rfl)).trans rfl) nofun
 have hr:=List.mem_reverse.mpr S.mem;have hi:=Y6.mpr S.mem;refine aY (τ':=[.shr (R),.shr (faD M),.shr (mlD M),.shr (.tup [.str (kT k),.int f,.int e]),.shr (.int i),.shr (.str (kT k)),.no,.shr (.lst ((if k=true then rw.reverse else rw).map .int)),.no]) ?_ ?_
 ·cases k
  · exact mU (b:=false) (aE (az e_v e_c (nes (by decide)))) nofun λ _=>rfl
  ·refine mU (b:=true) (aE (az e_v e_c (eqs rfl))) (λ _=>(bf (d:=.lst (rw.reverse.map .int)) ?_).trans rfl) nofun
   unfold Di;rw [aU rfl];show some (D.lst (rw.map D.int).reverse)=_;rw [List.map_reverse]
 have ex:Em (.lst ((if k=true then rw.reverse else rw).map .int)) (.int i)=some (.int (plc k rw i - 1)):=by
  cases k
  ·refine (lH S.len S.mem).trans ?_
   congr 2;show _=((rw.idxOf i:Nat):Int)+1 - 1;omega
  ·refine (lH (by rw [Xk]; exact S.len) hr).trans ?_
   rw [Ci S.nd S.mem];congr 2;show _=(rw.length:Int) - (rw.idxOf i:Nat) - 1;omega
 refine aY (bf (d:=.int (plc k rw i)) (az (az e_v e_v ex) e_c ((aP _ _).trans (by congr 2; omega)))) ?_
 have t0:=b9 e 0;unfold FR
 by_cases h:e=0
 ·rw [Zq h] at t0
  rw [if_pos h];exact b8 (aE (az (az e_v e_c (jW _ _ _ _)) e_c t0)) (bq (az e_v (az e_v e_c (cQ _ _ _)) (b9 _ _)))
 ·rw [Zn h] at t0
  rw [if_neg h];refine aR (aE (az (az e_v e_c (jW _ _ _ _)) e_c t0)) (bq (az (az (az e_v (az e_v e_c (cQ _ _ _)) (dg _ _)) (az e_v e_c (jW _ _ _ _)) (aQ (by omega))) e_c ((b9 _ _).trans ?_)));congr 2;exact Xp.mpr Int.emod_eq_emod_iff_emod_sub_eq_zero.symm
theorem rO {n:Nat} {d:D} (hR:RdR M R) (S:eB M i b rw) (h:Tr n d) (hF:∀ m,n=m+1->∀ d,Tr m d->∃ v,F [trD t.af gv M,.int i,d]=some (.shr (.bl v))/\G [R,faD M,mlD M,d,.int i]=some (.shr (.bl v))) :
  ∃ v,cc 6 3 (aX t F).1 [trD t.af gv M,.int i,d]=some (.shr (.bl v))/\cc 9 5 (ba G).1 [R,faD M,mlD M,d,.int i]=some (.shr (.bl v)):=by
 cases h with
 | any=>exact ⟨_,has_any,B3⟩
 | name _ x=>exact ⟨_,yM S x,yD S x⟩
 | mark _ x=>exact ⟨_,yN S x,yE S x⟩
 | F7 _ k f e he=>exact ⟨_,yL S k f he,yC hR S k f he⟩
 | neg m d' h' =>
  obtain ⟨v,e1,e2⟩:=hF m rfl d' h';exact ⟨_,Co e1,B1 e2⟩
 | one m ds h3 h' =>
  obtain ⟨vs,lv,hv⟩:=vC λ j d hd=>hF m rfl d (h' d (List.mem_of_getElem? hd))
  exact ⟨_,Cn lv h3 λ j d v a c=>(hv j d v a c).1,B0 lv λ j d v a c=>(hv j d v a c).2⟩
theorem Fg (hR:RdR M R) (S:eB M i b rw):∀ (n:Nat) {d:D},Tr n d->∃ v,cM t (n+1) [trD t.af gv M,.int i,d]=some (.shr (.bl v))/\dB (n+1) [R,faD M,mlD M,d,.int i]=some (.shr (.bl v))
 | 0,d,h=>rO (F:=cM t 0) (G:=dB 0) hR S h λ m e=>by cases e
 | n+1,d,h=>rO (F:=cM t (n+1)) (G:=dB (n+1)) hR S h λ m e d h=>by cases e; exact Fg hR S n h
theorem Tr.up {n:Nat} {d:D} (h:Tr n d):Tr (n+1) d:=by
 induction h with
 | any n=>exact .any _
 | name n x=>exact .name _ x
 | mark n x=>exact .mark _ x
 | F7 n k f e h=>exact .F7 _ k f e h
 | neg n d h ih=>exact .neg _ d ih
 | one n ds h3 h ih=>exact .one _ ds h3 ih
theorem Fh (hR:RdR M R) (S:eB M i b rw) {d:D} (h:Tr 2 d):∃ v,dU t [trD t.af gv M,.int i,d]=some (.shr (.bl v))/\dD [R,faD M,mlD M,d,.int i]=some (.shr (.bl v)):=Fg hR S 3 h.up
end
end N16
end
section
namespace N16
open PySem L2
theorem qR:∀ l:List Int,zy (l.map .int)=some (l.map V.int)
 | []=>rfl
 | i::l=>by
  show (scD (.int i)).bind (λ v=>(zy (l.map .int)).map (v::·))=_;rw [qR l];rfl
theorem vW (j:Int):∀ l:List Int,inV (.int j) (l.map V.int)=decide (j ∈ l)
 | []=>by simp [inV]
 | k::l=>by
  have ih:=vW j l;unfold inV at *;simp only [Zh,Y4,ih,Zi,Bool.decide_or];congr 1;show decide (k=j)=decide (j=k);rw [Xp];omega
theorem Br (j:Int) (l:List Int):jV (.int j) (.lst (l.map .int))=some (.bl (!decide (j ∈ l))):=by
 show (inS (.int j) (l.map .int)).map (λ b=>D.bl !b)=_;unfold inS;rw [qR];show some (D.bl (!inV (.int j) _))=_;rw [vW]
theorem FQ (r:List Int) (lo hi:Option Int):oSl (.lst (r.map .int)) lo hi=some (.lst (((r.drop (HT.sIx r.length 0 lo)).take (HT.sIx r.length r.length hi - HT.sIx r.length 0 lo)).map .int)):=by
 show some (D.lst (cutD (r.map .int) lo hi))=_;unfold cutD;rw [Za,<- X4,<- X3]
theorem DL (r:List Int) (n:Nat):oSl (.lst (r.map .int)) none (some (n:Int))=some (.lst ((r.take n).map .int)):=by
 rw [FQ,HT.pG,HT.qU,List.drop_zero,Nat.sub_zero];congr 3;exact List.take_eq_take_iff.mpr (by omega)
theorem xI (r:List Int):oSl (.lst (r.map .int)) (some (-1)) none=some (.lst ((r.drop (r.length - 1)).map .int)):=by
 have e:HT.sIx r.length 0 (some (-1))=r.length - 1:=by
  show (if (-1:Int) < 0 then (-1+(r.length:Int)).toNat else min (-1:Int).toNat r.length)=_;rw [if_pos (by decide)];omega
 rw [FQ,e,HT.qU,List.take_of_length_le (by rw [Yv]; exact Zl _)]
section
variable {t:Adr} {gv:Int} {M:List B8} {i:Int} {b:B8} {rw l:List Int} {R:D}
theorem so (S:eB M i b rw):qK t [trD t.af gv M,.int i]=some (.own (.lst ((rw.take (rw.idxOf i)).map .int))):=by
 unfold qK qJ;exact bN (aY ((bf (cZ (ah e_v (ah e_v ax)) (ni S) rfl)).trans rfl) (jJ (Cy e_v yj (fL (az e_v e_v (lH S.len S.mem))) (DL rw _))))
def jnL (j:Str) (rw l:List Int) (i:Int):List Int :=
 if j=" " then l else if j=">" then l.take 1 else if j="+" then (rw.take (rw.idxOf i)).drop ((rw.take (rw.idxOf i)).length - 1) else rw.take (rw.idxOf i)
theorem nV (S:eB M i b rw) (L:Hl M i l) (hl:l.length < 1000) (j:Str):cN t [trD t.af gv M,.str j,.int i]=some (.own (.lst ((jnL j rw l i).map .int))):=by
 unfold cN gV jnL;refine bN ?_
 by_cases h1:j=" "
 ·rw [if_pos h1]
  exact b8 (aE (az e_v e_c (eqs h1))) (jJ (Cz (ah e_v (ah e_v ax)) (iH L hl) rfl))
 rw [if_neg h1];refine aR (aE (az e_v e_c (nes h1))) ?_
 by_cases h2:j=">"
 ·rw [if_pos h2]
  exact b8 (aE (az e_v e_c (eqs h2))) (jJ (Cy (cZ (ah e_v (ah e_v ax)) (iH L hl) rfl) yj (fL e_c) (DL l 1)))
 rw [if_neg h2];refine aR (aE (az e_v e_c (nes h2))) ?_
 by_cases h3:j="+"
 ·rw [if_pos h3]
  exact b8 (aE (az e_v e_c (eqs h3))) (jJ (Cy (cZ (ah e_v (ah e_v ax)) (so S) rfl) (fL (FK e_c rfl)) yj (xI _)))
 rw [if_neg h3];refine aR (aE (az e_v e_c (nes h3))) ?_
 exact jJ (Cz (ah e_v (ah e_v ax)) (so S) rfl)
theorem Ae (h:fd M i=some b):fg (faD M) (.int i)=some (.tup [hD b.h,.str b.n]):=ck h
theorem vF {x:Int} (L:Hl M i l) {a0 a2 a4:D}:∀ (b:B8),fd M i=some b->bR (dT (dOp kZ (aB 5) (dC .non))) (g9 (sIf (dT (dOp oEq (aB 5) (aB 3))) (qT (dC (.bl true))) gE) (xu 5 (dOp oIx (dOp fg (aB 1) (aB 5)) (dC (.int 0))))) (l.length+1) [.shr a0,.shr (faD M),.shr a2,.shr (.int x),.shr a4,.shr (hD b.h),.no]=if x ∈ l then some (.ret (.shr (.bl true))) else some (.next [.shr a0,.shr (faD M),.shr a2,.shr (.int x),.shr a4,.shr .non,.no]):=by
 induction L with
 | @top i b h e =>
  intro b' hb;rw [h] at hb;cases hb;rw [e,if_neg Z8];have t1:dT (dOp kZ (aB 5) (dC .non)) [.shr a0,.shr (faD M),.shr a2,.shr (.int x),.shr a4,.shr (hD none),.no]=some false:=rfl;unfold bR;rw [t1];rfl
 | @up i j l b h e c ih =>
  intro b' hb;rw [h] at hb;cases hb;obtain ⟨bj,hj⟩:=c.get;rw [e];have t1:dT (dOp kZ (aB 5) (dC .non)) [.shr a0,.shr (faD M),.shr a2,.shr (.int x),.shr a4,.shr (hD (some j)),.no]=some true:=rfl;have t3:dT (dOp oEq (aB 5) (aB 3)) [.shr a0,.shr (faD M),.shr a2,.shr (.int x),.shr a4,.shr (hD (some j)),.no]=some (decide (j=x)):=aE (az e_v e_v (b9 _ _))
  conv=>lhs; unfold bR
  rw [t1]
  by_cases hx:j=x
  ·rw [Zq hx] at t3
   rw [if_pos (by rw [hx]; exact Ze ..)];have t2:g9 (sIf (dT (dOp oEq (aB 5) (aB 3))) (qT (dC (.bl true))) gE) (xu 5 (dOp oIx (dOp fg (aB 1) (aB 5)) (dC (.int 0)))) [.shr a0,.shr (faD M),.shr a2,.shr (.int x),.shr a4,.shr (hD (some j)),.no]=some (.ret (.shr (.bl true))):=b8 t3 (bq e_c);simp only [t2]
  ·rw [Zn hx] at t3
   have t2:g9 (sIf (dT (dOp oEq (aB 5) (aB 3))) (qT (dC (.bl true))) gE) (xu 5 (dOp oIx (dOp fg (aB 1) (aB 5)) (dC (.int 0)))) [.shr a0,.shr (faD M),.shr a2,.shr (.int x),.shr a4,.shr (hD (some j)),.no]=some (.next [.shr a0,.shr (faD M),.shr a2,.shr (.int x),.shr a4,.shr (hD bj.h),.no]) :=
    aR t3 ((bf (az (az e_v e_v (Ae hj)) e_c (bS _ _))).trans rfl)
   simp only [t2];refine (ih bj hj).trans ?_
   have:(x ∈ l)=(x ∈ j::l):=propext ⟨λ z=>Zd _ z,λ z=>(Zi.mp z).elim (λ e=>absurd e.symm hx) id⟩;simp only [this]
theorem vX:∀ {r:List Int} {n:Nat} {x:Int},x ∈ r.take n↔x ∈ r/\r.idxOf x < n
 | [],n,x=>by simp
 | y::r,0,x=>by simp
 | y::r,n+1,x=>by
  rw [List.take_succ_cons,Zi,Zi,List.idxOf_cons,vX]
  by_cases h:y=x
  · subst h; simp
  ·have h':x≠y:=λ z=>h z.symm
   have hb:(y == x)=false:=by simpa using h
   simp [h',hb]
theorem rN {r:List Int} {n:Nat} {x:Int} (nd:r.Nodup) (hn:n<=r.length):x ∈ (r.take n).drop ((r.take n).length - 1)↔x ∈ r/\r.idxOf x+1=n:=by
 cases n with
 | zero=>simp
 | succ m =>
  have hm:=hn
  have e:(r.take (m+1)).drop ((r.take (m+1)).length - 1)=[r[m]]:=by
   rw [Z1,Nat.min_eq_left hn,Nat.add_sub_cancel,List.take_add_one,List.getElem?_eq_getElem hm,List.drop_append_of_le_length (by rw [Z1]; omega),List.drop_take_self];rfl
  rw [e,Zr];constructor
  ·rintro rfl
   exact ⟨Xn hm,by rw [nd.idxOf_getElem _ hm]⟩
  ·rintro ⟨h1,h2⟩
   have hx:=List.getElem_idxOf (Y6.mpr h1);have:r.idxOf x=m:=by omega
   simp only [this] at hx;exact hx.symm
theorem rD (hR:RdR M R) (S:eB M i b rw) (L:Hl M i l) (j:Str) (hj:j ∈ tF) (x:Int):cv [R,faD M,.str j,.int x,.int i]=some (.shr (.bl (decide (x ∈ jnL j rw l i)))):=by
  unfold cv fY;have fi:=Ae S.at_;refine bN (aY ((bf (az (az e_v e_v fi) e_c (bS _ _))).trans rfl) ?_)
  by_cases h1:j=">"
  · subst h1
    refine b8 (aE (az e_v e_c (eqs rfl))) (bq ?_);show _=some (D.bl (decide (x ∈ l.take 1)))
    cases L with
    | top h e => 
      rw [S.at_] at h;cases h;rw [e];rfl
    | @up _ j' l' _ h e c =>
      rw [S.at_] at h;cases h;rw [e];refine je (az e_v e_c rfl) (az e_v e_v ((b9 _ _))) |>.trans ?_
      rw [Bool.true_and];congr 2;exact Xp.mpr ⟨λ z=>by rw [z]; exact Ze ..,λ z=>by simpa [eq_comm] using z⟩
  refine aR (aE (az e_v e_c (nes h1))) ?_
  by_cases h2:j=" "
  · subst h2
    refine b8 (aE (az e_v e_c (eqs rfl))) ?_
    show _=some (Out.ret (.shr (.bl (decide (x ∈ l)))));have w:=vF (x:=x) (a0:=R) (a2:=.str " ") (a4:=.int i) L b S.at_
    by_cases hx:x ∈ l
    · rw [if_pos hx] at w
      rw [Zq hx];exact lu (fI w)
    · rw [if_neg hx] at w
      rw [Zn hx];exact aY (fI w) (bq e_c)
  refine aR (aE (az e_v e_c (nes h2))) ?_
  have ejn:jnL j rw l i=if j="+" then (rw.take (rw.idxOf i)).drop ((rw.take (rw.idxOf i)).length - 1) else rw.take (rw.idxOf i):=by
    unfold jnL;rw [if_neg h2,if_neg h1]
  have hi:=Y6.mpr S.mem;rcases S.ro with ⟨h,hrw⟩ | ⟨k,bk,h,hk,hrw⟩
  · rw [h]
    have e0:jnL j rw l i=[]:=by
      rw [ejn,hrw];simp
    rw [e0,Zn Z8];exact b8 (Dw (b:=true) (aE (az e_v e_c rfl)) nofun λ _=>rfl) (bq e_c)
  · rw [h]
    have er:=hR.at_ _ _ hk;rw [<- hrw] at er;have tn:∀ {τ:List Sl},τ[0]?=some (.shr R)->τ[3]?=some (.shr (.int x))->τ[5]?=some (.shr (.int k))->dOr (dT (dOp Gb (aB 5) (dC .non))) (dT (dOp jV (aB 3) (dOp fg (aB 0) (aB 5)))) τ=some (!decide (x ∈ rw)):=λ h0 h3 h5=>Dw (aE (az (aU h5) e_c rfl)) (λ _=>aE (az (aU h3) (az (aU h0) (aU h5) er) (Br x rw))) nofun
    by_cases hx:x ∈ rw
    · have t1:=tn (τ:=[.shr R,.shr (faD M),.shr (.str j),.shr (.int x),.shr (.int i),.shr (.int k),.no]) rfl rfl rfl
      rw [Zq hx] at t1;refine aR t1 ?_
      refine aY ((bf (az (az (az e_v e_v er) e_v (lH S.len S.mem)) (az (az e_v e_v er) e_v (lH S.len hx)) (dg _ _))).trans rfl) (bq ?_);have e1:=b9 (((rw.idxOf i:Nat):Int) - (rw.idxOf x:Nat)) 1;have e2:oGt (.int (((rw.idxOf i:Nat):Int) - (rw.idxOf x:Nat))) (.int 1)=some (.bl (decide (1 < ((rw.idxOf i:Nat):Int) - (rw.idxOf x:Nat)))):=rfl;refine (yW (az e_v e_c e1) (je (az e_v e_c (fO _ _)) (az e_v e_c e2))).trans ?_
      rw [ejn];congr 2
      by_cases h3:j="+"
      · subst h3
        rw [if_pos rfl,Zn (show ¬ ("+":Str)="~" by decide),Bool.false_and,Bool.or_false];exact Xp.mpr ⟨λ z=>(rN S.nd (by omega)).mpr ⟨hx,by omega⟩,λ z=>by have:=((rN S.nd (by omega)).mp z).2; omega⟩
      · have h4:j="~":=by
          unfold tF at hj;simp [h1,h2,h3] at hj;exact hj
        subst h4;rw [if_neg h3,Zq rfl,Bool.true_and,<- Bool.decide_or];exact Xp.mpr ⟨λ z=>vX.mpr ⟨hx,by omega⟩,λ z=>by have:=(vX.mp z).2; omega⟩
    · have t1:=tn (τ:=[.shr R,.shr (faD M),.shr (.str j),.shr (.int x),.shr (.int i),.shr (.int k),.no]) rfl rfl rfl
      rw [Zn hx] at t1
      have:x ∉ jnL j rw l i:=λ z=>by
        rw [ejn] at z;split at z
        · exact hx (Yt (Xi z))
        · exact hx (Yt z)
      rw [Zn this];exact b8 t1 (bq e_c)
end
end N16
end
section
namespace N16
open PySem L2
theorem ka {b:D->DS} {ds:List D} {v:D->Bool} {s:Sl} {Q:List Sl->Prop} (hT:∀ d ∈ ds,v d=true->∀ τ,Q τ->b d τ=some (.ret s)) (hF:∀ d ∈ ds,v d=false->∀ τ,Q τ->∃ τ',b d τ=some (.next τ')/\Q τ'):∀ {τ:List Sl},Q τ->(ds.any v=true->mV b ds τ=some (.ret s))/\(ds.any v=false->∃ τ',mV b ds τ=some (.next τ')/\Q τ'):=by
 induction ds with
 | nil=>intro τ q; exact ⟨λ h=>by simp at h,λ _=>⟨τ,rfl,q⟩⟩
 | cons d ds ih =>
  intro τ q;rw [Y4]
  cases hv:v d with
  | true =>
   have e:=hT d (Ze ..) hv τ q;refine ⟨λ _=>?_,λ h=>by simp at h⟩;show (match b d τ with | some (.next τ')=>mV b ds τ' | some (.cnt τ')=>mV b ds τ' | some (.brk τ')=>some (.next τ') | r=>r)=_;rw [e]
  | false =>
   obtain ⟨τ',e,q'⟩:=hF d (Ze ..) hv τ q;obtain ⟨h1,h2⟩:=ih (λ d hd=>hT d (Zd _ hd)) (λ d hd=>hF d (Zd _ hd)) q';rw [Bool.false_or];refine ⟨λ h=>mx e (h1 h),λ h=>?_⟩;obtain ⟨τ2,e2,q2⟩:=h2 h;exact ⟨τ2,mx e e2,q2⟩
section
variable {t:Adr} {gv:Int} {M:List B8} {i:Int} {b:B8} {rw l:List Int} {R:D}
theorem Ab {dT:D} {d:D} {v:Bool} (h:dU t [dT,.int i,d]=some (.shr (.bl v))):ko t.cL "fits" (cX t) (dFn (eY t) (ay (aB 3) c5)) (ay (aB 0) (ay (aB 1) c5)) [.shr dT,.shr (.int i),s2,.shr d]=some (.bl v):=by
 have e1:eY t [d]=some (.shr (.obj t.cL [("told",d)])):=by
  unfold eY iL;dsimp only;exact bN (bq (rX (ah e_v ax) rfl))
 have e2:cX t [.obj t.cL [("told",d)],dT,.int i]=some (.shr (.bl v)):=by
  unfold cX f7;dsimp only;exact bN (bq (cZ (ah e_v (ah e_v (ah (ik e_v rfl) ax))) h rfl))
 exact c9 (cZ (ah e_v ax) e1 rfl) (ah e_v (ah e_v ax)) rfl e2 rfl
theorem LX {a0 a1 a2:D} {s3:Sl} {d:D} {v:Bool} (h:dD [a0,a1,a2,d,.int i]=some (.shr (.bl v))):dFn dD (ay (aB 0) (ay (aB 1) (ay (aB 2) (ay (aB 5) (ay (aB 4) c5))))) [.shr a0,.shr a1,.shr a2,s3,.shr (.int i),.shr d]=some (.bl v):=cZ (ah e_v (ah e_v (ah e_v (ah e_v (ah e_v ax))))) h rfl
noncomputable def hv (t:Adr) (dT:D) (i:Int) (d:D):Bool:=match dU t [dT,.int i,d] with
 | some (.shr (.bl v))=>v
 | _=>false
theorem F4 (hR:RdR M R) (S:eB M i b rw) {ds:List D} (h:∀ d ∈ ds,Tr 2 d):dW t [trD t.af gv M,.int i,.tup ds]=some (.shr (.bl (!ds.any λ d=>!hv t (trD t.af gv M) i d)))/\eZ [R,faD M,mlD M,.tup ds,.int i]=some (.shr (.bl (!ds.any λ d=>!hv t (trD t.af gv M) i d))):=by
 have key:∀ d ∈ ds,dU t [trD t.af gv M,.int i,d]=some (.shr (.bl (hv t (trD t.af gv M) i d)))/\dD [R,faD M,mlD M,d,.int i]=some (.shr (.bl (hv t (trD t.af gv M) i d))):=λ d hd=>by
  obtain ⟨v,e1,e2⟩:=Fh hR S (h d hd);have:hv t (trD t.af gv M) i d=v:=by unfold hv; rw [e1]
  rw [this];exact ⟨e1,e2⟩
 constructor
 ·unfold dW kL
  refine bN ?_
  have w:=ka (b:=λ d τ=>(gN 3 d τ).bind (sIf (Ai (dT (ko t.cL "fits" (cX t) (dFn (eY t) (ay (aB 3) c5)) (ay (aB 0) (ay (aB 1) c5))))) (qT (dC (.bl false))) gE)) (v:=λ d=>!hv t (trD t.af gv M) i d) (Q:=λ τ=>∃ s3,τ=[.shr (trD t.af gv M),.shr (.int i),.shr (.tup ds),s3])
   (λ d hd hv' τ ⟨s3,e⟩=>by
     subst e;have h0:=gD (aE (Ab (s2:=.shr (.tup ds)) (key d hd).1));rw [hv'] at h0
     exact mU h0 (λ _=>bq e_c) nofun)
   (λ d hd hv' τ ⟨s3,e⟩=>by
     subst e;have h0:=gD (aE (Ab (s2:=.shr (.tup ds)) (key d hd).1));rw [hv'] at h0
     exact ⟨_,mU h0 nofun (λ _=>rfl),_,rfl⟩)
   (τ:=[.shr (trD t.af gv M),.shr (.int i),.shr (.tup ds),.no]) ⟨_,rfl⟩
  cases ha:ds.any λ d=>!hv t (trD t.af gv M) i d with
  | true=>exact lu (pE (tH e_v) (w.1 ha))
  | false =>
   obtain ⟨τ',e,s3,rfl⟩:=w.2 ha;exact aY (pE (tH e_v) e) (bq e_c)
 ·unfold eZ iO
  dsimp only;refine bN ?_
  have w:=ka (b:=λ d τ=>(gN 5 d τ).bind (sIf (Ai (dT (dFn dD (ay (aB 0) (ay (aB 1) (ay (aB 2) (ay (aB 5) (ay (aB 4) c5)))))))) (qT (dC (.bl false))) gE)) (ds:=ds) (v:=λ d=>!hv t (trD t.af gv M) i d) (s:=.shr (.bl false)) (Q:=λ τ=>∃ s5,τ=[.shr R,.shr (faD M),.shr (mlD M),.shr (.tup ds),.shr (.int i),s5])
   (λ d hd hv' τ ⟨s5,e⟩=>by
     subst e;have h0:=gD (aE (LX (s3:=.shr (.tup ds)) (key d hd).2));have hv':hv t (trD t.af gv M) i d=false:=by simpa using hv'
     rw [hv'] at h0
     exact mU (b:=true) h0 (λ _=>bq e_c) nofun)
   (λ d hd hv' τ ⟨s5,e⟩=>by
     subst e;have h0:=gD (aE (LX (s3:=.shr (.tup ds)) (key d hd).2));have hv':hv t (trD t.af gv M) i d=true:=by simpa using hv'
     rw [hv'] at h0
     exact ⟨_,mU (b:=false) h0 nofun (λ _=>rfl),_,rfl⟩)
   (τ:=[.shr R,.shr (faD M),.shr (mlD M),.shr (.tup ds),.shr (.int i),.no]) ⟨_,rfl⟩
  cases ha:ds.any λ d=>!hv t (trD t.af gv M) i d with
  | true=>exact lu (pE (tH e_v) (w.1 ha))
  | false =>
   obtain ⟨τ',e,s5,rfl⟩:=w.2 ha;exact aY (pE (tH e_v) e) (bq e_c)
theorem Fi (hR:RdR M R) (S:eB M i b rw) {ds:List D} (h:∀ d ∈ ds,Tr 2 d):dW t [trD t.af gv M,.int i,.tup ds]=some (.shr (.bl (haF t (trD t.af gv M) (.tup ds) i)))/\eZ [R,faD M,mlD M,.tup ds,.int i]=some (.shr (.bl (haF t (trD t.af gv M) (.tup ds) i))):=by
 obtain ⟨h1,h2⟩:=F4 hR S h;have:haF t (trD t.af gv M) (.tup ds) i=!ds.any λ d=>!hv t (trD t.af gv M) i d:=by unfold haF; rw [h1]
 rw [this];exact ⟨h1,h2⟩
theorem yG (S:eB M i b rw) (L:Hl M i l) (hl:l.length < 1000) (j:Str):jnF t (trD t.af gv M) (.str j) i=jnL j rw l i:=by
 unfold jnF;rw [nV S L hl];exact lG _
theorem sP (hR:RdR M R) (S:eB M i b rw) (L:Hl M i l) (hl:l.length < 1000) {j:Str} {ds:List D} (h:∀ d ∈ ds,Tr 2 d) (hj:j=""\/j ∈ tF) (early:List Int):cg [R,faD M,mlD M,stD j ds,.lst (early.map .int),.int i]=some (.shr (.bl (haF t (trD t.af gv M) (.tup ds) i&&(decide (j="")||early.any λ x=>decide (x ∈ jnF t (trD t.af gv M) (.str j) i))))):=by
 unfold cg eD;refine bN ?_
 have h0:Ai (dT (dFn eZ (ay (aB 0) (ay (aB 1) (ay (aB 2) (ay (dOp oIx (aB 3) (dC (.int 1))) (ay (aB 5) c5))))))) [.shr R,.shr (faD M),.shr (mlD M),.shr (stD j ds),.shr (.lst (early.map .int)),.shr (.int i),.no]=_:=gD (aE (cZ (ah e_v (ah e_v (ah e_v (ah (az e_v e_c (cQ _ _ _)) (ah e_v ax))))) (Fi (t:=t) (gv:=gv) hR S h).2 rfl))
 cases ha:haF t (trD t.af gv M) (.tup ds) i with
 | false =>
  rw [ha] at h0;exact b8 h0 (bq e_c)
 | true =>
  rw [ha] at h0;refine aR h0 ?_
  rw [Bool.true_and]
  by_cases hj0:j=""
  ·rw [Zq hj0,Bool.true_or]
   exact b8 (aE (az (az e_v e_c (bS _ _)) e_c (eqs hj0))) (bq e_c)
  have hj1:=hj.resolve_left hj0;rw [Zn hj0,Bool.false_or,yG S L hl];refine aR (aE (az (az e_v e_c (bS _ _)) e_c (nes hj0))) ?_
  have w:=ka (b:=λ d τ=>(gN 6 d τ).bind (sIf (dT (dFn cv (ay (aB 0) (ay (aB 1) (ay (dOp oIx (aB 3) (dC (.int 0))) (ay (aB 6) (ay (aB 5) c5))))))) (qT (dC (.bl true))) gE)) (ds:=early.map .int) (v:=λ d=>match d with | .int x=>decide (x ∈ jnL j rw l i) | _=>false) (Q:=λ τ=>∃ s6,τ=[.shr R,.shr (faD M),.shr (mlD M),.shr (stD j ds),.shr (.lst (early.map .int)),.shr (.int i),s6])
   (λ d hd hv' τ ⟨s6,e⟩=>by
     subst e;obtain ⟨x,_,rfl⟩:=Z6.mp hd;have h1:dT (dFn cv (ay (aB 0) (ay (aB 1) (ay (dOp oIx (aB 3) (dC (.int 0))) (ay (aB 6) (ay (aB 5) c5)))))) [.shr R,.shr (faD M),.shr (mlD M),.shr (stD j ds),.shr (.lst (early.map .int)),.shr (.int i),.shr (.int x)]=_:=aE (cZ (ah e_v (ah e_v (ah (az e_v e_c (bS _ _)) (ah e_v (ah e_v ax))))) (rD hR S L j hj1 x) rfl);have hv':decide (x ∈ jnL j rw l i)=true:=hv';rw [hv'] at h1
     exact mU h1 (λ _=>bq e_c) nofun)
   (λ d hd hv' τ ⟨s6,e⟩=>by
     subst e;obtain ⟨x,_,rfl⟩:=Z6.mp hd;have h1:dT (dFn cv (ay (aB 0) (ay (aB 1) (ay (dOp oIx (aB 3) (dC (.int 0))) (ay (aB 6) (ay (aB 5) c5)))))) [.shr R,.shr (faD M),.shr (mlD M),.shr (stD j ds),.shr (.lst (early.map .int)),.shr (.int i),.shr (.int x)]=_:=aE (cZ (ah e_v (ah e_v (ah (az e_v e_c (bS _ _)) (ah e_v (ah e_v ax))))) (rD hR S L j hj1 x) rfl);have hv':decide (x ∈ jnL j rw l i)=false:=hv';rw [hv'] at h1
     exact ⟨_,mU h1 nofun (λ _=>rfl),_,rfl⟩)
   (τ:=[.shr R,.shr (faD M),.shr (mlD M),.shr (stD j ds),.shr (.lst (early.map .int)),.shr (.int i),.no]) ⟨_,rfl⟩
  rw [List.any_map] at w;have ew:(early.any ((λ d:D=>match d with | .int x=>decide (x ∈ jnL j rw l i) | _=>false) ∘ D.int))=early.any λ x=>decide (x ∈ jnL j rw l i):=rfl
  rw [ew] at w
  cases hq:early.any λ x=>decide (x ∈ jnL j rw l i) with
  | true=>exact lu (pE (yH e_v) (w.1 hq))
  | false =>
   obtain ⟨τ',e,s6,rfl⟩:=w.2 hq;exact aY (pE (yH e_v) e) (bq e_c)
end
end N16
end
section
namespace N16
open PySem L2
structure Ux (gv:Int) (M:List B8) (U:List Int):Prop where
 m:MOk gv M
 su:Sub M [0] U
 ln:U.length<=90
 al:∀ i b,fd M i=some b->i ∈ U
 st:∀ i ∈ U,∃ b rw l,eB M i b rw/\Hl M i l/\l.length < 1000
theorem Hl.mem {M:List B8} {i:Int} {l:List Int} (h:Hl M i l):∀ x ∈ l,∃ b,fd M x=some b:=by
 induction h with
 | top h e=>exact λ x hx=>absurd hx Z8
 | up h e c ih =>
  intro x hx;rcases Zi.mp hx with rfl | hx
  · exact c.get
  · exact ih x hx
section
variable {t:Adr} {gv:Int} {M:List B8} {i:Int} {b:B8} {rw l U:List Int} {R:D} {ss:List (Str×List D)}
theorem E7 {j:Str} {x:Int} (h:x ∈ jnL j rw l i):x ∈ l\/x ∈ rw:=by
 unfold jnL at h;split at h
 · exact .inl h
 ·split at h
  · exact .inl (Yt h)
  ·split at h
   · exact .inr (Yt (Xi h))
   · exact .inr (Yt h)
theorem z7 (X:Ux gv M U) (S:eB M i b rw) (L:Hl M i l) {j:Str} {x:Int} (h:x ∈ jnL j rw l i):x ∈ U:=by
 rcases E7 h with h | h
 ·obtain ⟨c,hc⟩:=L.mem x h
  exact X.al x c hc
 ·rcases S.ro with ⟨_,e⟩ | ⟨k,bk,_,hk,e⟩
  ·rw [e] at h
   rw [Zr.mp h];exact X.al i b S.at_
  ·rw [e] at h
   obtain ⟨d,hd,_⟩:=X.m.B5 hk h;exact X.al x d hd
theorem AV {p:Nat} {q:Str×List D} (h:ss[p]?=some q):(ptL ss)[p]?=some (stD q.1 q.2):=by
 unfold ptL;rw [List.getElem?_map,h];rfl
theorem qY {p:Nat} {q:Str×List D} (h:ss[p]?=some q):(ptL ss).getD p .non=stD q.1 q.2:=by
 rw [List.getD_eq_getElem?_getD,AV h];rfl
theorem MB {dT:D} {q:Str×List D} (h:ss[0]?=some q) (x:Int):rcF t dT (ptL ss) 0 x=haF t dT (.tup q.2) x:=by
 rw [rcF,qY h];rfl
theorem MA {dT:D} {p:Nat} {q:Str×List D} (h:ss[p+1]?=some q) (x:Int):rcF t dT (ptL ss) (p+1) x=(haF t dT (.tup q.2) x&&(jnF t dT (.str q.1) x).any (rcF t dT (ptL ss) p)):=by
 rw [rcF,qY h];rfl
theorem HP (X:Ux gv M U) (hR:RdR M R) (P:Pt ss):Rx t (trD t.af gv M) (ptL ss) U where
 ln:=by unfold ptL; rw [Za]; exact P.n8
 lb:=Z2 X.ln (by decide)
 st := λ p s hs=>by
  unfold ptL at hs;rw [List.getElem?_map] at hs;obtain ⟨q,hq,rfl⟩:=Zm hs;obtain ⟨h1,h2,h3,h4⟩:=P.st p q hq;refine ⟨.str q.1,.tup q.2,rfl,λ x hx=>?_⟩;obtain ⟨b,rw,l,S,L,hl⟩:=X.st x hx;refine ⟨(Fi hR S h1).1,λ _=>⟨?_,λ c hc=>?_⟩⟩
  ·rw [yG S L hl]
   exact nV S L hl q.1
  ·rw [yG S L hl] at hc
   exact z7 X S L hc
theorem zF (nd:Nd M):RdR M (.dct (kv (λ b=>.lst (b.r.map .int)) M)):=⟨λ i b h=>ck h,λ i b h=>oA h⟩
noncomputable def En (t:Adr) (dT:D) (ss:List D) (U:List Int):Nat->List Int
 | 0=>[]
 | p+1=>U.filter (rcF t dT ss p)
theorem uO:(ptL ss).length=ss.length:=Za _
end
end N16
end
section
namespace N16
open PySem L2
theorem EV {px:DPx} {fv:DEm} {τ τ1:List Sm} {s:Sm} {i:Nat} {q:List Stp} {mv:Mt} {cs cs0:List (Key×Mt)} (h1:px τ=some (i,q)) (h2:a6 τ i q=some (.n .l cs0)) (h3:fv τ=some (s,τ1)) (h4:toM s=some mv) (h5:a6 τ1 i q=some (.n .l cs)) (h6:cs.length < 100000):pI px fv τ=some (.next (dH τ1 i q (.n .l (cs++[(.inl 0,mv)])))):=by
 unfold pI;rw [h1];show (match a6 τ i q with | some (.n .l _)=>(fv τ).bind _ | _=>none)=_;rw [h2];rw [h3];show (toM s).bind _=_;rw [h4];rw [h5];exact if_pos h6
def mlM (M:List B8):Mt:=kM (λ b=>lM (b.m.l.map .str)) M
theorem wj (M:List B8):frz (mlM M)=mlD M:=by
 unfold mlM mlD;rw [yQ];congr 2
 funext b
 exact j8 _
structure LOk (c:Nat) (M:List B8):Prop where
 m:MOk (M.length:Int) M
 ix:M.map B8.i=(List.range M.length).map λ (n:Nat)=>(n:Int)
 dp:∀ b ∈ M,∃ n,Ch M b.i n/\n < M.length
 mq:∀ b ∈ M,(b.m.k.length<=c/\b.m.l.length<=c)/\∀ x,x ∈ b.m.l↔x ∈ b.m.k
section
variable {t:Adr} {gv:Int} {M:List B8} {i:Int} {b:B8}
theorem LOk.at_ {c:Nat} (L:LOk c M) {x:Int} (x0:0<=x) (x1:x < M.length):∃ b,fd M x=some b:=by
 have:x ∈ M.map B8.i:=by
  rw [L.ix];exact Z6.mpr ⟨x.toNat,Xm.mpr (by omega),by omega⟩
 obtain ⟨b,hb,rfl⟩:=Z6.mp this;exact ⟨b,tM L.m.nd hb⟩
theorem fe (M:List B8) (i:Int) (p:Pl):(stB M i p).length=M.length:=Za _
theorem lD {β:Type} {g:B8->β} {p p':Pl} (M:List B8) (i:Int) (hg:∀ b:B8,g { b with m:=p }=g { b with m:=p' }):kv g (stB M i p)=kv g (stB M i p'):=by
 unfold kv stB;rw [Z7,Z7];refine Zw λ c _=>?_
 show ((Sum.inl (if c.i=i then { c with m:=p } else c).i:Key),g (if c.i=i then { c with m:=p } else c))=((Sum.inl (if c.i=i then { c with m:=p' } else c).i:Key),g (if c.i=i then { c with m:=p' } else c));split
 · rw [hg]
 · rfl
theorem E2 {β:Type} {g:B8->β} {p:Pl} (M:List B8) (i:Int) (hg:∀ b:B8,g { b with m:=p }=g b):kv g (stB M i p)=kv g M:=by
 unfold kv stB;rw [Z7];refine Zw λ c _=>?_
 show ((Sum.inl (if c.i=i then { c with m:=p } else c).i:Key),g (if c.i=i then { c with m:=p } else c))=_;split
 · rw [hg]
 · rfl
theorem uq {C:Addr} {p p':Pl} (M:List B8) (i:Int) (h:p.k=p'.k):trM C gv (stB M i p)=trM C gv (stB M i p'):=by
 unfold trM bxM kM;rw [lD (g:=λ b=>Mt.s (.str b.n)) (p:=p) (p':=p') M i λ _=>rfl,lD (g:=λ b=>Mt.s (hD b.h)) (p:=p) (p':=p') M i λ _=>rfl,lD (g:=λ b=>lM (b.r.map .int)) (p:=p) (p':=p') M i λ _=>rfl,lD (g:=mkM) (p:=p) (p':=p') M i λ _=>by unfold mkM; rw [h],lD (g:=wdM) (p:=p) (p':=p') M i λ _=>rfl,lD (g:=roM) (p:=p) (p':=p') M i λ _=>rfl]
theorem CM (M:List B8) (i:Int) (p:Pl):bxM (stB M i p)=bxM M:=by unfold bxM kM; rw [E2 (g:=λ b=>lM (b.r.map .int)) M i λ _=>rfl]
theorem Cu (M:List B8) (i:Int) (p:Pl):faM (stB M i p)=faM M:=by unfold faM kM; rw [E2 (g:=λ b=>Mt.s (.tup [hD b.h,.str b.n])) M i λ _=>rfl]
theorem BX {c:Nat} (L:LOk c M) {h p:Int} {nm:Str} (hb:fd M h=some b) (h12:M.length < 12):LOk c (ju M h b p M.length nm)/\(ju M h b p M.length nm).length=M.length+1:=by
 have el:(ju M h b p M.length nm).length=M.length+1:=by
  unfold ju;rw [vD,Z0];rfl
 have hbm:=bt hb;obtain ⟨n,hn,hn2⟩:=L.dp b hbm;rw [lK hb] at hn;have m':=BQ (p:=p) (nm:=nm) L.m hb hn (by omega)
 have fdp:∀ x,fd (ju M h b p M.length nm) x=(fd (M++[⟨M.length,some h,nm,[],bQ⟩]) x).map λ c=>if c.i=h then { c with r:=insI b.r p M.length } else c:=λ x=>by
  unfold ju;rw [rT]
 have old:∀ x d,fd M x=some d->∃ d',fd (ju M h b p M.length nm) x=some d'/\d'.h=d.h:=λ x d hd=>by
  rw [fdp,Ad hd];refine ⟨_,rfl,?_⟩;show (if d.i=h then { d with r:=insI b.r p M.length } else d).h=d.h;split <;> rfl
 refine ⟨⟨by rw [el]; exact m',?_,λ c hc=>?_,λ c hc=>?_⟩,el⟩
 ·rw [el,List.range_succ,Zk,<- L.ix]
  unfold ju;rw [Dp,Zk];rfl
 ·rw [el]
  obtain ⟨d,hd,rfl⟩:=Z6.mp hc;have ei:(if d.i=h then { d with r:=insI b.r p M.length } else d).i=d.i:=by split <;> rfl
  rw [ei];rcases Zg.mp hd with hd | hd
  ·obtain ⟨k,h1,h2⟩:=L.dp d hd
   exact ⟨k,Ch.mono old h1,by omega⟩
  ·rw [Zr.mp hd]
   refine ⟨n+1,?_,by omega⟩
   have hnew:fd (ju M h b p M.length nm) (M.length:Int)=some (if (M.length:Int)=h then { (⟨M.length,some h,nm,[],bQ⟩:B8) with r:=insI b.r p M.length } else ⟨M.length,some h,nm,[],bQ⟩):=by
    rw [fdp,qf L.m.new,if_pos rfl];rfl
   refine Ch.up hnew ?_ (Ch.mono old hn)
   split <;> rfl
 ·obtain ⟨d,hd,rfl⟩:=Z6.mp hc
  have em:(if d.i=h then { d with r:=insI b.r p M.length } else d).m=d.m:=by split <;> rfl
  rw [em];rcases Zg.mp hd with hd | hd
  · exact L.mq d hd
  ·rw [Zr.mp hd]
   exact ⟨⟨Z4 _,Z4 _⟩,λ x=>Iff.rfl⟩
theorem vB {c:Nat} (L:LOk c M) {i:Int} {p:Pl} (h:(p.k.length<=c/\p.l.length<=c)/\∀ x,x ∈ p.l↔x ∈ p.k):LOk c (stB M i p):=by
 refine ⟨by rw [fe]; exact EN L.m i p,by rw [DJ,fe]; exact L.ix,λ c hc=>?_,λ c hc=>?_⟩
 ·rw [fe]
  obtain ⟨d,hd,rfl⟩:=Z6.mp hc;have ei:(if d.i=i then { d with m:=p } else d).i=d.i:=by split <;> rfl
  rw [ei];obtain ⟨k,h1,h2⟩:=L.dp d hd;refine ⟨k,Ch.mono (λ x e he=>?_) h1,h2⟩;rw [Ct,he];refine ⟨_,rfl,?_⟩;show (if e.i=i then { e with m:=p } else e).h=e.h;split <;> rfl
 ·obtain ⟨d,hd,rfl⟩:=Z6.mp hc
  split
  · exact h
  · exact L.mq d hd
def mkP (p:Pl) (w:Str):Pl:=⟨(nA p w).k,p.l++[w]⟩
theorem zW {p:Pl} {w:Str} {n:Nat} (h:p.k.length<=n/\∀ x,x ∈ p.l↔x ∈ p.k):(mkP p w).k.length<=n+1/\∀ x,x ∈ (mkP p w).l↔x ∈ (mkP p w).k:=by
 unfold mkP nA
 by_cases hw:w ∈ p.k
 ·rw [if_pos hw]
  refine ⟨by have:=h.1; show p.k.length<=_; omega,λ x=>?_⟩;rw [Zg,h.2,Zr];exact ⟨λ z=>z.elim id λ e=>e ▸ hw,.inl⟩
 ·rw [if_neg hw]
  refine ⟨by have:=h.1; rw [Z0]; show p.k.length+1<=_; omega,λ x=>?_⟩;rw [Zg,Zg,h.2]
theorem ER {A B C:Mt} {r:List Sm} (hb:fd M i=some b):a6 (.mu true A::.mu true B::.mu true C::.mu true (mlM M)::r) 3 [.k (.inl i)]=some (lM (b.m.l.map .str)):=by
 rw [nK rfl];refine (nZ _ _ _).trans ?_
 rw [hb];rfl
theorem zU (nd:Nd M) {w:Str} (hb:fd M i=some b):(mlM M).put ([]++[.k (.inl i)]) (.n .l (((b.m.l.map D.str).map λ d=>((.inl 0:Key),Mt.s d))++[(.inl 0,.s (.str w))]))=mlM (stB M i (mkP b.m w)):=by
 have e:Mt.n .l (((b.m.l.map D.str).map λ d=>((.inl 0:Key),Mt.s d))++[(.inl 0,.s (.str w))])=lM (((mkP b.m w).l).map .str):=by
  unfold lM mkP;rw [Zk,Zk];rfl
 rw [e];refine (uL nd hb (λ c=>by unfold lM; rfl)).trans ?_
 unfold mlM kM;rw [<- kst (g:=λ b=>lM (b.m.l.map .str)) nd hb]
end
end N16
end
section
namespace N16
open PySem L2
abbrev sY (A B C K:Mt) (pl:D) (c w:Int) (x7 x8 x9 x10 x11 x12:Sm):List Sm:=[.mu true A,.mu true B,.mu true C,.mu true K,.shr pl,.shr (.int c),.shr (.int w),x7,x8,x9,x10,x11,x12]
section
variable {t:Adr} {gv:Int} {M:List B8} {i:Int} {b:B8} {pa pb pc pd:Str}
theorem EO {x:Int} {r:List Int} {b:B8} (h0:b.m.l=[]) (hn:fd M b.i=none):Mt.n .d (iV (kv (λ b=>lM (b.m.l.map .str)) M) (.inl b.i) (lM []))=mlM (upR (M++[b]) x r):=by
 unfold mlM kM;rw [pq _ _ _ _ (λ _=>rfl),<- hW hn,h0];rfl
theorem vq {N:List B8} {n:Int} {bg:B8} {x:Str} {c w:Int} {pl:D} {x7 x9 x10 x11 x12:Sm} (nd:Nd N) (hb:fd N n=some bg) (hn:bB x=true) (hk:bg.m.k.length<=8) (hl:bg.m.l.length < 1000) {gi:DE} (hi:gi (er (sY (trM t.af gv N) (bxM N) (faM N) (mlM N) pl c w x7 (.shr (.int n)) x9 x10 x11 x12))=some (.str x)) (hi2:gi (er (sY (trM t.af gv (stB N n (mkP bg.m x))) (bxM N) (faM N) (mlM N) pl c w x7 (.shr (.int n)) x9 x10 x11 x12))=some (.str x)) :
  iz (hG (eM t.af "mark" (b5 t) (cI 0) (bK (qN (aB 8)) (bK (qN gi) oZ)))) (pI (pL (cI 3) (aB 8)) (eN gi)) (sY (trM t.af gv N) (bxM N) (faM N) (mlM N) pl c w x7 (.shr (.int n)) x9 x10 x11 x12)=some (.next (sY (trM t.af gv (stB N n (mkP bg.m x))) (bxM (stB N n (mkP bg.m x))) (faM (stB N n (mkP bg.m x))) (mlM (stB N n (mkP bg.m x))) pl c w x7 (.shr (.int n)) x9 x10 x11 x12)):=by
 have em:=pY (t:=t) (gv:=gv) nd hb hn (by omega);rw [uq (p:=nA bg.m x) (p':=mkP bg.m x) N n rfl] at em;refine aN (ja (v_M bc rfl rfl (aL (q_N e_v) (aL (q_N hi) rfl)) rfl em rfl)) ?_
 have hg:=ER (A:=trM t.af gv (stB N n (mkP bg.m x))) (B:=bxM N) (C:=faM N) (r:=[.shr pl,.shr (.int c),.shr (.int w),x7,.shr (.int n),x9,x10,x11,x12]) hb;refine (EV (sq bc e_v rfl rfl) hg (v_N hi2) rfl hg (by rw [Za,Za]; omega)).trans ?_
 rw [jX rfl,zU nd hb,CM,Cu];rfl
theorem v9 (L:LOk 7 M) (hl:M.length < 12) (hP:PlN pa pb pc pd) {c w:Int} (w0:0<=w) (w1:w<=1000) :
  ∃ N,LOk 7 N/\N.length=M.length+1/\g7 t [.mu true (trM t.af M.length M),.mu true (bxM M),.mu true (faM M),.mu true (mlM M),.shr (PL pa pb pc pd),.shr (.int c),.shr (.int w)]=some (.shr .non,[.mu true (trM t.af N.length N),.mu true (bxM N),.mu true (faM N),.mu true (mlM N),.no,.no,.no]):=by
 have m:=L.m;obtain ⟨q1,e1,q10,q11⟩:=iF c w0 (by omega);obtain ⟨q2,e2,q20,q21⟩:=iF c (by omega) (show w+1<=10000 by omega);have n0:=m.pos;obtain ⟨nm,en,hn⟩:=sS hP (Ye _ (by decide)) (Yb _ (by decide));obtain ⟨h1,eh1⟩:∃ h:Int,h=if q1 % 4=1 then 0 else (M.length:Int) - 1:=⟨_,rfl⟩
 obtain ⟨x,ex⟩:∃ h:Int,h=if 1 < q1 % 4 then q1 / 4 % (M.length:Int) else h1:=⟨_,rfl⟩
 have hx:0<=x/\x < M.length:=by
  rw [ex];split
  · exact ⟨Ye _ (by omega),Yb _ n0⟩
  ·rw [eh1]
   split <;> omega
 obtain ⟨b,hb⟩:=L.at_ hx.1 hx.2;obtain ⟨dp,ch,hdp⟩:=L.dp b (bt hb);rw [lK hb] at ch
 have hr:=sub_len (m.rnd b (bt hb)) λ y hy=>by
  obtain ⟨d,d1,_⟩:=m.kid b (bt hb) y hy;exact ⟨d,d1⟩
 have p0:0<=q2 % ((b.r.length:Int)+1):=Ye _ (by omega);have p1:q2 % ((b.r.length:Int)+1)<=b.r.length:=by have:=Yb q2 (show 0 < (b.r.length:Int)+1 by omega); omega
 generalize hpp:q2 % ((b.r.length:Int)+1)=p at p0 p1;obtain ⟨L1,l1⟩:=BX L hb hl;have xg:(M.length:Int)≠x:=by omega
 have hg1:∃ bg,fd (ju M x b p M.length nm) (M.length:Int)=some bg/\bg.m=bQ:=by
  unfold ju;rw [rT,qf m.new,if_pos rfl];refine ⟨_,rfl,?_⟩;show (if (M.length:Int)=x then _ else _:B8).m=_;rw [if_neg xg]
 have ep:=DZ (t:=t) m.nd m.new hb p0 p1 (by omega) hn (by omega) ch (by omega);have eb:=FY (r:=insI b.r p M.length) (b:=⟨M.length,some x,nm,[],bQ⟩) xg rfl m.new;have ef:=FF (x:=x) (r:=insI b.r p M.length) (b:=⟨M.length,some x,nm,[],bQ⟩) m.new;have el:=EO (M:=M) (x:=x) (r:=insI b.r p M.length) (b:=⟨M.length,some x,nm,[],bQ⟩) rfl m.new;have eP:ju M x b p M.length nm=upR (M++[⟨M.length,some x,nm,[],bQ⟩]) x (insI b.r p M.length):=rfl;rw [<- eP] at eb ef el;generalize hN:ju M x b p M.length nm=N at L1 l1 hg1 ep eb ef el;obtain ⟨bg,hbg,hm0⟩:=hg1;have lN:((M.length:Int)+1)=(N.length:Int):=by rw [l1]; rfl
 rw [lN] at ep
 have key:∀ (x12:Sm),∃ τ',sO (lI (ay (dC (.int 4)) c5)) (gNm 12) (xv (tS (dT (dOp oEq (dOp oMod (dFn cu (ay (aB 5) (ay (dOp i0 (dOp i0 (aB 6) (dC (.int 2))) (aB 12)) c5))) (dC (.int 3))) (dC (.int 0))))) (iz (hG (eM t.af "mark" (b5 t) (cI 0) (bK (qN (aB 8)) (bK (qN (dOp oIx (aB 4) (aB 12))) oZ)))) (pI (pL (cI 3) (aB 8)) (eN (dOp oIx (aB 4) (aB 12))))) ng) (sY (trM t.af N.length N) (bxM N) (faM N) (mlM N) (PL pa pb pc pd) c w (.shr (.int q1)) (.shr (.int M.length)) (.shr (.int x)) (.shr (.int p)) (.shr (.str nm)) x12)=some (.next τ')/\∃ N' y,LOk 7 N'/\N'.length=N.length/\τ'=sY (trM t.af N'.length N') (bxM N') (faM N') (mlM N') (PL pa pb pc pd) c w (.shr (.int q1)) (.shr (.int M.length)) (.shr (.int x)) (.shr (.int p)) (.shr (.str nm)) y:=λ x12=>by
  have ei:lI (ay (dC (.int 4)) c5) (er (sY (trM t.af N.length N) (bxM N) (faM N) (mlM N) (PL pa pb pc pd) c w (.shr (.int q1)) (.shr (.int M.length)) (.shr (.int x)) (.shr (.int p)) (.shr (.str nm)) x12))=some (ph 0 4):=qd (ah e_c ax) (by decide)
  obtain ⟨τ',e,N',bg',y,h1,h2,h3,h4,h5,h6⟩:=jv (b:=λ d τ=>(gNm 12 d τ).bind (xv (tS (dT (dOp oEq (dOp oMod (dFn cu (ay (aB 5) (ay (dOp i0 (dOp i0 (aB 6) (dC (.int 2))) (aB 12)) c5))) (dC (.int 3))) (dC (.int 0))))) (iz (hG (eM t.af "mark" (b5 t) (cI 0) (bK (qN (aB 8)) (bK (qN (dOp oIx (aB 4) (aB 12))) oZ)))) (pI (pL (cI 3) (aB 8)) (eN (dOp oIx (aB 4) (aB 12))))) ng)) (ds:=ph 0 4)
   (λ j τ=>∃ N' bg' y,LOk 7 N'/\N'.length=N.length/\fd N' (M.length:Int)=some bg'/\bg'.m.k.length<=j/\bg'.m.l.length<=j/\τ=sY (trM t.af N'.length N') (bxM N') (faM N') (mlM N') (PL pa pb pc pd) c w (.shr (.int q1)) (.shr (.int M.length)) (.shr (.int x)) (.shr (.int p)) (.shr (.str nm)) y)
   ⟨N, bg,x12,L1,rfl,hbg,by rw [hm0]; exact Zl _,by rw [hm0]; exact Zl _,rfl⟩ (by
     rintro j d τ hd ⟨N',bg',y,h1,h2,h3,h4,h5,rfl⟩
     obtain ⟨rfl,jl⟩:=jL hd;rw [Int.zero_add];obtain ⟨r,er,_,_⟩:=iF c (w:=w+2+(j:Int)) (by omega) (by omega);obtain ⟨z,ez,hz⟩:=sS hP (k:=(j:Int)) (by omega) (by omega);have et:tS (dT (dOp oEq (dOp oMod (dFn cu (ay (aB 5) (ay (dOp i0 (dOp i0 (aB 6) (dC (.int 2))) (aB 12)) c5))) (dC (.int 3))) (dC (.int 0)))) (sY (trM t.af N'.length N') (bxM N') (faM N') (mlM N') (PL pa pb pc pd) c w (.shr (.int q1)) (.shr (.int M.length)) (.shr (.int x)) (.shr (.int p)) (.shr (.str nm)) (.shr (.int (j:Int))))=some (decide (r % 3=0),_):=t_S (aE (az (az (cZ (ah e_v (ah (az (az e_v e_c (aP _ _)) e_v (aP _ _)) ax)) er rfl) e_c (aQ (by decide))) e_c (b9 _ _)))
     by_cases hr3:r % 3=0
     ·rw [Zq hr3] at et
      have ms:=vq (t:=t) (gv:=(N'.length:Int)) (c:=c) (w:=w) (x7:=.shr (.int q1)) (x9:=.shr (.int x)) (x10:=.shr (.int p)) (x11:=.shr (.str nm)) (x12:=.shr (.int (j:Int))) h1.m.nd h3 hz (by omega) (by omega) (gi:=dOp oIx (aB 4) (aB 12)) (az e_v e_v ez) (az e_v e_v ez);have hk:=zW (w:=z) ⟨h4,(h1.mq bg' (bt h3)).2⟩;refine ⟨_,p4 et ms,stB N' M.length (mkP bg'.m z),{ bg' with m:=mkP bg'.m z },_,vB h1 ⟨⟨by omega,by show (bg'.m.l++[z]).length<=7; rw [Z0]; show bg'.m.l.length+1<=7; omega⟩,hk.2⟩,by rw [fe]; exact h2,?_,hk.1,?_,by rw [fe]⟩
      ·rw [Ct,h3]
       show some (if bg'.i=(M.length:Int) then _ else _)=_;rw [if_pos (lK h3)]
      ·show (bg'.m.l++[z]).length<=_
       rw [Z0];show bg'.m.l.length+1<=_;omega
     ·rw [Zn hr3] at et
      exact ⟨_,ie et rfl,N',bg',_,h1,h2,h3,by omega,by omega,rfl⟩)
  refine ⟨τ',?_,N',y,h1,h2,h6⟩;unfold sO;rw [ei];exact e
 obtain ⟨τ',e,N',y,LN,lN',rfl⟩:=key .no;refine ⟨N',LN,by rw [lN',l1],?_⟩;refine (zA (τ:=sY (trM t.af N'.length N') (bxM N') (faM N') (mlM N') (PL pa pb pc pd) c w (.shr (.int q1)) (.shr (.int M.length)) (.shr (.int x)) (.shr (.int p)) (.shr (.str nm)) y) ?_).trans rfl
 have sn:∀ {r:List Sm},bM (.mu true (trM t.af M.length M)::.mu true (bxM M)::r)=.shr (trD t.af M.length M)::.shr (.dct (kv (λ b=>.lst (b.r.map .int)) M))::bM r:=λ {r}=>by
  rw [jH];show _::Sl.shr (frz (bxM M))::_=_;rw [wg]
 refine aN (τ':=sY (trM t.af M.length M) (bxM M) (faM M) (mlM M) (PL pa pb pc pd) c w (.shr (.int q1)) .no .no .no .no .no) ((cR (v_N (cZ (ah e_v (ah e_v ax)) e1 rfl)) (Zb rfl) rfl).trans rfl) ?_
 refine aN (cR (v_S (by rw [sn]; exact bu (ah e_v ax) (z6 M)) rfl) (Zb rfl) rfl) ?_
 refine aN (cR (v_N (az e_v e_c (dg _ _))) (Zb rfl) rfl) ?_
 refine aN (τ':=sY (trM t.af M.length M) (bxM M) (faM M) (mlM M) (PL pa pb pc pd) c w (.shr (.int q1)) (.shr (.int M.length)) (.shr (.int h1)) .no .no .no) ?_ ?_
 ·have et:tS (dT (dOp oEq (dOp oMod (aB 7) (dC (.int 4))) (dC (.int 1)))) (sY (trM t.af M.length M) (bxM M) (faM M) (mlM M) (PL pa pb pc pd) c w (.shr (.int q1)) (.shr (.int M.length)) (.shr (.int ((M.length:Int) - 1))) .no .no .no)=some (decide (q1 % 4=1),_):=t_S (aE (az (az e_v e_c (aQ (by decide))) e_c (b9 _ _)))
  by_cases h2:q1 % 4=1
  ·rw [if_pos h2] at eh1
   rw [Zq h2] at et;rw [eh1];exact p4 et ((cR (v_N e_c) (Zb rfl) rfl).trans rfl)
  ·rw [if_neg h2] at eh1
   rw [Zn h2] at et;rw [eh1];exact ie et rfl
 refine aN (τ':=sY (trM t.af M.length M) (bxM M) (faM M) (mlM M) (PL pa pb pc pd) c w (.shr (.int q1)) (.shr (.int M.length)) (.shr (.int x)) .no .no .no) ?_ ?_
 ·have et:tS (dT (dOp oGt (dOp oMod (aB 7) (dC (.int 4))) (dC (.int 1)))) (sY (trM t.af M.length M) (bxM M) (faM M) (mlM M) (PL pa pb pc pd) c w (.shr (.int q1)) (.shr (.int M.length)) (.shr (.int h1)) .no .no .no)=some (decide (1 < q1 % 4),_):=t_S (aE (az (az e_v e_c (aQ (by decide))) e_c rfl))
  by_cases h2:1 < q1 % 4
  ·rw [if_pos h2] at ex
   rw [Zq h2] at et;rw [ex];exact p4 et ((cR (v_N (az (az e_v e_c (dk (by decide) (by decide +kernel))) e_v (aQ n0))) (Zb rfl) rfl).trans rfl)
  ·rw [if_neg h2] at ex
   rw [Zn h2] at et;rw [ex];exact ie et rfl
 refine aN (cR (v_S (by rw [sn]; exact az (cZ (ah e_v (ah (az e_v e_c (aP _ _)) ax)) e2 rfl) (az (bu (ah (az e_v e_v (ck hb)) ax) (yA _)) e_c (aP _ _)) ((aQ (by omega)).trans (by rw [hpp]))) rfl) (Zb rfl) rfl) ?_
 refine aN (cR (v_N (az e_v (az (az e_v e_c (dk (by decide) (by decide +kernel))) e_c (aQ (by decide))) en)) (Zb rfl) rfl) ?_
 refine aN (ja (v_M bc rfl rfl (aL (q_N e_v) (aL (q_N e_v) (aL (q_N e_v) rfl))) rfl ep rfl)) ?_
 have hg:a6 (sY (trM t.af N.length N) (bxM M) (faM M) (mlM M) (PL pa pb pc pd) c w (.shr (.int q1)) (.shr (.int M.length)) (.shr (.int x)) (.shr (.int p)) (.shr (.str nm)) .no) 1 [.k (.inl x)]=some (lM (b.r.map .int)):=by
  rw [nK rfl];refine (nZ _ _ _).trans ?_
  rw [hb];rfl
 refine aN (ET (sq bc e_v rfl rfl) hg e_v (v_N e_v) rfl hg ⟨p0,by rw [Za,Za]; exact p1,by rw [Za,Za]; omega⟩) ?_
 rw [jX rfl,z9];have e4:(bxM M).put ([]++[.k (.inl x)]) (lM ((insI b.r p M.length).map .int))=bxM (upR M x (insI b.r p M.length)):=zG m.nd hb;rw [e4];refine aN (τ':=sY (trM t.af N.length N) (bxM N) (faM M) (mlM M) (PL pa pb pc pd) c w (.shr (.int q1)) (.shr (.int M.length)) (.shr (.int x)) (.shr (.int p)) (.shr (.str nm)) .no) ((fR (v_O (eT ax (Z4 _)) rfl) bc e_v rfl rfl rfl (by rw [j1,vD]; omega)).trans ?_) ?_
 ·rw [<- eb]
  rfl
 refine aN (τ':=sY (trM t.af N.length N) (bxM N) (faM N) (mlM M) (PL pa pb pc pd) c w (.shr (.int q1)) (.shr (.int M.length)) (.shr (.int x)) (.shr (.int p)) (.shr (.str nm)) .no) ((fR (v_N (mB (ah e_v (ah e_v ax)) (Zb rfl))) bc e_v rfl rfl rfl (by rw [j1]; omega)).trans ?_) ?_
 ·rw [<- ef]
  rfl
 refine aN (τ':=sY (trM t.af N.length N) (bxM N) (faM N) (mlM N) (PL pa pb pc pd) c w (.shr (.int q1)) (.shr (.int M.length)) (.shr (.int x)) (.shr (.int p)) (.shr (.str nm)) .no) ((fR (v_O (eT ax (Z4 _)) rfl) bc e_v rfl rfl rfl (by rw [j1]; omega)).trans ?_) ?_
 ·rw [<- el]
  rfl
 exact e
end
end N16
end
section
namespace N16
open PySem L2
section
variable {t:Adr} {gv:Int} {M:List B8} {i:Int} {b:B8} {U:List Int} {pa pb pc pd:Str}
theorem NG (m:MOk gv M) {x:Int} {n:Nat} (c:Ch M x n):Anc M 0 x:=by
 induction c with
 | @top i b h e =>
  by_cases z:b.i=0
  ·rw [<- lK h,z]
   exact .refl
  ·obtain ⟨j,p,h1,_⟩:=m.hol b (bt h) z
   rw [e] at h1;cases h1
 | up h e c ih=>exact .up h e ih
theorem Hu {c:Nat} (L:LOk c M) (hc:c<=8) (h90:M.length<=90):∃ U,Ux M.length M U:=by
 have m:=L.m;obtain ⟨b0,r0,_⟩:=m.root;obtain ⟨l,h1,h2⟩:=Sub.of m r0
 have al:∀ i b,fd M i=some b->i ∈ 0::l:=λ i b hb=>by
  obtain ⟨n,hn,_⟩:=m.dp hb;exact (Sub.iff m h1 hb).mpr (NG m hn)
 have nd:(0::l).Nodup:=h1.nodup m (List.pairwise_singleton _ _);refine ⟨0::l,m,h1,Z2 (sub_len nd λ x hx=>h1.in x hx) h90,al,λ i hi=>?_⟩;obtain ⟨b,hb⟩:=h1.in i hi;have hbm:=bt hb;obtain ⟨n,hn,hn2⟩:=L.dp b hbm;rw [lK hb] at hn;obtain ⟨hl,e1,e2⟩:=Hl.of hn;obtain ⟨k1,k2⟩:=L.mq b hbm
 by_cases z:b.i=0
 ·have hh:b.h=none:=by
   cases q:b.h with
   | none=>rfl
   | some j=>exact absurd (lK hb ▸ z) (m.h0 hb q)
  exact ⟨b,[i],hl,⟨hb,.inl ⟨hh,rfl⟩,Zr.mpr rfl,Zu.mpr ⟨Z8,Xc⟩,by show 1<=1000; decide,by omega,k2⟩,e1,by omega⟩
 ·obtain ⟨j,p,g1,g2,g3⟩:=m.hol b hbm z
  have hr:=sub_len (m.rnd p (bt g2)) λ y hy=>by
   obtain ⟨d,d1,_⟩:=m.kid p (bt g2) y hy;exact ⟨d,d1⟩
  rw [lK hb] at g3;exact ⟨b,p.r,hl,⟨hb,.inr ⟨j,p,g1,g2,rfl⟩,g3,m.rnd p (bt g2),by omega,by omega,k2⟩,e1,by omega⟩
end
end N16
end
section
namespace N16
open PySem L2
section
variable {t:Adr} {gv:Int} {M:List B8} {i:Int} {b:B8} {U:List Int} {ss:List (Str×List D)}
noncomputable def enM (t:Adr) (dT:D) (sd:List D) (U:List Int) (n:Nat):Mt:=.n .l ((List.range n).map λ p=>(.inl 0,lM ((U.filter (rcF t dT sd p)).map .int)))
theorem Fy (dT:D) (sd:List D) (n:Nat):frz (enM t dT sd U n)=.lst ((List.range n).map λ p=>.lst ((U.filter (rcF t dT sd p)).map .int)):=by
 unfold enM;rw [frz,mr,Z7];exact Z9 D.lst (Zw λ p _=>j8 _)
theorem FJ (X:Ux gv M U) (P:Pt ss):gf t [.mu true (trM t.af gv M),.shr (ptD ss)]=some (.mu false (enM t (trD t.af gv M) (ptL ss) U ss.length),[.mu true (trM t.af gv M),.shr (ptD ss)]):=by
 obtain ⟨b,l,h0,eU,hs⟩:=X.su.inv;rw [Zz] at hs;have eb:=F0 (t:=t) (gv:=gv) h0 hs (by have:=X.ln; rw [eU,Zy] at this; omega)
 have e1:bsF t (trD t.af gv M)=l:=by
  unfold bsF;rw [eb];exact lG l
 show (open Classical in if Rx t (frz (trM t.af gv M)) (ptL ss) (0::bsF t (frz (trM t.af gv M)))/\cW t [frz (trM t.af gv M),.int 0]=some (.own (.lst ((bsF t (frz (trM t.af gv M))).map .int))) then some (Sm.mu false (.n .l ((List.range (ptL ss).length).map λ p=>(.inl 0,lM ((endsF t (frz (trM t.af gv M)) (ptL ss) p).map .int)))),[Sm.mu true (trM t.af gv M),Sm.shr (.tup (ptL ss))]) else none)=_;rw [we,e1,<- eU];rw [if_pos ⟨HP X (zF X.m.nd) P,eb⟩,uO];unfold endsF;rw [e1,<- eU];rfl
theorem Cj {τ:List Sl} {f:DE} {as:List D} (h:f τ=some (.tup as)):qe (ay f c5) τ=some (eA as):=by
 unfold qe;rw [ah h ax];rfl
theorem wC {as:List D} {j:Nat} {d:D} (h:(eA as)[j]?=some d):∃ a,d=.tup [.int (j:Int),a]/\as[j]?=some a:=by
 unfold eA at h;rw [List.getElem?_mapIdx] at h;obtain ⟨a,h1,h2⟩:=Zm h;exact ⟨a,h2.symm,h1⟩
theorem Al (c:Int) (sd:List D) (dT:D) (hU:U.length<=90):∀ l:List Nat,∃ cs,zq c (l.map λ p=>((.inl 0:Key),lM ((U.filter (rcF t dT sd p)).map .int)))=some cs
 | []=>⟨[],rfl⟩
 | p::l=>by
  obtain ⟨cs,e⟩:=Al c sd dT hU l;show ∃ cs',(if (((U.filter (rcF t dT sd p)).map D.int).map λ d=>((.inl 0:Key),Mt.s d)).length < 100000 then (zq c (l.map λ p=>((.inl 0:Key),lM ((U.filter (rcF t dT sd p)).map .int)))).map _ else none)=some cs'
  rw [e,if_pos]
  · exact ⟨_,rfl⟩
  ·rw [Za,Za]
   exact Nat.lt_of_le_of_lt (Y2 ..) (by omega)
abbrev sC (C:Addr) (gv:Int) (M:List B8) (p:D) (x5 x6 x7 x8 x9 x10 x11:Sm):List Sm:=[.mu true (trM C gv M),.mu true (bxM M),.mu true (faM M),.mu true (mlM M),.shr p,x5,x6,x7,x8,x9,x10,x11]
theorem wR (X:Ux gv M U) (P:Pt ss):cF t [.mu true (trM t.af gv M),.mu true (bxM M),.mu true (faM M),.mu true (mlM M),.shr (ptD ss)]=some (.shr (.bl true),[.mu true (trM t.af gv M),.mu true (bxM M),.mu true (faM M),.mu true (mlM M),.no]):=by
 have hR:=zF X.m.nd;have hu:=xF (t:=t) X.su (Z2 X.ln (by decide));have hU:=X.ln
 have sn:∀ {r:List Sm},bM (.mu true (trM t.af gv M)::.mu true (bxM M)::.mu true (faM M)::.mu true (mlM M)::r)=.shr (trD t.af gv M)::.shr (.dct (kv (λ b=>.lst (b.r.map .int)) M))::.shr (faD M)::.shr (mlD M)::bM r:=λ {r}=>by
  show Sl.shr (frz _)::.shr (frz _)::.shr (frz _)::.shr (frz _)::_=_;rw [we,wg,Fx,wj]
 have s5:sI (.mu false (enM t (trD t.af gv M) (ptL ss) U ss.length))=.shr (.lst ((List.range ss.length).map λ p=>.lst ((U.filter (rcF t (trD t.af gv M) (ptL ss) p)).map .int))):=Z9 Sl.shr (Fy ..)
 obtain ⟨τ2,f2,x7,x8,x9,x10,h7,rfl⟩:=jv (b:=λ d τ=>(gTm 2 (iI (gNm 8) (iI (gNm 9) rP)) d τ).bind (iz (pF 10 (eO (gI (Cm (aB 6)) (dT (dFn cg (ay (aB 1) (ay (aB 2) (ay (aB 3) (ay (aB 4) (ay (aB 5) (ay (aB 0) c5)))))))) (aB 0) [("_law_rows",1),("_law_facts",2),("_law_marks",3),("_law_step",9),("_law_early",7)])))
    (iz (xv (tS (Ai (dT (dFn cE (ay (dOp oIx (aB 5) (aB 8)) (ay (aB 10) c5)))))) (uE (eN (dC (.bl false)))) ng) (pF 7 (eF (jr yn (ay (dOp oIx (aB 5) (aB 8)) c5)))))))
  (ds:=eA (ptL ss))
  (λ j τ=>∃ x7 x8 x9 x10,sI x7=.shr (.lst ((En t (trD t.af gv M) (ptL ss) U j).map .int))/\τ=sC t.af gv M (ptD ss) (.mu false (enM t (trD t.af gv M) (ptL ss) U ss.length)) (.shr (.lst (U.map .int))) x7 x8 x9 x10 .no) ⟨.mu false (lM []),_,_,_,Z9 Sl.shr (j8 []),rfl⟩ (by
    rintro j d τ hd ⟨x7,x8,x9,x10,h7,rfl⟩
    obtain ⟨a,rfl,ha⟩:=wC hd;unfold ptL at ha;rw [List.getElem?_map] at ha;obtain ⟨q,hq,rfl⟩:=Zm ha;have jl:=(List.getElem?_eq_some_iff.mp hq).1;obtain ⟨h1,h2,h3,h4⟩:=P.st j q hq;have e5:oIx (.lst ((List.range ss.length).map λ p=>D.lst ((U.filter (rcF t (trD t.af gv M) (ptL ss) p)).map .int))) (.int (j:Int))=some (.lst ((U.filter (rcF t (trD t.af gv M) (ptL ss) j)).map .int)):=mQ (by rw [List.getElem?_map,List.getElem?_range jl]; rfl)
    have ed:gI (Cm (aB 6)) (dT (dFn cg (ay (aB 1) (ay (aB 2) (ay (aB 3) (ay (aB 4) (ay (aB 5) (ay (aB 0) c5)))))))) (aB 0) [("_law_rows",1),("_law_facts",2),("_law_marks",3),("_law_step",9),("_law_early",7)] (bM (sC t.af gv M (ptD ss) (.mu false (enM t (trD t.af gv M) (ptL ss) U ss.length)) (.shr (.lst (U.map .int))) x7 (.shr (.int (j:Int))) (.shr (stD q.1 q.2)) x10 .no))=some (.lst ((U.filter (rcF t (trD t.af gv M) (ptL ss) j)).map .int)):=by
     have es:bM (sC t.af gv M (ptD ss) (.mu false (enM t (trD t.af gv M) (ptL ss) U ss.length)) (.shr (.lst (U.map .int))) x7 (.shr (.int (j:Int))) (.shr (stD q.1 q.2)) x10 .no)=[.shr (trD t.af gv M),.shr (.dct (kv (λ b=>.lst (b.r.map .int)) M)),.shr (faD M),.shr (mlD M),.shr (ptD ss),sI (.mu false (enM t (trD t.af gv M) (ptL ss) U ss.length)),.shr (.lst (U.map .int)),.shr (.lst ((En t (trD t.af gv M) (ptL ss) U j).map .int)),.shr (.int (j:Int)),.shr (stD q.1 q.2),sI x10,.no]:=by
      rw [<- h7];exact sn
     rw [es];unfold gI;rw [yH e_v];show (if (U.map D.int).length<=100000 then _ else none)=_;rw [if_pos (by rw [Za]; omega),gQ (t:=λ d=>match d with | .int x=>rcF t (trD t.af gv M) (ptL ss) j x | _=>false)]
     ·rw [X6]
      rfl
     ·intro d hd
      obtain ⟨x,hx,rfl⟩:=Z6.mp hd;obtain ⟨b,rw,l,S,L,hl⟩:=X.st x hx;refine ⟨?_,rfl⟩
      have er:=sP (t:=t) (gv:=gv) hR S L hl h1 (by
       by_cases z:j=0
       · exact .inl (h3 z)
       · exact .inr (h4 z)) (En t (trD t.af gv M) (ptL ss) U j)
      have ev:(haF t (trD t.af gv M) (.tup q.2) x&&(decide (q.1="")||(En t (trD t.af gv M) (ptL ss) U j).any λ y=>decide (y ∈ jnF t (trD t.af gv M) (.str q.1) x)))=rcF t (trD t.af gv M) (ptL ss) j x:=by
       cases j with
       | zero=>rw [MB hq,h3 rfl,Zq rfl,Bool.true_or,Bool.and_true]
       | succ p =>
        have hj:=h4 (by omega);have hj0:q.1≠"":=λ z=>by rw [z] at hj; revert hj; decide
        rw [MA hq,Zn hj0,Bool.false_or];congr 1;rw [Y8,Y3,Y3];constructor
        ·rintro ⟨y,hy,hj⟩
         exact ⟨y,Xx hj,(Xr.mp hy).2⟩
        ·rintro ⟨y,hy,hr⟩
         refine ⟨y,Xr.mpr ⟨?_,hr⟩,Zq hy⟩;rw [yG S L hl] at hy;exact z7 X S L hy
      rw [ev] at er;exact aE (cZ (ah e_v (ah e_v (ah e_v (ah e_v (ah e_v (ah e_v ax)))))) er rfl)
    have hfl:(U.filter (rcF t (trD t.af gv M) (ptL ss) j)).length < 1000:=Nat.lt_of_le_of_lt (Y2 ..) (by omega);refine ⟨sC t.af gv M (ptD ss) (.mu false (enM t (trD t.af gv M) (ptL ss) U ss.length)) (.shr (.lst (U.map .int))) (.shr (.lst ((U.filter (rcF t (trD t.af gv M) (ptL ss) j)).map .int))) (.shr (.int (j:Int))) (.shr (stD q.1 q.2)) (.mu false (lM ((U.filter (rcF t (trD t.af gv M) (ptL ss) j)).map .int))) .no,?_,_,_,_,_,rfl,rfl⟩;refine aN ((cR (v_O ed (l3 _)) (Zb rfl) rfl).trans rfl) ?_
    have e10:dOp oIx (aB 5) (aB 8) (bM (sC t.af gv M (ptD ss) (.mu false (enM t (trD t.af gv M) (ptL ss) U ss.length)) (.shr (.lst (U.map .int))) x7 (.shr (.int (j:Int))) (.shr (stD q.1 q.2)) (.mu false (lM ((U.filter (rcF t (trD t.af gv M) (ptL ss) j)).map .int))) .no))=some (.lst ((U.filter (rcF t (trD t.af gv M) (ptL ss) j)).map .int)):=az (aU (Z9 some s5)) e_v e5;refine aN (ie (t_S (gD (aE (cZ (ah e10 (ah (aU (Z9 (some ∘ Sl.shr) (j8 _))) ax)) (pD _ hfl) rfl)))) rfl) ?_
    exact (cR (v_F (bu (ah e10 ax) rfl) (l3 _)) (Zb rfl) rfl).trans rfl)
 obtain ⟨cs',ea⟩:=Al (t:=t) 0 (ptL ss) (trD t.af gv M) hU (List.range ss.length);unfold cF ft;refine (iA (τ:=sC t.af gv M (ptD ss) (.mu false (.n .l [])) (.shr (.lst (U.map .int))) x7 x8 x9 x10 .no) ?_).trans rfl;refine aN (τ':=sC t.af gv M (ptD ss) (.mu false (enM t (trD t.af gv M) (ptL ss) U ss.length)) .no .no .no .no .no .no) ((cR (v_C (aL (q_X bc rfl) (aL (q_N e_v) rfl)) rfl (FJ X P) rfl) (Zb rfl) rfl).trans rfl) ?_
 have el:jr s9 (ay (aB 5) c5) (bM (sC t.af gv M (ptD ss) (.mu false (enM t (trD t.af gv M) (ptL ss) U ss.length)) .no .no .no .no .no .no))=some (.int (ss.length:Int)):=bu (ah (aU (Z9 some s5)) ax) (by show some (D.int ((List.map _ (List.range ss.length)).length:Int))=_; rw [Za,List.length_range]);have el4:jr s9 (ay (aB 4) c5) (bM (sC t.af gv M (ptD ss) (.mu false (enM t (trD t.af gv M) (ptL ss) U ss.length)) .no .no .no .no .no .no))=some (.int (ss.length:Int)):=bu (ah e_v ax) (by show some (D.int ((ptL ss).length:Int))=_; rw [uO]);refine aN (ie (t_S (Dw (gD (b:=true) (aE (bu (ah (aU (Z9 some s5)) (ah e_c ax)) rfl))) (λ _=>aE (az el el4 (by rw [iD,Zq rfl]; rfl))) nofun)) rfl) ?_
 refine aN ((cR (v_F (by rw [sn]; exact Cz (ah e_v (ah e_c ax)) hu rfl) (l3 _)) (Zb rfl) rfl).trans rfl) ?_
 refine aN ((cR (v_O (eT ax (Z4 _)) rfl) (Zb rfl) rfl).trans rfl) ?_
 refine aN (τ':=sC t.af gv M (ptD ss) (.mu false (enM t (trD t.af gv M) (ptL ss) U ss.length)) (.shr (.lst (U.map .int))) x7 x8 x9 x10 .no) ?_ ?_
 ·unfold sO
  rw [Cj e_v];exact f2
 refine aN (τ':=sC t.af gv M (ptD ss) (.mu false (.n .l cs')) (.shr (.lst (U.map .int))) x7 x8 x9 x10 .no) ?_ ?_
 ·show (if 11 < 12 then (zq 0 ((List.range ss.length).map λ p=>((.inl 0:Key),lM ((U.filter (rcF t (trD t.af gv M) (ptL ss) p)).map .int)))).map _ else none)=_
  rw [ea,if_pos (by decide)];rfl
 exact aN ((Ki bc rfl).trans rfl) (nN (v_N e_c))
end
end N16
end
section
namespace N16
open PySem L2
theorem DN (ns:List Int):∃ cs:List Int,oSl (scr ns) (some 15) (some 27)=some (.lst (cs.map .int))/\cs.length<=12:=by
 refine ⟨(ns.drop (HT.sIx ns.length 0 (some 15))).take (HT.sIx ns.length ns.length (some 27) - HT.sIx ns.length 0 (some 15)),?_,?_⟩
 ·show some (D.lst (cutD (ns.map .int) _ _))=_
  unfold cutD;rw [Za,<- X4,<- X3]
 ·have e1:=HT.pG ns.length 0 15
  have e2:=HT.pG ns.length ns.length 27;rw [show ((15:Nat):Int)=15 from rfl] at e1;rw [show ((27:Nat):Int)=27 from rfl] at e2;rw [e1,e2,Z1,Yv];omega
theorem ES (c:Int):∃ n:Int,kR [.int c,.int 6,.int 9]=some (.shr (.int n))/\0<=n/\n<=9:=by
 obtain ⟨r,er,r0,r1⟩:=iF c (w:=6) (by decide) (by decide)
 have key:Ret (λ d=>∃ n:Int,d=.int n/\0<=n/\n<=9) ((fo).1 (fG 4 [.int c,.int 6,.int 9])):=by
  unfold fo;refine l4 (bf (cZ (ah e_v (ah e_v ax)) er rfl)) ?_
  refine CY (aE (az (az e_v e_c (aQ (by decide))) e_c rfl)) (λ _=>lA (az e_v (az (az e_v e_c (dk (by decide) (by decide +kernel))) e_c (aQ (by decide))) (dg _ _)) ⟨_,rfl,by omega,by omega⟩) (λ _=>?_);exact AQ (az (az e_v e_c (dk (by decide) (by decide +kernel))) (az e_v e_c (aP _ _)) (aQ (by decide))) ⟨_,rfl,by omega,by omega⟩
 obtain ⟨d,e,n,rfl,h⟩:=yS key;exact ⟨n,e,h⟩
abbrev sL (t:Adr) (ns:List Int) (pl:D) (nm:Str) (M:List B8) (x7 x8 x9 x10 x11 x12 x13:Sm):List Sm:=[.shr (scr ns),.shr pl,.shr (.str nm),.mu false (trM t.af M.length M),.mu false (bxM M),.mu false (faM M),.mu false (mlM M),x7,x8,x9,x10,x11,x12,x13]
theorem yz {nm w:Str} (hw:bB w=true):LOk 7 [⟨0,none,nm,[],⟨[w],[w]⟩⟩]:=by
 have f0:fd [⟨0,none,nm,[],⟨[w],[w]⟩⟩] 0=some ⟨0,none,nm,[],⟨[w],[w]⟩⟩:=rfl;have all:∀ b ∈ ([⟨0,none,nm,[],⟨[w],[w]⟩⟩]:List B8),b=⟨0,none,nm,[],⟨[w],[w]⟩⟩:=λ b hb=>Zr.mp hb
 refine ⟨⟨Zu.mpr ⟨Z8,Xc⟩,λ b hb=>?_,⟨_,f0,rfl⟩,λ b hb h=>?_,λ b hb c hc=>?_,λ b hb=>?_,λ b hb=>?_⟩,rfl,λ b hb=>?_,λ b hb=>?_⟩ <;> rw [all b hb] at *
 · exact ⟨Int.le_refl _,by show (0:Int) < 1; decide⟩
 · exact absurd rfl h
 · cases hc
 · exact Xc
 · exact ⟨0,.top f0 rfl,by decide⟩
 · exact ⟨0,.top f0 rfl,by show 0 < 1; decide⟩
 · exact ⟨⟨by show 1<=7; decide,by show 1<=7; decide⟩,λ x=>Iff.rfl⟩
def brP (p:Pl) (w:Str):Pl:=⟨(l8 p w).k,p.l.filter λ x=>!decide (x=w)⟩
section
variable {t:Adr} {M:List B8} {i:Int} {b:B8}
theorem ig {c d:Nat} (L:LOk c M) (h:c<=d):LOk d M:=⟨L.m,L.ix,L.dp,λ b hb=>by obtain ⟨h1,h2⟩:=L.mq b hb; exact ⟨⟨by omega,by omega⟩,h2⟩⟩
theorem FZ {p:Pl} {w:Str} {n:Nat} (h:(p.k.length<=n/\p.l.length<=n)/\∀ x,x ∈ p.l↔x ∈ p.k):((brP p w).k.length<=n/\(brP p w).l.length<=n)/\∀ x,x ∈ (brP p w).l↔x ∈ (brP p w).k:=by
 refine ⟨⟨Z2 (Y2 ..) h.1.1,Z2 (Y2 ..) h.1.2⟩,λ x=>?_⟩;unfold brP l8;rw [Xr,Xr,h.2]
theorem BR {w:Str} (nd:Nd M) (hb:fd M i=some b):Mt.n .d (iV (kv (λ b=>lM (b.m.l.map .str)) M) (.inl i) (lM ((brP b.m w).l.map .str)))=mlM (stB M i (brP b.m w)):=by
 unfold mlM kM;rw [AR hb,<- kst nd hb]
theorem qQ:∀ l:List Str,(l.map D.str).all sca=true
 | []=>rfl
 | x::l=>by rw [Zh,X2,qQ l]; rfl
theorem mE (L:LOk 8 M) (hl:M.length<=90) {ss:List (Str×List D)} (P:Pt ss):cF t [.mu true (trM t.af M.length M),.mu true (bxM M),.mu true (faM M),.mu true (mlM M),.shr (ptD ss)]=some (.shr (.bl true),[.mu true (trM t.af M.length M),.mu true (bxM M),.mu true (faM M),.mu true (mlM M),.no]):=by
 obtain ⟨U,X⟩:=Hu L (by omega) hl;exact wR X P
end
section
variable {t:Adr}
theorem E1 (ns:List Int):F6 t [.shr (scr ns)]=some (.shr (.bl true),[.no]):=by
 obtain ⟨a,b,c,d,ep,na,nb,nc,nd⟩:=D0 ns;have hP:PlN a b c d:=⟨na,nb,nc,nd⟩
 obtain ⟨c0,e0⟩:=kA ns (Int.le_refl _);obtain ⟨c2,e2⟩:=kA ns (k:=2) (by decide);obtain ⟨c3,e3⟩:=kA ns (k:=3) (by decide);obtain ⟨nm,en,hn⟩:=sS hP (Ye _ (by decide)) (Yb _ (by decide));obtain ⟨wd,ew,hw⟩:=sS hP (Ye _ (by decide)) (Yb _ (by decide));obtain ⟨mn,em,m0,m7⟩:=ES c3;obtain ⟨cs,ecs,hcs⟩:=DN ns;have L1:=yz (nm:=nm) hw
 obtain ⟨τ1,f1,M,x7,LM,lM1,rfl⟩:=jv (b:=λ d τ=>(gNm 7 d τ).bind (hG (eC (g7 t) (bK (qX (cI 3)) (bK (qX (cI 4)) (bK (qX (cI 5)) (bK (qX (cI 6)) (bK (qN (aB 1)) (bK (qN (dFn dX (ay (aB 0) (ay (dOp i0 (dC (.int 4)) (aB 7)) c5)))) (bK (qN (aB 7)) oZ))))))))))
  (ds:=ph 0 mn.toNat) (λ j τ=>∃ M x7,LOk 7 M/\M.length=j+1/\τ=sL t ns (PL a b c d) nm M x7 .no .no .no .no .no .no) ⟨_,_,L1,rfl,rfl⟩ (by
    rintro j d τ hd ⟨M,x7,LM,lM,rfl⟩
    obtain ⟨rfl,jl⟩:=jL hd;rw [Int.zero_add];obtain ⟨cj,ej⟩:=kA ns (k:=4+(j:Int)) (by omega);obtain ⟨N,LN,lN,eg⟩:=v9 LM (by omega) hP (w:=(j:Int)) (by omega) (by omega)
    exact ⟨_,ja (v_C (aL (q_X bc rfl) (aL (q_X bc rfl) (aL (q_X bc rfl) (aL (q_X bc rfl) (aL (q_N e_v) (aL (q_N (cZ (ah e_v (ah (az e_c e_v (aP _ _)) ax)) ej rfl)) (aL (q_N e_v) rfl))))))) rfl eg rfl),N,_,LN,by omega,rfl⟩)
 rw [fJ] at lM1
 obtain ⟨most,hm0,hm8⟩:∃ most:Int,most=(if c0 % 8=5 then 8 else 4)/\0 < most/\most<=8:=by
  refine ⟨_,rfl,?_⟩;split <;> exact ⟨by decide,by decide⟩
 obtain ⟨ss0,es0,P0⟩:=nv hP c0 (w:=1) (by decide) (by decide) hm8.1 hm8.2;have ecl0:=mE (t:=t) (ig LM (by decide)) (by omega) P0
 obtain ⟨τ2,f2,y7,y10,rfl⟩:=jv (b:=λ d τ=>(gTm 2 (iI (gNm 7) (iI (gNm 10) rP)) d τ).bind (xv (tNt (tE (eC (cF t) (bK (qX (cI 3)) (bK (qX (cI 4)) (bK (qX (cI 5)) (bK (qX (cI 6)) (bK (qN (dFn eG (ay (aB 10) (ay (aB 7) (ay (aB 1) (ay (dC (.int 3)) c5)))))) oZ)))))))) (uE (eN (dC (.bl false)))) ng))
  (ds:=eA (cs.map .int)) (λ j τ=>∃ y7 y10,τ=sL t ns (PL a b c d) nm M y7 (.shr (.int most)) (.shr (ptD ss0)) y10 .no .no .no) ⟨_,_,rfl⟩ (by
    rintro j d τ hd ⟨y7,y10,rfl⟩
    obtain ⟨cj,rfl,hc⟩:=yV hd;have jl:=(List.getElem?_eq_some_iff.mp hc).1;obtain ⟨ss,es,P⟩:=nv hP cj (w:=(j:Int)) (m:=3) (by omega) (by omega) (by decide) (by decide);have ecl:=mE (t:=t) (ig LM (by decide)) (by omega) P;refine ⟨sL t ns (PL a b c d) nm M (.shr (.int (j:Int))) (.shr (.int most)) (.shr (ptD ss0)) (.shr (.int cj)) .no .no .no,?_,_,_,rfl⟩
    exact ie (Hy (t_E (v_C (aL (q_X bc rfl) (aL (q_X bc rfl) (aL (q_X bc rfl) (aL (q_X bc rfl) (aL (q_N (cZ (ah e_v (ah e_v (ah e_v (ah e_c ax)))) es rfl)) rfl))))) rfl ecl rfl))) rfl)
 obtain ⟨c14,e14⟩:=kA ns (k:=14) (by decide);obtain ⟨N,LN,lN,eg⟩:=v9 (t:=t) LM (by omega) hP (w:=50) (by decide) (by decide);have ecl1:=mE (t:=t) (ig LN (by decide)) (by omega) P0;obtain ⟨q,eq,q0,q1⟩:=iF c14 (w:=61) (by decide) (by decide);have N0:=LN.m.pos;obtain ⟨bx,hbx⟩:=LN.at_ (Ye _ (by omega)) (Yb _ N0);generalize hi:q / 4 % (N.length:Int)=i at hbx;obtain ⟨w,ewd,hwd⟩:=sS hP (Ye _ (by decide)) (Yb _ (by decide));obtain ⟨hq1,hq2⟩:=LN.mq bx (bt hbx)
 obtain ⟨N2,LN2,lN2,ed⟩:∃ N2,LOk 8 N2/\N2.length=N.length/\xv (tS (dT (dOp Bp (aB 13) (dOp fg (aB 6) (aB 12))))) (iz (hG (eM t.af "bare" (fA t) (cI 3) (bK (qN (aB 12)) (bK (qN (aB 13)) oZ)))) (gF (cI 6) (aB 12) (eO (gI (Cm (dOp fg (aB 6) (aB 12))) (dT (dOp oNe (aB 0) (aB 1))) (aB 0) [("_law_word",13)])))) (iz (hG (eM t.af "mark" (b5 t) (cI 3) (bK (qN (aB 12)) (bK (qN (aB 13)) oZ)))) (pI (pL (cI 6) (aB 12)) (eN (aB 13))))
    (sL t ns (PL a b c d) nm N y7 (.shr (.int most)) (.shr (ptD ss0)) y10 (.shr (.int q)) (.shr (.int i)) (.shr (.str w)))=some (.next (sL t ns (PL a b c d) nm N2 y7 (.shr (.int most)) (.shr (ptD ss0)) y10 (.shr (.int q)) (.shr (.int i)) (.shr (.str w)))):=by
  have s6:∀ (A:Mt),(bM [.shr (scr ns),.shr (PL a b c d),.shr (.str nm),.mu false A,.mu false (bxM N),.mu false (faM N),.mu false (mlM N),y7,.shr (.int most),.shr (ptD ss0),y10,.shr (.int q),.shr (.int i),.shr (.str w)])[6]?=some (.shr (mlD N)):=λ A=>by
    show some (Sl.shr (frz (mlM N)))=_;rw [wj]
  have eg6:∀ (A:Mt),dOp fg (aB 6) (aB 12) (bM [.shr (scr ns),.shr (PL a b c d),.shr (.str nm),.mu false A,.mu false (bxM N),.mu false (faM N),.mu false (mlM N),y7,.shr (.int most),.shr (ptD ss0),y10,.shr (.int q),.shr (.int i),.shr (.str w)])=some (.lst (bx.m.l.map .str)):=λ A=>az (aU (s6 A)) e_v (ck hbx)
  have et:=t_S (τ:=sL t ns (PL a b c d) nm N y7 (.shr (.int most)) (.shr (ptD ss0)) y10 (.shr (.int q)) (.shr (.int i)) (.shr (.str w))) (g:=dT (dOp Bp (aB 13) (dOp fg (aB 6) (aB 12)))) (aE (az e_v (eg6 _) (qc w bx.m.l)))
  by_cases h:w ∈ bx.m.l
  · rw [Zq h] at et
    have eb:=CN (t:=t) (gv:=N.length) LN.m.nd hbx hwd;rw [uq (p:=l8 bx.m w) (p':=brP bx.m w) N i rfl] at eb;refine ⟨stB N i (brP bx.m w),ig (vB LN (FZ ⟨hq1,hq2⟩)) (by decide),fe ..,p4 et ?_⟩;refine aN (ja (v_M bc rfl rfl (aL (q_N e_v) (aL (q_N e_v) rfl)) rfl eb rfl)) ?_
    have ec:gI (Cm (dOp fg (aB 6) (aB 12))) (dT (dOp oNe (aB 0) (aB 1))) (aB 0) [("_law_word",13)] (bM [.shr (scr ns),.shr (PL a b c d),.shr (.str nm),.mu false (trM t.af N.length (stB N i (brP bx.m w))),.mu false (bxM N),.mu false (faM N),.mu false (mlM N),y7,.shr (.int most),.shr (ptD ss0),y10,.shr (.int q),.shr (.int i),.shr (.str w)])=some (.lst ((brP bx.m w).l.map .str)):=by
     unfold gI;rw [yH (eg6 _)];show (if (bx.m.l.map D.str).length<=100000 then _ else none)=_;rw [if_pos (by rw [Za]; omega),gQ (t:=λ d=>match d with | .str x=>!decide (x=w) | _=>false)]
     ·rw [X6]
      rfl
     ·intro d hd
      obtain ⟨x,hx,rfl⟩:=Z6.mp hd;exact ⟨aE (az e_v e_v (md _ _)),rfl⟩
    refine (fR (v_O ec (qQ _)) bc e_v rfl rfl rfl (by rw [j1]; omega)).trans ?_
    rw [jX rfl];unfold sL;rw [fe,CM,Cu,<- BR LN.m.nd hbx];rfl
  · rw [Zn h] at et
    have em:=pY (t:=t) (gv:=N.length) LN.m.nd hbx hwd (by omega);rw [uq (p:=nA bx.m w) (p':=mkP bx.m w) N i rfl] at em;have hk:=zW (w:=w) ⟨hq1.1,hq2⟩;refine ⟨stB N i (mkP bx.m w),vB (ig LN (by decide)) ⟨⟨hk.1,by show (bx.m.l++[w]).length<=8; rw [Z0]; show bx.m.l.length+1<=8; omega⟩,hk.2⟩,fe ..,ie et ?_⟩;refine aN (ja (v_M (as:=[.v (.int i),.v (.str w)]) bc rfl rfl (aL (q_N e_v) (aL (q_N e_v) rfl)) rfl em rfl)) ?_
    have hg:a6 [.shr (scr ns),.shr (PL a b c d),.shr (.str nm),.mu false (trM t.af N.length (stB N i (mkP bx.m w))),.mu false (bxM N),.mu false (faM N),.mu false (mlM N),y7,.shr (.int most),.shr (ptD ss0),y10,.shr (.int q),.shr (.int i),.shr (.str w)] 6 [.k (.inl i)]=some (lM (bx.m.l.map .str)):=by
     rw [nK rfl];refine (nZ _ _ _).trans ?_
     rw [hbx];rfl
    refine (EV (sq bc e_v rfl rfl) hg (v_N e_v) rfl hg (by rw [Za,Za]; omega)).trans ?_
    rw [jX rfl,zU LN.m.nd hbx];unfold sL;rw [fe,CM,Cu];rfl
 have ecl2:=mE (t:=t) LN2 (by omega) P0;unfold F6 CS;refine (iA (τ:=sL t ns (PL a b c d) nm N2 y7 (.shr (.int most)) (.shr (ptD ss0)) y10 (.shr (.int q)) (.shr (.int i)) (.shr (.str w))) ?_).trans rfl;refine aN (cR (v_N (cZ (ah e_v (ah e_c ax)) ep rfl)) (Zb rfl) rfl) ?_
 refine aN (cR (v_N (az e_v (az (cZ (ah e_v (ah e_c ax)) e3 rfl) e_c (aQ (by decide))) en)) (Zb rfl) rfl) ?_
 refine aN (cR (v_K (aL (q_N e_v) rfl) rfl (Cg hn) rfl) (Zb rfl) rfl) ?_
 refine aN (cR (Ht (v_O (eT ax (Z4 _)) rfl) rfl) (Zb rfl) rfl) ?_
 refine aN (cR (Ht (v_N (mB (ah e_c (ah e_v ax)) (Zb rfl))) rfl) (Zb rfl) rfl) ?_
 refine aN (cR (Ht (v_O (eT (ah (az e_v (az (cZ (ah e_v (ah e_c ax)) e2 rfl) e_c (aQ (by decide))) ew) ax) (Zb rfl)) rfl) rfl) (Zb rfl) rfl) ?_
 have emk:=pY (t:=t) (gv:=1) (M:=[⟨0,none,nm,[],bQ⟩]) (i:=0) (Zu.mpr ⟨Z8,Xc⟩) rfl hw (by show 0 < 1000; decide);have etr:trM t.af 1 (stB [⟨0,none,nm,[],bQ⟩] 0 (nA bQ wd))=trM t.af 1 [⟨0,none,nm,[],⟨[wd],[wd]⟩⟩]:=rfl;have emk':b5 t [.mu true (trM t.af 1 [⟨0,none,nm,[],bQ⟩]),.shr (.int 0),.shr (.str wd)]=some (.shr (.bl (!decide (wd ∈ ([]:List Str)))),[.mu true (trM t.af 1 [⟨0,none,nm,[],⟨[wd],[wd]⟩⟩]),.no,.no]):=emk.trans (by rw [<- etr]; rfl)
 have esn:dOp oIx (dOp fg (aB 6) (dC (.int 0))) (dC (.int 0)) (bM [.shr (scr ns),.shr (PL a b c d),.shr (.str nm),.mu false (trM t.af 1 [⟨0,none,nm,[],bQ⟩]),.mu false (bxM [⟨0,none,nm,[],⟨[wd],[wd]⟩⟩]),.mu false (faM [⟨0,none,nm,[],⟨[wd],[wd]⟩⟩]),.mu false (mlM [⟨0,none,nm,[],⟨[wd],[wd]⟩⟩]),.no,.no,.no,.no,.no,.no,.no])=some (.str wd):=by
  refine az (az (aU (d:=mlD [⟨0,none,nm,[],⟨[wd],[wd]⟩⟩]) ?_) e_c (ck rfl)) e_c (xl _ _);show some (Sl.shr (frz (mlM [⟨0,none,nm,[],⟨[wd],[wd]⟩⟩])))=_;rw [wj]
 refine aN (ja (v_M bc rfl rfl (aL (q_N e_c) (aL (q_S esn rfl) rfl)) rfl emk' rfl)) ?_
 refine aN (τ':=sL t ns (PL a b c d) nm M x7 .no .no .no .no .no .no) ?_ ?_
 ·unfold sO
  rw [qd (ah (cZ (ah (cZ (ah e_v (ah e_c ax)) e3 rfl) (ah e_c (ah e_c ax))) em rfl) ax) (by omega)];exact f1
 refine aN (cR (v_N e_c) (Zb rfl) rfl) ?_
 refine aN (τ':=sL t ns (PL a b c d) nm M x7 (.shr (.int most)) .no .no .no .no .no) ?_ ?_
 ·have et:tS (dT (dOp oEq (dOp oMod (dFn dX (ay (aB 0) (ay (dC (.int 0)) c5))) (dC (.int 8))) (dC (.int 5)))) (sL t ns (PL a b c d) nm M x7 (.shr (.int 4)) .no .no .no .no .no)=some (decide (c0 % 8=5),_):=t_S (aE (az (az (cZ (ah e_v (ah e_c ax)) e0 rfl) e_c (aQ (by decide))) e_c (b9 _ _)))
  by_cases h2:c0 % 8=5
  · rw [if_pos h2] at hm0
    rw [Zq h2] at et;rw [hm0];exact p4 et ((cR (v_N e_c) (Zb rfl) rfl).trans rfl)
  · rw [if_neg h2] at hm0
    rw [Zn h2] at et;rw [hm0];exact ie et rfl
 refine aN ((cR (v_N (cZ (ah (cZ (ah e_v (ah e_c ax)) e0 rfl) (ah e_c (ah e_v (ah e_v ax)))) es0 rfl)) (Zb rfl) rfl).trans rfl) ?_
 refine aN (ie (Hy (t_E (v_C (aL (q_X bc rfl) (aL (q_X bc rfl) (aL (q_X bc rfl) (aL (q_X bc rfl) (aL (q_N e_v) rfl))))) rfl ecl0 rfl))) rfl) ?_
 refine aN (τ':=sL t ns (PL a b c d) nm M y7 (.shr (.int most)) (.shr (ptD ss0)) y10 .no .no .no) ?_ ?_
 ·unfold sO
  rw [Fd (Cy e_v (fL e_c) (fL e_c) ecs)];exact f2
 refine aN (τ':=sL t ns (PL a b c d) nm N y7 (.shr (.int most)) (.shr (ptD ss0)) y10 .no .no .no) (ja (v_C (aL (q_X bc rfl) (aL (q_X bc rfl) (aL (q_X bc rfl) (aL (q_X bc rfl) (aL (q_N e_v) (aL (q_N (cZ (ah e_v (ah e_c ax)) e14 rfl)) (aL (q_N e_c) rfl))))))) rfl eg rfl)) ?_
 refine aN (τ':=sL t ns (PL a b c d) nm N y7 (.shr (.int most)) (.shr (ptD ss0)) y10 .no .no .no) (ie (Hy (t_E (v_C (as:=[.p 3 [],.p 4 [],.p 5 [],.p 6 [],.v (ptD ss0)]) (aL (q_X bc rfl) (aL (q_X bc rfl) (aL (q_X bc rfl) (aL (q_X bc rfl) (aL (q_N e_v) rfl))))) rfl ecl1 rfl))) rfl) ?_
 refine aN ((cR (v_N (cZ (ah (cZ (ah e_v (ah e_c ax)) e14 rfl) (ah e_c ax)) eq rfl)) (Zb rfl) rfl).trans rfl) ?_
 have s4:(bM (sL t ns (PL a b c d) nm N y7 (.shr (.int most)) (.shr (ptD ss0)) y10 (.shr (.int q)) .no .no))[4]?=some (.shr (.dct (kv (λ b=>.lst (b.r.map .int)) N))):=by
  show some (Sl.shr (frz (bxM N)))=_;rw [wg]
 have e12:dOp oMod (dOp oDiv (aB 11) (dC (.int 4))) (jr vi (ay (aB 4) c5)) (bM (sL t ns (PL a b c d) nm N y7 (.shr (.int most)) (.shr (ptD ss0)) y10 (.shr (.int q)) .no .no))=some (.int i):=by
  rw [<- hi];refine az (az e_v e_c (dk (by decide) (by decide +kernel))) (bu (ah (aU s4) ax) (?_)) (aQ N0);show some (D.int ((kv (λ b=>D.lst (b.r.map .int)) N).length:Int))=_;rw [j1]
 refine aN ((cR (v_S e12 rfl) (Zb rfl) rfl).trans rfl) ?_
 refine aN ((cR (v_N (az e_v (az e_v e_c (aQ (by decide))) ewd)) (Zb rfl) rfl).trans rfl) ?_
 refine aN ed ?_
 exact nN (v_C (as:=[.p 3 [],.p 4 [],.p 5 [],.p 6 [],.v (ptD ss0)]) (aL (q_X bc rfl) (aL (q_X bc rfl) (aL (q_X bc rfl) (aL (q_X bc rfl) (aL (q_N e_v) rfl))))) rfl ecl2 rfl)
end
section
variable {P:Program} {w:World} {K:W.Frag} {mg:Str->Option Value} {base:Heap} {t:Adr}
def zw (K:W.Frag):Sp:=λ vs H Q _=>∃ (a:Addr) (ns:List Int),vs=[.ref a]/\SqL K H a (ns.map V.int)/\ns.length<=63/\∀ H',Q (.bl true) H'
theorem Bn {a d} (T:Txt K mg t) (F:Fun K "law" "law" (top 52) a d):fD P w K mg base CX0 33 a d ["_law_script"] (zw K):=by
 refine ((CS t).2 T F).imp λ vs H Q E h=>?_
 obtain ⟨a,ns,rfl,hS,h63,k⟩:=h;refine ⟨H,[],[.shr (scr ns)],.shr (.bl true),[.no],(λ _ _ h=>h),?_,E1 ns,λ v Hs' H' fp' g st=>?_⟩
 · exact .shr (.fz hS (Rps.ints ns)) .nil
 ·cases st with
  | shr r _ =>
   cases r;exact k _
end
end N16
end
namespace N16
open PySem L2
theorem u1 {P:List Value->Prop} (k:∀ x0,P [x0]):∀ us,us.length=1->P us
 | [x0],_=>k x0
theorem u2 {P:List Value->Prop} (k:∀ x0 x1,P [x0,x1]):∀ us,us.length=2->P us
 | [x0,x1],_=>k x0 x1
theorem u3 {P:List Value->Prop} (k:∀ x0 x1 x2,P [x0,x1,x2]):∀ us,us.length=3->P us
 | [x0,x1,x2],_=>k x0 x1 x2
theorem u4 {P:List Value->Prop} (k:∀ x0 x1 x2 x3,P [x0,x1,x2,x3]):∀ us,us.length=4->P us
 | [x0,x1,x2,x3],_=>k x0 x1 x2 x3
theorem u5 {P:List Value->Prop} (k:∀ x0 x1 x2 x3 x4,P [x0,x1,x2,x3,x4]):∀ us,us.length=5->P us
 | [x0,x1,x2,x3,x4],_=>k x0 x1 x2 x3 x4
theorem u6 {P:List Value->Prop} (k:∀ x0 x1 x2 x3 x4 x5,P [x0,x1,x2,x3,x4,x5]):∀ us,us.length=6->P us
 | [x0,x1,x2,x3,x4,x5],_=>k x0 x1 x2 x3 x4 x5
theorem u7 {P:List Value->Prop} (k:∀ x0 x1 x2 x3 x4 x5 x6,P [x0,x1,x2,x3,x4,x5,x6]):∀ us,us.length=7->P us
 | [x0,x1,x2,x3,x4,x5,x6],_=>k x0 x1 x2 x3 x4 x5 x6
theorem Ds {K:W.Frag} {mg:Str->Option Value} {c0 c1:Addr} (h:Txt K mg ⟨c0,c1⟩):∃ t,Txt K mg t:=⟨_,h⟩
end N16
open PySem PySem.W PyProof.Rows
set_option maxRecDepth 100000 in
set_option maxHeartbeats 0 in
theorem PySem.Challenge.cw_stylehouse_k16_ends_holds : PySem.Challenge.rw_stylehouse_k16_ends.Holds := by
 refine PySem.W.holds_law HD16.Fk fun said=>?_
 refine HD16.Fp said ?hw (by rfl) (by rfl) (by rfl) ?hc
 case hw=>w_witness2
 k_fill
 refine L2.xC (fun P=>rfl) ?_
 refine L2.xB (l:=PySem.Challenge.rw_stylehouse_k16_ends) (n:=63) (k:=33) (x:="_law_script") (CX:=L2.CX0) (sp:=N16.zw) rfl (by decide) rfl ⟨rfl,by decide,by decide⟩ (fun w h Y=>Y) ?F ?S ?C
 case F =>
  intro w mg fa h KX G hmg
  have T:∃ t,N16.Txt (L2.KOf KX) mg t:=by
   dsimp only [L2.KOf]
   refine' N16.Ds ?h
   case h =>
   constructor
   case vy=>exact PySem.W.mg_of KX G (by k_is)
   case z3=>exact PySem.W.mg_of KX G (by k_is)
   exact ⟨by k_is,by k_is,by k_is,by k_is⟩
   (show W.findIn _ _ _=_; k_is)
   exact ⟨by k_is,by k_is,by k_is,by k_is⟩
   iterate 7 ((show W.findIn _ _ _=_; k_is))
   iterate 4 (exact L2.Fn0.df ⟨_,_,_,_,_,_,_,_,_,by k_is,by k_is,by k_is,by k_is⟩ KX G fun _ _ _ _ _ _=>N16.u1 fun _=>rfl)
   exact L2.Kj ⟨_,_,_,_,_,_,_,_,_,by k_is,by k_is,by k_is,by k_is⟩ KX G (fun _ _ _ _ _ _ s v=>.of_eq rfl)
   iterate 14 (exact L2.Fn0.df ⟨_,_,_,_,_,_,_,_,_,by k_is,by k_is,by k_is,by k_is⟩ KX G fun _ _ _ _ _ _=>N16.u2 fun _ _=>rfl)
   iterate 6 (exact L2.Fn0.df ⟨_,_,_,_,_,_,_,_,_,by k_is,by k_is,by k_is,by k_is⟩ KX G fun _ _ _ _ _ _=>N16.u3 fun _ _ _=>rfl)
   iterate 2 (exact L2.Fn0.df ⟨_,_,_,_,_,_,_,_,_,by k_is,by k_is,by k_is,by k_is⟩ KX G fun _ _ _ _ _ _=>N16.u4 fun _ _ _ _=>rfl)
   iterate 6 (exact L2.Fn0.df ⟨_,_,_,_,_,_,_,_,_,by k_is,by k_is,by k_is,by k_is⟩ KX G fun _ _ _ _ _ _=>N16.u5 fun _ _ _ _ _=>rfl)
   exact L2.Fn0.df ⟨_,_,_,_,_,_,_,_,_,by k_is,by k_is,by k_is,by k_is⟩ KX G fun _ _ _ _ _ _=>N16.u6 fun _ _ _ _ _ _=>rfl
   exact L2.Fn0.df ⟨_,_,_,_,_,_,_,_,_,by k_is,by k_is,by k_is,by k_is⟩ KX G fun _ _ _ _ _ _=>N16.u7 fun _ _ _ _ _ _ _=>rfl
   iterate 2 (exact L2.Kp (by k_is) (by k_is) (by k_is) (by k_is) (by k_is) (by k_is) (by k_is) fun _ _ _ _ _ _=>N16.u2 fun _ _=>rfl)
   iterate 5 (exact L2.BS (by k_is) (by k_is) (by k_is) (by k_is) (by k_is) fun _ _ _ _ _ _=>N16.u2 fun _ _=>rfl)
   iterate 4 (exact L2.BS (by k_is) (by k_is) (by k_is) (by k_is) (by k_is) fun _ _ _ _ _ _=>N16.u3 fun _ _ _=>rfl)
   exact L2.BS (by k_is) (by k_is) (by k_is) (by k_is) (by k_is) fun _ _ _ _ _ _=>N16.u4 fun _ _ _ _=>rfl
   iterate 13 (exact PySem.W.mg_none_of KX G (by k_is))
   iterate 3 (exact ⟨_,PySem.W.mg_of KX G (by k_is)⟩)
  obtain ⟨t,T⟩:=T
  obtain ⟨a,d,Fl,ml,bl⟩:=T.Kz
  have e0:=hmg.symm.trans ml
  cases e0
  exact ⟨d,bl,fun base kb nb=>N16.Bn T Fl⟩
 case S=>exact fun K H a ns hl hO hS=>⟨a,ns,rfl,hS,hl,fun _=>rfl⟩
 case C=>exact fun H s e s' z=>z
