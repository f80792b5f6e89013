import PyProof.Rows.All
import Wide.All
import OpenK.AllK
import Wide.FinOn
import Lean
import PyProof.EqAt
import PyProof.EqKinds
import PyProof.TupleCall
import PyProof.ZipIter
import PyProof.Rows.ZipGen
import PyProof.EnumIter
import PyProof.EnumFor
import PyProof.EnumMake
import PyProof.EnumStmt
import PyProof.SliceStr2
import PyProof.StrBlockI
import PyProof.MinMaxWalk
import PyProof.Rows.CallKwBuiltin
import PyProof.Rows.Range3
import KE.KRevIter
import PyProof.AttrMissHeap
import KE.KDictOf
import PyProof.FactsAll.range_2
import PyProof.P3Eq
import PyProof.DictWalks
import PyProof.Rows.SeqMore2
import PyProof.Rows.SortStr
import PySem.Challenge.RW_stylehouse_k12_walks
set_option Elab.async false
set_option linter.all false
set_option maxRecDepth 100000
theorem Zj {α:Type _} {a b:α} (h:some a=some b):a=b:=Option.some.inj h
theorem Zb {a b:Nat} (h:Nat.ble a b=true):a<=b:=Nat.le_of_ble_eq_true h
theorem Zf:false≠true:=Bool.false_ne_true
theorem Zm {α:Type _} {β:Type _} {f:α->β} {x:Option α} {b:β} (h:x.map f=some b):∃ a,x=some a/\f a=b:=Option.map_eq_some_iff.mp h
def Za:=@List.length_map
def Zc:=@List.mem_cons_of_mem
def Zd:=@List.mem_append_right
def Ze:=@List.mem_cons_self
def Zg:=@List.map_cons
def Zh:=@List.mem_cons
def Zi:=@List.mem_append
def Zk:=@List.mem_append_left
def Zl:=@Nat.le_refl
def Zn:=@List.mem_singleton
def Zo:=@List.map_append
def Zp:=@List.size_toArray
def Zq:=@decide_eq_false
def Zr:=@PySem.Heap.lt_size
def Zs:=@decide_eq_true
def Zt:=@List.nodup_cons
def Zu:=@Nat.lt_of_lt_of_le
def Zv:=@PySem.wpAny_bind
def Zw:=@List.append_nil
def Zx:=@List.length_cons
def Zy:=@List.map_map
def Zz:=@Nat.ne_of_lt
def Z0:=@List.map_congr_left
def Z1:=@List.length_append
def Z2:=@PySem.W.Fast.te14364793385576792824
def Z3:=@Nat.zero_le
def Z4:=@Option.bind_some
def Z5:=@List.mem_map
def Z6:=@PySem.wpAny_pure
def Z7:=@List.drop_eq_getElem_cons
def Z8:=@Nat.le_trans
def Z9:=@List.flatMap_cons
def Yb:=@List.mem_map_of_mem
def Yc:=@PySem.wpAny_mono
def Yd:=@PySem.W.Fast.te10110043849684766642
def Ye:=@List.nodup_append
def Yg:=@Int.emod_lt_of_pos
def Yh:=@PySem.W.kia_one
def Yi:=@List.mem_flatMap
def Yj:=@PySem.mem_of_lookup
def Yk:=@List.flatMap_append
def Yl:=@PySem.wpAny_truthy_bool
def Ym:=@PySem.F.plainAttrs_list
def Yn:=@Nat.lt_irrefl
def Yo:=@congrArg
def Yp:=@Option.isSome_iff_exists
def Yq:=@Int.emod_nonneg
def Yr:=@Bool.and_eq_true
def Ys:=@List.all_eq_true
def Yt:=@PyProof.Rows.callWith_type1
def Yu:=@PySem.wpAny_Call_Name_kw
def Yv:=@List.drop_length
def Yw:=@Nat.le_of_lt
def Yy:=@List.mem_filter
def Yz:=@Classical.choose_spec
def Y0:=@PySem.wpAny_passesOwn
def Y1:=@List.length_set
def Y2:=@beq_eq_false_iff_ne
def Y3:=@List.replicate_succ
def Y4:=@Nat.lt_succ_self
def Y5:=@List.length_take
def Y6:=@List.getElem_mem
def Y7:=@decide_eq_decide
def Y8:=@List.mem_filterMap
def Y9:=@Option.map_some
def Xa:=@List.length_nil
def Xb:=@List.any_cons
def Xc:=@List.reverse_cons
def Xd:=@PySem.Calls.Name_function_global
def Xe:=@PySem.Heap.size_push
def Xf:=@PySem.lookup_relabel_local
def Xg:=@List.map_nil
def Xh:=@List.not_mem_nil
def Xi:=@List.filter_sublist
def Xj:=@List.map_take
def Xk:=@List.map_drop
def Xm:=@Bool.eq_iff_iff
def Xn:=@List.filter_map
def Xo:=@PySem.call_meets
def Xp:=@PySem.sizeLine_eq
section
namespace L2
open PySem PySem.Spec PyProof.Rows
abbrev Key:=Sum Int Str
def mX:Key->Value->Bool
 | .inl k,v=>Value.isInt k v
 | .inr x,v=>Value.isStrOf x v
def LD (w:World):Key->Int
 | .inl k=>hashInt k
 | .inr x=>hashStr w x
theorem aY:∀ {k:Key} {v:Value},mX k v=true->(∃ i t,k=Sum.inl i/\v=Value.int i t)\/(∃ x t,k=Sum.inr x/\v=Value.str x t)
 | .inl i,v,h=>by
  obtain ⟨t,e⟩:=Value.isInt_shape (k:=i) (v:=v) h;exact .inl ⟨i,t,rfl,e⟩
 | .inr x,v,h=>by
  obtain ⟨t,e⟩:=Value.isStrOf_shape (x:=x) (v:=v) h;exact .inr ⟨x,t,rfl,e⟩
theorem uU (i:Int) (t:Tok):mX (.inl i) (.int i t)=true:=by simp [mX,Value.isInt]
theorem uT (x:Str) (t:Tok):mX (.inr x) (.str x t)=true:=by simp [mX,Value.isStrOf]
theorem EG (a b:Int):decide ((Sum.inl a:Key)=Sum.inl b)=(a == b):=by
 by_cases e:a=b
 · subst e; simp
 ·have h:¬ (Sum.inl a:Key)=Sum.inl b:=λ q=>e (Sum.inl.inj q)
  rw [Zq h];exact (Y2.mpr e).symm
theorem ED (a b:Str):decide ((Sum.inr a:Key)=Sum.inr b)=decide (a=b):=by
 by_cases e:a=b
 · subst e; simp
 ·have h:¬ (Sum.inr a:Key)=Sum.inr b:=λ q=>e (Sum.inr.inj q)
  rw [Zq h,Zq e]
theorem EF (a:Int) (b:Str):decide ((Sum.inl a:Key)=Sum.inr b)=false:=Zq (λ q=>nomatch q)
theorem EE (a:Str) (b:Int):decide ((Sum.inr a:Key)=Sum.inl b)=false:=Zq (λ q=>nomatch q)
def bh (prog:Program) (w:World):PySem.KeyKind prog w Key where
 is:=mX
 hash:=LD w
 inj:=λ v a b ha hb=>by
  rcases aY ha with ⟨i,t,rfl,rfl⟩ | ⟨x,t,rfl,rfl⟩
  ·rcases aY hb with ⟨j,u,rfl,e⟩ | ⟨y,u,rfl,e⟩
   · injection e with e1 _; rw [e1]
   · exact nomatch e
  ·rcases aY hb with ⟨j,u,rfl,e⟩ | ⟨y,u,rfl,e⟩
   · exact nomatch e
   · injection e with e1 _; rw [e1]
 byValue:=λ k v h=>by
  rcases aY h with ⟨i,t,rfl,rfl⟩ | ⟨x,t,rfl,rfl⟩ <;> rfl
 pyHash:=λ hv h=>by
  rcases aY hv with ⟨i,t,rfl,rfl⟩ | ⟨x,t,rfl,rfl⟩
  · exact wpAny_pyHash_int h
  · exact wpAny_pyHash_str h
 eqBool:=λ hu hv h=>by
  rcases aY hu with ⟨i,t,rfl,rfl⟩ | ⟨x,t,rfl,rfl⟩
  ·rcases aY hv with ⟨j,u,rfl,rfl⟩ | ⟨y,u,rfl,rfl⟩
   · rw [EG] at h; exact wpAny_eqBool_int h
   · rw [EF] at h; exact SeqAt.EqAt.int_str i t y u _ _ _ _ h
  ·rcases aY hv with ⟨j,u,rfl,rfl⟩ | ⟨y,u,rfl,rfl⟩
   · rw [EE] at h; exact SeqAt.EqAt.str_int x t j u _ _ _ _ h
   · rw [ED] at h; exact wpAny_eqBool_str h
 «strs»:=λ k x t v h=>by
  rcases aY h with ⟨i,u,rfl,e⟩ | ⟨y,u,rfl,e⟩
  · exact nomatch e
  ·injection e with e1 _
   subst e1;cases v <;> rfl
theorem ot (prog:Program) (w:World) (i:Int) (t:Tok):(bh prog w).is (.inl i) (.int i t)=true:=uU i t
theorem oq (prog:Program) (w:World) (x:Str) (t:Tok):(bh prog w).is (.inr x) (.str x t)=true:=uT x t
end L2
namespace L2
open PySem PySem.Spec PyProof.Rows
inductive V where
 | non | bl (b:Bool) | int (i:Int) | str (x:Str) | byt (b:Array UInt8) | flt (b:UInt64) | ref (a:Addr) | ty (n:String)
 deriving DecidableEq
def RelV:V->Value->Prop
 | .non,u=>u=Value.none
 | .bl b,u=>u=Value.bool b
 | .int i,u=>∃ t,u=Value.int i t
 | .str x,u=>∃ t,u=Value.str x t
 | .byt b,u=>∃ t,u=Value.bytes b t
 | .flt b,u=>∃ t,u=Value.float b t
 | .ref a,u=>u=Value.ref a
 | .ty n,u=>u=Value.type n
abbrev be:List V->List Value->Prop:=Paired RelV
theorem be.length (r:be xs us):xs.length=us.length:=Paired.length r
theorem be.get:∀ {xs:List V} {us:List Value} {i:Nat} {x:V},be xs us->xs[i]?=some x->∃ u,us[i]?=some u/\RelV x u
 | _,_,_,_,.nil,e=>by simp at e
 | _,_,0,_,.cons r _,e=>by simp at e; subst e; exact ⟨_,rfl,r⟩
 | _,_,i+1,x,.cons _ t,e=>by
  obtain ⟨u,h1,h2⟩:=be.get (i:=i) (x:=x) t (by simpa using e);exact ⟨u,by simpa using h1,h2⟩
theorem be.append:∀ {xs ys:List V} {us ws:List Value},be xs us->be ys ws->be (xs++ys) (us++ws)
 | _,_,_,_,.nil,s=>s
 | _,_,_,_,.cons r t,s=>.cons r (be.append t s)
theorem be.take:∀ {xs:List V} {us:List Value} (n:Nat),be xs us->be (xs.take n) (us.take n)
 | _,_,0,_=>.nil
 | _,_,_+1,.nil=>.nil
 | _,_,n+1,.cons r t=>.cons r (be.take n t)
theorem be.drop:∀ {xs:List V} {us:List Value} (n:Nat),be xs us->be (xs.drop n) (us.drop n)
 | _,_,0,r=>r
 | _,_,_+1,.nil=>.nil
 | _,_,n+1,.cons _ t=>be.drop n t
def nK:Option V->Option Value->Prop
 | some v,some u=>RelV v u
 | none,none=>True
 | _,_=>False
def KV {κ:Type}:List (κ×V)->List (κ×Value)->Prop:=Paired λ (p:κ×V) (q:κ×Value)=>p.1=q.1/\RelV p.2 q.2
def kV:Key->V
 | .inl i=>.int i
 | .inr x=>.str x
inductive HO where
 | lst (xs:List V)
 | tup (xs:List V)
 | dK (kvs:List (Key×V)) | dT (kvs:List (List Key×V))
 | set (S:Int->Bool) (n:Nat)
 | ins (C dx:Addr) (fs:List (Str×V))
 | own (x:Addr)
 | xd (fs:List (Str×V))
 | met (f x:Addr)
 | rng (lo hi:Int)
 | frz (o:Obj) (u:HO)
 | tbl (ps:Array Value)
 | ext (φ:Heap->Prop)
abbrev Hp:=Addr->Option HO
def upd (H:Hp) (a:Addr) (o:HO):Hp:=λ b=>if b=a then some o else H b
theorem ao:upd H a o a=some o:=by unfold upd; rw [if_pos rfl]
theorem ai (h:b≠a):upd H a o b=H b:=by unfold upd; rw [if_neg h]
theorem IQ {H:Hp} {a b:Addr} {o u:HO} (h:H a=some o) (h':H b=some u) (d:o≠u):a≠b:=by
 intro e; subst e; rw [h] at h'; exact d (Zj h')
theorem cZ {H:Hp} {a b:Addr} {o:HO} (h:H a=some o) (h':H b=none):a≠b:=by
 intro e; subst e; rw [h] at h'; cases h'
section
variable (P:Program) (w:World)
def cq (H:Hp) (h:Heap) (a:Addr):HO->Prop
 | .lst xs=>xs.length<=sizeLine/\∃ (its:List Value) (n:Nat),be xs its/\h.get? a=some { cls:=.type "list",data:=.seq its.toArray n }
 | .tup xs=>xs.length<=sizeLine/\∃ its:List Value,be xs its/\IsTup h a its.toArray
 | .dK kvs=>kvs.length<=sizeLine/\(a == sysModules)=false/\∃ vs,KV kvs vs/\h.DictOf (bh P w) a vs
 | .dT kvs=>kvs.length<=sizeLine/\(a == sysModules)=false/\∃ xs:List (List Key×Addr×Value),
  Paired (λ (p:List Key×V) (q:List Key×Addr×Value)=>p.1=q.1/\H q.2.1=some (.tup (p.1.map kV))/\RelV p.2 q.2.2) kvs xs /\
  ∃ o es ep,h.get? a=some o/\o.ExactDict/\o.data=.dict es ep/\es.toList=xs.map (entryOfKey (tupleKind (bh P w)))/\(xs.map (·.1)).Nodup
 | .set S n=>h.SetOf (intKind P w) a S n
 | .ins C dx fs=>H dx=some (.own a)/\fs.length<=1000/\dx≠a/\h.get? a=some (PySem.W.instObj C dx) /\
  ∃ mA,h.Ns1 dx mA/\(∀ f,nK (fs.lookup f) (mA f))/\PySem.Within mA (fs.map (·.1))
 | .own _=>∃ o,h.get? a=some o
 | .xd fs=>∃ mA,h.Ns1 a mA/\∀ f,nK (fs.lookup f) (mA f)
 | .rng lo hi=>∃ t u v,h.get? a=some { cls:=.type "range",data:=.fields #[.int lo t,.int hi u,.int 1 v] }
 | .frz o u=>h.get? a=some o/\cq H h a u
 | .tbl ps=>h.get? a=some { cls:=.none,data:=.fields ps }
 | .met f x=>h.get? a=some (PySem.W.methodObj (.ref f) (.ref x))
 | .ext φ=>φ h/\(∃ o,h.get? a=some o)/\∀ h1 h2:Heap,φ h1->(∀ o,h1.get? a=some o->h2.get? a=some o)->φ h2
def HOk (H:Hp) (h:Heap):Prop:=∀ a o,H a=some o->cq P w H h a o
end
section
variable {P:Program} {w:World} {H H':Hp} {h h':Heap} {a:Addr} {o:HO}
theorem cq.lt (x:cq P w H h a o):a < h.objs.size:=by
 cases o with
 | lst xs=>obtain ⟨_,_,_,_,e⟩:=x; exact Zr e
 | tup xs=>obtain ⟨_,_,_,p⟩:=x; exact p.lt
 | dK kvs=>obtain ⟨_,_,_,_,o,_,_,e,_⟩:=x; exact Zr e
 | dT kvs=>obtain ⟨_,_,_,_,o,_,_,e,_⟩:=x; exact Zr e
 | set S n=>obtain ⟨o,_,_,_,e,_⟩:=x; exact Zr e
 | ins C dx fs=>obtain ⟨_,_,_,e,_⟩:=x; exact Zr e
 | own y=>obtain ⟨_,e⟩:=x; exact Zr e
 | xd fs=>obtain ⟨_,⟨_,_,_,e,_⟩,_⟩:=x; exact Zr e
 | rng lo hi=>obtain ⟨_,_,_,e⟩:=x; exact Zr e
 | frz ob u=>obtain ⟨e,_⟩:=x; exact Zr e
 | tbl ps=>exact Zr (show h.get? a=some _ from x)
 | met f y=>exact Zr (show h.get? a=some _ from x)
 | ext φ=>obtain ⟨_,⟨_,e⟩,_⟩:=x; exact Zr e
theorem Paired.IY {α β:Type} {F G:α->β->Prop}:∀ {l₁:List α} {l₂:List β},Paired F l₁ l₂->(∀ a b,F a b->G a b)->Paired G l₁ l₂
 | _,_,.nil,_=>.nil
 | _,_,.cons r t,f=>.cons (f _ _ r) (Paired.IY t f)
theorem cq.sM (x:cq P w H h a o) (k:∀ b u,(b=a\/H b=some (.own a))->h.get? b=some u->h'.get? b=some u)
  (ho:∀ b,H b=some (.own a)->H' b=some (.own a)) (ht:∀ b xs,H b=some (.tup xs)->H' b=some (.tup xs)):cq P w H' h' a o:=by
 induction o with
 | lst xs=>obtain ⟨z,its,n,r,e⟩:=x; exact ⟨z,its,n,r,k _ _ (.inl rfl) e⟩
 | tup xs=>obtain ⟨z,its,r,ob,e,c⟩:=x; exact ⟨z,its,r,ob,k _ _ (.inl rfl) e,c⟩
 | dK kvs=>obtain ⟨z,y,vs,r,ob,es,ep,e,c⟩:=x; exact ⟨z,y,vs,r,ob,es,ep,k _ _ (.inl rfl) e,c⟩
 | dT kvs =>
  obtain ⟨z,y,xs,r,ob,es,ep,e,c⟩:=x;exact ⟨z,y,xs,Paired.IY r λ p q z=>⟨z.1,ht _ _ z.2.1,z.2.2⟩,ob,es,ep,k _ _ (.inl rfl) e,c⟩
 | set S n=>obtain ⟨ob,es,ep,t,e,c⟩:=x; exact ⟨ob,es,ep,t,k _ _ (.inl rfl) e,c⟩
 | ins C dx fs =>
  obtain ⟨d,z,ne,e,mA,⟨od,es,ep,e2,c⟩,r⟩:=x;exact ⟨ho _ d,z,ne,k _ _ (.inl rfl) e,mA,⟨od,es,ep,k _ _ (.inr d) e2,c⟩,r⟩
 | own y=>obtain ⟨ob,e⟩:=x; exact ⟨ob,k _ _ (.inl rfl) e⟩
 | xd fs=>obtain ⟨mA,⟨od,es,ep,e,c⟩,r⟩:=x; exact ⟨mA,⟨od,es,ep,k _ _ (.inl rfl) e,c⟩,r⟩
 | rng lo hi=>obtain ⟨t,u,v,e⟩:=x; exact ⟨t,u,v,k _ _ (.inl rfl) e⟩
 | frz ob u ih=>obtain ⟨e,q⟩:=x; exact ⟨k _ _ (.inl rfl) e,ih q⟩
 | tbl ps =>
  have e:h.get? a=some { cls:=.none,data:=.fields ps }:=x;show h'.get? a=some { cls:=.none,data:=.fields ps };exact k a _ (.inl rfl) e
 | met f y =>
  have e:h.get? a=some (PySem.W.methodObj (.ref f) (.ref y)):=x;show h'.get? a=some (PySem.W.methodObj (.ref f) (.ref y));exact k a _ (.inl rfl) e
 | ext φ=>obtain ⟨p,⟨o,e⟩,st⟩:=x; exact ⟨st _ _ p λ o q=>k _ _ (.inl rfl) q,⟨o,k _ _ (.inl rfl) e⟩,st⟩
theorem HOk.lt (x:HOk P w H h) (e:H a=some o):a < h.objs.size:=(x a o e).lt
theorem HOk.fresh (x:HOk P w H h) (e:h.objs.size<=a):H a=none:=by
 cases q:H a with
 | none=>rfl
 | some u=>exact absurd (Zu (x.lt q) e) (Yn _)
theorem HOk.kept (x:HOk P w H h) (k:∀ b u,h.get? b=some u->h'.get? b=some u):HOk P w H h':=λ a o e =>
 (x a o e).sM (λ b u _ q=>k b u q) (λ _ q=>q) λ _ _ q=>q
theorem HOk.laid (x:HOk P w H h) (k:∀ b u,h.get? b=some u->h'.get? b=some u) (hp:h.objs.size<=a) (new:cq P w (upd H a o) h' a o):HOk P w (upd H a o) h':=λ b u e=>by
 have hn:=x.fresh hp
 by_cases hb:b=a
 · subst hb; rw [ao] at e; cases e; exact new
 ·rw [ai hb] at e
  exact (x b u e).sM (λ c v _ q=>k c v q) (λ c q=>by rw [ai (cZ q hn)]; exact q) λ c xs q=>by rw [ai (cZ q hn)]; exact q
end
def Rd (H:Hp) (a:Addr) (u:HO):Prop:=H a=some u\/∃ o,H a=some (.frz o u)
theorem Rd.ok (r:Rd H a u) (x:HOk P w H h):cq P w H h a u:=by
 rcases r with r | ⟨o,r⟩
 · exact x a u r
 ·obtain ⟨_,q⟩:=x a _ r
  exact q
def Mut:Option HO->Prop
 | some (.lst _)=>True
 | some (.dK _)=>True
 | some (.dT _)=>True
 | some (.set _ _)=>True
 | some (.ins _ _ _)=>True
 | some (.ext _)=>True
 | _=>False
section
variable {P:Program} {w:World} {H:Hp} {h h':Heap} {x e:Addr} {o':HO}
theorem HOk.write (ok:HOk P w H h) (mu:Mut (H x)) (he:e=x\/H e=some (.own x)) (k:∀ b u,b≠e->h.get? b=some u->h'.get? b=some u) (heo:∃ u,h'.get? e=some u)
  (new:cq P w (upd H x o') h' x o'):HOk P w (upd H x o') h':=λ b u q=>by
 have nown:∀ c y,H c=some (.own y)->c≠x:=λ c y r z=>by subst z; rw [r] at mu; exact mu
 have ntup:∀ c xs,H c=some (.tup xs)->c≠x:=λ c xs r z=>by subst z; rw [r] at mu; exact mu
 by_cases hb:b=x
 · subst hb; rw [ao] at q; cases q; exact new
 ·rw [ai hb] at q
  by_cases hbe:b=e
  ·have q':H b=some (.own x):=by
    rcases he with z | z
    · exact absurd (hbe.trans z) hb
    · rw [hbe]; exact z
   rw [q] at q'; cases q'
   obtain ⟨v,hv⟩:=heo;exact ⟨v,by rw [hbe]; exact hv⟩
  ·refine (ok b u q).sM (λ c v hc r=>k c v ?_ r) (λ c r=>by rw [ai (nown c b r)]; exact r) λ c xs r=>by rw [ai (ntup c xs r)]; exact r
   rcases hc with rfl | hc
   · exact hbe
   ·rintro rfl
    rcases he with z | z
    · exact nown c b hc z
    · rw [hc] at z; cases z; exact hb rfl
end
structure Un (fs ex:List Addr) (H H':Hp) (h h':Heap):Prop where
 keep:∀ b o,h.get? b=some o->H b=none->b ∉ fs->b ∉ ex->h'.get? b=some o
 slot:∀ b o,h.get? b=some o->H b=none->b ∈ fs->b ∉ ex->∃ sl,h'.get? b=some { o with slots:=sl }
 free:∀ b o,h.get? b=some o->H b=none->b ∉ ex->H' b=none
 there:∀ b o,h.get? b=some o->b ∉ ex->∃ o',h'.get? b=some o'
 nQ:∀ b xs,H b=some (.tup xs)->H' b=some (.tup xs)
 nM:∀ b o u,H b=some (.frz o u)->H' b=some (.frz o u)
 nS:∀ b ps,H b=some (.tbl ps)->∃ more,H' b=some (.tbl (ps++more))
section
variable {fs fs' ex ex':List Addr} {H H1 H2:Hp} {h h1 h2 h':Heap} {a x e:Addr} {o:HO}
theorem Un.any (u:Un fs ex H H1 h h1) (q:h.get? b=some ob) (n:H b=none) (hx:b ∉ ex):∃ sl,h1.get? b=some { ob with slots:=sl }:=by
 by_cases hb:b ∈ fs
 · exact u.slot b ob q n hb hx
 · exact ⟨ob.slots,u.keep b ob q n hb hx⟩
theorem Un.kept (k:∀ b u,h.get? b=some u->h'.get? b=some u):Un fs ex H H h h' :=
 ⟨λ b ob q _ _ _=>k b ob q,λ b ob q _ _ _=>⟨ob.slots,k b ob q⟩,λ _ _ _ n _=>n,λ b ob q _=>⟨ob,k b ob q⟩,λ _ _ q=>q,λ _ _ _ q=>q,λ _ ps q=>⟨#[],by rw [q]; simp⟩⟩
theorem Un.refl:Un fs ex H H h h:=Un.kept λ _ _ q=>q
theorem Un.laid (k:∀ b u,h.get? b=some u->h'.get? b=some u) (hp:h.objs.size<=a) (hn:H a=none):Un fs ex H (upd H a o) h h' where
 keep:=λ b u q _ _ _=>k b u q
 slot:=λ b u q _ _ _=>⟨u.slots,k b u q⟩
 free:=λ b u q n _=>by rw [ai (Zz (Zu (Zr q) hp))]; exact n
 there:=λ b u q _=>⟨u,k b u q⟩
 nQ:=λ b xs q=>by rw [ai (cZ q hn)]; exact q
 nM:=λ b u xs q=>by rw [ai (cZ q hn)]; exact q
 nS:=λ b ps q=>⟨#[],by rw [ai (cZ q hn),q]; simp⟩
theorem Un.write (mu:Mut (H x)) (he:e=x\/H e=some (.own x)) (k:∀ b u,b≠e->h.get? b=some u->h'.get? b=some u) (heo:∃ u,h'.get? e=some u):Un fs ex H (upd H x o) h h':=by
 have hx:∀ b,H b=none->b≠x:=λ b n z=>by subst z; rw [n] at mu; exact mu
 have hb:∀ b,H b=none->b≠e:=λ b n z=>by
  subst z;rcases he with r | r
  · exact hx b n r
  · rw [n] at r; cases r
 have hm:∀ b u,H b=some u->¬ Mut (some u)->b≠x:=λ b u q nm z=>by subst z; rw [q] at mu; exact nm mu
 refine ⟨λ b u q n _ _=>k b u (hb b n) q,λ b u q n _ _=>⟨u.slots,k b u (hb b n) q⟩,λ b u q n _=>by rw [ai (hx b n)]; exact n,λ b u q _=>?_,
  λ b xs q=>by rw [ai (hm b _ q λ z=>z)]; exact q,λ b u xs q=>by rw [ai (hm b _ q λ z=>z)]; exact q,λ b ps q=>⟨#[],by rw [ai (hm b _ q λ z=>z),q]; simp⟩⟩
 by_cases hbe:b=e
 · subst hbe; exact heo
 · exact ⟨u,k b u hbe q⟩
end
def trk (h:Heap) (H:Hp):List Addr:=(List.range h.objs.size).filter λ a=>(H a).isSome
def yh (h:Heap) (H:Hp):Heap:=PySem.W.hideAll h (trk h H)
theorem va (h:Heap) (H:Hp):(yh h H).objs.size=h.objs.size:=PySem.W.hideAll_size _ _
theorem yg (e:h.get? b=some o) (n:H b=none):(yh h H).get? b=some o :=
 PySem.W.hideAll_get _ e λ hm=>by
  have q:(H b).isSome=true:=(Yy.mp hm).2;rw [n] at q; simp at q
theorem Bl (e:(yh h H).get? b=some o):h.get? b=some o/\H b=none:=by
 have e':h.get? b=some o:=PySem.W.of_hideAll (trk h H) e;refine ⟨e',?_⟩
 cases q:H b with
 | none=>rfl
 | some x =>
  have hm:b ∈ trk h H:=Yy.mpr ⟨List.mem_range.mpr (Zr e'),by simp [q]⟩;have z:(yh h H).get? b=none:=PySem.W.hideAll_none (trk h H) hm;rw [z] at e; cases e
end L2
namespace L2
open PySem PySem.Spec PyProof.Rows
structure Mod (K:W.Frag) (mg:Str->Option Value) (base:Heap):Prop where
 kin:K.In base
 glob:base.Ns mainGlobals mg
 blt:∃ mb,base.Ns builtinsNs mb/\∀ x:Str,x≠"__name__"->mb x=bootBuiltins x
 nolimit:base.NoLimit
structure Cx where
 prog:Program
 w:World
 K:W.Frag
 mg:Str->Option Value
 base:Heap
 A:Around
 N:List Str
 s₀:Shared
 H₀:Hp
 env:Env
 outer:List Env
 stack:List Env
 ex:List Addr
 fn:Str->Bool
 calm:Bool
 pn:List (Addr×Obj)
 xe:Value->Shared->Prop
def frs (l:List Env):List Addr:=l.filterMap (·.frame)
abbrev Cx.fs (X:Cx):List Addr:=frs X.outer
def Vis (sc:Scope) (x:Str):Prop:=sc.names.lookup x=some .local\/sc.names.lookup x=some .cell\/sc.names.lookup x=some .free
def Loc (sc:Scope) (x:Str):Prop:=sc.names.lookup x=some .local\/sc.names.lookup x=some .cell
def Look (env:Env) (h:Heap) (m:Str->Option Value) (x:Str) (u:Value):Prop :=
 (env.kindOf x=some .local/\m x=some u)\/((env.kindOf x=some .cell\/env.kindOf x=some .free)/\∃ c,env.cells.lookup x=some c/\h.IsCell c (some u))
structure Cx.Ok (X:Cx):Prop where
 mod:Mod X.K X.mg X.base
 kind:X.env.scope.kind=.function
 glob:X.env.globals=mainGlobals
 blt:X.env.builtins=builtinsNs
 above:X.s₀.heap.objs.size<=X.env.locals
 inj:∀ x y c,X.env.cells.lookup x=some c->X.env.cells.lookup y=some c->x=y
 has:∀ x,(X.env.kindOf x=some .cell\/X.env.kindOf x=some .free)->∃ c,X.env.cells.lookup x=some c
 cab:∀ x c,X.fn x=true->X.env.cells.lookup x=some c->X.s₀.heap.objs.size<=c
 hd:X.calm=true->X.A.handled=none
 frames:X.A.frames=some X.stack
 stk:X.stack=X.outer\/(X.stack=X.env::X.outer/\X.env.frame=some X.env.locals)
 exf:∀ b ∈ X.ex,b≠X.env.locals/\∀ x c,X.env.cells.lookup x=some c->c≠b
 bs:∀ b o,X.base.get? b=some o->X.s₀.heap.get? b=some o/\X.H₀ b=none
 bsz:X.base.objs.size<=X.s₀.heap.objs.size
 Bo:∀ b o,X.base.get? b=some o->b ∉ X.ex
 CD:∀ b ∈ X.ex,b ∉ X.fs
 pX:X.s₀.heap.FunFrames X.base X.outer
 frf:∀ b ∈ X.fs,X.H₀ b=none
structure Inv (X:Cx) (pins:List (Addr×Obj)) (σ:List (Option V)) (H:Hp) (s:Shared):Prop where
 ok:X.Ok
 os:s.os=X.s₀.os
 bare:AllBare s.gens
 base:Un X.fs X.ex X.H₀ H X.s₀.heap s.heap
 loc:∃ m,s.heap.Ns X.env.locals m/\∀ (i:Nat) (x:Str) (v:V),X.N[i]?=some x->σ[i]?=some (some v)->Vis X.env.scope x->∃ u,RelV v u/\Look X.env s.heap m x u
 cell:∀ x c,X.env.cells.lookup x=some c->∃ v,s.heap.IsCell c v
 free:H X.env.locals=none
 gw:∀ x c,X.env.cells.lookup x=some c->H c=none
 pin:∀ p ∈ X.pn++pins,s.heap.get? p.1=some p.2/\H p.1=none/\p.1≠X.env.locals/\p.1 ∉ X.fs/\∀ v,p.2.data≠.cell v
 hok:HOk X.prog X.w H s.heap
 len:σ.length=X.N.length
section
variable {X:Cx} {pins:List (Addr×Obj)} {σ:List (Option V)} {H H':Hp} {s:Shared} {h':Heap}
theorem Cx.Ok.Ll (ok:X.Ok) (e:X.base.get? b=some o):b ∉ X.fs:=λ hb=>by
 have:=(ok.pX.mem hb).1;rw [e] at this; cases this
theorem Inv.bs (I:Inv X pins σ H s):∀ b o,X.base.get? b=some o->s.heap.get? b=some o/\H b=none:=λ b o e =>
 ⟨I.base.keep b o (I.ok.bs b o e).1 (I.ok.bs b o e).2 (I.ok.Ll e) (I.ok.Bo b o e),I.base.free b o (I.ok.bs b o e).1 (I.ok.bs b o e).2 (I.ok.Bo b o e)⟩
theorem Inv.bk (I:Inv X pins σ H s):∀ b o,X.base.get? b=some o->s.heap.get? b=some o:=λ b o e=>(I.bs b o e).1
theorem Inv.mod (I:Inv X pins σ H s):Mod X.K X.mg X.base:=I.ok.mod
theorem Inv.kIn (I:Inv X pins σ H s):X.K.In s.heap:=I.ok.mod.kin.keeps I.bk
theorem Inv.lt (I:Inv X pins σ H s):X.env.locals < s.heap.objs.size:=let ⟨_,hn,_⟩:=I.loc; hn.lt
theorem Inv.sz (I:Inv X pins σ H s):X.s₀.heap.objs.size<=s.heap.objs.size:=Z8 I.ok.above (Yw I.lt)
theorem Inv.Lk (I:Inv X pins σ H s) (h:s.heap.objs.size<=a):a ∉ X.fs:=λ hb=>by
 obtain ⟨_,o,ho,_⟩:=I.ok.pX.mem hb;exact absurd (Zu (Zr ho) (Z8 I.sz h)) (Yn _)
theorem Inv.cne (I:Inv X pins σ H s):∀ x c,X.env.cells.lookup x=some c->c≠X.env.locals:=λ x c e z=>by
 obtain ⟨v,o,ho,hd⟩:=I.cell x c e;obtain ⟨m,⟨o',es,ep,ho',hd',_⟩,_⟩:=I.loc;rw [z,ho'] at ho; cases ho; rw [hd'] at hd; cases hd
theorem Inv.pX (I:Inv X pins σ H s):s.heap.FunFrames X.base X.outer:=by
 have all:∀ (l:List Env),(∀ b ∈ frs l,b ∈ X.fs)->X.s₀.heap.FunFrames X.base l->s.heap.FunFrames X.base l:=by
  intro l
  induction l with
  | nil=>intro _ _; trivial
  | cons env r ih =>
   intro hs hl;obtain ⟨hk,⟨L,o,hf,hn,ho,hd⟩,hr⟩:=hl;have hL:L ∈ X.fs:=hs L (by unfold frs; rw [List.filterMap_cons,hf]; exact Ze);obtain ⟨sl,e⟩:=I.base.slot L o ho (I.ok.frf L hL) hL λ z=>I.ok.CD L z hL
   exact ⟨hk,⟨L,_,hf,hn,e,hd⟩,ih (λ b hb=>hs b (by unfold frs; rw [List.filterMap_cons,hf]; exact Zc _ hb)) hr⟩
 exact all X.outer (λ _ hb=>hb) I.ok.pX
theorem Inv.stack (I:Inv X pins σ H s):s.heap.FunFrames X.base X.stack:=by
 rcases I.ok.stk with e | ⟨e,hf⟩
 · rw [e]; exact I.pX
 ·rw [e]
  obtain ⟨m,hn,_⟩:=I.loc;refine .cons (by rw [I.ok.kind]; decide) hf hn ?_ I.pX;exact Heap.get?_none_of_le (Z8 I.ok.bsz I.ok.above)
theorem Inv.dF (I:Inv X pins σ H s):∀ b ∈ frs X.stack,b ∈ X.env.locals::X.fs:=λ b hb=>by
 rcases I.ok.stk with e | ⟨e,hf⟩
 · rw [e] at hb; exact Zc _ hb
 ·rw [e] at hb
  unfold frs at hb;rw [List.filterMap_cons,hf] at hb;exact hb
theorem Inv.iy (I:Inv X pins σ H s):∀ b ∈ frs X.stack,H b=none:=λ b hb=>by
 rcases Zh.mp (I.dF b hb) with e | hb
 · rw [e]; exact I.free
 ·obtain ⟨_,o,ho,_⟩:=I.ok.pX.mem hb
  exact I.base.free b o ho (I.ok.frf b hb) λ z=>I.ok.CD b z hb
theorem Inv.step {g':Array GenState} {t':Nat} {d':Drawn} {ch:List Addr} (I:Inv X pins σ H s)
  (hch:∀ b ∈ ch,(b ∈ X.ex\/X.s₀.heap.objs.size<=b)/\b≠X.env.locals/\(∀ x c,X.env.cells.lookup x=some c->c≠b)/\∀ p ∈ X.pn++pins,p.1≠b)
  (keep:∀ b o,b≠X.env.locals->b ∉ X.fs->b ∉ ch->s.heap.get? b=some o->H b=none->h'.get? b=some o)
  (slot:∀ b o,b≠X.env.locals->b ∈ X.fs->b ∉ ch->s.heap.get? b=some o->H b=none->∃ sl,h'.get? b=some { o with slots:=sl }) (free:∀ b o,b ∉ ch->s.heap.get? b=some o->H b=none->H' b=none)
  (there:∀ b o,b ∉ ch->s.heap.get? b=some o->∃ o',h'.get? b=some o')
  (nQ:∀ b xs,H b=some (.tup xs)->H' b=some (.tup xs)) (nM:∀ b o u,H b=some (.frz o u)->H' b=some (.frz o u)) (nS:∀ b ps,H b=some (.tbl ps)->∃ more,H' b=some (.tbl (ps++more)))
  (ns:∀ m,s.heap.Ns X.env.locals m->h'.Ns X.env.locals m) (hok:HOk X.prog X.w H' h') (hg:AllBare g') :
  Inv X pins σ H' { s with heap:=h',gens:=g',drawn:=d',toks:=t' }:=by
 have neL:∀ b o,X.s₀.heap.get? b=some o->b≠X.env.locals:=λ b o e=>Zz (Zu (Zr e) I.ok.above)
 have neC:∀ b o,X.s₀.heap.get? b=some o->b ∉ X.ex->b ∉ ch:=λ b o e hx hb=>by
  rcases (hch b hb).1 with z | z
  · exact hx z
  · exact absurd (Zu (Zr e) z) (Yn _)
 have cellK:∀ x c,X.env.cells.lookup x=some c->∀ v,s.heap.IsCell c v->h'.IsCell c v:=λ x c e v ⟨o,ho,hd⟩=>by
  have nch:c ∉ ch:=λ z=>(hch c z).2.2.1 x c e rfl
  by_cases hc:c ∈ X.fs
  ·obtain ⟨sl,q⟩:=slot c o (I.cne x c e) hc nch ho (I.gw x c e)
   exact ⟨_,q,hd⟩
  · exact ⟨o,keep c o (I.cne x c e) hc nch ho (I.gw x c e),hd⟩
 refine ⟨I.ok,I.os,hg,⟨λ b o e n hb hx=>?_,λ b o e n hb hx=>?_,λ b o e n hx=>?_,λ b o e hx=>?_,λ b xs e=>nQ b xs (I.base.nQ b xs e),λ b o xs e=>nM b o xs (I.base.nM b o xs e),λ b ps e=>?_⟩,?_,λ x c e=>?_,?_,λ x c e=>?_,λ p hp=>?_,hok,I.len⟩
 · exact keep b o (neL b o e) hb (neC b o e hx) (I.base.keep b o e n hb hx) (I.base.free b o e n hx)
 ·obtain ⟨sl,e1⟩:=I.base.slot b o e n hb hx
  obtain ⟨sl',e2⟩:=slot b _ (neL b o e) hb (neC b o e hx) e1 (I.base.free b o e n hx);exact ⟨sl',e2⟩
 ·obtain ⟨o',e1⟩:=I.base.there b o e hx
  exact free b o' (neC b o e hx) e1 (I.base.free b o e n hx)
 ·obtain ⟨o',e1⟩:=I.base.there b o e hx
  exact there b o' (neC b o e hx) e1
 ·obtain ⟨m1,e1⟩:=I.base.nS b ps e
  obtain ⟨m2,e2⟩:=nS b _ e1;exact ⟨m1++m2,by rw [e2,Array.append_assoc]⟩
 ·obtain ⟨m,hn,hl⟩:=I.loc
  refine ⟨m,ns m hn,λ i x v e1 e2 e3=>?_⟩;obtain ⟨u,r,l⟩:=hl i x v e1 e2 e3;refine ⟨u,r,?_⟩;rcases l with l | ⟨k,c,e,z⟩
  · exact .inl l
  · exact .inr ⟨k,c,e,cellK x c e _ z⟩
 ·obtain ⟨v,z⟩:=I.cell x c e
  exact ⟨v,cellK x c e v z⟩
 ·obtain ⟨m,⟨o,_,_,ho,_⟩,_⟩:=I.loc
  exact free _ o (λ z=>(hch _ z).2.1 rfl) ho I.free
 ·obtain ⟨v,o,ho,hd⟩:=I.cell x c e
  exact free c o (λ z=>(hch c z).2.2.1 x c e rfl) ho (I.gw x c e)
 ·obtain ⟨e,n,ne,nf,d⟩:=I.pin p hp
  have nch:p.1 ∉ ch:=λ z=>(hch p.1 z).2.2.2 p hp rfl
  exact ⟨keep p.1 p.2 ne nf nch e n,free p.1 p.2 nch e n,ne,nf,d⟩
theorem Inv.un {t':Nat} (I:Inv X pins σ H s) (u:Un X.fs [] H H' s.heap h') (hok:HOk X.prog X.w H' h'):Inv X pins σ H' { s with heap:=h',toks:=t' }:=by
 obtain ⟨m,⟨o,es,ep,ho,r⟩,_⟩:=id I.loc;obtain ⟨sl,hL⟩:=u.any ho I.free (by simp)
 exact I.step (g':=s.gens) (d':=s.drawn) (ch:=[]) (λ _ z=>nomatch z) (λ b o _ hb _ e n=>u.keep b o e n hb (by simp)) (λ b o _ hb _ e n=>u.slot b o e n hb (by simp)) (λ b o _ e n=>u.free b o e n (by simp)) (λ b o _ e=>u.there b o e (by simp)) u.nQ u.nM u.nS (λ m' hm=>by
  obtain ⟨o',es',ep',ho',r'⟩:=hm;rw [ho] at ho'; cases ho'
  exact ⟨_,es',ep',hL,r'⟩) hok I.bare
theorem Inv.call {g':Array GenState} {t':Nat} {d':Drawn} {ch:List Addr} (I:Inv X pins σ H s) (u:Un (frs X.stack) ch H H' s.heap h') (hok:HOk X.prog X.w H' h') (hg:AllBare g')
  (hch:∀ b ∈ ch,(b ∈ X.ex\/X.s₀.heap.objs.size<=b)/\b≠X.env.locals/\(∀ x c,X.env.cells.lookup x=some c->c≠b)/\∀ p ∈ X.pn++pins,p.1≠b) :
  Inv X pins σ H' { s with heap:=h',gens:=g',drawn:=d',toks:=t' }:=by
 obtain ⟨m,⟨o,es,ep,ho,r⟩,_⟩:=id I.loc;obtain ⟨sl,hL⟩:=u.any ho I.free λ z=>(hch _ z).2.1 rfl
 exact I.step (ch:=ch) hch (λ b o hL hb hc e n=>u.keep b o e n (λ z=>(Zh.mp (I.dF b z)).elim hL hb) hc) (λ b o _ _ hc e n=>u.any e n hc) (λ b o hc e n=>u.free b o e n hc) (λ b o hc e=>u.there b o e hc) u.nQ u.nM u.nS (λ m' hm=>by
  obtain ⟨o',es',ep',ho',r'⟩:=hm;rw [ho] at ho'; cases ho'
  exact ⟨_,es',ep',hL,r'⟩) hok hg
theorem Inv.turned {t':Nat} {it:Addr} (I:Inv X pins σ H s) (k:∀ b o,b≠it->s.heap.get? b=some o->h'.get? b=some o) (hn:H it=none) (hL:it≠X.env.locals)
  (h1:it ∈ X.ex\/X.s₀.heap.objs.size<=it) (h2:∀ x c,X.env.cells.lookup x=some c->c≠it) (h3:∀ p ∈ X.pn++pins,p.1≠it):Inv X pins σ H { s with heap:=h',toks:=t' }:=by
 have nit:∀ b u,H b=some u->b≠it:=λ b u e z=>by rw [z,hn] at e; cases e
 refine I.step (g':=s.gens) (d':=s.drawn) (ch:=[it]) (λ b hb=>?_) (λ b o _ _ hc e _=>k b o (λ z=>hc (by simp [z])) e) (λ b o _ _ hc e _=>⟨o.slots,k b o (λ z=>hc (by simp [z])) e⟩) (λ _ _ _ _ n=>n)
  (λ b o hc e=>⟨o,k b o (λ z=>hc (by simp [z])) e⟩) (λ _ _ e=>e) (λ _ _ _ e=>e) (λ b ps e=>⟨#[],by rw [e]; simp⟩) (λ m hm=>?_) (λ b u e=>?_) I.bare
 ·have e:b=it:=by simpa using hb
  subst e;exact ⟨h1,hL,h2,h3⟩
 ·obtain ⟨o,es,ep,ho,r⟩:=hm
  exact ⟨o,es,ep,k _ o (Ne.symm hL) ho,r⟩
 ·refine (I.hok b u e).sM (λ c v hc q=>k c v ?_ q) (λ _ q=>q) λ _ _ q=>q
  rcases hc with z | z
  · rw [z]; exact nit b u e
  · exact nit c _ z
theorem Inv.tok (I:Inv X pins σ H s) (t:Nat):Inv X pins σ H { s with toks:=t }:=I.un (h':=s.heap) (t':=t) Un.refl I.hok
theorem Inv.kept (I:Inv X pins σ H s) (k:∀ b u,s.heap.get? b=some u->h'.get? b=some u):Inv X pins σ H { s with heap:=h',toks:=t' }:=I.un (Un.kept k) (I.hok.kept k)
theorem Inv.laid (I:Inv X pins σ H s) (k:∀ b u,s.heap.get? b=some u->h'.get? b=some u) (hp:s.heap.objs.size<=a) (new:cq X.prog X.w (upd H a o) h' a o) :
 Inv X pins σ (upd H a o) { s with heap:=h',toks:=t' }:=I.un (Un.laid k hp (I.hok.fresh hp)) (I.hok.laid k hp new)
theorem Inv.write (I:Inv X pins σ H s) (mu:Mut (H x)) (he:e=x\/H e=some (.own x)) (k:∀ b u,b≠e->s.heap.get? b=some u->h'.get? b=some u) (heo:∃ u,h'.get? e=some u)
 (new:cq X.prog X.w (upd H x o) h' x o):Inv X pins σ (upd H x o) { s with heap:=h',toks:=t' }:=I.un (Un.write mu he k heo) (I.hok.write mu he k heo new)
theorem Inv.gq (I:Inv X pins σ H s) (h:∀ p ∈ pins',s.heap.get? p.1=some p.2/\H p.1=none/\p.1≠X.env.locals/\p.1 ∉ X.fs/\∀ v,p.2.data≠.cell v):Inv X pins' σ H s :=
 ⟨I.ok,I.os,I.bare,I.base,I.loc,I.cell,I.free,I.gw,λ p hp=>(Zi.mp hp).elim (λ z=>I.pin p (Zk _ z)) (h p),I.hok,I.len⟩
theorem pP {N:List Str} (hN:N.Nodup) {i j:Nat} {x:Str} (a:N[i]?=some x) (b:N[j]?=some x):i=j:=by
 obtain ⟨h1,e1⟩:=List.getElem?_eq_some_iff.mp a;obtain ⟨h2,e2⟩:=List.getElem?_eq_some_iff.mp b;exact (List.getElem_inj hN).mp (e1.trans e2.symm)
theorem mz {M:Model} {A:Around} {E:Value->Shared->Prop} {i:Nat} {x:Str} {v:V} {u:Value} {Q:Unit->Shared->Prop} (I:Inv X pins σ H s) (hN:X.N.Nodup) (hi:X.N[i]?=some x) (hx:Loc X.env.scope x) (r:RelV v u)
  (h:∀ s',Inv X pins (σ.set i (some v)) H s'->(∃ a,Heap.SameBut a s.heap s'.heap/\(a=X.env.locals\/X.env.cells.lookup x=some a))->Q () s') (hf:X.fn x=true\/X.env.scope.names.lookup x=some .local:=by first | exact .inl rfl | exact .inr rfl | assumption):wpAny M A (storeName X.env x u) Q E s:=by
 obtain ⟨m,hn,hl⟩:=id I.loc;have hcls:(X.env.scope.kind == .class||(X.env.scope.kind == .module&&X.env.locals != X.env.globals))=false:=by rw [I.ok.kind]; rfl
 have hiσ:i < σ.length:=by rw [I.len]; exact (List.getElem?_eq_some_iff.mp hi).1
 have cne:=I.cne
 have tracked:∀ {a:Addr} {h':Heap},(∃ o,s.heap.get? a=some o/\H a=none)->Heap.SameBut a s.heap h'->HOk X.prog X.w H h':=λ {a h'} ha hs b ob e=>by
  obtain ⟨_,_,hfree⟩:=ha;refine (I.hok b ob e).sM (λ c w' hc q=>(hs.2 c ?_).trans q) (λ _ q=>q) λ _ _ q=>q
  rintro rfl
  rcases hc with rfl | hc
  · rw [hfree] at e; cases e
  · rw [hfree] at hc; cases hc
 rcases hx with hk | hk
 ·refine wpAny_storeName_local hk hn (λ h' hn' hs=>?_) hcls
  obtain ⟨oL,_,_,hoL,_⟩:=id hn;refine h _ ⟨I.ok,I.os,I.bare,⟨λ b o e n hb hx=>?_,λ b o e n hb hx=>?_,I.base.free,λ b o e hx=>?_,I.base.nQ,I.base.nM,I.base.nS⟩,⟨_,hn',λ j y v' e1 e2 e3=>?_⟩,λ y c e=>?_,I.free,I.gw,λ p hp=>?_,tracked ⟨oL,hoL,I.free⟩ hs,by simpa using I.len⟩ ⟨_,hs,.inl rfl⟩
  · exact (hs.2 b (Zz (Zu (Zr e) I.ok.above))).trans (I.base.keep b o e n hb hx)
  ·obtain ⟨sl,e1⟩:=I.base.slot b o e n hb hx
   exact ⟨sl,(hs.2 b (Zz (Zu (Zr e) I.ok.above))).trans e1⟩
  ·obtain ⟨o',e1⟩:=I.base.there b o e hx
   exact ⟨o',(hs.2 b (Zz (Zu (Zr e) I.ok.above))).trans e1⟩
  ·by_cases hj:j=i
   ·subst hj
    rw [hi] at e1; cases e1
    rw [List.getElem?_set_self hiσ] at e2;cases e2;exact ⟨u,r,.inl ⟨hk,by simp⟩⟩
   ·rw [List.getElem?_set_ne (Ne.symm hj)] at e2
    obtain ⟨u',r',q⟩:=hl j y v' e1 e2 e3;refine ⟨u',r',?_⟩;rcases q with ⟨k,e⟩ | ⟨k,c,e,z⟩
    ·refine .inl ⟨k,?_⟩
     have:y≠x:=λ e=>hj (pP hN e1 (e ▸ hi))
     simp [this,e]
    · exact .inr ⟨k,c,e,z.sameBut hs (cne y c e)⟩
  ·obtain ⟨w',z⟩:=I.cell y c e
   exact ⟨w',z.sameBut hs (cne y c e)⟩
  ·obtain ⟨e,n,ne,nf,d⟩:=I.pin p hp
   exact ⟨(hs.2 p.1 ne).trans e,n,ne,nf,d⟩
 ·have hfn:X.fn x=true:=by
   rcases hf with z | z
   · exact z
   · rw [z] at hk; cases hk
  obtain ⟨c,hc⟩:=I.ok.has x (.inl hk);obtain ⟨w',z⟩:=I.cell x c hc;refine wpAny_storeName_cell I.ok.kind hk hc z (λ h' hc' hs=>?_);obtain ⟨oc,hoc,hocd⟩:=id z;refine h { s with heap:=h' } ⟨I.ok,I.os,I.bare,⟨λ b o e n hb hx=>?_,λ b o e n hb hx=>?_,I.base.free,λ b o e hx=>?_,I.base.nQ,I.base.nM,I.base.nS⟩,⟨m,hn.sameBut hs (Ne.symm (cne x c hc)),λ j y v' e1 e2 e3=>?_⟩,λ y c' e=>?_,I.free,I.gw,λ p hp=>?_,tracked ⟨oc,hoc,I.gw x c hc⟩ hs,by simpa using I.len⟩ ⟨c,hs,.inr hc⟩
  · exact (hs.2 b (Zz (Zu (Zr e) (I.ok.cab x c hfn hc)))).trans (I.base.keep b o e n hb hx)
  ·obtain ⟨sl,e1⟩:=I.base.slot b o e n hb hx
   exact ⟨sl,(hs.2 b (Zz (Zu (Zr e) (I.ok.cab x c hfn hc)))).trans e1⟩
  ·obtain ⟨o',e1⟩:=I.base.there b o e hx
   exact ⟨o',(hs.2 b (Zz (Zu (Zr e) (I.ok.cab x c hfn hc)))).trans e1⟩
  ·by_cases hj:j=i
   ·subst hj
    rw [hi] at e1; cases e1
    rw [List.getElem?_set_self hiσ] at e2;cases e2;exact ⟨u,r,.inr ⟨.inl hk,c,hc,hc'⟩⟩
   ·rw [List.getElem?_set_ne (Ne.symm hj)] at e2
    obtain ⟨u',r',q⟩:=hl j y v' e1 e2 e3;refine ⟨u',r',?_⟩;rcases q with q | ⟨k,c',e,z'⟩
    · exact .inl q
    ·refine .inr ⟨k,c',e,z'.sameBut hs ?_⟩
     rintro rfl
     exact hj (pP hN e1 (I.ok.inj _ _ _ e hc ▸ hi))
  ·by_cases hcc:c'=c
   · subst hcc; exact ⟨_,hc'⟩
   ·obtain ⟨w2,z2⟩:=I.cell y c' e
    exact ⟨w2,z2.sameBut hs hcc⟩
  ·obtain ⟨e,n,ne,nf,d⟩:=I.pin p hp
   refine ⟨(hs.2 p.1 ?_).trans e,n,ne,nf,d⟩;intro q;rw [q,hoc] at e;have q':oc=p.2:=Zj e;exact d w' (by rw [<- q']; exact hocd)
theorem pC (I:Inv X pins σ H s) (hN:X.N.Nodup) (hi:X.N[i]?=some x) (hx:Loc X.env.scope x) (r:RelV v u)
  (h:∀ s',Inv X pins (σ.set i (some v)) H s'->Q () s') (hf:X.fn x=true\/X.env.scope.names.lookup x=some .local:=by first | exact .inl rfl | exact .inr rfl | assumption):wpAny M A (storeName X.env x u) Q E s :=
 mz I hN hi hx r (λ s' I' _=>h s' I') hf
theorem Inv.Cj (I:Inv X pins σ H s) (ho:s'.os=s.os) (u:Un (frs X.stack) ch H H' s.heap s'.heap) (hok:HOk X.prog X.w H' s'.heap) (hg:AllBare s'.gens)
  (hch:∀ b ∈ ch,(b ∈ X.ex\/X.s₀.heap.objs.size<=b)/\b≠X.env.locals/\(∀ x c,X.env.cells.lookup x=some c->c≠b)/\∀ p ∈ X.pn++pins,p.1≠b):Inv X pins σ H' s':=by
 obtain ⟨h',g',d',t',o'⟩:=s';have e:o'=s.os:=ho;subst e;exact I.call (g':=g') (t':=t') (d':=d') u hok hg hch
end
abbrev XK:=Value->Option Addr->Hp->Prop
abbrev St:=List (Option V)
abbrev VK:=V->Hp->Prop
abbrev TE:=St->Hp->VK->Prop
abbrev TT:=St->Hp->(Bool->Hp->Prop)->Prop
abbrev TA:=St->Hp->(List V->Hp->Prop)->Prop
structure Ends where
 nx:St->Hp->Prop
 rt:VK
 bk:St->Hp->Prop:=λ _ _=>False
 ct:St->Hp->Prop:=λ _ _=>False
abbrev TS:=Ends->St->Hp->Prop
def EP (X:Cx) (pins:List (Addr×Obj)) (σ:St) (Q:VK) (u:Value) (s':Shared):Prop:=∃ v H',Inv X pins σ H' s'/\RelV v u/\Q v H'
def TP (X:Cx) (pins:List (Addr×Obj)) (σ:St) (Q:Bool->Hp->Prop) (b:Bool) (s':Shared):Prop:=∃ H',Inv X pins σ H' s'/\Q b H'
def AP (X:Cx) (pins:List (Addr×Obj)) (σ:St) (Q:List V->Hp->Prop) (us:List Value) (s':Shared):Prop:=∃ vs H',Inv X pins σ H' s'/\be vs us/\Q vs H'
def SP (X:Cx) (pins:List (Addr×Obj)) (D:Ends) (f:Flow) (s':Shared):Prop :=
 match f with
 | .next=>∃ σ' H',Inv X pins σ' H' s'/\D.nx σ' H'
 | .brk=>∃ σ' H',Inv X pins σ' H' s'/\D.bk σ' H'
 | .cont=>∃ σ' H',Inv X pins σ' H' s'/\D.ct σ' H'
 | .ret u=>∃ v σ' H',Inv X pins σ' H' s'/\RelV v u/\D.rt v H'
def PE (X:Cx) (e:Expr) (t:TE):Prop :=
 ∀ (pins:List (Addr×Obj)) (s:Shared) (σ:St) (H:Hp) (Q:VK),Inv X pins σ H s->t σ H Q->wpAny (model X.prog X.w) X.A (eval e X.env) (EP X pins σ Q) X.xe s
def PT (X:Cx) (e:Expr) (t:TT):Prop :=
 ∀ (pins:List (Addr×Obj)) (s:Shared) (σ:St) (H:Hp) (Q:Bool->Hp->Prop),Inv X pins σ H s->t σ H Q->wpAny (model X.prog X.w) X.A (isTrue e X.env (eval e X.env)) (TP X pins σ Q) X.xe s
def PW (X:Cx) (e:Expr) (t:TT):Prop :=
 ∀ (whole:Sem Value) (pins:List (Addr×Obj)) (s:Shared) (σ:St) (H:Hp) (Q:Bool->Hp->Prop),Inv X pins σ H s->t σ H Q->wpAny (model X.prog X.w) X.A (isTrue e X.env whole) (TP X pins σ Q) X.xe s
theorem PW.pt (h:PW X e t):PT X e t:=h _
def PA (X:Cx) (es:List Expr) (t:TA):Prop :=
 ∀ (pos:Pos) (pins:List (Addr×Obj)) (s:Shared) (σ:St) (H:Hp) (Q:List V->Hp->Prop),Inv X pins σ H s->t σ H Q->wpAny (model X.prog X.w) X.A (spliced (backTo pos (starEach es X.env))) (AP X pins σ Q) X.xe s
def PS (X:Cx) (st:Stmt) (t:TS):Prop :=
 ∀ (pins:List (Addr×Obj)) (s:Shared) (σ:St) (H:Hp) (D:Ends),Inv X pins σ H s->t D σ H->wpAny (model X.prog X.w) X.A (exec st X.env) (SP X pins D) X.xe s
def PSs (X:Cx) (st:List Stmt) (t:TS):Prop :=
 ∀ (pins:List (Addr×Obj)) (s:Shared) (σ:St) (H:Hp) (D:Ends),Inv X pins σ H s->t D σ H->wpAny (model X.prog X.w) X.A (execs st X.env) (SP X pins D) X.xe s
theorem thn {α:Type} {t:Sem α} {Q Q':α->Shared->Prop} (h:wpAny M A t Q E s) (hQ:∀ a s,Q a s->Q' a s):wpAny M A t Q' E s:=Yc h hQ λ _ _ x=>x
end L2
namespace L2
open PySem PySem.Spec PyProof.Rows
section
variable {X:Cx}
theorem bin {a b:Expr} {ta tb:TE} (ha:PE X a ta) (hb:PE X b tb) {pins:List (Addr×Obj)} {s:Shared} {σ:St} {H:Hp} {R:V->V->Hp->Prop} (I:Inv X pins σ H s) (h:ta σ H λ x H1=>tb σ H1 λ y H2=>R x y H2)
  {α:Type} {Q:α->Shared->Prop} {f:Value->Value->Sem α}
  (hf:∀ v u s2 x y H2,Inv X pins σ H2 s2->RelV x v->RelV y u->R x y H2->wpAny (model X.prog X.w) X.A (f v u) Q X.xe s2) :
  wpAny (model X.prog X.w) X.A (eval a X.env) (λ v s₁=>wpAny (model X.prog X.w) X.A (eval b X.env) (λ u s₂=>wpAny (model X.prog X.w) X.A (f v u) Q X.xe s₂) X.xe s₁) X.xe s:=by
 refine thn (ha pins s σ H _ I h) λ v s1 ⟨x,H1,I1,r1,q1⟩=>?_
 refine thn (hb pins s1 σ H1 _ I1 q1) λ u s2 ⟨y,H2,I2,r2,q2⟩=>?_
 exact hf v u s2 x y H2 I2 r1 r2 q2
def yK (i:Nat):TE:=λ σ H Q=>∃ v,σ[i]?=some (some v)/\Q v H
def tC (v:V):TE:=λ _ H Q=>Q v H
theorem cI (hN:X.N[i]?=some x) (hv:Vis X.env.scope x) (hd:(x == ("__debug__":Str))=false:=by decide) (hcd:(x == ("__classdict__":Str))=false:=by decide):PE X (.Name x pos) (yK i):=by
 intro pins s σ H Q I h;obtain ⟨v,e,h⟩:=h;obtain ⟨m,hn,hl⟩:=I.loc;obtain ⟨u,r,l⟩:=hl i x v hN e hv;have fin:EP X pins σ Q u s:=⟨v,H,I,r,h⟩
 rcases l with ⟨hk,hm⟩ | ⟨hk,c,hc,hcell⟩
 · exact wpAny_Name (wpAny_loadName_local I.ok.kind hk hn hm fin) hd
 ·rcases hk with hk | hk
  · exact wpAny_Name (wpAny_loadName_cell I.ok.kind hk hc hcell fin) hd
  · exact wpAny_Name (wpAny_loadName_free I.ok.kind hk hc hcell fin hcd) hd
theorem kS {i j pos}:PE X (.Constant (.int i) j pos) (tC (.int i)):=λ _ _ _ H _ I h=>wpAny_Constant_int ⟨.int i,H,I.tok _,⟨_,rfl⟩,h⟩
theorem A7 {b j pos}:PE X (.Constant (.bool b) j pos) (tC (.bl b)):=λ _ _ _ H _ I h=>Constant_bool ⟨.bl b,H,I,rfl,h⟩
theorem DV {j pos}:PE X (.Constant .none j pos) (tC .non):=λ _ _ _ H _ I h=>Constant_none ⟨.non,H,I,rfl,h⟩
theorem yX {x j pos}:PE X (.Constant (.str x) j pos) (tC (.str x)):=λ _ _ _ H _ I h=>Calls.Constant_str ⟨.str x,H,I.tok _,⟨_,rfl⟩,h⟩
def Gl (X:Cx) (x:Str):Prop:=X.env.kindOf x=some .globalImplicit
theorem jT (I:Inv X pins σ H s) (hg:Gl X x) (hm:X.mg x=some u) (h:Q u s)
  (hd:(x == ("__debug__":Str))=false:=by decide):wpAny (model X.prog X.w) X.A (eval (.Name x pos) X.env) Q E s :=
 Xd I.ok.kind hg (Calls.loadGlobal_global (by rw [I.ok.glob]; exact I.mod.glob.keeps I.bk) hm h) hd
theorem jU (I:Inv X pins σ H s) (hg:Gl X x) (hm:X.mg x=none) (hv:bootBuiltins x=some u) (h:Q u s)
  (hn:x≠"__name__":=by decide) (hd:(x == ("__debug__":Str))=false:=by decide):wpAny (model X.prog X.w) X.A (eval (.Name x pos) X.env) Q E s:=by
 obtain ⟨mb,h1,h2⟩:=I.mod.blt;exact Xd I.ok.kind hg (Calls.loadGlobal_builtin (by rw [I.ok.glob]; exact I.mod.glob.keeps I.bk) hm (by rw [I.ok.blt]; exact h1.keeps I.bk) ((h2 x hn).trans hv) h) hd
theorem A2 (hg:Gl X x) (hm:X.mg x=some u) (r:RelV v u) (hd:(x == ("__debug__":Str))=false:=by decide):PE X (.Name x pos) (tC v) :=
 λ _ _ _ H _ I h=>jT I hg hm ⟨v,H,I,r,h⟩ hd
theorem A6 (hg:Gl X x) (hm:X.mg x=none) (hv:bootBuiltins x=some u) (r:RelV v u) (hn:x≠"__name__":=by decide) (hd:(x == ("__debug__":Str))=false:=by decide):PE X (.Name x pos) (tC v) :=
 λ _ _ _ H _ I h=>jU I hg hm hv ⟨v,H,I,r,h⟩ hn hd
def t2I (ta tb:TE) (k:Int->Int->Hp->Prop):St->Hp->Prop:=λ σ H=>ta σ H λ x H1=>tb σ H1 λ y H2=>∃ i j,x=.int i/\y=.int j/\k i j H2
variable {a b:Expr} {ta tb:TE} {pos:Pos}
def PC (X:Cx) (op:CmpOp) (a b:Expr) (t:TE):Prop :=
  ∀ (pins:List (Addr×Obj)) (s:Shared) (σ:St) (H:Hp) (Q:VK),Inv X pins σ H s->t σ H Q ->
    wpAny (model X.prog X.w) X.A (eval a X.env) (λ v s₁=>wpAny (model X.prog X.w) X.A (eval b X.env) (λ u s₂=>wpAny (model X.prog X.w) X.A (compareOp op v u) (EP X pins σ Q) X.xe s₂) X.xe s₁) X.xe s
theorem xT (b:Expr) (h:op≠.In) (h2:op≠.NotIn):behindInMarks op b=false:=by
 have e1:(op == CmpOp.In)=false:=by cases op <;> first | rfl | exact absurd rfl h
 have e2:(op == CmpOp.NotIn)=false:=by cases op <;> first | rfl | exact absurd rfl h2
 cases b <;> simp [behindInMarks,e1,e2]
def JG (p:Int->Int->Bool) (ta tb:TE):TE:=λ σ H Q=>t2I ta tb (λ i j H2=>Q (.bl (p i j)) H2) σ H
abbrev Kz:TE->TE->TE:=JG λ i j=>decide (i=j)
theorem D9 {op:CmpOp} {p:Int->Int->Bool} (ha:PE X a ta) (hb:PE X b tb)
  (rule:∀ (i j:Int) (t u:Tok) (Q:Value->Shared->Prop) (s:Shared),Q (.bool (p i j)) s->wpAny (model X.prog X.w) X.A (compareOp op (.int i t) (.int j u)) Q X.xe s):PC X op a b (JG p ta tb):=by
 intro pins s σ H Q I h;refine bin ha hb I h λ v u s2 x y H2 I2 rx ry q=>?_
 obtain ⟨i,j,rfl,rfl,q⟩:=q;obtain ⟨t,rfl⟩:=rx;obtain ⟨t',rfl⟩:=ry;exact rule i j t t' _ s2 ⟨.bl _,H2,I2,rfl,q⟩
theorem uk (ha:PE X a ta) (hb:PE X b tb):PC X .Eq a b (Kz ta tb):=D9 ha hb λ _ _ _ _ _ _ h=>eq_int (by rw [Bool.beq_eq_decide_eq]; exact h)
def tB (t:TE):TT:=λ σ H Q=>t σ H λ x H1=>∃ c,x=.bl c/\Q c H1
theorem mE (h:PC X op a b t) (h1:behindInMarks op b=false:=by first | exact xT _ (by decide) (by decide) | rfl):PT X (.Compare a [op] [b] pos) (tB t):=by
 intro pins s σ H Q I hw;refine wpAny_isTrue_Compare1 (thn (h pins s σ H _ I hw) λ v s1 h1=>thn h1 λ u s2 h2=>thn h2 λ c s3 ⟨x,H1,I1,r1,q1⟩=>?_) h1;obtain ⟨d,rfl,q⟩:=q1;cases r1;exact Yl ⟨H1,I1,q⟩
theorem yU (h:PE X e t) (he:∀ whole,isTrue e X.env whole=(do let v <- whole; standAt e.pos; holding [v] (truthy v)):=by intro _; rfl):PT X e (tB t):=by
 intro pins s σ H Q I hw;refine isTrue_plain (thn (h pins s σ H _ I hw) λ v s1 ⟨x,H1,I1,r1,q1⟩=>?_) (he _);obtain ⟨d,rfl,q⟩:=q1;cases r1;exact Yl ⟨H1,I1,q⟩
variable {tA tB':TT} {rest:List Expr}
def KC (t u:TT):TT:=λ σ H Q=>t σ H λ c H1=>if c=true then u σ H1 Q else Q false H1
def tOr (t u:TT):TT:=λ σ H Q=>t σ H λ c H1=>if c=true then Q true H1 else u σ H1 Q
def Ku (t:TT):TT:=λ σ H Q=>t σ H λ c H1=>Q (!c) H1
theorem pw_and1 (ha:PT X a tA):PW X (.BoolOp .And [a] pos) tA:=by
 intro wh pins s σ H Q I h;refine isTrue_and (thn (ha pins s σ H Q I h) λ c s1 e=>?_)
 cases c with
 | true=>exact isTrue_and_nil e
 | false=>exact e
theorem pw_or1 (ha:PT X a tA):PW X (.BoolOp .Or [a] pos) tA:=by
 intro wh pins s σ H Q I h;refine isTrue_or (thn (ha pins s σ H Q I h) λ c s1 e=>?_)
 cases c with
 | false=>exact isTrue_or_nil e
 | true=>exact e
theorem pw_and (ha:PT X a tA) (hb:PW X (.BoolOp .And (b::rest) pos) tB'):PW X (.BoolOp .And (a::b::rest) pos) (KC tA tB'):=by
 intro wh pins s σ H Q I h;refine isTrue_and (thn (ha pins s σ H _ I h) λ c s1 ⟨H1,I1,q1⟩=>?_)
 cases c with
 | true=>exact hb wh pins s1 σ H1 Q I1 q1
 | false=>exact ⟨H1,I1,q1⟩
theorem pw_or (ha:PT X a tA) (hb:PW X (.BoolOp .Or (b::rest) pos) tB'):PW X (.BoolOp .Or (a::b::rest) pos) (tOr tA tB'):=by
 intro wh pins s σ H Q I h;refine isTrue_or (thn (ha pins s σ H _ I h) λ c s1 ⟨H1,I1,q1⟩=>?_)
 cases c with
 | true=>exact ⟨H1,I1,q1⟩
 | false=>exact hb wh pins s1 σ H1 Q I1 q1
theorem yV (ha:PT X a tA):PT X (.UnaryOp .Not a pos) (Ku tA):=by
 intro pins s σ H Q I h;exact isTrue_not (ha pins s σ H (λ c H1=>Q (!c) H1) I h)
def GJ (ta tb:TE):TE:=λ σ H Q=>ta σ H λ x H1=>∃ c,x=.bl c/\if c=true then tb σ H1 Q else Q (.bl false) H1
def GC (ta:TE):TE:=λ σ H Q=>ta σ H λ x H1=>∃ c,x=.bl c/\Q (.bl (!c)) H1
theorem DR {op} (h:PE X a t):PE X (.BoolOp op [a] pos) t:=λ pins s σ H Q I hw=>BoolOp_one (h pins s σ H Q I hw)
theorem DX (ha:PE X a ta) (hb:PE X (.BoolOp .And (b::rest) pos) tb):PE X (.BoolOp .And (a::b::rest) pos) (GJ ta tb):=by
 intro pins s σ H Q I h;refine BoolOp_and (thn (ha pins s σ H _ I h) λ v s1 ⟨x,H1,I1,r1,q1⟩=>?_);obtain ⟨c,rfl,q1⟩:=q1;cases r1;refine Yl ?_
 cases c with
 | true=>exact hb pins s1 σ H1 Q I1 q1
 | false=>exact ⟨.bl false,H1,I1,rfl,q1⟩
theorem DU (ha:PE X a ta):PE X (.UnaryOp .Not a pos) (GC ta):=by
 intro pins s σ H Q I h;refine UnaryOp_ (thn (ha pins s σ H _ I h) λ v s1 ⟨x,H1,I1,r1,q1⟩=>?_);obtain ⟨c,rfl,q1⟩:=q1;cases r1;exact not_of (Yl ⟨.bl (!c),H1,I1,rfl,q1⟩)
def tIf (t:TT) (ta tb:TE):TE:=λ σ H Q=>t σ H λ c H1=>if c=true then ta σ H1 Q else tb σ H1 Q
theorem xC (hc:PT X c tA) (ha:PE X a ta) (hb:PE X b tb):PE X (.IfExp c a b pos) (tIf tA ta tb):=by
 intro pins s σ H Q I h;refine wpAny_IfExp (thn (hc pins s σ H _ I h) λ d s1 ⟨H1,I1,q1⟩=>?_)
 cases d with
 | true=>exact ha pins s1 σ H1 Q I1 q1
 | false=>exact hb pins s1 σ H1 Q I1 q1
end
end L2
namespace L2
open PySem PySem.Spec PyProof.Rows
def SqL (K:W.Frag) (H:Hp) (a:Addr) (xs:List V):Prop :=
 Rd H a (.lst xs) \/
  ∃ (o:Obj) (its:Array Value) (n:Nat),K.lookup a=some o/\o.cls=.type "list"/\o.dict=none/\o.data=.seq its n/\its.size<=sizeLine/\be xs its.toList
def SqT (K:W.Frag) (H:Hp) (a:Addr) (xs:List V):Prop :=
 Rd H a (.tup xs) \/
  ∃ (o:Obj) (its:Array Value) (n:Nat),K.lookup a=some o/\o.cls=.type "tuple"/\o.data=.seq its n/\its.size<=sizeLine/\be xs its.toList
def LS:Value->Option V
 | .none=>some .non
 | .bool b=>some (.bl b)
 | .int i _=>some (.int i)
 | .str x _=>some (.str x)
 | .bytes b _=>some (.byt b)
 | .float b _=>some (.flt b)
 | .ref a=>some (.ref a)
 | .type n=>some (.ty n)
 | _=>none
theorem RelV.abs (r:RelV x u):LS u=some x:=by
 cases x with
 | non=>cases r; rfl
 | bl _=>cases r; rfl
 | int _=>obtain ⟨t,rfl⟩:=r; rfl
 | str _=>obtain ⟨t,rfl⟩:=r; rfl
 | byt _=>obtain ⟨t,rfl⟩:=r; rfl
 | flt _=>obtain ⟨t,rfl⟩:=r; rfl
 | ref _=>cases r; rfl
 | ty _=>cases r; rfl
theorem RelV.inj (r:RelV x u) (q:RelV y u):x=y:=Zj (r.abs.symm.trans q.abs)
theorem be.inj:∀ {xs ys:List V} {us:List Value},be xs us->be ys us->xs=ys
 | _,_,_,.nil,.nil=>rfl
 | _,_,_,.cons r t,.cons r' t'=>by rw [r.inj r',be.inj t t']
section
variable {X:Cx} {pins:List (Addr×Obj)} {σ:St} {H:Hp} {s:Shared} {a:Addr} {xs ys:List V}
theorem SqL.of {K:W.Frag} (h:H a=some (.lst xs)):SqL K H a xs:=.inl (.inl h)
theorem SqT.of {K:W.Frag} (h:H a=some (.tup xs)):SqT K H a xs:=.inl (.inl h)
theorem Inv.list (I:Inv X pins σ H s) (h:SqL X.K H a xs):∃ its:List Value,be xs its/\PlainL s.heap a its.toArray/\xs.length<=sizeLine:=by
 rcases h with h | ⟨o,its,n,hk,hc,hd,hs,hz,r⟩
 ·obtain ⟨z,its,n,r,e⟩:=h.ok I.hok
  exact ⟨its,r,⟨_,n,e,rfl,rfl,rfl⟩,z⟩
 ·refine ⟨its.toList,r,⟨o,n,I.kIn a o hk,hc,hd,by simpa using hs⟩,?_⟩
  have e:=r.length;simp only [Array.length_toList] at e;omega
theorem Inv.tuple (I:Inv X pins σ H s) (h:SqT X.K H a xs):∃ its:List Value,be xs its/\IsTup s.heap a its.toArray/\xs.length<=sizeLine:=by
 rcases h with h | ⟨o,its,n,hk,hc,hs,hz,r⟩
 ·obtain ⟨z,its,r,p⟩:=h.ok I.hok
  exact ⟨its,r,p,z⟩
 ·refine ⟨its.toList,r,⟨o,I.kIn a o hk,hc,n,by simpa using hs⟩,?_⟩
  have e:=r.length;simp only [Array.length_toList] at e;omega
theorem Inv.pR (I:Inv X pins σ H s) (h:SqL X.K H a xs) (h':SqL X.K H a ys):xs=ys:=by
 obtain ⟨its,r,⟨o,n,e,_,_,d⟩,_⟩:=I.list h;obtain ⟨its',r',⟨o',n',e',_,_,d'⟩,_⟩:=I.list h';rw [e] at e'; cases e'
 rw [d] at d';injection d' with d1 _
 have:its=its':=by simpa using Yo Array.toList d1
 subst this;exact r.inj r'
theorem Inv.sG (I:Inv X pins σ H s) (h:SqT X.K H a xs) (h':SqT X.K H a ys):xs=ys:=by
 obtain ⟨its,r,⟨o,e,_,n,d⟩,_⟩:=I.tuple h;obtain ⟨its',r',⟨o',e',_,n',d'⟩,_⟩:=I.tuple h';rw [e] at e'; cases e'
 rw [d] at d';injection d' with d1 _
 have:its=its':=by simpa using Yo Array.toList d1
 subst this;exact r.inj r'
end
abbrev Cx.we (X:Cx) (E:Value->Shared->Prop):Cx:={ X with xe:=E }
abbrev Cx.nox (X:Cx):Cx:=X.we λ _ _=>False
theorem Cx.Ok.we {X:Cx} (ok:X.Ok) (E:Value->Shared->Prop):(X.we E).Ok :=
 ⟨ok.mod,ok.kind,ok.glob,ok.blt,ok.above,ok.inj,ok.has,ok.cab,ok.hd,ok.frames,ok.stk,ok.exf,ok.bs,ok.bsz,ok.Bo,ok.CD,ok.pX,ok.frf⟩
theorem Cx.Ok.iT {X:Cx} {E:Value->Shared->Prop} (ok:(X.we E).Ok):X.Ok :=
 ⟨ok.mod,ok.kind,ok.glob,ok.blt,ok.above,ok.inj,ok.has,ok.cab,ok.hd,ok.frames,ok.stk,ok.exf,ok.bs,ok.bsz,ok.Bo,ok.CD,ok.pX,ok.frf⟩
section
variable {X:Cx} {pins:List (Addr×Obj)} {σ:St} {H:Hp} {s:Shared} {E:Value->Shared->Prop}
theorem Inv.we (I:Inv X pins σ H s) (E:Value->Shared->Prop):Inv (X.we E) pins σ H s:=⟨I.ok.we E,I.os,I.bare,I.base,I.loc,I.cell,I.free,I.gw,I.pin,I.hok,I.len⟩
theorem Inv.iT (I:Inv (X.we E) pins σ H s):Inv X pins σ H s:=⟨I.ok.iT,I.os,I.bare,I.base,I.loc,I.cell,I.free,I.gw,I.pin,I.hok,I.len⟩
theorem SP.iT (h:SP (X.we E) pins D f s'):SP X pins D f s':=by
 cases f with
 | next=>obtain ⟨σ',H',I,q⟩:=h; exact ⟨σ',H',I.iT,q⟩
 | brk=>obtain ⟨σ',H',I,q⟩:=h; exact ⟨σ',H',I.iT,q⟩
 | cont=>obtain ⟨σ',H',I,q⟩:=h; exact ⟨σ',H',I.iT,q⟩
 | ret u=>obtain ⟨v,σ',H',I,r,q⟩:=h; exact ⟨v,σ',H',I.iT,r,q⟩
theorem PSs.nox {st:List Stmt} {t:TS} (h:PSs X.nox st t):PSs X st t:=λ pins s σ H D I hw =>
 Yc (h pins s σ H D (I.we _) hw) (λ _ _ q=>q.iT) λ _ _ z=>False.elim z
end
section
variable {X:Cx} {st:Stmt} {rest:List Stmt} {t u:TS} {e:Expr} {te:TE} {pos:Pos}
def GD:TS:=λ D σ H=>D.nx σ H
def Kr (t u:TS):TS:=λ D σ H=>t { D with nx:=u D } σ H
theorem iC:PSs X [] GD:=λ _ _ σ H _ I h=>wpAny_execs_nil ⟨σ,H,I,h⟩
theorem bg (h1:PS X st t) (h2:PSs X rest u):PSs X (st::rest) (Kr t u):=by
 intro pins s σ H D I h;refine wpAny_execs_cons (thn (h1 pins s σ H { D with nx:=u D } I h) λ f s1 q=>?_)
 cases f with
 | next =>
  obtain ⟨σ',H',I',q⟩:=q;exact h2 pins s1 σ' H' D I' q
 | ret v=>exact q
 | brk=>exact q
 | cont=>exact q
theorem aR (h1:PS X st t):PSs X [st] t:=by
 intro pins s σ H D I h;refine wpAny_execs_cons (thn (h1 pins s σ H D I h) λ f s1 q=>?_)
 cases f with
 | next=>exact wpAny_execs_nil q
 | ret v=>exact q
 | brk=>exact q
 | cont=>exact q
theorem Inv.quiet (I:Inv X pins σ H s):interactive X.env=false:=by simp [interactive,I.ok.kind]
def GG (te:TE):TS:=λ D σ H=>te σ H λ _ H1=>D.nx σ H1
theorem bG (he:PE X e te) (hs:swapsWith e none pos.line X.env=pure false:=by rfl):PS X (.Expr e pos) (GG te):=by
 intro pins s σ H D I h;exact wpAny_Expr_any (thn (he pins s σ H _ I h) λ v s1 ⟨x,H1,I1,r1,q1⟩=>⟨σ,H1,I1,q1⟩) I.quiet hs
def Kt (te:TE):TS:=λ D σ H=>te σ H D.rt
theorem fX (he:PE X e te):PS X (.Return (some e) pos) (Kt te):=by
 intro pins s σ H D I h;exact wpAny_Return_some (thn (he pins s σ H _ I h) λ v s1 ⟨x,H1,I1,r1,q1⟩=>⟨x,σ,H1,I1,r1,q1⟩)
def Kw (c:TT) (t u:TS):TS:=λ D σ H=>c σ H λ b H1=>if b=true then t D σ H1 else u D σ H1
theorem mF (hc:PT X c tc) (ha:PSs X a t) (hb:PSs X b u):PS X (.If c a b pos) (Kw tc t u):=by
 intro pins s σ H D I h;refine wpAny_If (thn (hc pins s σ H _ I h) λ d s1 ⟨H1,I1,q1⟩=>?_)
 cases d with
 | true=>exact ha pins s1 σ H1 D I1 q1
 | false=>exact hb pins s1 σ H1 D I1 q1
def C1:TS:=λ _ _ _=>False
theorem cX:PS X st C1:=λ _ _ _ _ _ _ h=>h.elim
end
abbrev TG:=V->St->Hp->(St->Hp->Prop)->Prop
abbrev TGs:=List V->St->Hp->(St->Hp->Prop)->Prop
def PG (X:Cx) (target:Expr) (t:TG):Prop :=
  ∀ (pins:List (Addr×Obj)) (s:Shared) (σ:St) (H:Hp) (v:V) (u:Value) (Q:St->Hp->Prop),Inv X pins σ H s->RelV v u->t v σ H Q ->
    wpAny (model X.prog X.w) X.A (assign target X.env u) (λ _ s'=>∃ σ' H',Inv X pins σ' H' s'/\Q σ' H') X.xe s
def PGs (X:Cx) (ts:List Expr) (t:TGs):Prop :=
  ∀ (pins:List (Addr×Obj)) (s:Shared) (σ:St) (H:Hp) (vs:List V) (us:List Value) (Q:St->Hp->Prop),Inv X pins σ H s->be vs us->t vs σ H Q ->
    wpAny (model X.prog X.w) X.A (assignInOrder ((assignEach ts X.env).map (·.2)) us) (λ _ s'=>∃ σ' H',Inv X pins σ' H' s'/\Q σ' H') X.xe s
section
variable {X:Cx} {pos:Pos}
def m6 (i:Nat):TG:=λ v σ H Q=>Q (σ.set i (some v)) H
theorem gr (hN:X.N.Nodup) (hi:X.N[i]?=some x) (hx:Loc X.env.scope x) (hf:X.fn x=true\/X.env.scope.names.lookup x=some .local:=by first | exact .inl rfl | exact .inr rfl | assumption):PG X (.Name x pos) (m6 i):=by
 intro pins s σ H v u Q I r h;exact wpAny_assign_Name (pC I hN hi hx r (λ s' I'=>⟨_,H,I',h⟩) hf)
def LO:TGs:=λ vs σ H Q=>vs=[]/\Q σ H
def Jo (t:TG) (u:TGs):TGs:=λ vs σ H Q=>∃ v r,vs=v::r/\t v σ H λ σ' H'=>u r σ' H' Q
theorem ue:PGs X [] LO:=by
 intro pins s σ H vs us Q I r h;obtain ⟨e,h⟩:=h;subst e;cases r;exact assignInOrder_nil ⟨σ,H,I,h⟩
theorem pK (h1:PG X e t) (h2:PGs X es u)
  (hs:(assignEach (e::es) X.env).map (·.2)=assign e X.env::(assignEach es X.env).map (·.2):=by rfl):PGs X (e::es) (Jo t u):=by
 intro pins s σ H vs us Q I r h;obtain ⟨v,vr,e1,h⟩:=h;subst e1
 cases r with
 | cons r rr =>
  rw [hs];refine assignInOrder_cons (thn (h1 pins s σ H _ _ _ I r h) λ _ s1 ⟨σ1,H1,I1,q1⟩=>?_);exact h2 pins s1 σ1 H1 _ _ Q I1 rr q1
def LN (K:W.Frag) (n:Nat) (t:TGs):TG:=λ v σ H Q=>∃ a xs,v=.ref a/\SqT K H a xs/\xs.length=n/\t xs σ H Q
theorem yW (hc:X.calm=true) (h:PGs X es t)
  (hn:(assignEach es X.env).length=n:=by rfl) (hst:(assignEach es X.env).findIdx? (·.1)=none:=by rfl):PG X (.Tuple es k pos) (LN X.K n t):=by
 intro pins s σ H v u Q I r hw;obtain ⟨a,xs,e1,hq,hl,hw⟩:=hw;subst e1;cases r;obtain ⟨its,rv,ht,hz⟩:=I.tuple hq;refine assign_Tuple_tuple (I.ok.hd hc) ht (by simp [hn,<- hl,rv.length]) hst λ h' hx=>?_
 have I1:Inv X pins σ H { s with heap:=h' }:=I.kept (t':=s.toks) λ b o e=>hx b o (Zz (Zr e)) e
 exact h pins _ σ H xs _ Q I1 (by simpa using rv) hw
def JH (te:TE) (g:TG):TS:=λ D σ H=>te σ H λ x H1=>g x σ H1 D.nx
theorem eG {i:Nat} {x:Str} {e:Expr} {te:TE} {pos':Pos} (hN:X.N.Nodup) (hi:X.N[i]?=some x) (hx:Loc X.env.scope x) (he:PE X e te) (hs:swapsWith e (some (.Name x pos')) pos.line X.env=pure false:=by rfl) (hf:X.fn x=true\/X.env.scope.names.lookup x=some .local:=by first | exact .inl rfl | exact .inr rfl | assumption) :
  PS X (.Assign [.Name x pos'] e pos) (JH te (m6 i)):=by
 intro pins s σ H D I h;refine wpAny_Assign_Name (thn (he pins s σ H _ I h) λ v s1 ⟨y,H1,I1,r1,q1⟩=>?_) hs;exact pC I1 hN hi hx r1 (λ s2 I2=>⟨_,H1,I2,q1⟩) hf
end
section
variable {X:Cx} {pos:Pos}
def CY (c:TT) (tb:TS):TS:=λ D σ H=>∃ W:Nat->St->Hp->Prop,(∃ m,W m σ H)/\∀ m σ H,W m σ H ->
 c σ H λ b H1=>if b=true then ∃ N:St->Hp->Prop,(∀ σ' H',N σ' H'->∃ m',m' < m/\W m' σ' H')/\tb { D with nx:=N,ct:=N,bk:=D.nx } σ H1 else D.nx σ H1
theorem xi (hp:PassesOwn (model X.prog X.w) X.A X.env X.xe) (hc:PT X c tc) (hb:PSs X body tb):PS X (.While c body [] pos) (CY tc tb):=by
 intro pins s σ H D I h;obtain ⟨W,⟨m0,w0⟩,turn⟩:=h;refine wpAny_While (codeAny_whileLoop (λ n s'=>∃ σ' H',Inv X pins σ' H' s'/\W n σ' H') ?_ m0 ⟨σ,H,I,w0⟩)
 rintro n s1 ⟨σ1,H1,I1,w1⟩
 refine Y0 hp (thn (hc pins s1 σ1 H1 _ I1 (turn n σ1 H1 w1)) λ b s2 ⟨H2,I2,q2⟩=>?_)
 cases b with
 | true =>
  obtain ⟨N,hN,q2⟩:=q2;rw [if_pos rfl];refine Y0 hp (thn (hb pins s2 σ1 H2 _ I2 q2) λ f s3 q3=>?_)
  cases f with
  | next =>
   obtain ⟨σ3,H3,I3,n3⟩:=q3;obtain ⟨m',hm,w3⟩:=hN σ3 H3 n3;exact ⟨m',hm,σ3,H3,I3,w3⟩
  | cont =>
   obtain ⟨σ3,H3,I3,n3⟩:=q3;obtain ⟨m',hm,w3⟩:=hN σ3 H3 n3;exact ⟨m',hm,σ3,H3,I3,w3⟩
  | brk=>exact q3
  | ret v=>exact q3
 | false =>
  rw [if_neg Zf];exact wpAny_execs_nil ⟨σ1,H2,I2,q2⟩
end
structure It where
 go:Nat->Hp->Prop
 yld:Nat->Hp->V->Hp->Prop
 stop:Nat->Hp->Prop
def sg (X:Cx) (pins:List (Addr×Obj)) (H:Hp) (b:Addr):Prop :=
 H b=none/\b≠X.env.locals/\b ∉ X.fs/\(b ∈ X.ex\/X.s₀.heap.objs.size<=b)/\(∀ x c,X.env.cells.lookup x=some c->c≠b)/\∀ p ∈ X.pn++pins,p.1≠b
theorem Inv.wj (I:Inv X pins σ H s) (hb:s.heap.objs.size<=b) (hn:H' b=none):sg X pins H' b:=by
 refine ⟨hn,Nat.ne_of_gt (Zu I.lt hb),I.Lk hb,.inr (Z8 I.sz hb),λ x c e z=>?_,λ p hp z=>?_⟩
 ·obtain ⟨v,q⟩:=I.cell x c e
  exact absurd (Zu q.lt (by rw [z]; exact hb)) (Yn _)
 · exact absurd (Zu (Zr (I.pin p hp).1) (by rw [z]; exact hb)) (Yn _)
structure Turn (P:Program) (w:World) (K:W.Frag) (tg:Expr) (J:It) (fp:List Addr) (it:Addr) (tn:Nat->Heap->Prop):Prop where
 mem:it ∈ fp
 obj:∀ i h,tn i h->∀ b ∈ fp,∃ o,h.get? b=some o/\∀ v,o.data≠.cell v
 keep:∀ i h h',tn i h->(∀ b ∈ fp,∀ o,h.get? b=some o->h'.get? b=some o)->tn i h'
 item:∀ (X:Cx),X.prog=P->X.w=w->X.K=K->X.calm=true->∀ (i:Nat) (pins:List (Addr×Obj)) (s:Shared) (σ:St) (H:Hp) (E:Value->Shared->Prop),Inv X pins σ H s->(∀ b ∈ fp,sg X pins H b)->tn i s.heap->J.go i H ->
  wpAny (model P w) X.A (pyNext (.ref it)) (λ r s1=>∃ u,r=some u /\
   wpAny (model P w) X.A (letOwnedTupleGo tg (.ref it) u) (λ _ s2=>∃ x H',Inv X pins σ H' s2/\RelV x u/\J.yld i H x H'/\tn (i+1) s2.heap/\∀ b ∈ fp,H' b=none) E s1) E s
 done:∀ (X:Cx),X.prog=P->X.w=w->X.K=K->X.calm=true->∀ (i:Nat) (pins:List (Addr×Obj)) (s:Shared) (σ:St) (H:Hp) (E:Value->Shared->Prop),Inv X pins σ H s->(∀ b ∈ fp,sg X pins H b)->tn i s.heap->J.stop i H ->
  wpAny (model P w) X.A (pyNext (.ref it)) (λ r s1=>r=none/\Inv X pins σ H s1) E s
 self:∀ (A:Around) (i:Nat) (s:Shared) (Q:Value->Shared->Prop) (E:Value->Shared->Prop),tn i s.heap->Q (.ref it) s->wpAny (model P w) A (pyIter (.ref it)) Q E s
abbrev TI:=St->Hp->(It->Hp->Prop)->Prop
def PIE (X:Cx) (pins:List (Addr×Obj)) (σ:St) (tg:Expr) (R:It->Hp->Prop) (itv:Value) (s2:Shared):Prop :=
 ∃ (it:Addr) (fp:List Addr) (tn:Nat->Heap->Prop) (J:It) (H':Hp),itv=.ref it/\Inv X pins σ H' s2/\Turn X.prog X.w X.K tg J fp it tn/\tn 0 s2.heap/\(∀ b ∈ fp,sg X pins H' b)/\R J H'
def PI (X:Cx) (tg iter:Expr) (wi:TI):Prop :=
  ∀ (pins:List (Addr×Obj)) (s:Shared) (σ:St) (H:Hp) (R:It->Hp->Prop),Inv X pins σ H s->wi σ H R ->
    wpAny (model X.prog X.w) X.A (eval iter X.env) (λ v s1=>wpAny (model X.prog X.w) X.A (pyIter v) (PIE X pins σ tg R) X.xe s1) X.xe s
theorem rE (ho:s.heap.get? it=some o) (hc:o.cls=.type n) (hd:o.data=.fields vs)
    (hn:["enumerate","zip","dict_itemiterator","dict_reverseitemiterator","odict_iterator","itertools.zip_longest","itertools.pairwise"].contains n=false) (hQ:Q () s):wpAny M A (letOwnedTupleGo tg (.ref it) u) Q E s:=by
  unfold letOwnedTupleGo
  cases tg <;> first
    | exact Z6 hQ
    | (cases u <;> first
        | exact Z6 hQ
        | (refine Zv (wpAny_load ho ?_)
           rw [hc,hd];show wpAny M A (if (["enumerate","zip","dict_itemiterator","dict_reverseitemiterator","odict_iterator","itertools.zip_longest","itertools.pairwise"].contains n&&vs[0]? == some (rawInt _))=true then _ else _) Q E s;rw [if_neg (by intro h; rw [hn,Bool.false_and] at h; cases h)]
           exact Z6 hQ))
def Itl (K:W.Frag) (a:Addr):It :=
 ⟨λ i H=>∃ xs x,SqL K H a xs/\xs[i]?=some x,λ i H x H'=>H'=H/\∀ xs,SqL K H a xs->xs[i]?=some x,λ i H=>∃ xs,SqL K H a xs/\xs.length<=i⟩
def Itt (K:W.Frag) (a:Addr):It :=
 ⟨λ i H=>∃ xs x,SqT K H a xs/\xs[i]?=some x,λ i H x H'=>H'=H/\∀ xs,SqT K H a xs->xs[i]?=some x,λ i H=>∃ xs,SqT K H a xs/\xs.length<=i⟩
def Itr (lo:Int) (n:Nat):It:=⟨λ i _=>i < n,λ i H x H'=>H'=H/\x=.int (lo+i),λ i _=>n<=i⟩
theorem sD {P:Program} {w:World} {K:W.Frag} {tg:Expr} (a it:Addr):Turn P w K tg (Itl K a) [it] it (λ i h=>h.IsListIter it a i) where
 mem:=by simp
 obj:=λ i h st b hb=>by
  have e:b=it:=by simpa using hb
  subst e;obtain ⟨o,e,c,d⟩:=st;exact ⟨o,e,λ v z=>by rw [d] at z; cases z⟩
 keep:=λ i h h' st k=>st.at λ o e=>k it (by simp) o e
 item:=by
  intro X hP hw hK hc i pins s σ H E I hf st hg;subst hP hw hK;obtain ⟨xs,x,hq,hx⟩:=hg;obtain ⟨its,rv,p,hz⟩:=I.list hq;obtain ⟨u,hu,ru⟩:=rv.get hx;obtain ⟨f0,f1,f2,f3,f4,f5⟩:=hf it (by simp);refine wpAny_pyNext_list_item st p.isList (x:=u) (by simpa using hu) λ h' st' sb=>?_
  have I1:Inv X pins σ H { s with heap:=h' }:=I.turned (t':=s.toks) (λ b o hb e=>(sb.2 b hb).trans e) f0 f1 f3 f4 f5;obtain ⟨o,e,c,d⟩:=id st';exact ⟨u,rfl,rE (s:={ s with heap:=h' }) e c d (by decide) ⟨x,H,I1,ru,⟨rfl,λ ys hy=>by rw [I.pR hy hq]; exact hx⟩,st',λ b hb=>(hf b hb).1⟩⟩
 done:=by
  intro X hP hw hK hc i pins s σ H E I hf st hg;subst hP hw hK;obtain ⟨xs,hq,hx⟩:=hg;obtain ⟨its,rv,p,hz⟩:=I.list hq;obtain ⟨f0,f1,f2,f3,f4,f5⟩:=hf it (by simp);have hl:=rv.length;exact wpAny_pyNext_list_end (I.ok.hd hc) st p.isList (by simp; omega) λ h' eb=>⟨rfl,I.turned (t':=s.toks) (λ b o hb e=>eb b o hb e) f0 f1 f3 f4 f5⟩
 self:=λ _ _ _ _ _ st h=>wpAny_pyIter_listiter st h
theorem qC {P:Program} {w:World} {K:W.Frag} {tg:Expr} (a it:Addr):Turn P w K tg (Itt K a) [it] it (λ i h=>h.IsTupleIter it a i) where
 mem:=by simp
 obj:=λ i h st b hb=>by
  have e:b=it:=by simpa using hb
  subst e;obtain ⟨o,e,c,d⟩:=st;exact ⟨o,e,λ v z=>by rw [d] at z; cases z⟩
 keep:=λ i h h' st k=>st.at λ o e=>k it (by simp) o e
 item:=by
  intro X hP hw hK hc i pins s σ H E I hf st hg;subst hP hw hK;obtain ⟨xs,x,hq,hx⟩:=hg;obtain ⟨its,rv,p,hz⟩:=I.tuple hq;obtain ⟨u,hu,ru⟩:=rv.get hx;obtain ⟨f0,f1,f2,f3,f4,f5⟩:=hf it (by simp);refine wpAny_pyNext_tuple_item st (show s.heap.IsTuple a its.toArray from p) (x:=u) (by simpa using hu) λ h' st' sb=>?_
  have I1:Inv X pins σ H { s with heap:=h' }:=I.turned (t':=s.toks) (λ b o hb e=>(sb.2 b hb).trans e) f0 f1 f3 f4 f5;obtain ⟨o,e,c,d⟩:=id st';exact ⟨u,rfl,rE (s:={ s with heap:=h' }) e c d (by decide) ⟨x,H,I1,ru,⟨rfl,λ ys hy=>by rw [I.sG hy hq]; exact hx⟩,st',λ b hb=>(hf b hb).1⟩⟩
 done:=by
  intro X hP hw hK hc i pins s σ H E I hf st hg;subst hP hw hK;obtain ⟨xs,hq,hx⟩:=hg;obtain ⟨its,rv,p,hz⟩:=I.tuple hq;obtain ⟨f0,f1,f2,f3,f4,f5⟩:=hf it (by simp);have hl:=rv.length;exact wpAny_pyNext_tuple_end (I.ok.hd hc) st (show s.heap.IsTuple a its.toArray from p) (by simp; omega) λ h' eb=>⟨rfl,I.turned (t':=s.toks) (λ b o hb e=>eb b o hb e) f0 f1 f3 f4 f5⟩
 self:=λ _ _ _ _ _ st h=>wpAny_pyIter_tupleiter st h
theorem qD {P:Program} {w:World} {K:W.Frag} {tg:Expr} (it:Addr) (lo:Int) (n:Nat):Turn P w K tg (Itr lo n) [it] it (λ i h=>IsRangeIter h it (lo+(i:Nat) * 1) ((n:Int) - (i:Nat)) 1) where
 mem:=by simp
 obj:=λ i h st b hb=>by
  have e:b=it:=by simpa using hb
  subst e
  exact ⟨_,st,λ v z=>by
   have z':Data.fields _=Data.cell v:=z
   cases z'⟩
 keep:=λ i h h' st k=>k it (by simp) _ st
 item:=by
  intro X hP hw hK hc i pins s σ H E I hf st hg;subst hP hw hK;obtain ⟨f0,f1,f2,f3,f4,f5⟩:=hf it (by simp);have W:=Walks.range (prog:=X.prog) (w:=X.w) (I.ok.hd hc) it lo 1 n;refine W.item i s _ _ hg st λ v h' tk hv st' kk=>?_
  obtain ⟨t,rfl⟩:=hv;have I1:Inv X pins σ H { s with heap:=h',toks:=tk }:=I.turned (λ b o hb e=>kk b o (by simpa using hb) e) f0 f1 f3 f4 f5;refine ⟨_,rfl,rE (s:={ s with heap:=h',toks:=tk }) (n:="range_iterator") st' rfl rfl (by decide) ⟨.int (lo+i),H,I1,⟨t,?_⟩,⟨rfl,rfl⟩,st',λ b hb=>(hf b hb).1⟩⟩;rw [Int.mul_one]
 done:=by
  intro X hP hw hK hc i pins s σ H E I hf st hg;subst hP hw hK;obtain ⟨f0,f1,f2,f3,f4,f5⟩:=hf it (by simp);exact wpAny_pyNext_range_end (I.ok.hd hc) st (by have:n<=i:=hg; omega) λ h' eb=>⟨rfl,I.turned (t':=s.toks) (λ b o hb e=>eb b o hb e) f0 f1 f3 f4 f5⟩
 self:=λ _ _ _ _ _ st h=>wpAny_pyIter_rangeiter st h
end L2
namespace L2
open PySem PySem.Spec PyProof.Rows
section
variable {X:Cx} {tg:Expr}
def Jg (K:W.Frag) (tl:TE):TI:=λ σ H R=>tl σ H λ x H1=>∃ a,x=.ref a/\(∃ xs,SqL K H1 a xs)/\R (Itl K a) H1
def LF (K:W.Frag) (tl:TE):TI:=λ σ H R=>tl σ H λ x H1=>∃ a,x=.ref a/\(∃ xs,SqT K H1 a xs)/\R (Itt K a) H1
theorem nY {l:Expr} {tl:TE} (hl:PE X l tl):PI X tg l (Jg X.K tl):=by
 intro pins s σ H R I h;refine thn (hl pins s σ H _ I h) λ v s1 ⟨x,H1,I1,r1,q1⟩=>?_
 obtain ⟨a,e,⟨xs,hq⟩,q⟩:=q1;subst e;cases r1;obtain ⟨its,rv,p,hz⟩:=I1.list hq;refine wpAny_pyIter_list p.isList ?_
 refine ⟨s1.heap.objs.size,[s1.heap.objs.size],_,_,H1,rfl,I1.kept (t':=s1.toks) λ b o e=>Heap.get?_push_of_some _ e,sD a _,⟨_,Heap.get?_push_size _ rfl,rfl,rfl⟩,λ b hb=>?_,q⟩;have e:b=s1.heap.objs.size:=by simpa using hb
 subst e;exact I1.wj (Zl _) (I1.hok.fresh (Zl _))
theorem DL {l:Expr} {tl:TE} (hl:PE X l tl):PI X tg l (LF X.K tl):=by
 intro pins s σ H R I h;refine thn (hl pins s σ H _ I h) λ v s1 ⟨x,H1,I1,r1,q1⟩=>?_
 obtain ⟨a,e,⟨xs,hq⟩,q⟩:=q1;subst e;cases r1;obtain ⟨its,rv,p,hz⟩:=I1.tuple hq;refine wpAny_pyIter_tuple (show s1.heap.IsTuple a its.toArray from p) ?_
 refine ⟨s1.heap.objs.size,[s1.heap.objs.size],_,_,H1,rfl,I1.kept (t':=s1.toks) λ b o e=>Heap.get?_push_of_some _ e,qC a _,⟨_,Heap.get?_push_size _ rfl,rfl,rfl⟩,λ b hb=>?_,q⟩;have e:b=s1.heap.objs.size:=by simpa using hb
 subst e;exact I1.wj (Zl _) (I1.hok.fresh (Zl _))
theorem wG {pins:List (Addr×Obj)} {σ:St} {H:Hp} {s:Shared} {R:It->Hp->Prop} {E:Value->Shared->Prop} {lo hi:Int} {t u v:Tok} {tk:Nat} (I:Inv X pins σ H s) (h1:-(2 ^ 62)<=lo) (h2:lo < 2 ^ 62) (h3:-(2 ^ 62)<=hi) (h4:hi < 2 ^ 62)
  (q:R (Itr lo (hi - lo).toNat) H):wpAny (model X.prog X.w) X.A (pyIter (.ref s.heap.objs.size)) (PIE X pins σ tg R) E { s with heap:=s.heap.push { cls:=.type "range",data:=.fields #[.int lo t,.int hi u,.int 1 v] },toks:=tk }:=by
 refine wpAny_pyIter_range (IsRange.new ..) (small_one h1 h2 h3 h4) ?_
 have I1:Inv X pins σ H { s with heap:=s.heap.push { cls:=.type "range",data:=.fields #[.int lo t,.int hi u,.int 1 v] },toks:=tk }:=I.kept λ b o e=>Heap.get?_push_of_some _ e
 refine ⟨(s.heap.push { cls:=.type "range",data:=.fields #[.int lo t,.int hi u,.int 1 v] }).objs.size,[(s.heap.push { cls:=.type "range",data:=.fields #[.int lo t,.int hi u,.int 1 v] }).objs.size],_,_,H,rfl,
  I1.kept (t':=tk) λ b o e=>Heap.get?_push_of_some _ e,qD _ lo (hi - lo).toNat,?_,λ b hb=>?_,q⟩
 ·have e1:lo+((0:Nat):Int) * 1=lo:=by simp
  have e2:(((hi - lo).toNat:Nat):Int) - ((0:Nat):Int)=Builtin.Range.rangeSize lo hi 1:=by rw [rangeSize_one]; split <;> omega
  show IsRangeIter _ _ (lo+((0:Nat):Int) * 1) ((((hi - lo).toNat:Nat):Int) - ((0:Nat):Int)) 1;rw [e1,e2];exact Heap.get?_push_size _ rfl
 ·have e:b=(s.heap.push { cls:=.type "range",data:=.fields #[.int lo t,.int hi u,.int 1 v] }).objs.size:=by simpa using hb
  subst e;exact I1.wj (Zl _) (I1.hok.fresh (Zl _))
def Jf (ta:TA):TI:=λ σ H R=>ta σ H λ vs H1=>∃ j:Int,vs=[.int j]/\-(2 ^ 62)<=j/\j < 2 ^ 62/\R (Itr 0 j.toNat) H1
theorem ua {a:Expr} {ta:TA} {p pos:Pos} (hg:Gl X "range") (hm:X.mg "range"=none) (ha:PA X [a] ta) (hs:starEach [a] X.env=[(false,eval a X.env)]:=by rfl):PI X tg (.Call (.Name "range" p) [a] [] pos) (Jf ta):=by
 intro pins s σ H R I h;refine Call_ (jU I hg hm boot_range (Yt (thn (ha pos pins s σ H _ I h) λ us s1 ⟨vs,H1,I1,r1,q1⟩=>?_) hs rfl));obtain ⟨j,e,q1,q2,q⟩:=q1;subst e
 cases r1 with
 | cons r rr =>
  cases rr;obtain ⟨t,rfl⟩:=r;exact call_range_1 (wG I1 (by omega) (by omega) q1 q2 (by simpa using q))
def Kx (wi:TI) (g:TG) (tb:TS):TS:=λ D σ H=>wi σ H λ J H1=>∃ W:Nat->Nat->St->Hp->Prop,(∃ m,W 0 m σ H1)/\∀ i m σ H,W i m σ H ->
 (J.stop i H/\D.nx σ H)\/(J.go i H/\∃ N:St->Hp->Prop,(∀ σ' H',N σ' H'->∃ m',m' < m/\W (i+1) m' σ' H')/\∀ x H',J.yld i H x H'->g x σ H' λ σ2 H2=>tb { D with nx:=N,ct:=N,bk:=D.nx } σ2 H2)
def pJ (fp:List Addr) (h:Heap):List (Addr×Obj):=fp.filterMap λ b=>(h.get? b).map λ o=>(b,o)
theorem dI (hb:b ∈ fp) (e:h.get? b=some o):(b,o) ∈ pJ fp h:=Y8.mpr ⟨b,hb,by rw [e]; rfl⟩
theorem uz (hp:p ∈ pJ fp h):p.1 ∈ fp/\h.get? p.1=some p.2:=by
 obtain ⟨b,hb,e⟩:=Y8.mp hp
 cases q:h.get? b with
 | none=>rw [q] at e; cases e
 | some o =>
  rw [q] at e;have e':(b,o)=p:=Zj e;subst e';exact ⟨hb,q⟩
theorem Inv.pinned (I:Inv X pins σ H s) (hf:∀ b ∈ fp,sg X pins H b) (ho:∀ b ∈ fp,∃ o,s.heap.get? b=some o/\∀ v,o.data≠.cell v):Inv X (pins++pJ fp s.heap) σ H s :=
 I.gq λ p hp=>(Zi.mp hp).elim (λ z=>I.pin p (Zd _ z)) λ z=>by
  obtain ⟨hb,e⟩:=uz z;obtain ⟨f0,f1,f2,_⟩:=hf p.1 hb;obtain ⟨o,e',d⟩:=ho p.1 hb;rw [e] at e'; cases e'
  exact ⟨e,f0,f1,f2,d⟩
theorem Inv.lH (I:Inv X (pins++pl) σ H s):Inv X pins σ H s:=I.gq λ p hp=>I.pin p (Zd _ (Zk _ hp))
theorem jG (hp:PassesOwn (model X.prog X.w) X.A X.env X.xe) (hc:X.calm=true) (hi:PI X tg iter wi) (hg:PG X tg g) (hb:PSs X body tb)
  (hs:∀ x,foldedSetIterable iter X.env x=pure x:=by intro _; rfl):PS X (.For tg iter body [] pos) (Kx wi g tb):=by
 intro pins s σ H D I h;refine wpAny_For (thn (hi pins s σ H _ I h) λ v s1 h1=>thn h1 λ itv s2 h2=>?_) hs;obtain ⟨it,fp,tn,J,H2,e,I2,T,st2,f2,W,⟨m0,w0⟩,turn⟩:=h2;subst e;have stat:∀ {H':Hp},(∀ b ∈ fp,H' b=none)->∀ b ∈ fp,sg X pins H' b:=λ hn b hb=>⟨hn b hb,(f2 b hb).2⟩
 refine codeAny_forLoop_any (λ n s'=>∃ i σ' H',Inv X pins σ' H' s'/\tn i s'.heap/\(∀ b ∈ fp,H' b=none)/\W i n σ' H') ?_ m0 ⟨0,σ,H2,I2,st2,λ b hb=>(f2 b hb).1,w0⟩
 rintro n s3 ⟨i,σ3,H3,I3,st3,fr3,w3⟩
 rcases turn i n σ3 H3 w3 with ⟨stop,qn⟩ | ⟨go,N,hN,step⟩
 ·refine Y0 hp (thn (T.done X rfl rfl rfl hc i pins s3 σ3 H3 X.xe I3 (stat fr3) st3 stop) λ r s4 ⟨hr,I4⟩=>?_)
  subst hr;exact wpAny_execs_nil ⟨σ3,H3,I4,qn⟩
 ·refine Y0 hp (thn (T.item X rfl rfl rfl hc i pins s3 σ3 H3 X.xe I3 (stat fr3) st3 go) λ r s4 ⟨u,hr,h4⟩=>?_)
  subst hr;refine Y0 hp (thn h4 λ _ s5 ⟨x,H5,I5,r5,y5,st5,fr5⟩=>?_);have I5':=I5.pinned (stat fr5) (T.obj _ _ st5);refine Y0 hp (thn (hg _ s5 σ3 H5 x u _ I5' r5 (step x H5 y5)) λ _ s6 ⟨σ6,H6,I6,q6⟩=>?_);refine Y0 hp (thn (hb _ s6 σ6 H6 _ I6 q6) λ f s7 q7=>?_)
  have again:∀ {σ7:St} {H7:Hp},Inv X (pins++pJ fp s5.heap) σ7 H7 s7->N σ7 H7->∃ m,m < n/\∃ i σ' H',Inv X pins σ' H' s7/\tn i s7.heap/\(∀ b ∈ fp,H' b=none)/\W i m σ' H':=λ {σ7 H7} I7 n7=>by
   obtain ⟨m',hm,w7⟩:=hN σ7 H7 n7;refine ⟨m',hm,i+1,σ7,H7,I7.lH,T.keep _ _ _ st5 λ b hb o e=>(I7.pin (b,o) (Zd _ (Zd _ (dI hb e)))).1,λ b hb=>?_,w7⟩;obtain ⟨o,e,d⟩:=T.obj _ _ st5 b hb;exact (I7.pin (b,o) (Zd _ (Zd _ (dI hb e)))).2.1
  cases f with
  | next=>obtain ⟨σ7,H7,I7,n7⟩:=q7; exact again I7 n7
  | cont=>obtain ⟨σ7,H7,I7,n7⟩:=q7; exact again I7 n7
  | brk=>obtain ⟨σ7,H7,I7,q7⟩:=q7; exact ⟨σ7,H7,I7.lH,q7⟩
  | ret v=>obtain ⟨x7,σ7,H7,I7,r7,q7⟩:=q7; exact ⟨x7,σ7,H7,I7.lH,r7,q7⟩
end
end L2
namespace L2
open PySem PySem.Spec PyProof.Rows
abbrev R2:=V->V->Hp->VK->Prop
def OpR (X:Cx) (f:Value->Value->Sem Value) (r:R2):Prop :=
  ∀ (pins:List (Addr×Obj)) (s:Shared) (σ:St) (H:Hp) (x y:V) (v u:Value) (Q:VK),Inv X pins σ H s->RelV x v->RelV y u->r x y H Q ->
    wpAny (model X.prog X.w) X.A (f v u) (EP X pins σ Q) X.xe s
def UnR (X:Cx) (f:Value->Sem Value) (r:V->Hp->VK->Prop):Prop :=
  ∀ (pins:List (Addr×Obj)) (s:Shared) (σ:St) (H:Hp) (x:V) (v:Value) (Q:VK),Inv X pins σ H s->RelV x v->r x H Q ->
    wpAny (model X.prog X.w) X.A (f v) (EP X pins σ Q) X.xe s
def fF (X:Cx) (f:Value) (r:List V->Hp->VK->Prop):Prop :=
  ∀ (pins:List (Addr×Obj)) (s:Shared) (σ:St) (H:Hp) (xs:List V) (us:List Value) (Q:VK),Inv X pins σ H s->be xs us->r xs H Q ->
    wpAny (model X.prog X.w) X.A (call f us) (EP X pins σ Q) X.xe s
def LU (X:Cx) (r:V->Hp->(Bool->Hp->Prop)->Prop):Prop :=
  ∀ (pins:List (Addr×Obj)) (s:Shared) (σ:St) (H:Hp) (x:V) (v:Value) (Q:Bool->Hp->Prop),Inv X pins σ H s->RelV x v->r x H Q ->
    wpAny (model X.prog X.w) X.A (truthy v) (TP X pins σ Q) X.xe s
def tOp (r:R2) (ta tb:TE):TE:=λ σ H Q=>ta σ H λ x H1=>tb σ H1 λ y H2=>r x y H2 Q
def tUn (r:V->Hp->VK->Prop) (ta:TE):TE:=λ σ H Q=>ta σ H λ x H1=>r x H1 Q
def rI (C:Int->Int->Prop) (g:Int->Int->V):R2:=λ x y H Q=>∃ i j,x=.int i/\y=.int j/\C i j/\Q (g i j) H
def rI0 (g:Int->Int->V):R2:=λ x y H Q=>∃ i j,x=.int i/\y=.int j/\Q (g i j) H
def rU (g:Int->V):V->Hp->VK->Prop:=λ x H Q=>∃ i,x=.int i/\Q (g i) H
section
variable {X:Cx} {a b c:Expr} {ta tb tc:TE} {pos:Pos}
theorem JB (ha:PE X a ta) (hb:PE X b tb) {pins:List (Addr×Obj)} {s:Shared} {σ:St} {H:Hp} {R:V->V->Hp->Prop} (I:Inv X pins σ H s)
  (h:ta σ H λ x H1=>tb σ H1 λ y H2=>R x y H2) {Q:Value->Shared->Prop} {f:Value->Value->Sem Value}
  (hf:∀ v u s2 x y H2,Inv X pins σ H2 s2->RelV x v->RelV y u->R x y H2->wpAny (model X.prog X.w) X.A (f v u) Q X.xe s2) :
  wpAny (model X.prog X.w) X.A (eval a X.env) (λ v s₁=>wpAny (model X.prog X.w) X.A (eval b X.env) (λ u s₂=>wpAny (model X.prog X.w) X.A (f v u) Q X.xe s₂) X.xe s₁) X.xe s:=by
 refine thn (ha pins s σ H _ I h) λ v s1 ⟨x,H1,I1,r1,q1⟩=>?_
 refine thn (hb pins s1 σ H1 _ I1 q1) λ u s2 ⟨y,H2,I2,r2,q2⟩=>?_
 exact hf v u s2 x y H2 I2 r1 r2 q2
theorem DQ {op:Operator} {r:R2} (ho:OpR X (binaryOp op) r) (ha:PE X a ta) (hb:PE X b tb):PE X (.BinOp a op b pos) (tOp r ta tb):=by
 intro pins s σ H Q I h;exact wpAny_BinOp (JB ha hb I h λ v u s2 x y H2 I2 rx ry q=>ho pins s2 σ H2 x y v u Q I2 rx ry q)
theorem G1 (ho:UnR X (unaryOp op) r) (ha:PE X a ta):PE X (.UnaryOp op a pos) (tUn r ta):=by
 intro pins s σ H Q I h;exact UnaryOp_ (thn (ha pins s σ H _ I h) λ v s1 ⟨x,H1,I1,r1,q1⟩=>ho pins s1 σ H1 x v Q I1 r1 q1)
theorem opI {f:Value->Value->Sem Value} {C:Int->Int->Prop} {g:Int->Int->Int}
  (rule:∀ (i j:Int) (t u:Tok) (s:Shared) (Q:Value->Shared->Prop) (E:Value->Shared->Prop),C i j->Q (.int (g i j) s.toks) { s with toks:=s.toks+1 }->wpAny (model X.prog X.w) X.A (f (.int i t) (.int j u)) Q E s) :
  OpR X f (rI C λ i j=>.int (g i j)):=by
 intro pins s σ H x y v u Q I rx ry h;obtain ⟨i,j,rfl,rfl,hc,q⟩:=h;obtain ⟨t,rfl⟩:=rx;obtain ⟨t',rfl⟩:=ry;exact rule i j t t' s _ _ hc ⟨.int (g i j),H,I.tok _,⟨_,rfl⟩,q⟩
theorem JL {f:Value->Value->Sem Value} {g:Int->Int->Int}
  (rule:∀ (i j:Int) (t u:Tok) (s:Shared) (Q:Value->Shared->Prop) (E:Value->Shared->Prop),Q (.int (g i j) s.toks) { s with toks:=s.toks+1 }->wpAny (model X.prog X.w) X.A (f (.int i t) (.int j u)) Q E s) :
  OpR X f (rI0 λ i j=>.int (g i j)):=by
 intro pins s σ H x y v u Q I rx ry h;obtain ⟨i,j,rfl,rfl,q⟩:=h;obtain ⟨t,rfl⟩:=rx;obtain ⟨t',rfl⟩:=ry;exact rule i j t t' s _ _ ⟨.int (g i j),H,I.tok _,⟨_,rfl⟩,q⟩
theorem Hg {f:Value->Value->Sem Value} {g:Int->Int->Bool}
  (rule:∀ (i j:Int) (t u:Tok) (s:Shared) (Q:Value->Shared->Prop) (E:Value->Shared->Prop),Q (.bool (g i j)) s->wpAny (model X.prog X.w) X.A (f (.int i t) (.int j u)) Q E s) :
  OpR X f (rI0 λ i j=>.bl (g i j)):=by
 intro pins s σ H x y v u Q I rx ry h;obtain ⟨i,j,rfl,rfl,q⟩:=h;obtain ⟨t,rfl⟩:=rx;obtain ⟨t',rfl⟩:=ry;exact rule i j t t' s _ _ ⟨.bl (g i j),H,I,rfl,q⟩
def zJ (i j:Int):Prop:=(-(2 ^ 64) < i/\i < 2 ^ 64)\/(-(2 ^ 64) < j/\j < 2 ^ 64)
theorem zJ.ok (h:zJ i j):IntMulOk i j:=by
 rcases h with ⟨h1,h2⟩ | ⟨h1,h2⟩
 · exact .of_left (intBits_le_64 h1 h2)
 · exact .of_right (intBits_le_64 h1 h2)
theorem Ef:OpR X (binaryOp .Add) (rI0 λ i j=>.int (i+j)):=JL λ _ _ _ _ _ _ _ q=>add_int q
theorem Eb:OpR X (binaryOp .Sub) (rI0 λ i j=>.int (i - j)):=JL λ _ _ _ _ _ _ _ q=>sub_int q
theorem Bi:OpR X (binaryOp .Mod) (rI (λ _ j=>j≠0) λ i j=>.int (i.fmod j)):=opI λ _ _ _ _ _ _ _ hc q=>mod_int' hc q
theorem unI {f:Value->Sem Value} {g:Int->Int}
  (rule:∀ (i:Int) (t:Tok) (s:Shared) (Q:Value->Shared->Prop) (E:Value->Shared->Prop),Q (.int (g i) s.toks) { s with toks:=s.toks+1 }->wpAny (model X.prog X.w) X.A (f (.int i t)) Q E s) :
  UnR X f (rU λ i=>.int (g i)):=by
 intro pins s σ H x v Q I rx h;obtain ⟨i,rfl,q⟩:=h;obtain ⟨t,rfl⟩:=rx;exact rule i t s _ _ ⟨.int (g i),H,I.tok _,⟨_,rfl⟩,q⟩
theorem CQ:UnR X (unaryOp .USub) (rU λ i=>.int (-i)):=unI λ _ _ _ _ _ q=>neg_int q
end
def GK:V->V->Bool
 | .non,.non=>true | .non,.int _=>true | .int _,.non=>true | .non,.bl _=>true | .bl _,.non=>true | .non,.str _=>true | .str _,.non=>true
 | .int _,.int _=>true | .bl _,.bl _=>true | .str _,.str _=>true | .byt _,.byt _=>true
 | .int _,.str _=>true | .str _,.int _=>true | .bl _,.str _=>true | .str _,.bl _=>true
 | _,_=>false
def rEq:R2:=λ x y H Q=>GK x y=true/\Q (.bl (decide (x=y))) H
def rNe:R2:=λ x y H Q=>GK x y=true/\Q (.bl (!decide (x=y))) H
theorem vz:decide (V.int i=V.int j)=(i == j):=by
 rw [Xm];simp
theorem zy:decide (V.bl i=V.bl j)=(i == j):=by
 rw [Xm];simp
theorem vy:decide (V.str i=V.str j)=(i == j):=by
 rw [Xm];simp
theorem vA:decide (V.byt i=V.byt j)=(i.toList == j.toList):=by
 rw [Xm];cases i;cases j;simp
section
variable {X:Cx} {a b c:Expr} {ta tb tc:TE} {pos:Pos}
theorem aS (I:Inv X pins σ H s) (q:Q (.bl k) H) (e:k=k'):EP X pins σ Q (.bool k') s:=by
 subst e;exact ⟨.bl k,H,I,rfl,q⟩
theorem He:OpR X (compareOp .Eq) rEq:=by
 intro pins s σ H x y v u Q I rx ry h;obtain ⟨hs,q⟩:=h
 cases x with
 | non =>
  cases rx
  cases y with
  | non=>cases ry; exact PySem.EqNone.eq_none_none (aS I q (by simp))
  | bl j=>cases ry; exact PySem.EqNone.eq_none_bool (aS I q (by simp))
  | int j=>obtain ⟨t',rfl⟩:=ry; exact PySem.EqNone.eq_none_int (aS I q (by simp))
  | str j=>obtain ⟨t',rfl⟩:=ry; exact PySem.EqNone.eq_none_str (aS I q (by simp))
  | _=>exact absurd (show false=true from hs) Zf
 | bl i =>
  cases rx
  cases y with
  | non=>cases ry; exact PySem.EqNone.eq_bool_none (aS I q (by simp))
  | bl j=>cases ry; exact eq_bool (aS I q zy)
  | str j=>obtain ⟨t',rfl⟩:=ry; exact PySem.EqMixed.eq_bool_str (aS I q (by simp))
  | _=>exact absurd (show false=true from hs) Zf
 | int i =>
  obtain ⟨t,rfl⟩:=rx
  cases y with
  | non=>cases ry; exact PySem.EqNone.eq_int_none (aS I q (by simp))
  | int j=>obtain ⟨t',rfl⟩:=ry; exact eq_int (aS I q vz)
  | str j=>obtain ⟨t',rfl⟩:=ry; exact PySem.EqMixed.eq_int_str (aS I q (by simp))
  | _=>exact absurd (show false=true from hs) Zf
 | str i =>
  obtain ⟨t,rfl⟩:=rx
  cases y with
  | non=>cases ry; exact PySem.EqNone.eq_str_none (aS I q (by simp))
  | bl j=>cases ry; exact PySem.EqMixed.eq_str_bool (aS I q (by simp))
  | int j=>obtain ⟨t',rfl⟩:=ry; exact PySem.EqMixed.eq_str_int (aS I q (by simp))
  | str j=>obtain ⟨t',rfl⟩:=ry; exact eq_str (aS I q vy)
  | _=>exact absurd (show false=true from hs) Zf
 | byt i =>
  obtain ⟨t,rfl⟩:=rx
  cases y with
  | byt j=>obtain ⟨t',rfl⟩:=ry; exact PySem.W.eq_bytes (aS I q vA)
  | _=>exact absurd (show false=true from hs) Zf
 | _=>cases y <;> exact absurd (show false=true from hs) Zf
theorem G9:OpR X (compareOp .NotEq) rNe:=by
 intro pins s σ H x y v u Q I rx ry h;obtain ⟨hs,q⟩:=h
 cases x with
 | non =>
  cases rx
  cases y with
  | non=>cases ry; exact PySem.EqNone.ne_none_none (aS I q (by simp))
  | bl j=>cases ry; exact PySem.EqNone.ne_none_bool (aS I q (by simp))
  | int j=>obtain ⟨t',rfl⟩:=ry; exact PySem.EqNone.ne_none_int (aS I q (by simp))
  | str j=>obtain ⟨t',rfl⟩:=ry; exact PySem.EqNone.ne_none_str (aS I q (by simp))
  | _=>exact absurd (show false=true from hs) Zf
 | bl i =>
  cases rx
  cases y with
  | non=>cases ry; exact PySem.EqNone.ne_bool_none (aS I q (by simp))
  | bl j=>cases ry; exact ne_bool (aS I q (Yo not zy))
  | str j=>obtain ⟨t',rfl⟩:=ry; exact PySem.EqMixed.ne_bool_str (aS I q (by simp))
  | _=>exact absurd (show false=true from hs) Zf
 | int i =>
  obtain ⟨t,rfl⟩:=rx
  cases y with
  | non=>cases ry; exact PySem.EqNone.ne_int_none (aS I q (by simp))
  | int j=>obtain ⟨t',rfl⟩:=ry; exact ne_int (aS I q (Yo not vz))
  | str j=>obtain ⟨t',rfl⟩:=ry; exact PySem.EqMixed.ne_int_str (aS I q (by simp))
  | _=>exact absurd (show false=true from hs) Zf
 | str i =>
  obtain ⟨t,rfl⟩:=rx
  cases y with
  | non=>cases ry; exact PySem.EqNone.ne_str_none (aS I q (by simp))
  | bl j=>cases ry; exact PySem.EqMixed.ne_str_bool (aS I q (by simp))
  | int j=>obtain ⟨t',rfl⟩:=ry; exact PySem.EqMixed.ne_str_int (aS I q (by simp))
  | str j=>obtain ⟨t',rfl⟩:=ry; exact ne_str (aS I q (Yo not vy))
  | _=>exact absurd (show false=true from hs) Zf
 | byt i =>
  obtain ⟨t,rfl⟩:=rx
  cases y with
  | byt j=>obtain ⟨t',rfl⟩:=ry; exact PySem.W.ne_bytes (aS I q (Yo not vA))
  | _=>exact absurd (show false=true from hs) Zf
 | _=>cases y <;> exact absurd (show false=true from hs) Zf
theorem Ha:OpR X (compareOp .Lt) (rI0 λ i j=>.bl (decide (i < j))):=Hg λ _ _ _ _ _ _ _ q=>lt_int q
theorem Hb:OpR X (compareOp .LtE) (rI0 λ i j=>.bl (decide (i<=j))):=Hg λ _ _ _ _ _ _ _ q=>le_int q
theorem Hc:OpR X (compareOp .Gt) (rI0 λ i j=>.bl (decide (j < i))):=Hg λ _ _ _ _ _ _ _ q=>gt_int q
theorem uo:OpR X (compareOp .Lt) (λ x y H Q=>∃ i j,x=.str i/\y=.str j/\Q (.bl (decide (i.cps.toList < j.cps.toList))) H):=by
 intro pins s σ H x y v u Q I rx ry h;obtain ⟨i,j,rfl,rfl,q⟩:=h;obtain ⟨t,rfl⟩:=rx;obtain ⟨t',rfl⟩:=ry;exact lt_str (aS I q rfl)
theorem Ed:OpR X (compareOp .Is) (λ x y H Q=>y=.non/\Q (.bl (decide (x=.non))) H):=by
 intro pins s σ H x y v u Q I rx ry h;obtain ⟨rfl,q⟩:=h;cases ry;refine is_none_gen (aS I q ?_)
 cases x <;> first
  | (cases rx; rfl)
  | (obtain ⟨t,rfl⟩:=rx; rfl)
theorem Bg:OpR X (compareOp .IsNot) (λ x y H Q=>y=.non/\Q (.bl (!decide (x=.non))) H):=by
 intro pins s σ H x y v u Q I rx ry h;obtain ⟨rfl,q⟩:=h;cases ry;refine isnot_none_gen (aS I q ?_)
 cases x <;> first
  | (cases rx; rfl)
  | (obtain ⟨t,rfl⟩:=rx; rfl)
theorem OpR.or (h:OpR X f r) (h':OpR X f r'):OpR X f (λ x y H Q=>r x y H Q\/r' x y H Q):=by
 intro pins s σ H x y v u Q I rx ry q;rcases q with q | q
 · exact h pins s σ H x y v u Q I rx ry q
 · exact h' pins s σ H x y v u Q I rx ry q
theorem zd (b:Expr) (h:op≠.In:=by decide) (h2:op≠.NotIn:=by decide):behindInMarks op b=false:=by
 have e1:(op == CmpOp.In)=false:=by cases op <;> first | rfl | exact absurd rfl h
 have e2:(op == CmpOp.NotIn)=false:=by cases op <;> first | rfl | exact absurd rfl h2
 cases b <;> simp [behindInMarks,e1,e2]
theorem A5 (ho:OpR X (compareOp op) r) (ha:PE X a ta) (hb:PE X b tb) (hm:behindInMarks op b=false):PE X (.Compare a [op] [b] pos) (tOp r ta tb):=by
 intro pins s σ H Q I h;exact wpAny_Compare1 (JB ha hb I h λ v u s2 x y H2 I2 rx ry q=>ho pins s2 σ H2 x y v u Q I2 rx ry q) hm
def CZ (t:TE):TT:=λ σ H Q=>t σ H λ x H'=>∃ k,x=.bl k/\Q k H'
theorem Ar (ho:OpR X (compareOp op) r) (ha:PE X a ta) (hb:PE X b tb) (hm:behindInMarks op b=false):PT X (.Compare a [op] [b] pos) (CZ (tOp r ta tb)):=by
 intro pins s σ H Q I h
 refine wpAny_isTrue_Compare1 (thn (ha pins s σ H _ I h) λ v s1 ⟨x,H1,I1,r1,q1⟩=>thn (hb pins s1 σ H1 _ I1 q1) λ u s2 ⟨y,H2,I2,r2,q2⟩ =>
  thn (ho pins s2 σ H2 x y v u _ I2 r1 r2 q2) λ c s3 ⟨z,H3,I3,r3,k,e,q3⟩=>?_) hm
 subst e;cases r3;exact Yl ⟨H3,I3,q3⟩
def sJ (r r':R2) (ta tb tc:TE):TE:=λ σ H Q=>ta σ H λ x H1=>tb σ H1 λ y H2=>r x y H2 λ z H3=>∃ k,z=.bl k /\
 (if k=true then tc σ H3 λ w' H4=>r' y w' H4 Q else Q (.bl false) H3)
theorem xE (ho:OpR X (compareOp op) r) (ho':OpR X (compareOp op') r') (ha:PE X a ta) (hb:PE X b tb) (hc:PE X c tc)
  (hm:lastMarks [op,op'] [b,c]=false:=by with_unfolding_all rfl):PE X (.Compare a [op,op'] [b,c] pos) (sJ r r' ta tb tc):=by
 intro pins s σ H Q I h
 refine Compare_chain (thn (ha pins s σ H _ I h) λ v s1 ⟨x,H1,I1,r1,q1⟩=>chain_link (thn (hb pins s1 σ H1 _ I1 q1) λ u s2 ⟨y,H2,I2,r2,q2⟩ =>
  thn (ho pins s2 σ H2 x y v u _ I2 r1 r2 q2) λ d s3 ⟨z,H3,I3,r3,k,e,q3⟩=>?_)) hm
 subst e;cases r3;refine Yl ?_
 cases k with
 | false=>exact ite_ff ⟨.bl false,H3,I3,rfl,q3⟩
 | true=>exact ite_tt (chain_last (thn (hc pins s3 σ H3 _ I3 q3) λ w' s4 ⟨z',H4,I4,r4,q4⟩=>ho' pins s4 σ H4 y z' u w' Q I4 r2 r4 q4))
theorem wO (ho:OpR X (compareOp op) r) (ho':OpR X (compareOp op') r') (ha:PE X a ta) (hb:PE X b tb) (hc:PE X c tc)
  (hm:lastMarks [op,op'] [b,c]=false:=by with_unfolding_all rfl):PT X (.Compare a [op,op'] [b,c] pos) (CZ (sJ r r' ta tb tc)):=by
 intro pins s σ H Q I h
 refine isTrue_chain (thn (ha pins s σ H _ I h) λ v s1 ⟨x,H1,I1,r1,q1⟩=>test_link (thn (hb pins s1 σ H1 _ I1 q1) λ u s2 ⟨y,H2,I2,r2,q2⟩ =>
  thn (ho pins s2 σ H2 x y v u _ I2 r1 r2 q2) λ d s3 ⟨z,H3,I3,r3,k,e,q3⟩=>?_)) hm
 subst e;cases r3;refine Yl ?_
 cases k with
 | false =>
  obtain ⟨k',e',q'⟩:=q3;cases e';exact ite_ff ⟨H3,I3,q'⟩
 | true =>
  refine ite_tt (test_last (thn (hc pins s3 σ H3 _ I3 q3) λ w' s4 ⟨z',H4,I4,r4,q4⟩=>thn (ho' pins s4 σ H4 y z' u w' _ I4 r2 r4 q4) λ d' s5 ⟨z2,H5,I5,r5,k2,e2,q5⟩=>?_));subst e2;cases r5;exact Yl ⟨H5,I5,q5⟩
def Kn (K:W.Frag) (x:V) (H:Hp) (k:Bool):Prop :=
 match x with
 | .non=>k=false
 | .bl b=>k=b
 | .int i=>k=(i != 0)
 | .str y=>y.length<=sizeLine/\k=((y.length:Int) != 0)
 | .byt y=>y.size<=sizeLine/\k=((y.size:Int) != 0)
 | .ref p=>(∃ xs,SqL K H p xs/\k=!xs.isEmpty)\/(∃ xs,SqT K H p xs/\k=!xs.isEmpty)\/∃ kvs,H p=some (.dK kvs)/\k=!kvs.isEmpty
 | _=>False
theorem rD {κ:Type} {kvs:List (κ×V)} {vs:List (κ×Value)} (r:KV kvs vs):(!vs.isEmpty)=!kvs.isEmpty:=by
 cases r <;> rfl
theorem kY (r:be xs its):(!its.toArray.isEmpty)=!xs.isEmpty:=by
 cases r <;> simp
theorem mV:(sizeLine:Nat) < 2 ^ 63:=by rw [Xp]; decide
theorem CT:LU X (λ x H Q=>∃ k,Kn X.K x H k/\Q k H):=by
 intro pins s σ H x v Q I rx h;obtain ⟨k,e,q⟩:=h;have hl:=mV;have hs:sizeLine=16777216:=Xp
 cases x with
 | non =>
  cases rx;have e':k=false:=e;subst e';exact truthy_none ⟨H,I,q⟩
 | bl b =>
  cases rx;have e':k=b:=e;subst e';exact Yl ⟨H,I,q⟩
 | int i =>
  obtain ⟨t,rfl⟩:=rx;have e':k=(i != 0):=e;subst e';exact PySem.P.truthy_int ⟨H,I,q⟩
 | str y =>
  obtain ⟨t,rfl⟩:=rx;obtain ⟨hy,e'⟩:y.length<=sizeLine/\k=((y.length:Int) != 0):=e;subst e';exact PySem.P.truthy_str (by omega) ⟨H,I.tok _,q⟩
 | byt y =>
  obtain ⟨t,rfl⟩:=rx;obtain ⟨hy,e'⟩:y.size<=sizeLine/\k=((y.size:Int) != 0):=e;subst e';exact PySem.W.truthy_bytes (by omega) ⟨H,I.tok _,q⟩
 | ref p =>
  cases rx;have e':(∃ xs,SqL X.K H p xs/\k=!xs.isEmpty)\/(∃ xs,SqT X.K H p xs/\k=!xs.isEmpty)\/∃ kvs,H p=some (.dK kvs)/\k=!kvs.isEmpty:=e
  rcases e' with ⟨xs,hx,e'⟩ | ⟨xs,hx,e'⟩ | ⟨kvs,hx,e'⟩
  ·subst e'
   obtain ⟨its,r,pl,hz⟩:=I.list hx;have hlen:=r.length;exact wpAny_truthy_list pl.isList (by simp only [Zp]; omega) ⟨H,I.tok _,by rw [kY r]; exact q⟩
  ·subst e'
   obtain ⟨its,r,pl,hz⟩:=I.tuple hx;have hlen:=r.length;exact truthy_tuple pl (by simp only [Zp]; omega) ⟨H,I.tok _,by rw [kY r]; exact q⟩
  ·subst e'
   obtain ⟨hz,hS,vs,r,m⟩:kvs.length<=sizeLine/\(p == sysModules)=false/\∃ vs,KV kvs vs/\s.heap.DictOf (bh X.prog X.w) p vs:=I.hok p _ hx
   have hlen:kvs.length=vs.length:=Paired.length r;exact wpAny_truthy_dict hS m (by omega) ⟨H,I.tok _,by rw [rD r]; exact q⟩
 | _=>exact (show False from e).elim
theorem wN (ha:PE X a ta) (he:∀ whole,isTrue a X.env whole=(do let v <- whole; standAt a.pos; holding [v] (truthy v))) :
  PT X a (λ σ H Q=>ta σ H λ x H'=>∃ k,Kn X.K x H' k/\Q k H'):=by
 intro pins s σ H Q I h;exact isTrue_plain (thn (ha pins s σ H _ I h) λ v s1 ⟨x,H1,I1,r1,q1⟩=>CT pins s1 σ H1 x v Q I1 r1 q1) (he _)
theorem qR:OpR X (binaryOp .Add) (λ x y H Q=>∃ i j,x=.str i/\y=.str j/\i.length+j.length<=sizeLine/\Q (.str (i++j)) H):=by
 intro pins s σ H x y v u Q I rx ry h;obtain ⟨i,j,rfl,rfl,hz,q⟩:=h;obtain ⟨t,rfl⟩:=rx;obtain ⟨t',rfl⟩:=ry;exact add_str (λ t' tk=>⟨.str (i++j),H,I.tok _,⟨_,rfl⟩,q⟩) hz
theorem vals1 (r:be [x] us):∃ u,us=[u]/\RelV x u:=by
 cases r with
 | cons r1 r2=>cases r2; exact ⟨_,rfl,r1⟩
theorem vals2 (r:be [x,y] us):∃ u w',us=[u,w']/\RelV x u/\RelV y w':=by
 cases r with
 | cons r1 r2 =>
  cases r2 with
  | cons r3 r4=>cases r4; exact ⟨_,_,rfl,r1,r3⟩
def LV (K:W.Frag) (x:V) (H:Hp) (n:Nat):Prop :=
 match x with
 | .str y=>y.length<=sizeLine/\n=y.length
 | .byt y=>y.size<=sizeLine/\n=y.size
 | .ref p=>(∃ xs,SqL K H p xs/\n=xs.length)\/∃ xs,SqT K H p xs/\n=xs.length
 | _=>False
theorem qq:fF X (.builtin "len") (λ xs H Q=>∃ x n,xs=[x]/\LV X.K x H n/\Q (.int n) H):=by
 intro pins s σ H xs us Q I r h;obtain ⟨x,n,rfl,e,q⟩:=h;obtain ⟨u,rfl,rx⟩:=vals1 r;have hl:=mV;have hs:sizeLine=16777216:=Xp
 cases x with
 | str y =>
  obtain ⟨t,rfl⟩:=rx;obtain ⟨hy,e'⟩:y.length<=sizeLine/\n=y.length:=e;subst e';exact len_str (by omega) ⟨.int _,H,I.tok _,⟨_,rfl⟩,q⟩
 | byt y =>
  obtain ⟨t,rfl⟩:=rx;obtain ⟨hy,e'⟩:y.size<=sizeLine/\n=y.size:=e;subst e';exact PySem.W.len_bytes (by omega) ⟨.int _,H,I.tok _,⟨_,rfl⟩,q⟩
 | ref p =>
  cases rx;have e':(∃ xs,SqL X.K H p xs/\n=xs.length)\/∃ xs,SqT X.K H p xs/\n=xs.length:=e
  rcases e' with ⟨xs,hx,e'⟩ | ⟨xs,hx,e'⟩
  ·subst e'
   obtain ⟨its,r',pl,hz⟩:=I.list hx;have hlen:=r'.length;exact Calls.call_len_list pl.isList (by simp only [Zp]; omega) ⟨.int xs.length,H,I.tok _,⟨_,by simp only [Zp]; rw [hlen]⟩,q⟩
  ·subst e'
   obtain ⟨its,r',pl,hz⟩:=I.tuple hx;have hlen:=r'.length;exact len_tuple pl (by simp only [Zp]; omega) ⟨.int xs.length,H,I.tok _,⟨_,by simp only [Zp]; rw [hlen]⟩,q⟩
 | _=>exact (show False from e).elim
end
end L2
namespace L2
open PySem PySem.Spec PyProof.Rows
structure Cs (h:Heap) (x dx C:Addr) (mA:Str->Option Value):Prop where
 obj:h.get? x=some (PySem.W.instObj C dx)
 ns:h.Ns1 dx mA
 ne:dx≠x
theorem uN {h:Heap} {dx:Addr} {mA:Str->Option Value} (n:h.Ns1 dx mA):∃ od,h.get? dx=some od/\∀ name,PySem.W.lookIn name od=some (mA name):=by
 obtain ⟨o,es,ep,ho,hd,hk,_,hm⟩:=n;refine ⟨o,ho,λ name=>?_⟩;have e:=hm name;unfold nsFind findBy at e;rw [<- Array.find?_toList] at e;unfold PySem.W.lookIn;rw [hd];dsimp only;split
 ·rename_i y q
  rw [q] at e;exact Yo some e
 ·rename_i q
  rw [q] at e
  have a:es.toList.any (·.refKey)=false:=by
   rw [List.any_eq_false];intro y hy;obtain ⟨z,t,hkey⟩:=hk y (Array.mem_toList_iff.mp hy);simp [DictEntry.refKey,hkey]
  have a':¬ es.toList.any (·.refKey)=true:=by rw [a]; exact Zf
  rw [if_neg a'];exact Yo some e
theorem Cs.look (I:Cs h x dx C mA):∃ od,PySem.W.InstAt h x (PySem.W.instObj C dx) C (some od)/\∀ name,PySem.W.lookIn name od=some (mA name) :=
 let ⟨od,ho,hl⟩:=uN I.ns
 ⟨od,⟨I.obj,rfl,rfl,ho⟩,hl⟩
section
variable {prog:Program} {w:World} {A:Around} {E:Value->Shared->Prop} {s:Shared} {K:W.Frag} {x dx C f:Addr} {mA:Str->Option Value} {name:Str} {v:Value}
theorem get_map (X:K.In s.heap) (I:Cs s.heap x dx C mA) (hg:PySem.W.plainGet K C name=true) (hh:PySem.W.hasDictIn K C=true)
  (ha:W.findIn K (.ref C) name=some none) (hv:mA name=some v) (hv':PySem.W.handedIn v=true) (h:Q v { s with toks:=s.toks+1 }) :
  wpAny (model prog w) A (getAttr (.ref x) name expr) Q E s:=by
 obtain ⟨od,J,hl⟩:=I.look;exact PySem.W.get_value X J (PySem.W.plainGet_of hg).1 (PySem.W.findObj_own hh ha rfl (by rw [hl,hv])) hv' h
theorem yi (X:K.In s.heap) (I:Cs s.heap x dx C mA) (hg:PySem.W.plainGet K C name=true)
  (hf:W.findIn K (.ref C) name=some (some (.ref f))) (ht:PySem.W.isFn K (.ref f)=true) (hv:mA name=none) (h:Q (.ref f,[.ref x]) s) :
  wpAny (model prog w) A (getMethod (.ref x) name pl) Q E s:=by
 obtain ⟨od,J,hl⟩:=I.look;exact PySem.W.method_fn X J (PySem.W.plainGet_of hg).1 (PySem.W.plainGet_of hg).2 hf (beq_iff_eq.mp ht) (by show (PySem.W.lookIn name od).map (·.isSome)=some false; rw [hl,hv]; rfl) h
theorem z4 (X:K.In s.heap) (I:Cs s.heap x dx C mA)
  (hs:W.findIn K (.ref C) "__setattr__"=some (some (.builtin "object.__setattr__"))) (hp:PySem.W.plainOver K C=true) (ht:PySem.W.takerIn K C name=some none) (hh:PySem.W.hasDictIn K C=true)
  (hw:PySem.Within mA ns) (hsz:ns.length<=sizeLine)
  (h:∀ h',Cs h' x dx C (λ y=>if y=name then some v else mA y)->Heap.SameBut dx s.heap h'->Q () { s with heap:=h',toks:=s.toks+2 }) :
  wpAny (model prog w) A (setAttr (.ref x) name v) Q E s:=by
 obtain ⟨od,J,hl⟩:=I.look;refine PySem.W.set_plain X J hs (PySem.W.osa_open (s:={ s with toks:=s.toks+1 }) (r:=none) X J hp ht λ b=>?_);obtain ⟨cd,hc,hd'⟩:=PySem.W.any_some hh;have hx:s.heap.get? x=some ⟨.ref C,some dx,.plain,#[]⟩:=I.obj;refine Zv (Z6 (Zv (Zv (wpAny_loadPart hx (Zv (PySem.W.Looks.here (s:={ s with toks:=s.toks+1 }) (PySem.W.looks_clsIn X hc) ?_))))));rw [hd'];refine Z6 (a:=some dx) (Zv (Z6 (Zv ?_)));refine wpAny_nsSet1 (s:={ s with toks:=s.toks+1 }) I.ns λ h' hn2 hs2=>?_
 obtain ⟨oD,esD,epD,hoD,hdD,hcD⟩:=hn2.count (PySem.Within.cons name v hw);refine Zv (wpAny_lookBehind hoD (by rw [hdD]; exact pastItsLine_dict (Z8 hcD (by rw [Zx]; omega))) ?_);exact Z6 (h _ ⟨(hs2.2 _ (Ne.symm I.ne)).trans I.obj,hn2,I.ne⟩ hs2)
theorem xX (X:K.In s.heap) (hm:PySem.W.makesIn K C=true)
  (hi:W.findIn K (.ref C) "__init__"=some (some (.ref f))) (hf:PySem.W.typeIn K (.ref f)=some (.type "function"))
  (h : codeAny (model prog w) (A.under (.builtin "type.__call__" ⟨.ref C::vs,kw⟩)) (.call (.ref f) ⟨.ref (s.heap.objs.size+1)::vs,kw⟩) (PySem.W.InitBack (s.heap.objs.size+1) R)
    { s with heap:=(s.heap.push PySem.W.emptyDict).push (PySem.W.instObj C s.heap.objs.size) }) :
  codeAny (model prog w) A (.call (.ref C) ⟨vs,kw⟩) R s:=by
 obtain ⟨hh,g,d,t,os⟩:=s;exact PySem.W.make_core (PySem.W.makes_of X hm) (PySem.W.looks_findIn X hi) (λ self=>PySem.W.bind_fn X self hf) (.inl rfl) h
end
def kF (f:Str) (v:V):List (Str×V)->List (Str×V)
 | []=>[(f,v)]
 | (g,x)::r=>if g=f then (g,v)::r else (g,x)::kF f v r
theorem jR (f g:Str) (v:V):∀ fs:List (Str×V),(kF f v fs).lookup g=if g=f then some v else fs.lookup g
 | []=>by
  show List.lookup g [(f,v)]=_
  by_cases h:g=f
  ·have hb:(g == f)=true:=beq_iff_eq.mpr h
   simp only [List.lookup,hb,if_pos h]
  ·have hb:(g == f)=false:=Y2.mpr h
   simp only [List.lookup,hb,if_neg h]
 | (k,x)::r=>by
  have ih:=jR f g v r;rw [show kF f v ((k,x)::r)=(if k=f then (k,v)::r else (k,x)::kF f v r) from rfl]
  by_cases hk:k=f
  ·rw [if_pos hk]
   by_cases h:g=k
   ·have hb:(g == k)=true:=beq_iff_eq.mpr h
    simp only [List.lookup,hb,if_pos (h.trans hk)]
   ·have hb:(g == k)=false:=Y2.mpr h
    simp only [List.lookup,hb,if_neg (λ e:g=f=>h (e.trans hk.symm))]
  ·rw [if_neg hk]
   by_cases h:g=k
   ·have hb:(g == k)=true:=beq_iff_eq.mpr h
    simp only [List.lookup,hb,if_neg (λ e:g=f=>hk (h.symm.trans e))]
   ·have hb:(g == k)=false:=Y2.mpr h
    simp only [List.lookup,hb];exact ih
theorem jV (f:Str) (v:V):∀ fs:List (Str×V),f ∈ (kF f v fs).map (·.1)/\∀ g,g ∈ fs.map (·.1)->g ∈ (kF f v fs).map (·.1)
 | []=>⟨by simp [kF],λ g h=>by simp at h⟩
 | (k,x)::r=>by
  obtain ⟨i1,i2⟩:=jV f v r;rw [show kF f v ((k,x)::r)=(if k=f then (k,v)::r else (k,x)::kF f v r) from rfl]
  by_cases hk:k=f
  ·rw [if_pos hk]
   subst hk;exact ⟨by simp,λ g h=>by simpa using h⟩
  ·rw [if_neg hk]
   refine ⟨?_,λ g h=>?_⟩
   ·rw [Zg]
    exact Zc _ i1
   ·rw [Zg] at h ⊢
    rcases Zh.mp h with e | e
    · exact Zh.mpr (.inl e)
    · exact Zc _ (i2 g e)
theorem jS (f:Str) (v:V):∀ fs:List (Str×V),(kF f v fs).length<=fs.length+1
 | []=>by simp [kF]
 | (k,x)::r=>by
  have ih:=jS f v r;rw [show kF f v ((k,x)::r)=(if k=f then (k,v)::r else (k,x)::kF f v r) from rfl]
  by_cases hk:k=f
  · rw [if_pos hk,Zx,Zx]; omega
  · rw [if_neg hk,Zx,Zx]; omega
theorem nK.some_of (r:nK (some v) o):∃ u,o=some u/\RelV v u:=by
 cases o with
 | none=>exact (show False from r).elim
 | some u=>exact ⟨u,rfl,r⟩
theorem nK.none_of (r:nK none o):o=none:=by
 cases o with
 | none=>rfl
 | some u=>exact (show False from r).elim
theorem vb (r:RelV v u):PySem.W.handedIn u=true:=by
 cases v with
 | non=>cases (show u=Value.none from r); rfl
 | bl b=>cases (show u=Value.bool b from r); rfl
 | int i=>obtain ⟨t,e⟩:=(show ∃ t,u=Value.int i t from r); cases e; rfl
 | str x=>obtain ⟨t,e⟩:=(show ∃ t,u=Value.str x t from r); cases e; rfl
 | byt b=>obtain ⟨t,e⟩:=(show ∃ t,u=Value.bytes b t from r); cases e; rfl
 | flt b=>obtain ⟨t,e⟩:=(show ∃ t,u=Value.float b t from r); cases e; rfl
 | ref a=>cases (show u=Value.ref a from r); rfl
 | ty n=>cases (show u=Value.type n from r); rfl
section
variable {P:Program} {w:World} {H H':Hp} {h h':Heap} {a C dx:Addr} {fs fs':List (Str×V)}
theorem lU (hok:HOk P w H h) (e:H a=some (.ins C dx fs)):∃ mA,Cs h a dx C mA/\(∀ f,nK (fs.lookup f) (mA f))/\PySem.Within mA (fs.map (·.1))/\fs.length<=1000/\H dx=some (.own a):=by
 obtain ⟨d,z,ne,ob,mA,n,r,q⟩:=(show cq P w H h a (.ins C dx fs) from hok a _ e)
 exact ⟨mA,⟨ob,n,ne⟩,r,q,z,d⟩
end
structure Cls (K:W.Frag) (C:Addr):Prop where
 pg:PySem.W.plainGet K C Str.empty=true
 hd:PySem.W.hasDictIn K C=true
 po:PySem.W.plainOver K C=true
 sa:W.findIn K (.ref C) "__setattr__"=some (some (.builtin "object.__setattr__"))
theorem Cls.get {K:W.Frag} {C:Addr} (c:Cls K C) (f:Str):PySem.W.plainGet K C f=true:=c.pg
def cu (K:W.Frag) (C:Addr) (f:Str):Prop:=W.findIn K (.ref C) f=some none
theorem cu.Gy {K:W.Frag} {C:Addr} {f:Str} (n:cu K C f):PySem.W.takerIn K C f=some none:=by
 unfold PySem.W.takerIn;rw [show W.findIn K (.ref C) f=some none from n];rfl
structure zG (K:W.Frag) (C:Addr) (m:Str) (f:Addr):Prop where
 at_:W.findIn K (.ref C) m=some (some (.ref f))
 fn:PySem.W.isFn K (.ref f)=true
 kp:W.keepIn K (.ref f)=true
section
variable {X:Cx} {pins:List (Addr×Obj)} {σ:St} {H:Hp} {s:Shared} {a C dx:Addr} {fs:List (Str×V)} {f:Str} {v:V} {A:Around} {E:Value->Shared->Prop}
theorem rF (I:Inv X pins σ H s) (e:H a=some (.ins C dx fs)) (c:Cls X.K C) (n:cu X.K C f) (l:fs.lookup f=some v)
  (h:∀ u s',Inv X pins σ H s'->RelV v u->Q u s'):wpAny (model X.prog X.w) A (getAttr (.ref a) f b) Q E s:=by
 obtain ⟨mA,O,r,_,_,_⟩:=lU I.hok e;obtain ⟨u,hu,ru⟩:=nK.some_of (v:=v) (o:=mA f) (by rw [<- l]; exact r f);exact get_map I.kIn O (c.get f) c.hd n hu (vb ru) (h u _ (I.tok _) ru)
theorem kZ (I:Inv X pins σ H s) (e:H a=some (.ins C dx fs)) (c:Cls X.K C) (k:zG X.K C m g) (l:fs.lookup m=none)
  (h:Q (.ref g,[.ref a]) s):wpAny (model X.prog X.w) A (getMethod (.ref a) m pl) Q E s:=by
 obtain ⟨mA,O,r,_,_,_⟩:=lU I.hok e;have hn:mA m=none:=nK.none_of (by rw [<- l]; exact r m);exact yi I.kIn O (c.get m) k.at_ k.fn hn h
theorem qH (I:Inv X pins σ H s) (e:H a=some (.ins C dx fs)) (c:Cls X.K C) (n:cu X.K C f) (hl:fs.length < 1000) (ry:RelV y u)
  (h:∀ s',Inv X pins σ (upd H a (.ins C dx (kF f y fs))) s'->Q () s'):wpAny (model X.prog X.w) A (setAttr (.ref a) f u) Q E s:=by
 obtain ⟨mA,O,r,wi,_,ho⟩:=lU I.hok e;have hz:(fs.map (·.1)).length<=sizeLine:=by rw [Za,Xp]; omega
 refine z4 I.kIn O c.sa c.po n.Gy c.hd wi hz λ h' O' sb=>h _ ?_
 have hd:∃ o,h'.get? dx=some o:=let ⟨o,_,_,e',_⟩:=O'.ns; ⟨o,e'⟩
 refine I.write (x:=a) (e:=dx) (by rw [e]; exact True.intro) (.inr ho) (λ b q hb z=>(sb.2 b hb).trans z) hd ?_
 refine ⟨by rw [ai O.ne]; exact ho,?_,O.ne,O'.obj,_,O'.ns,λ g=>?_,λ g hg=>?_⟩
 · have:=jS f y fs; omega
 ·show nK ((kF f y fs).lookup g) (if g=f then some u else mA g)
  rw [jR]
  by_cases q:g=f
  · rw [if_pos q,if_pos q]; exact ry
  · rw [if_neg q,if_neg q]; exact r g
 ·by_cases q:g=f
  · rw [q]; exact (jV f y fs).1
  ·refine (jV f y fs).2 g (wi g λ z=>hg ?_)
   show (if g=f then some u else mA g)=none;rw [if_neg q]; exact z
theorem Inv.made (I:Inv X pins σ H s):Inv X pins σ (upd (upd H s.heap.objs.size (.own (s.heap.objs.size+1))) (s.heap.objs.size+1) (.ins C s.heap.objs.size []))
  { s with heap:=(s.heap.push PySem.W.emptyDict).push (PySem.W.instObj C s.heap.objs.size) }:=by
 have e1:(s.heap.push PySem.W.emptyDict).get? s.heap.objs.size=some PySem.W.emptyDict:=Heap.get?_push_size s.heap rfl
 have e2:((s.heap.push PySem.W.emptyDict).push (PySem.W.instObj C s.heap.objs.size)).get? (s.heap.objs.size+1)=some (PySem.W.instObj C s.heap.objs.size):=by
  have:=Heap.get?_push_size (s.heap.push PySem.W.emptyDict) (o:=PySem.W.instObj C s.heap.objs.size) rfl
  rwa [Xe] at this
 have e3:(s.heap.push PySem.W.emptyDict).Ns s.heap.objs.size (λ _=>none):=⟨PySem.W.emptyDict,#[],_,e1,rfl,(λ e he=>absurd he (by simp)),λ _=>rfl⟩
 have I1:=I.laid (a:=s.heap.objs.size) (o:=.own (s.heap.objs.size+1)) (h':=s.heap.push PySem.W.emptyDict) (t':=s.toks) (λ b u q=>Heap.get?_push_of_some _ q) (Zl _) ⟨_,e1⟩;refine I1.laid (a:=s.heap.objs.size+1) (o:=.ins C s.heap.objs.size []) (t':=s.toks) (λ b u q=>Heap.get?_push_of_some _ q) (Nat.le_of_eq (Xe _ _)) ?_
 have ne:s.heap.objs.size≠s.heap.objs.size+1:=Zz (Y4 _);refine ⟨by rw [ai ne,ao],Z3 _,ne,e2,λ _=>none,(Heap.Ns1.of_empty e3).at λ o q=>Heap.get?_push_of_some _ q,λ _=>True.intro,λ y hy=>absurd rfl hy⟩
theorem Cq (hb:attributeBase e f env (eval e env)=eval e env)
  (h:wpAny (model prog w) A (eval e env) (λ o s₁=>wpAny (model prog w) A (getAttr o f true) Q E s₁) E s):wpAny (model prog w) A (eval (.Attribute e f pos) env) Q E s :=
 Attribute_any_ h (by rw [arm_eval_Attribute,hb])
end
def Ky (K:W.Frag) (ta:TE) (f:Str):TE:=λ σ H Q=>ta σ H λ x H1=>∃ a C dx fs v,x=.ref a/\H1 a=some (.ins C dx fs)/\Cls K C/\cu K C f/\fs.lookup f=some v/\Q v H1
def KO (K:W.Frag) (ta tv:TE) (f:Str):TS:=λ D σ H=>tv σ H λ y H1=>ta σ H1 λ x H2=>∃ a C dx fs,x=.ref a/\H2 a=some (.ins C dx fs)/\Cls K C/\cu K C f/\fs.length < 1000 /\
 D.nx σ (upd H2 a (.ins C dx (kF f y fs)))
section
variable {X:Cx} {o e value:Expr} {f:Str} {pos pos' tpos:Pos} {ta tv:TE}
theorem ui (he:PE X e ta) (hb:attributeBase e f X.env (eval e X.env)=eval e X.env):PE X (.Attribute e f pos) (Ky X.K ta f):=by
 intro pins s σ H Q I h;refine Cq hb (thn (he pins s σ H _ I h) λ u s1 ⟨x,H1,I1,rx,a,C,dx,fs,v,ex,ea,c,n,l,q⟩=>?_);subst ex;obtain rfl:u=Value.ref a:=rx;exact rF I1 ea c n l λ u' s2 I2 ru=>⟨v,H1,I2,ru,q⟩
theorem DH (ha:PE X o ta) (hv:PE X value tv) (hs:swapsWith value (some (.Attribute o f pos')) pos.line X.env=pure false):PS X (.Assign [.Attribute o f pos'] value pos) (KO X.K ta tv f):=by
 intro pins s σ H D I h;refine plainObj_wpAny_Assign_Attribute (thn (hv pins s σ H _ I h) λ u s1 ⟨y,H1,I1,ry,q⟩=>thn (ha pins s1 σ H1 _ I1 q) λ ov s2 ⟨x,H2,I2,rx,a,C,dx,fs,ex,ea,c,n,l,q2⟩=>?_) hs;subst ex;obtain rfl:ov=Value.ref a:=rx;exact qH I2 ea c n l ry λ s3 I3=>⟨σ,_,I3,q2⟩
end
section
variable {X:Cx} {pins:List (Addr×Obj)} {σ:St} {H:Hp} {s:Shared} {A:Around} {E:Value->Shared->Prop} {Q:Value->Shared->Prop} {c:Value} {b:Bool}
inductive se (K:W.Frag) (H:Hp):V->Value->Prop where
 | non:se K H .non (.type "NoneType")
 | bl (x:Bool):se K H (.bl x) (.type "bool")
 | int (i:Int):se K H (.int i) (.type "int")
 | str (x:Str):se K H (.str x) (.type "str")
 | flt (x:UInt64):se K H (.flt x) (.type "float")
 | lst {a:Addr} {xs:List V} (e:H a=some (.lst xs)):se K H (.ref a) (.type "list")
 | frz {a:Addr} {o:Obj} {xs:List V} (e:H a=some (.frz o (.lst xs))):se K H (.ref a) (.type "list")
 | tup {a:Addr} {xs:List V} (e:H a=some (.tup xs)):se K H (.ref a) (.type "tuple")
 | dK {a:Addr} {kvs:List (Key×V)} (e:H a=some (.dK kvs)):se K H (.ref a) (.type "dict")
 | dT {a:Addr} {kvs:List (List Key×V)} (e:H a=some (.dT kvs)):se K H (.ref a) (.type "dict")
 | ins {a C dx:Addr} {fs:List (Str×V)} (e:H a=some (.ins C dx fs)) (cl:Cls K C) (ha:W.findIn K (.ref C) "__class__"=some (some (.builtin "object.__class__")))
  (hn:PySem.W.specialIn K (.builtin "object.__class__") "__get__"=some (some (.builtin "getset_descriptor.__get__"))) (htk:PySem.W.takesIn K (.builtin "object.__class__")=some true)
  (hm:PySem.W.mroIn K C (.type "object")=some true):se K H (.ref a) (.ref C)
theorem uZ (I:Inv X pins σ H s) (rx:RelV x u) (ty:se X.K H x t) (e:PySem.W.kitOne X.K t c=some b) (h:∀ tk,Q (.bool b) { s with toks:=tk }) :
  wpAny (model X.prog X.w) A (call (.builtin "isinstance") [u,c]) Q E s:=by
 cases ty with
 | non=>cases (show u=Value.none from rx); exact Yh PySem.W.kitx_none I.kIn True.intro e (λ z=>nomatch z) h
 | bl y=>cases (show u=Value.bool y from rx); exact Yh PySem.W.kitx_bool I.kIn True.intro e (λ z=>nomatch z) h
 | int i=>obtain ⟨t,q⟩:=(show ∃ t,u=Value.int i t from rx); cases q; exact Yh PySem.W.kitx_int I.kIn True.intro e (λ z=>nomatch z) h
 | str y=>obtain ⟨t,q⟩:=(show ∃ t,u=Value.str y t from rx); cases q; exact Yh PySem.W.kitx_str I.kIn True.intro e (λ z=>nomatch z) h
 | flt y=>obtain ⟨t,q⟩:=(show ∃ t,u=Value.float y t from rx); cases q; exact Yh PySem.W.kitx_float I.kIn True.intro e (λ z=>nomatch z) h
 | @lst a xs ea =>
  cases (show u=Value.ref a from rx);obtain ⟨_,_,n,_,h1⟩:=(show cq X.prog X.w H s.heap a (.lst xs) from I.hok a _ ea)
  exact Yh PySem.W.kitx_list I.kIn ⟨_,h1,rfl⟩ e (λ z=>nomatch z) h
 | @frz a ob xs ea =>
  cases (show u=Value.ref a from rx);obtain ⟨_,_,_,n,_,h1⟩:=(show cq X.prog X.w H s.heap a (.frz ob (.lst xs)) from I.hok a _ ea)
  exact Yh PySem.W.kitx_list I.kIn ⟨_,h1,rfl⟩ e (λ z=>nomatch z) h
 | @tup a xs ea =>
  cases (show u=Value.ref a from rx);obtain ⟨_,_,_,p⟩:=(show cq X.prog X.w H s.heap a (.tup xs) from I.hok a _ ea)
  obtain ⟨o,h1,h2,_⟩:=p;exact Yh PySem.W.kitx_tuple I.kIn ⟨o,h1,h2⟩ e (λ z=>nomatch z) h
 | @dK a kvs ea =>
  cases (show u=Value.ref a from rx);obtain ⟨_,_,vs,_,p⟩:=(show cq X.prog X.w H s.heap a (.dK kvs) from I.hok a _ ea)
  obtain ⟨o,es,ep,h1,h2,_⟩:=p;exact Yh PySem.W.kitx_dict I.kIn ⟨o,h1,h2.1⟩ e (λ z=>nomatch z) h
 | @dT a kvs ea =>
  cases (show u=Value.ref a from rx);obtain ⟨_,_,xs,_,o,es,ep,h1,h2,_⟩:=(show cq X.prog X.w H s.heap a (.dT kvs) from I.hok a _ ea)
  exact Yh PySem.W.kitx_dict I.kIn ⟨o,h1,h2.1⟩ e (λ z=>nomatch z) h
 | @ins a C dx fs ea cl ha hn htk hm =>
  cases (show u=Value.ref a from rx);obtain ⟨mA,O,_⟩:=lU I.hok ea;obtain ⟨od,J,_⟩:=O.look;exact Yh (PySem.W.kitx_own (cl.get _) cl.hd ha hn htk hm) I.kIn J e (λ z=>nomatch z) h
end
end L2
namespace L2
open PySem PySem.Spec PyProof.Rows
structure c6 (k:Nat) (A:Around):Prop where
 hd:A.handled=none
 dp:A.depth+3 * k+5 < recursionLimit
 un:A.units+16 * k+200 < cLine
theorem c6.mono (r:c6 k A) (h:j<=k):c6 j A:=⟨r.hd,by have:=r.dp; omega,by have:=r.un; omega⟩
theorem c6.deeper (r:c6 (k+1) A) (env:Env):c6 k (A.deeper env) :=
 ⟨r.hd,by have:=r.dp; show A.depth+1+3 * k+5 < _; omega,by have:=r.un; show A.units+3+16 * k+200 < _; omega⟩
theorem rg {A:Around} {C:Addr} {us:List Value} {kw:List (Str×Value)}:(A.under (.builtin "type.__call__" ⟨.ref C::us,kw⟩)).depth=A.depth+1:=by
 first | rfl | simp [Around.under,Code.weight,Code.isCreation,Code.isGuard,Code.isCaller,Code.frames,Code.isFrame,guardIds]
theorem qZ {A:Around} {C:Addr} {us:List Value} {kw:List (Str×Value)}:(A.under (.builtin "type.__call__" ⟨.ref C::us,kw⟩)).units=A.units+1:=by
 first | rfl | simp [Around.under,Code.cUnits,Code.frames,Code.isFrame]
theorem c6.make (r:c6 (k+1) A) (C:Addr) (us:List Value) (kw:List (Str×Value)):c6 k (A.under (.builtin "type.__call__" ⟨.ref C::us,kw⟩)) :=
 ⟨r.hd,by have:=r.dp; rw [rg]; omega,by have:=r.un; rw [qZ]; omega⟩
theorem c6.depth (r:c6 k A):A.depth < recursionLimit:=by have:=r.dp; omega
theorem c6.units (r:c6 k A):A.units+64 < cLine:=by have:=r.un; omega
def JF:TA:=λ _ H Q=>Q [] H
def zS (ta:TE) (tr:TA):TA:=λ σ H Q=>ta σ H λ x H1=>tr σ H1 λ xs H2=>Q (x::xs) H2
section
variable {X:Cx} {e:Expr} {es:List Expr} {te:TE} {t:TA} {pos:Pos}
theorem bc:PA X [] JF:=λ _ _ _ _ H Q I h=>Calls.spliced_nil ⟨[],H,I,.nil,h⟩
theorem aJ (ha:PE X e te) (hr:PA X es t) (hs:starEach (e::es) X.env=(false,eval e X.env)::starEach es X.env:=by rfl):PA X (e::es) (zS te t):=by
 intro pos pins s σ H Q I h;rw [hs];show wpAny _ _ (spliced ((false,eval e X.env)::backTo pos (starEach es X.env))) _ _ s;refine Calls.spliced_cons (thn (ha pins s σ H _ I h) λ u s1 ⟨x,H1,I1,r1,q1⟩=>?_);exact thn (hr pos pins s1 σ H1 _ I1 q1) λ us s2 ⟨xs,H2,I2,r2,q2⟩=>⟨x::xs,H2,I2,.cons r1 r2,q2⟩
def Kp (t:TA):TE:=λ σ H Q=>t σ H λ xs H1=>xs.length<=sizeLine/\∀ p,H1 p=none->Q (.ref p) (upd H1 p (.tup xs))
def Kv (t:TA):TE:=λ σ H Q=>t σ H λ xs H1=>xs.length<=sizeLine/\∀ p,H1 p=none->Q (.ref p) (upd H1 p (.lst xs))
theorem uf {x1} (h:PA X es t):PE X (.Tuple es x1 pos) (Kp t):=by
 intro pins s σ H Q I hq;refine wpAny_Tuple_spliced (thn (h pos pins s σ H _ I hq) λ us s1 ⟨xs,H1,I1,r,z,q⟩=>⟨by rw [<- r.length]; exact z,?_⟩);have hf:H1 s1.heap.objs.size=none:=I1.hok.fresh (Zl _);refine ⟨.ref s1.heap.objs.size,upd H1 s1.heap.objs.size (.tup xs),I1.laid (t':=s1.toks) (λ b u e=>Heap.get?_push_of_some _ e) (Zl _) ?_,rfl,q _ hf⟩;exact ⟨z,us,r,⟨_,Heap.get?_push_size _ rfl,rfl,_,rfl⟩⟩
theorem uh (h:PA X es t):PE X (.List es pos) (Kv t):=by
 intro pins s σ H Q I hq;refine wpAny_List_spliced (thn (h pos pins s σ H _ I hq) λ us s1 ⟨xs,H1,I1,r,z,q⟩=>⟨by rw [<- r.length]; exact z,?_⟩);have hf:H1 s1.heap.objs.size=none:=I1.hok.fresh (Zl _);refine ⟨.ref s1.heap.objs.size,upd H1 s1.heap.objs.size (.lst xs),I1.laid (t':=s1.toks) (λ b u e=>Heap.get?_push_of_some _ e) (Zl _) ?_,rfl,q _ hf⟩;exact ⟨z,us,0,r,Heap.get?_push_size _ rfl⟩
end
abbrev Sp:=List V->Hp->VK->XK->Prop
abbrev CXT:=List Env->Hp->Shared->XK->Value->Shared->Prop
structure Cv (P:Program) (w:World) (K:W.Frag) (mg:Str->Option Value) (base:Heap) (A:Around) (outer:List Env) (s:Shared) (H:Hp):Prop where
 frames:A.frames=some outer
 mod:Mod K mg base
 bs:∀ b o,base.get? b=some o->s.heap.get? b=some o/\H b=none
 bsz:base.objs.size<=s.heap.objs.size
 pX:s.heap.FunFrames base outer
 frf:∀ b ∈ frs outer,H b=none
 hok:HOk P w H s.heap
 bare:AllBare s.gens
def CE (outer:List Env) (P:Program) (w:World) (H:Hp) (s:Shared) (Q:VK) (u:Value) (s':Shared):Prop :=
 ∃ v H',s'.os=s.os/\AllBare s'.gens/\Un (frs outer) [] H H' s.heap s'.heap/\HOk P w H' s'.heap/\RelV v u/\Q v H'
def CR (CX:CXT) (outer:List Env) (P:Program) (w:World) (H:Hp) (s:Shared) (Q:VK) (E:XK) (r:Result) (s':Shared):Prop :=
 match r with
 | .ok (.ret u)=>CE outer P w H s Q u s'
 | .ok _=>False
 | .error e=>CX outer H s E e s'
structure fW (P:Program) (w:World) (K:W.Frag) (mg:Str->Option Value) (base:Heap) (CX:CXT) (k:Nat) (f:Addr) (fd:FuncData) (ps:List Str) (sp:Sp):Prop where
 len:∀ vs H Q E,sp vs H Q E->vs.length=ps.length
 run:∀ (A:Around) (outer:List Env) (s:Shared) (H:Hp) (args:Args) (us:List Value) (vs:List V) (Q:VK) (E:XK),c6 k A->Cv P w K mg base A outer s H->BindsTo s fd args (ps.zip us)->be vs us->sp vs H Q E ->
  codeAny (model P w) A (.call (.ref f) args) (CR CX outer P w H s Q E) s
theorem fW.imp {P:Program} {w:World} {K:W.Frag} {mg:Str->Option Value} {base:Heap} {CX:CXT} {k:Nat} {f:Addr} {fd:FuncData} {ps:List Str} {sp sp':Sp} (F:fW P w K mg base CX k f fd ps sp)
  (h:∀ vs H Q E,sp' vs H Q E->sp vs H Q E):fW P w K mg base CX k f fd ps sp' :=
 ⟨λ vs H Q E q=>F.len vs H Q E (h _ _ _ _ q),λ A outer s H args us vs Q E hr he hb hv hs=>F.run A outer s H args us vs Q E hr he hb hv (h _ _ _ _ hs)⟩
theorem Cv.make {P:Program} {w:World} {K:W.Frag} {mg:Str->Option Value} {base:Heap} {A:Around} {outer:List Env} {s:Shared} {H:Hp} (e:Cv P w K mg base A outer s H) (C:Addr) (us:List Value) (kw:List (Str×Value)) :
 Cv P w K mg base (A.under (.builtin "type.__call__" ⟨.ref C::us,kw⟩)) outer s H:=⟨by first | exact e.frames | (simpa [Around.under,Code.envs,Code.isFrame,pushEnvs] using e.frames),e.mod,e.bs,e.bsz,e.pX,e.frf,e.hok,e.bare⟩
section
variable {X:Cx} {pins:List (Addr×Obj)} {σ:St} {H:Hp} {s s':Shared}
theorem Inv.Jq (I:Inv X pins σ H s):Cv X.prog X.w X.K X.mg X.base X.A X.stack s H :=
 ⟨I.ok.frames,I.ok.mod,I.bs,Z8 I.ok.bsz I.sz,I.stack,I.iy,I.hok,I.bare⟩
theorem Inv.after (I:Inv X pins σ H s) (h:CE X.stack X.prog X.w H s Q u s'):EP X pins σ Q u s':=by
 obtain ⟨v,H',os,bare,un,hok,r,q⟩:=h;obtain ⟨hh,g,d,t,os'⟩:=s';obtain rfl:os'=s.os:=os;exact ⟨v,H',I.call (h':=hh) (g':=g) (d':=d) (t':=t) (ch:=[]) un hok bare (λ b z=>absurd z (by simp)),r,q⟩
end
def zU (sp:Sp) (dvs:List V) (E:XK) (t:TA):TE:=λ σ H Q=>t σ H λ vs H1=>sp (vs++dvs) H1 Q E
def C4 (C:Addr) (m:Str) (sp:Sp) (dvs:List V) (E:XK) (ta:TE) (t:TA):TE:=λ σ H Q=>ta σ H λ x H1=>∃ a dx fs,x=.ref a/\H1 a=some (.ins C dx fs)/\fs.lookup m=none /\
 t σ H1 λ vs H2=>sp (x::(vs++dvs)) H2 Q E
def GF (C:Addr) (sp:Sp) (dvs:List V) (E:XK) (t:TA):TE:=λ σ H Q=>t σ H λ vs H1=>∀ x dx,H1 x=none->H1 dx=none->dx≠x ->
 sp (.ref x::(vs++dvs)) (upd (upd H1 dx (.own x)) x (.ins C dx [])) (λ v H2=>v=.non/\Q (.ref x) H2) E
def Binds (K:W.Frag) (fd:FuncData) (ps:List Str) (ds:List Value):Prop :=
 ∀ (s:Shared) (us:List Value),K.In s.heap->(us++ds).length=ps.length->BindsTo s fd ⟨us,[]⟩ (ps.zip (us++ds))
theorem Binds.all {K:W.Frag} {fd:FuncData} {ps:List Str} (h:∀ us:List Value,us.length=ps.length->bindArgs fd ⟨us,[]⟩=pure (ps.zip us)):Binds K fd ps []:=λ s us _ hl=>by
 rw [Zw] at hl ⊢;exact .of_eq (h us hl)
def iu (CX:CXT) (X:Cx) (E:XK):Prop:=∀ (pins:List (Addr×Obj)) (σ:St) (H:Hp) (s:Shared) (e:Value) (s':Shared),Inv X pins σ H s->CX X.stack H s E e s'->X.xe e s'
section
variable {X:Cx} {CX:CXT} {k:Nat} {f C:Addr} {fd:FuncData} {ps:List Str} {sp:Sp} {dvs:List V} {ds:List Value} {E:XK} {x m:Str} {p pos apos:Pos} {e o:Expr} {es:List Expr} {ta:TE} {t:TA}
theorem yS (F:fW X.prog X.w X.K X.mg X.base CX k f fd ps sp) (hr:c6 k X.A) (hb:Binds X.K fd ps ds) (hd:be dvs ds) (hx:iu CX X E)
  (I:Inv X pins σ H s) (r:be vs us) (h:sp (vs++dvs) H Q E):wpAny (model X.prog X.w) X.A (call (.ref f) us) (EP X pins σ Q) X.xe s:=by
 have r2:be (vs++dvs) (us++ds):=r.append hd;have hl:(us++ds).length=ps.length:=by rw [<- r2.length]; exact F.len _ _ _ _ h
 refine wpAny_call (codeAny_mono (F.run X.A X.stack s H ⟨us,[]⟩ (us++ds) (vs++dvs) Q E hr I.Jq (hb s us I.kIn hl) r2 h) λ r s' hq=>?_)
 cases r with
 | error e=>exact hx pins σ H s e s' I hq
 | ok fl =>
  cases fl with
  | ret u=>exact I.after hq
  | next=>exact False.elim hq
  | brk=>exact False.elim hq
  | cont=>exact False.elim hq
theorem nZ (F:fW X.prog X.w X.K X.mg X.base CX k f fd ps sp) (hr:c6 k X.A) (hg:Gl X x) (hm:X.mg x=some (.ref f)) (hk:W.keepIn X.K (.ref f)=true) (hb:Binds X.K fd ps ds) (hd:be dvs ds) (hx:iu CX X E)
  (ha:PA X (e::es) t) (hdb:(x == ("__debug__":Str))=false:=by decide) (he:starEach (e::es) X.env=(false,eval e X.env)::starEach es X.env:=by rfl) (hpl:(backTo pos (starEach es X.env)).any (·.1)=false:=by rfl) :
  PE X (.Call (.Name x p) (e::es) [] pos) (zU sp dvs E t):=by
 intro pins s σ H Q I h;refine Yu (jT I hg hm ?_ hdb);refine PySem.W.callWith_K (h₀:=X.base) I.ok.mod.kin hk (thn (ha pos pins s σ H _ I h) λ us s1 ⟨vs,H1,I1,r,q⟩=>⟨I1.kIn,?_⟩) he hpl;exact yS F hr hb hd hx I1 r q
theorem ug (he:PE X o ta) (c:Cls X.K C) (hm:zG X.K C m f) (F:fW X.prog X.w X.K X.mg X.base CX k f fd ps sp) (hr:c6 k X.A) (hb:Binds X.K fd ps ds) (hd:be dvs ds) (hx:iu CX X E) (ha:PA X (e::es) t)
  (hst:starEach (e::es) X.env=(false,eval e X.env)::starEach es X.env:=by rfl) (hpl:(backTo pos (starEach es X.env)).any (·.1)=false:=by rfl)
  (ht:eval (.Call (.Attribute o m apos) (e::es) [] pos) X.env=(do
    let ov <- eval o X.env
    standAt apos.atName
    let (f,first) <- holding [ov] (getMethod ov m pl)
    callWith pos f first (backTo pos (starEach (e::es) X.env)) (backToKw pos (keywordEach [] X.env))):=by rfl) :
  PE X (.Call (.Attribute o m apos) (e::es) [] pos) (C4 C m sp dvs E ta t):=by
 intro pins s σ H Q I h;refine PySem.W.methodCall_KW (pl:=pl) (thn (he pins s σ H _ I h) λ u s1 ⟨x,H1,I1,rx,a,dx,fs,ex,ea,l,q⟩=>?_) ht;subst ex;obtain rfl:u=Value.ref a:=rx;refine kZ I1 ea c hm l ?_
 refine PySem.W.callWith_K (first:=[.ref a]) (h₀:=X.base) I.ok.mod.kin hm.kp (thn (ha pos pins s1 σ H1 _ I1 q) λ us s2 ⟨vs,H2,I2,r,q2⟩=>⟨I2.kIn,?_⟩) hst hpl;exact yS (us:=.ref a::us) (vs:=.ref a::vs) F hr hb hd hx I2 (.cons rfl r) q2
structure Mk (K:W.Frag) (C f:Addr):Prop where
 makes:PySem.W.makesIn K C=true
 init:W.findIn K (.ref C) "__init__"=some (some (.ref f))
 fn:PySem.W.isFn K (.ref f)=true
 kp:W.keepIn K (.ref C)=true
theorem wF (M:Mk X.K C f) (F:fW X.prog X.w X.K X.mg X.base CX k f fd ps sp) (hr:c6 (k+1) X.A) (hb:Binds X.K fd ps ds) (hd:be dvs ds)
  (hx:iu CX X E) (I:Inv X pins σ H s) (r:be vs us)
  (h:∀ x dx,H x=none->H dx=none->dx≠x->sp (.ref x::(vs++dvs)) (upd (upd H dx (.own x)) x (.ins C dx [])) (λ v H2=>v=.non/\Q (.ref x) H2) E) :
  wpAny (model X.prog X.w) X.A (call (.ref C) us) (EP X pins σ Q) X.xe s:=by
 have hq:=h (s.heap.objs.size+1) s.heap.objs.size (I.hok.fresh (Nat.le_succ _)) (I.hok.fresh (Zl _)) (Zz (Y4 _));have I2:=Inv.made (C:=C) I;have r2:be (V.ref (s.heap.objs.size+1)::(vs++dvs)) (Value.ref (s.heap.objs.size+1)::(us++ds)):=.cons rfl (r.append hd)
 have hl:(Value.ref (s.heap.objs.size+1)::us++ds).length=ps.length:=by
  have e:=r2.length;rw [F.len _ _ _ _ hq] at e;exact e.symm
 refine wpAny_call (xX (f:=f) I.kIn M.makes M.init (beq_iff_eq.mp M.fn) (codeAny_mono (F.run _ X.stack _ _ ⟨Value.ref (s.heap.objs.size+1)::us,[]⟩ (Value.ref (s.heap.objs.size+1)::(us++ds)) _ _ E (hr.make C us [])
  (I2.Jq.make C us []) (hb _ (Value.ref (s.heap.objs.size+1)::us) I2.kIn hl) r2 hq) λ r s' hq'=>?_))
 cases r with
 | error e=>exact hx pins σ _ _ e s' I2 hq'
 | ok fl =>
  cases fl with
  | ret u =>
   obtain ⟨v,H',I3,rv,ev,q3⟩:=I2.after hq';subst ev;exact ⟨rv,⟨V.ref (s.heap.objs.size+1),H',I3,rfl,q3⟩⟩
  | next=>exact False.elim hq'
  | brk=>exact False.elim hq'
  | cont=>exact False.elim hq'
theorem A0 (M:Mk X.K C f) (F:fW X.prog X.w X.K X.mg X.base CX k f fd ps sp) (hr:c6 (k+1) X.A) (hg:Gl X x) (hm:X.mg x=some (.ref C)) (hb:Binds X.K fd ps ds) (hd:be dvs ds) (hx:iu CX X E)
  (ha:PA X (e::es) t) (hdb:(x == ("__debug__":Str))=false:=by decide) (he:starEach (e::es) X.env=(false,eval e X.env)::starEach es X.env:=by rfl) (hpl:(backTo pos (starEach es X.env)).any (·.1)=false:=by rfl) :
  PE X (.Call (.Name x p) (e::es) [] pos) (GF C sp dvs E t):=by
 intro pins s σ H Q I h;refine Yu (jT I hg hm ?_ hdb);refine PySem.W.callWith_K (h₀:=X.base) I.ok.mod.kin M.kp (thn (ha pos pins s σ H _ I h) λ us s1 ⟨vs,H1,I1,r,q⟩=>⟨I1.kIn,?_⟩) he hpl;exact wF M F hr hb hd hx I1 r q
end
structure cU (N P:List Str) (sc:Scope):Prop where
 kind:sc.kind=.function
 co:sc.isCoroutine=false
 gen:sc.isGenerator=false
 nd:N.Nodup
 pre:N.take P.length=P
 par:∀ x ∈ P,sc.names.lookup x=some .local\/sc.names.lookup x=some .cell
 Em:∀ y ∈ sc.names,y.2≠.free
theorem nF {kindOf:Str->Option NameKind} {x:Str}:∀ {binds:List (Str×Value)} {m:Str->Option Value},(∀ v,(x,v) ∉ binds)->bindL kindOf binds m x=m x
 | [],_,_=>rfl
 | (n,v)::r,m,h=>by
  unfold bindL;rw [nF λ w hw=>h w (Zc _ hw)];split
  ·have:x≠n:=by rintro rfl; exact h v Ze
   simp [this]
  · rfl
theorem nH {kindOf:Str->Option NameKind} {x:Str}:∀ {binds:List (Str×Value)} {m:Str->Option Value},(∀ v,(x,v) ∉ binds)->bindC kindOf binds m x=m x
 | [],_,_=>rfl
 | (n,v)::r,m,h=>by
  unfold bindC;rw [nH λ w hw=>h w (Zc _ hw)];split
  · rfl
  ·have:x≠n:=by rintro rfl; exact h v Ze
   simp [this]
theorem nG {kindOf:Str->Option NameKind} {x:Str} {v:Value}:∀ {P:List Str} {vs:List Value} {i:Nat} {m:Str->Option Value},P.Nodup->P[i]?=some x->vs[i]?=some v->kindOf x=some .local ->
  bindL kindOf (P.zip vs) m x=some v
 | [],_,_,_,_,h,_,_=>by simp at h
 | _::_,[],_,_,_,_,h,_=>by simp at h
 | p::P,w::vs,0,m,nd,h1,h2,hk=>by
  simp at h1 h2; subst h1; subst h2
  show bindL kindOf ((p,w)::P.zip vs) m p=_;unfold bindL;rw [nF λ v hv=>(Zt.mp nd).1 (List.of_mem_zip hv).1,if_pos hk];simp
 | p::P,w::vs,i+1,m,nd,h1,h2,hk=>by
  show bindL kindOf ((p,w)::P.zip vs) m x=_;unfold bindL;exact nG (i:=i) (Zt.mp nd).2 (by simpa using h1) (by simpa using h2) hk
theorem nI {kindOf:Str->Option NameKind} {x:Str} {v:Value}:∀ {P:List Str} {vs:List Value} {i:Nat} {m:Str->Option Value},P.Nodup->P[i]?=some x->vs[i]?=some v->kindOf x≠some .local ->
  bindC kindOf (P.zip vs) m x=some v
 | [],_,_,_,_,h,_,_=>by simp at h
 | _::_,[],_,_,_,_,h,_=>by simp at h
 | p::P,w::vs,0,m,nd,h1,h2,hk=>by
  simp at h1 h2; subst h1; subst h2
  show bindC kindOf ((p,w)::P.zip vs) m p=_;unfold bindC;rw [nH λ v hv=>(Zt.mp nd).1 (List.of_mem_zip hv).1,if_neg hk];simp
 | p::P,w::vs,i+1,m,nd,h1,h2,hk=>by
  show bindC kindOf ((p,w)::P.zip vs) m x=_;unfold bindC;exact nI (i:=i) (Zt.mp nd).2 (by simpa using h1) (by simpa using h2) hk
def start (N:List Str) (vs:List V):St:=vs.map some++List.replicate (N.length - vs.length) none
def qk (CX:CXT) (P:Program) (w:World) (K:W.Frag) (mg:Str->Option Value) (base:Heap) (N:List Str) (qual:Str) (scope:Scope) (f:Addr) (cd:Value) (A:Around) (outer:List Env) (s:Shared) (H:Hp) (E:XK):Cx where
 prog:=P
 w:=w
 K:=K
 mg:=mg
 base:=base
 A:=A.deeper (envOfC qual scope s.heap.objs.size f cd)
 N:=N
 s₀:=s
 H₀:=H
 env:=envOfC qual scope s.heap.objs.size f cd
 outer:=outer
 stack:=envOfC qual scope s.heap.objs.size f cd::outer
 ex:=[]
 calm:=true
 fn:=λ _=>true
 pn:=[]
 xe:=λ e s'=>wpAny (model P w) (A.deeper (envOfC qual scope s.heap.objs.size f cd)) (leaving (envOfC qual scope s.heap.objs.size f cd) e) (λ _ s''=>CX outer H s E e s'') (λ e' s''=>CX outer H s E e' s'') s'
theorem qp {sc:Scope} {n:Nat} {x:Str} (h:sc.names.lookup x=some .cell):∃ c,(cellsFrom n sc.names []).lookup x=some c:=by
 have q:=PySem.W.cellsFrom_some sc.names n [] (.inl h);exact Yp.mp q
theorem u5 {CX:CXT} {P:Program} {w:World} {K:W.Frag} {mg:Str->Option Value} {base:Heap} {N ps:List Str} {qual:Str} {scope:Scope} {f:Addr} {cd:Value} {A:Around} {outer:List Env} {s s1:Shared} {H:Hp} {E:XK} {us:List Value} {vs:List V}
  (S:cU N ps scope) (hd:A.handled=none) (e0:Cv P w K mg base A outer s H) (hl:vs.length=ps.length) (r:be vs us)
  (x:InCallC s s.heap.objs.size (bindL (envOfC qual scope s.heap.objs.size f cd).kindOf (ps.zip us) λ _=>none) (cellsFrom (s.heap.objs.size+1) scope.names []) (bindC (envOfC qual scope s.heap.objs.size f cd).kindOf (ps.zip us) λ _=>none) s1) :
  Inv (qk CX P w K mg base N qual scope f cd A outer s H E) [] (start N vs) H s1:=by
 have hpl:ps.length<=N.length:=by have:=Yo List.length S.pre; rw [Y5] at this; omega
 obtain ⟨h1,tk,rfl,hk⟩:=x.done;have noA:∀ b:Addr,b ∉ (qk CX P w K mg base N qual scope f cd A outer s H E).ex:=λ b z=>absurd (show b ∈ ([]:List Addr) from z) (by simp)
 refine ⟨⟨e0.mod,S.kind,rfl,rfl,Zl _,λ y z c h1 h2=>?_,λ y hy=>?_,λ y c _ h=>?_,λ _=>hd,Around.frames_deeper e0.frames,.inr ⟨rfl,rfl⟩,λ b z=>absurd z (noA b),e0.bs,e0.bsz,λ b _ _=>noA b,λ b z=>absurd z (noA b),e0.pX,e0.frf⟩,
  rfl,e0.bare,Un.kept hk,⟨_,x.toInCall.ns,λ i y v h1 h2 h3=>?_⟩,λ y c h=>⟨_,x.cell y c h⟩,e0.hok.fresh (Zl _),λ y c h=>?_,λ p hp=>absurd (show p ∈ ([]:List (Addr×Obj)) from hp) (by simp),e0.hok.kept hk,?_⟩
 · exact name_of_addr x.apart (Yj h1) (Yj h2)
 ·have hy:scope.names.lookup y=some .cell\/scope.names.lookup y=some .free:=hy
  rcases hy with hy | hy
  · exact qp hy
  · exact absurd rfl (S.Em _ (Yj hy))
 · exact Yw (x.above y c (Yj h))
 ·have hi:i < vs.length:=by
   unfold start at h2
   by_cases hi:i < vs.length
   · exact hi
   ·rw [List.getElem?_append_right (by simpa using hi)] at h2
    rw [List.getElem?_replicate] at h2;split at h2 <;> cases h2
  have ha:vs[i]?=some v:=by
   unfold start at h2;rw [List.getElem?_append_left (by simpa using hi),List.getElem?_map] at h2
   cases e:vs[i]? with
   | none=>rw [e] at h2; cases h2
   | some a=>rw [e] at h2; cases h2; rfl
  obtain ⟨u,hu,rv⟩:=r.get ha
  have hp:ps[i]?=some y:=by
   rw [<- S.pre,List.getElem?_take_of_lt (by omega)]; exact h1
  have ndP:ps.Nodup:=by rw [<- S.pre]; exact S.nd.sublist (List.take_sublist _ _)
  refine ⟨u,rv,?_⟩;rcases S.par y (List.mem_of_getElem? hp) with k | k
  · exact .inl ⟨k,nG ndP hp hu k⟩
  ·obtain ⟨c,e⟩:=qp (n:=s.heap.objs.size+1) k
   refine .inr ⟨.inl k,c,e,?_⟩;have q:=x.cell y c e;rw [nI ndP hp hu (by show scope.names.lookup y≠_; rw [k]; decide)] at q;exact q
 · exact e0.hok.fresh (Yw (x.above y c (Yj h)))
 ·unfold start
  show _=N.length;rw [Z1,Za,List.length_replicate];omega
theorem E2 {CX:CXT} {P:Program} {w:World} {K:W.Frag} {mg:Str->Option Value} {base:Heap} {k:Nat} {f:Addr} {name qual:Str} {params:Arguments} {body:List Stmt} {scope:Scope} {dV kV doc pm cdv ct oc:Value} {an od:Option Addr}
  {osl:Array (Option Value)} {N ps:List Str} {sp:Sp} (lk:K.lookup f=some ⟨oc,od,.func (PySem.W.fnOf name qual params body scope dV kV doc pm an cdv ct),osl⟩) (hcd:PySem.W.codeIn K cdv qual=true) (S:cU N ps scope)
  (len:∀ vs H Q E,sp vs H Q E->vs.length=ps.length)
  (hbody:∀ (A:Around) (outer:List Env) (s:Shared) (H:Hp) (vs:List V) (Q:VK) (E:XK),c6 k (A.deeper (envOfC qual scope s.heap.objs.size f cdv))->sp vs H Q E ->
    ∃ t,PSs (qk CX P w K mg base N qual scope f cdv A outer s H E) body t/\t { nx:=λ _ H'=>Q .non H',rt:=Q } (start N vs) H) :
  fW P w K mg base CX (k+1) f (PySem.W.fnOf name qual params body scope dV kV doc pm an cdv ct) ps sp:=by
 refine ⟨len,λ A outer s H args us vs Q E hr e0 hb r hsp=>?_⟩;have hl:=len _ _ _ _ hsp;have KX:K.In s.heap:=e0.mod.kin.keeps λ b o e=>(e0.bs b o e).1
 have lim:s.heap.NoLimit:=e0.mod.nolimit.keeps λ b o e=>(e0.bs b o e).1
 have hkind:∀ y ∈ ps.zip us,scope.names.lookup y.1=some .local\/(scope.names.lookup y.1=some .cell/\((cellsFrom (s.heap.objs.size+1) scope.names []).lookup y.1).isSome=true):=λ ⟨n,v⟩ hy=>by
  rcases S.par n (List.of_mem_zip hy).1 with q | q
  · exact .inl q
  · exact .inr ⟨q,PySem.W.cellsFrom_some _ _ _ (.inl q)⟩
 refine codeAny_call_function hr.depth (KX _ _ lk) rfl S.co S.gen rfl (PySem.W.codeRec_of KX hcd) (hb _ _ _ _ ?_);refine wpAny_newFunctionEnv_cells S.kind hkind λ env he s1 x=>?_
 subst he;refine ⟨lim.keeps x.toInCall.keep,codeAny_func ?_⟩;obtain ⟨t,ht,hq⟩:=hbody A outer s H vs Q E (hr.deeper _) hsp;have I:Inv (qk CX P w K mg base N qual scope f cdv A outer s H E) [] (start N vs) H s1:=u5 S hr.hd e0 hl r x;refine Yc (ht [] s1 (start N vs) H _ I hq) (λ fl s' hs=>?_) λ e s' hs=>hs
 have fin:∀ {σ':St} {H':Hp} {v:V} {u:Value},Inv (qk CX P w K mg base N qual scope f cdv A outer s H E) [] σ' H' s'->RelV v u->Q v H'->CE outer P w H s Q u s' :=
  λ {σ' H' v u} J rv q=>⟨v,H',J.os,J.bare,J.base,J.hok,rv,q⟩
 cases fl with
 | ret u =>
  obtain ⟨v,σ',H',J,rv,q⟩:=hs;exact fin J rv q
 | next =>
  obtain ⟨σ',H',J,q⟩:=hs;exact fin (v:=V.non) (u:=Value.none) J rfl q
 | brk =>
  obtain ⟨_,_,_,q⟩:=hs;exact False.elim q
 | cont =>
  obtain ⟨_,_,_,q⟩:=hs;exact False.elim q
end L2
namespace L2
open PySem PySem.Spec PyProof.Rows
section
variable {X:Cx} {x:Str} {p pos:Pos} {e:Expr} {es:List Expr} {t:TA} {id T:String} {r:List V->Hp->VK->Prop}
def tCB (r:List V->Hp->VK->Prop) (t:TA):TE:=λ σ H Q=>t σ H λ vs H1=>r vs H1 Q
theorem pM (hc:fF X (.builtin id) r) (hg:Gl X x) (hm:X.mg x=none) (hv:bootBuiltins x=some (.builtin id)) (ha:PA X (e::es) t) (hn:x≠"__name__":=by decide) (hdb:(x == ("__debug__":Str))=false:=by decide)
  (he:starEach (e::es) X.env=(false,eval e X.env)::starEach es X.env:=by rfl) (hpl:(backTo pos (starEach es X.env)).any (·.1)=false:=by rfl):PE X (.Call (.Name x p) (e::es) [] pos) (tCB r t):=by
 intro pins s σ H Q I h;refine Yu (jU I hg hm hv ?_ hn hdb);exact PyProof.Rows.callWith_builtin1 (thn (ha pos pins s σ H _ I h) λ us s1 ⟨vs,H1,I1,r1,q1⟩=>hc pins s1 σ H1 vs us Q I1 r1 q1) he hpl
theorem mG (hc:fF X (.type T) r) (hg:Gl X x) (hm:X.mg x=none) (hv:bootBuiltins x=some (.type T)) (ha:PA X (e::es) t) (hn:x≠"__name__":=by decide) (hdb:(x == ("__debug__":Str))=false:=by decide)
  (he:starEach (e::es) X.env=(false,eval e X.env)::starEach es X.env:=by rfl) (hpl:(backTo pos (starEach es X.env)).any (·.1)=false:=by rfl):PE X (.Call (.Name x p) (e::es) [] pos) (tCB r t):=by
 intro pins s σ H Q I h;refine Yu (jU I hg hm hv ?_ hn hdb);exact Yt (thn (ha pos pins s σ H _ I h) λ us s1 ⟨vs,H1,I1,r1,q1⟩=>hc pins s1 σ H1 vs us Q I1 r1 q1) he hpl
end
end L2
namespace HT
open PySem PyProof.Rows
section
variable {prog:Program} {w:World} {A:Around} {E:Value->Shared->Prop} {s:Shared}
def sIx (n d:Nat):Option Int->Nat
 | none=>d
 | some v=>if v < 0 then (v+(n:Int)).toNat else min v.toNat n
theorem wB (n d:Nat):sIx n d none=d:=rfl
theorem nU (n d k:Nat):sIx n d (some (k:Int))=min k n:=by
 show (if (k:Int) < 0 then ((k:Int)+(n:Int)).toNat else min (k:Int).toNat n)=min k n;rw [if_neg (by omega),Int.toNat_natCast]
end
end HT
namespace L2
open PySem PySem.Spec PyProof.Rows
abbrev TO:=St->Hp->(Option Int->Hp->Prop)->Prop
def PO (X:Cx) (e:Option Expr) (t:TO):Prop :=
  ∀ (pins:List (Addr×Obj)) (s:Shared) (σ:St) (H:Hp) (Q:Option Int->Hp->Prop),Inv X pins σ H s->t σ H Q ->
    wpAny (model X.prog X.w) X.A (evalPart e X.env) (λ u s'=>∃ o H',Inv X pins σ H' s'/\IsPart u o/\Q o H') X.xe s
def zQ:TO:=λ _ H Q=>Q none H
def GB (t:TE):TO:=λ σ H Q=>t σ H λ x H1=>∃ i,x=.int i/\Q (some i) H1
section
variable {X:Cx} {e:Expr} {te:TE} {lo hi:Option Expr} {tl th:TO} {pos p2:Pos}
theorem AL:PO X none zQ:=by
 intro pins s σ H Q I h;rw [evalPart_none];exact Z6 ⟨none,H,I,.none,h⟩
theorem AK (h:PE X e te):PO X (some e) (GB te):=by
 intro pins s σ H Q I hw;rw [evalPart_some];refine thn (h pins s σ H _ I hw) λ u s1 ⟨x,H1,I1,r1,q1⟩=>?_
 obtain ⟨i,rfl,q⟩:=q1;obtain ⟨t,rfl⟩:=r1;exact ⟨some i,H1,I1,.int i t,q⟩
def SlR (X:Cx) (r:V->Option Int->Option Int->Hp->VK->Prop):Prop :=
  ∀ (pins:List (Addr×Obj)) (s:Shared) (σ:St) (H:Hp) (x:V) (v vl vu:Value) (lo hi:Option Int) (sl:Addr) (Q:VK),Inv X pins σ H s->RelV x v->s.heap.IsSliceOf sl vl vu .none->IsPart vl lo->IsPart vu hi->r x lo hi H Q ->
    ∃ T id,typeLookup (.type T) "__getitem__"=pure (some (.builtin id))/\s.TypeIs v T/\wpAny (model X.prog X.w) X.A (getItem v (.ref sl)) (EP X pins σ Q) X.xe s
def tSl (r:V->Option Int->Option Int->Hp->VK->Prop) (te:TE) (tl th:TO):TE:=λ σ H Q=>te σ H λ x H1=>tl σ H1 λ l H2=>th σ H2 λ u H3=>r x l u H3 Q
theorem xB (hr:SlR X r) (he:PE X e te) (hl:PO X lo tl) (hu:PO X hi th):PE X (.Subscript e (.Slice lo hi none p2) pos) (tSl r te tl th):=by
 intro pins s σ H Q I h;refine Subscript_ (thn (he pins s σ H _ I h) λ v s1 ⟨x,H1,I1,r1,q1⟩=>?_);refine wpAny_Slice (thn (hl pins s1 σ H1 _ I1 q1) λ vl s2 ⟨l,H2,I2,pl,q2⟩=>thn (hu pins s2 σ H2 _ I2 q2) λ vu s3 ⟨u,H3,I3,pu,q3⟩=>?_);rw [evalPart_none];refine Z6 ?_
 have I4:Inv X pins σ H3 { s3 with heap:=s3.heap.push { cls:=.type "slice",data:=.fields #[vl,vu,.none] } }:=I3.kept (t':=s3.toks) λ b ob q=>Heap.get?_push_of_some _ q
 obtain ⟨T,id,hT,ht,hg⟩:=hr pins { s3 with heap:=s3.heap.push { cls:=.type "slice",data:=.fields #[vl,vu,.none] } } σ H3 x v vl vu l u s3.heap.objs.size Q I4 r1 (Heap.IsSliceOf.new ..) pl pu q3;show wpAny (model X.prog X.w) X.A (subscriptTail e (.Slice lo hi none p2) v (.ref s3.heap.objs.size)) (EP X pins σ Q) X.xe { s3 with heap:=s3.heap.push { cls:=.type "slice",data:=.fields #[vl,vu,.none] } };exact tail_any (ops:=[.ref s3.heap.objs.size,v]) ht hT hg (by with_unfolding_all rfl)
def CH (xs:List V) (lo hi:Option Int):List V:=(xs.drop (HT.sIx xs.length 0 lo)).take (HT.sIx xs.length xs.length hi - HT.sIx xs.length 0 lo)
theorem oS (xs:List V) (lo hi:Option Int):(CH xs lo hi).length<=xs.length:=by
 unfold CH;rw [Y5,List.length_drop];omega
end
end L2
namespace L2
open PySem PySem.Spec PyProof.Rows
def ixN (n:Nat) (i:Int):Option Nat:=if 0<=i then (if i < n then some i.toNat else none) else if -(n:Int)<=i then some (i+n).toNat else none
def atI {α:Type} (xs:List α) (i:Int):Option α:=(ixN xs.length i).bind λ j=>xs[j]?
theorem BW (h:ixN n i=some j):seqIndex? i n=some j/\j < n/\-(n:Int)<=i/\i < n:=by
 unfold ixN at h
 by_cases h0:0<=i
 ·rw [if_pos h0] at h
  by_cases h1:i < n
  ·rw [if_pos h1] at h
   have e:i.toNat=j:=Zj h;exact ⟨by rw [seqIndex_of h0 h1,e],by omega,by omega,h1⟩
  · rw [if_neg h1] at h; cases h
 ·rw [if_neg h0] at h
  by_cases h1:-(n:Int)<=i
  ·rw [if_pos h1] at h
   have e:(i+n).toNat=j:=Zj h;exact ⟨by rw [seqIndex_neg (by omega) h1,e],by omega,h1,by omega⟩
  · rw [if_neg h1] at h; cases h
theorem pe {α:Type} {xs:List α} {v:α} (h:atI xs i=some v):∃ j,seqIndex? i xs.length=some j/\xs[j]?=some v/\j < xs.length/\-(xs.length:Int)<=i/\i < xs.length:=by
 unfold atI at h
 cases e:ixN xs.length i with
 | none=>rw [e] at h; cases h
 | some j =>
  rw [e] at h;obtain ⟨h1,h2,h3,h4⟩:=BW e;exact ⟨j,h1,h,h2,h3,h4⟩
theorem Cr {α:Type} {xs:List α} {j:Nat} {v:α} (h:xs[j]?=some v):atI xs (j:Int)=some v:=by
 have hj:j < xs.length:=(List.getElem?_eq_some_iff.mp h).1
 have e:ixN xs.length (j:Int)=some j:=by
  unfold ixN;rw [if_pos (by omega),if_pos (by omega)]; simp
 unfold atI; rw [e]; exact h
theorem yG {α:Type} (xs:List α) (v:α):atI (xs++[v]) (-1)=some v:=by
 have hl:(xs++[v]).length=xs.length+1:=by simp
 have e:ixN (xs++[v]).length (-1)=some xs.length:=by
  unfold ixN;rw [hl,if_neg (by decide),if_pos (by omega)];congr 1;omega
 unfold atI;rw [e];show (xs++[v])[xs.length]?=some v;simp
def pj (b:Expr):Prop:=∀ o i,subscripted b false o i=operate [o,i] (getItem o i)
def IxR (X:Cx) (r:R2):Prop :=
  ∀ (value slice:Expr) (pins:List (Addr×Obj)) (s:Shared) (σ:St) (H:Hp) (x y:V) (v u:Value) (Q:VK),Inv X pins σ H s->RelV x v->RelV y u->r x y H Q ->
    subscripted slice false v u=operate [v,u] (getItem v u)->wpAny (model X.prog X.w) X.A (subscriptTail value slice v u) (EP X pins σ Q) X.xe s
def MtR (X:Cx) (id:String) (r:V->List V->Hp->VK->Prop):Prop :=
  ∀ (pins:List (Addr×Obj)) (s:Shared) (σ:St) (H:Hp) (x:V) (xs:List V) (v:Value) (us:List Value) (Q:VK),Inv X pins σ H s->RelV x v->be xs us->r x xs H Q ->
    wpAny (model X.prog X.w) X.A (call (.builtin id) (v::us)) (EP X pins σ Q) X.xe s
section
variable {X:Cx} {a b:Expr} {ta tb:TE} {pos:Pos}
theorem IxR.or (h:IxR X r) (h':IxR X r'):IxR X (λ x y H Q=>r x y H Q\/r' x y H Q):=by
 intro value slice pins s σ H x y v u Q I rx ry q hs;rcases q with q | q
 · exact h value slice pins s σ H x y v u Q I rx ry q hs
 · exact h' value slice pins s σ H x y v u Q I rx ry q hs
theorem G2 (hr:IxR X r) (ha:PE X a ta) (hb:PE X b tb) (hs:pj b):PE X (.Subscript a b pos) (tOp r ta tb):=by
 intro pins s σ H Q I h;exact Subscript_ (JB ha hb I h λ v u s2 x y H2 I2 rx ry q=>hr a b pins s2 σ H2 x y v u Q I2 rx ry q (hs _ _))
def K6 (K:W.Frag):R2:=λ x y H Q=>∃ p xs i v,x=.ref p/\y=.int i/\SqL K H p xs/\atI xs i=some v/\Q v H
def K4 (K:W.Frag):R2:=λ x y H Q=>∃ p xs i v,x=.ref p/\y=.int i/\SqT K H p xs/\atI xs i=some v/\Q v H
def K5:R2:=λ x y H Q=>∃ z i c,x=.str z/\y=.int i/\z.length<=sizeLine/\atI z.cps.toList i=some c/\Q (.str ⟨#[c]⟩) H
theorem BU:IxR X (K6 X.K):=by
 intro value slice pins s σ H x y v u Q I rx ry h hs;obtain ⟨p,xs,i,z,rfl,rfl,hq,he,q⟩:=h;cases rx;obtain ⟨t,rfl⟩:=ry;obtain ⟨its,r,pl,hz⟩:=I.list hq;obtain ⟨j,h1,h2,h3,h4,h5⟩:=pe he;obtain ⟨w,ew,rw'⟩:=r.get h2;have hl:=r.length;have hn:=mV;have fin:EP X pins σ Q w s:=⟨z,H,I,rw',q⟩
 by_cases h0:0<=i
 ·have hj:i.toNat=j:=by
   rw [seqIndex_of h0 h5] at h1;exact Zj h1
  exact item_listR pl.isList h0 (by omega) (by rw [hj]; simpa using ew) fin hs
 ·have hj:(i+(its.toArray.size:Int)).toNat=j:=by
   rw [seqIndex_neg (by omega) h4] at h1;rw [Zp,<- hl];exact Zj h1
  exact subscriptTail_builtinR (x:=w) pl.isList.typeIs slot_list_getitem.lookup
   (wpAny_getItem_list_neg (Q:=λ r s'=>r=w/\EP X pins σ Q r s') pl.isList (by omega) (by rw [Zp] <;> omega) (by omega) (by rw [hj]; simpa using ew) ⟨rfl,fin⟩) hs
theorem EH:IxR X (K4 X.K):=by
 intro value slice pins s σ H x y v u Q I rx ry h hs;obtain ⟨p,xs,i,z,rfl,rfl,hq,he,q⟩:=h;cases rx;obtain ⟨t,rfl⟩:=ry;obtain ⟨its,r,pl,hz⟩:=I.tuple hq;obtain ⟨j,h1,h2,h3,h4,h5⟩:=pe he;obtain ⟨w,ew,rw'⟩:=r.get h2;have hl:=r.length;have hn:=mV;have fin:EP X pins σ Q w s:=⟨z,H,I,rw',q⟩
 exact subscriptTail_builtinR (x:=w) pl.typeIs slot_tuple_getitem.lookup
  (getItem_tuple (j:=j) (Q:=λ r s'=>r=w/\EP X pins σ Q r s') pl (by omega) (by omega) (by rw [Zp,<- hl]; exact h1) (by simpa using ew) ⟨rfl,fin⟩) hs
theorem EI:IxR X K5:=by
 intro value slice pins s σ H x y v u Q I rx ry h hs;obtain ⟨z,i,c,rfl,rfl,hz,he,q⟩:=h;obtain ⟨t,rfl⟩:=rx;obtain ⟨t',rfl⟩:=ry;obtain ⟨j,h1,h2,h3,h4,h5⟩:=pe he;have hl:z.cps.toList.length=z.length:=by simp [Str.length]
 rw [hl] at h1 h4 h5;have hn:=mV
 exact tail_any (typeIs_str s z t) slot_str_getitem.lookup (getItem_str (c:=c) (by
  have e1:decide (i < -(2 ^ 63:Int))=false:=Zq (by omega);have e2:decide (i ≥ 2 ^ 63)=false:=Zq (by omega)
  rw [e1,e2,Bool.or_false]) (by rw [h1]; simpa using h2) ⟨.str ⟨#[c]⟩,H,I.tok _,⟨_,rfl⟩,q⟩) hs
theorem mB (lo hi:Option Int) (n:Nat):(sliceBounds lo hi none n).1=((HT.sIx n 0 lo:Nat):Int)/\(sliceBounds lo hi none n).2.1=((HT.sIx n n hi:Nat):Int)/\(sliceBounds lo hi none n).2.2=1:=by
 refine ⟨?_,?_,rfl⟩
 ·cases lo with
  | none=>simp [sliceBounds,HT.sIx]
  | some i =>
   simp only [sliceBounds,HT.sIx,Option.getD_none,show (1:Int) > 0 by decide,if_true]
   by_cases h:i < 0
   · simp only [h,if_true] <;> omega
   · simp only [h,if_false] <;> omega
 ·cases hi with
  | none=>simp [sliceBounds,HT.sIx]
  | some i =>
   simp only [sliceBounds,HT.sIx,Option.getD_none,show (1:Int) > 0 by decide,if_true]
   by_cases h:i < 0
   · simp only [h,if_true] <;> omega
   · simp only [h,if_false] <;> omega
theorem lJ (its:List Value) (lo hi:Option Int):slicePick its.toArray lo hi none=((its.drop (HT.sIx its.length 0 lo)).take (HT.sIx its.length its.length hi - HT.sIx its.length 0 lo)).toArray:=by
 obtain ⟨h1,h2,h3⟩:=mB lo hi its.toArray.size;unfold slicePick;rw [h1,h2,h3];simp only [sliceRange_one,pick_run,Zp] <;> rfl
def K1 (K:W.Frag):V->Option Int->Option Int->Hp->VK->Prop:=λ x lo hi H Q=>∃ a xs,x=.ref a/\SqL K H a xs/\∀ p,H p=none->Q (.ref p) (upd H p (.lst (CH xs lo hi)))
theorem zY:SlR X (K1 X.K):=by
 intro pins s σ H x v vl vu lo hi sl Q I rx hs pl pu h;obtain ⟨a,xs,rfl,hx,q⟩:=h;cases rx;obtain ⟨its,r,ht,hz⟩:=I.list hx;have hlen:=r.length;refine ⟨"list",_,slot_list_getitem.lookup,ht.isList.typeIs,?_⟩;refine wpAny_getItem_list_slice ht.isList hs pl pu .none (by simp) ?_ (by rw [Zp] <;> omega)
 rw [lJ,<- hlen];refine ⟨.ref s.heap.objs.size,_,I.laid (t':=s.toks) (o:=.lst (CH xs lo hi)) (λ b ob q=>Heap.get?_push_of_some _ q) (Zl _) ?_,rfl,q _ (I.hok.fresh (Zl _))⟩;exact ⟨Z8 (oS xs lo hi) hz,_,0,(r.drop (HT.sIx xs.length 0 lo)).take (HT.sIx xs.length xs.length hi - HT.sIx xs.length 0 lo),Heap.get?_push_size _ rfl⟩
def kJ:V->Bool
 | .non=>true
 | .bl _=>true
 | .int _=>true
 | .str _=>true
 | _=>false
def eqV:V->V->Bool
 | .non,.non=>true
 | .bl a,.bl b=>a == b
 | .bl a,.int b=>(if a then 1 else 0) == b
 | .int a,.bl b=>a == (if b then 1 else 0)
 | .int a,.int b=>a == b
 | .str a,.str b=>a == b
 | _,_=>false
theorem E7 (ry:RelV y u) (rx:RelV x v) (fy:kJ y=true) (fx:kJ x=true):SeqAt.EqAt A s u v (eqV y x):=by
 cases y with
 | non =>
  cases ry
  cases x with
  | non=>cases rx; exact SeqAt.EqAt.same _
  | bl b=>cases rx; exact SeqAt.EqAt.none_bool b
  | int b=>obtain ⟨t,rfl⟩:=rx; exact SeqAt.EqAt.none_int b t
  | str b=>obtain ⟨t,rfl⟩:=rx; exact SeqAt.EqAt.none_str b t
  | _=>exact absurd (show false=true from fx) Zf
 | bl a =>
  cases ry
  cases x with
  | non=>cases rx; exact SeqAt.EqAt.bool_none a
  | bl b=>cases rx; exact SeqAt.EqAt.bool_bool a b
  | int b=>obtain ⟨t,rfl⟩:=rx; exact SeqAt.EqAt.bool_int a b t
  | str b=>obtain ⟨t,rfl⟩:=rx; exact SeqAt.EqAt.bool_str a b t
  | _=>exact absurd (show false=true from fx) Zf
 | int a =>
  obtain ⟨t',rfl⟩:=ry
  cases x with
  | non=>cases rx; exact SeqAt.EqAt.int_none a t'
  | bl b=>cases rx; exact SeqAt.EqAt.int_bool a t' b
  | int b=>obtain ⟨t,rfl⟩:=rx; exact SeqAt.EqAt.int_int a t' b t
  | str b=>obtain ⟨t,rfl⟩:=rx; exact SeqAt.EqAt.int_str a t' b t
  | _=>exact absurd (show false=true from fx) Zf
 | str a =>
  obtain ⟨t',rfl⟩:=ry
  cases x with
  | non=>cases rx; exact SeqAt.EqAt.str_none a t'
  | bl b=>cases rx; exact SeqAt.EqAt.str_bool a t' b
  | int b=>obtain ⟨t,rfl⟩:=rx; exact SeqAt.EqAt.str_int a t' b t
  | str b=>obtain ⟨t,rfl⟩:=rx; exact SeqAt.EqAt.str_str a t' b t
  | _=>exact absurd (show false=true from fx) Zf
 | _=>exact absurd (show false=true from fy) Zf
def eqU (x:V) (u:Value):Bool:=match u with
 | .none=>eqV .non x
 | .bool b=>eqV (.bl b) x
 | .int i _=>eqV (.int i) x
 | .str z _=>eqV (.str z) x
 | _=>false
theorem zv (r:RelV y u) (f:kJ y=true):eqU x u=eqV y x:=by
 cases y with
 | non=>cases r; rfl
 | bl b=>cases r; rfl
 | int i=>obtain ⟨t,rfl⟩:=r; rfl
 | str z=>obtain ⟨t,rfl⟩:=r; rfl
 | _=>exact absurd (show false=true from f) Zf
theorem kn:∀ {xs:List V} {us:List Value},be xs us->xs.all kJ=true->us.any (eqU x)=xs.any λ y=>eqV y x
 | _,_,.nil,_=>rfl
 | y::xs,u::us,.cons r t,f=>by
  rw [List.all_cons,Yr] at f;rw [Xb,Xb,zv r f.1,kn t f.2]
theorem gT (rx:RelV x v) (fx:kJ x=true):∀ {xs:List V} {us:List Value},be xs us->xs.all kJ=true->∀ u ∈ us,SeqAt.EqAt A s u v (eqU x u)
 | _,_,.nil,_=>λ u hu=>by cases hu
 | y::xs,u::us,.cons r t,f=>λ u' hu=>by
  rw [List.all_cons,Yr] at f;rcases Zh.mp hu with rfl | hu
  · rw [zv r f.1]; exact E7 r rx f.1 fx
  · exact gT rx fx t f.2 u' hu
def inV (x:V) (xs:List V):Bool:=xs.any λ y=>eqV y x
def rIn (K:W.Frag) (neg:Bool):R2:=λ x y H Q=>∃ p xs,y=.ref p/\(SqL K H p xs\/SqT K H p xs)/\kJ x=true/\xs.all kJ=true/\Q (.bl (if neg then !inV x xs else inV x xs)) H
theorem ur:OpR X (compareOp .In) (rIn X.K false):=by
 intro pins s σ H x y v u Q I rx ry h;obtain ⟨p,xs,rfl,hq,fx,fs,q⟩:=h;cases ry;rcases hq with hq | hq
 ·obtain ⟨its,r,pl,hz⟩:=I.list hq
  refine SeqAt.in_listAt (eqU x) pl.isList (λ w hw=>gT rx fx r fs w (by simpa using hw)) ⟨.bl _,H,I,rfl,?_⟩;rw [show its.toArray.any (eqU x)=its.any (eqU x) by simp,kn r fs];exact q
 ·obtain ⟨its,r,pl,hz⟩:=I.tuple hq
  refine SeqAt.in_tupleAt (eqU x) pl (λ w hw=>gT rx fx r fs w (by simpa using hw)) ⟨.bl _,H,I,rfl,?_⟩;rw [show its.toArray.any (eqU x)=its.any (eqU x) by simp,kn r fs];exact q
theorem mI:OpR X (compareOp .NotIn) (rIn X.K true):=by
 intro pins s σ H x y v u Q I rx ry h;obtain ⟨p,xs,rfl,hq,fx,fs,q⟩:=h;cases ry;rcases hq with hq | hq
 ·obtain ⟨its,r,pl,hz⟩:=I.list hq
  refine SeqAt.notIn_listAt (eqU x) pl.isList (λ w hw=>gT rx fx r fs w (by simpa using hw)) ⟨.bl _,H,I,rfl,?_⟩;rw [show its.toArray.any (eqU x)=its.any (eqU x) by simp,kn r fs];exact q
 ·obtain ⟨its,r,pl,hz⟩:=I.tuple hq
  refine SeqAt.notIn_tupleAt (eqU x) pl (λ w hw=>gT rx fx r fs w (by simpa using hw)) ⟨.bl _,H,I,rfl,?_⟩;rw [show its.toArray.any (eqU x)=its.any (eqU x) by simp,kn r fs];exact q
theorem nv:fF X (.type "list") (λ xs H Q=>∃ p ys,xs=[.ref p]/\(SqL X.K H p ys\/SqT X.K H p ys)/\∀ l,H l=none->Q (.ref l) (upd H l (.lst ys))):=by
 intro pins s σ H xs us Q I r h;obtain ⟨p,ys,rfl,hq,q⟩:=h;obtain ⟨u,rfl,rx⟩:=vals1 r;cases rx
 have fin:∀ (its:List Value),be ys its->ys.length<=sizeLine->∀ (h':Heap) (c':Nat),(∀ b o',s.heap.get? b=some o'->h'.get? b=some o') ->
   h'.get? s.heap.objs.size=some { cls:=.type "list",dict:=none,data:=.seq its.toArray c',slots:=#[] }->EP X pins σ Q (.ref s.heap.objs.size) { s with heap:=h' }:=λ its r' hz h' c' kp e =>
  ⟨.ref s.heap.objs.size,_,I.laid (t':=s.toks) kp (Zl _) (show cq X.prog X.w _ h' _ (.lst ys) from ⟨hz,its,c',r',e⟩),rfl,q _ (I.hok.fresh (Zl _))⟩
 rcases hq with hq | hq
 ·obtain ⟨its,r',pl,hz⟩:=I.list hq
  have hlen:=r'.length;obtain ⟨o,ho,hc,n,hd⟩:=pl.isList;exact call_list_seq p (.inl rfl) ho hc hd (λ h' c' kp e=>fin its r' hz h' c' kp e) (by simp only [Zp] <;> omega)
 ·obtain ⟨its,r',pl,hz⟩:=I.tuple hq
  have hlen:=r'.length;obtain ⟨o,ho,hc,n,hd⟩:=pl;exact call_list_seq p (.inr rfl) ho hc hd (λ h' c' kp e=>fin its r' hz h' c' kp e) (by simp only [Zp] <;> omega)
def tyV (K:W.Frag) (T:String) (x:V) (H:Hp):Prop:=match x with
 | .str _=>T="str"
 | .int _=>T="int"
 | .ref p=>(T="list"/\∃ xs,SqL K H p xs)\/(T="tuple"/\∃ o,K.lookup p=some o/\o.cls=.type "tuple"/\o.dict=none) \/
  (T="dict"/\((∃ kvs,H p=some (.dK kvs))\/∃ kvs,H p=some (.dT kvs)))\/(T="set"/\∃ S n,H p=some (.set S n))
 | _=>False
theorem yJ (I:Inv X pins σ H s) (r:RelV x v) (ty:tyV X.K T x H) :
  s.TypeIs v T/\∀ a,v=.ref a->∃ ob,s.heap.get? a=some ob/\ob.dict=none:=by
 cases x with
 | str z =>
  obtain ⟨t,rfl⟩:=r;cases (show T="str" from ty);exact ⟨typeIs_str s z t,λ _ e=>nomatch e⟩
 | int i =>
  obtain ⟨t,rfl⟩:=r;cases (show T="int" from ty);exact ⟨typeIs_int s i t,λ _ e=>nomatch e⟩
 | ref p =>
  cases r;rcases ty with ⟨rfl,xs,hq⟩ | ⟨rfl,o,hk,hc,hd⟩ | ⟨rfl,hk⟩ | ⟨rfl,S,n,hk⟩
  ·obtain ⟨its,_,pl,_⟩:=I.list hq
   refine ⟨pl.isList.typeIs,λ a e=>?_⟩;cases e;obtain ⟨o,n,e,c,hd,_⟩:=pl;exact ⟨o,e,hd⟩
  ·refine ⟨⟨o,I.kIn p o hk,hc⟩,λ a e=>?_⟩
   cases e;exact ⟨o,I.kIn _ o hk,hd⟩
  ·have z:∃ o,s.heap.get? p=some o/\o.ExactDict:=by
    rcases hk with ⟨kvs,hk⟩ | ⟨kvs,hk⟩
    ·obtain ⟨_,_,_,_,o,_,_,e,ex,_⟩:=I.hok p _ hk
     exact ⟨o,e,ex⟩
    ·obtain ⟨_,_,_,_,o,_,_,e,ex,_⟩:=I.hok p _ hk
     exact ⟨o,e,ex⟩
   obtain ⟨o,e,ex⟩:=z;refine ⟨⟨o,e,ex.1⟩,λ a e2=>?_⟩;cases e2;exact ⟨o,e,ex.2.1⟩
  ·obtain ⟨o,_,_,_,e,ex,_⟩:=I.hok p _ hk
   refine ⟨⟨o,e,ex.1⟩,λ a e2=>?_⟩;cases e2;exact ⟨o,e,ex.2.1⟩
 | _=>exact False.elim ty
def KA (K:W.Frag) (T:String) (r:V->List V->Hp->VK->Prop) (to:TE):TE:=λ σ H Q=>to σ H λ x H1=>tyV K T x H1/\r x [] H1 Q
def tBM (K:W.Frag) (T:String) (r:V->List V->Hp->VK->Prop) (to:TE) (t:TA):TE:=λ σ H Q=>to σ H λ x H1=>tyV K T x H1/\t σ H1 λ xs H2=>r x xs H2 Q
variable {o e:Expr} {es:List Expr} {to:TE} {t:TA} {name:Str} {apos cpos:Pos} {T id:String} {r:V->List V->Hp->VK->Prop}
theorem DW (pa:PlainAttrs T) (slot:Slot T name id) (hty:typeOf (.builtin id)=pure (.type "method_descriptor")) (hm:MtR X id r) (ho:PE X o to)
  (hbase:attributeBase o name X.env (eval o X.env)=eval o X.env:=by rfl) (hline:(apos.endLine == cpos.line)=true:=by rfl):PE X (.Call (.Attribute o name apos) [] [] cpos) (KA X.K T r to):=by
 intro pins s σ H Q I h;refine wpAny_Call_method0_late hbase hline (thn (ho pins s σ H _ I h) λ v s1 ⟨x,H1,I1,r1,ty,q1⟩=>?_);obtain ⟨h1,h2⟩:=yJ I1 r1 ty;exact ⟨T,id,pa,slot,hty,h1,h2,Calls.callWith_builtin rfl (PySem.evalArgs_none (hm pins s1 σ H1 x [] v [] Q I1 r1 .nil q1))⟩
theorem oa (pa:PlainAttrs T) (slot:Slot T name id) (hty:typeOf (.builtin id)=pure (.type "method_descriptor")) (hm:MtR X id r) (ho:PE X o to) (ha:PA X (e::es) t)
  (hbase:attributeBase o name X.env (eval o X.env)=eval o X.env:=by rfl)
  (hfew:((backTo cpos (starEach (e::es) X.env)).all (λ x=>!x.1)&&(backToKw cpos (keywordEach [] X.env)).all (λ x=>x.1.isSome)
    && decide ((e::es).length+([]:List Keyword).length+(if ([]:List Keyword).isEmpty then 0 else 1) < 30))=true:=by rfl)
  (hline:(apos.endLine == cpos.line)=true:=by rfl) (hs:starEach (e::es) X.env=(false,eval e X.env)::starEach es X.env:=by rfl) (hplain:(backTo cpos (starEach es X.env)).any (·.1)=false:=by rfl) :
  PE X (.Call (.Attribute o name apos) (e::es) [] cpos) (tBM X.K T r to t):=by
 intro pins s σ H Q I h;refine wpAny_Call_method_late hbase hfew hline rfl (thn (ho pins s σ H _ I h) λ v s1 ⟨x,H1,I1,r1,ty,q1⟩=>?_);obtain ⟨h1,h2⟩:=yJ I1 r1 ty;refine ⟨T,id,pa,slot,hty,h1,h2,?_⟩;have hA:=ha cpos pins s1 σ H1 _ I1 q1;rw [hs] at hA ⊢;refine Calls.callWith_builtin (by show (false||(backTo cpos (starEach es X.env)).any (·.1))=false; rw [hplain] <;> rfl) (Calls.evalArgs_plain ?_);exact thn hA λ us s2 ⟨vs,H2,I2,r2,q2⟩=>hm pins s2 σ H2 x vs v us Q I2 r1 r2 q2
/- xs.append(e),list.index on a module's tuple .. are MtR facts of 06m -/
end
end L2
namespace L2
open PySem PySem.Spec PyProof.Rows
def MtM (X:Cx) (id:String) (r:V->List V->Hp->VK->Prop):Prop :=
  ∀ (pins:List (Addr×Obj)) (s:Shared) (σ:St) (H:Hp) (x:V) (xs:List V) (v:Value) (us:List Value) (Q:VK),Inv X pins σ H s->RelV x v->be xs us->r x xs H Q ->
    wpAny (model X.prog X.w) X.A (call (.builtin id) (v::us)) (EP X pins σ Q) X.xe s
theorem be.one:∀ {x:V} {us:List Value},be [x] us->∃ u,us=[u]/\RelV x u
 | _,_,.cons r .nil=>⟨_,rfl,r⟩
theorem be.zero:∀ {us:List Value},be [] us->us=[]
 | _,.nil=>rfl
theorem be.dropLast (h:be xs us):be xs.dropLast us.dropLast:=by
 induction h with
 | nil=>exact .nil
 | cons r t ih =>
  cases t with
  | nil=>exact .nil
  | cons q t'=>exact .cons r ih
theorem be.reverse (h:be xs us):be xs.reverse us.reverse:=by
 induction h with
 | nil=>exact .nil
 | cons r t ih=>rw [Xc,Xc]; exact be.append ih (.cons r .nil)
theorem rL {α:Type} (l:List α):l.eraseIdx (l.length - 1)=l.dropLast:=by
 induction l with
 | nil=>rfl
 | cons a r ih =>
  cases r with
  | nil=>rfl
  | cons b r =>
   have e:(a::b::r).length - 1=((b::r).length - 1)+1:=by
    have h1:(a::b::r).length=r.length+2:=rfl;have h2:(b::r).length=r.length+1:=rfl;omega
   rw [e,List.eraseIdx_cons_succ,ih]
   all_goals rfl
section
variable {X:Cx} {pins:List (Addr×Obj)} {σ:St} {H:Hp} {s:Shared} {l b:Addr} {xs ys zs:List V}
theorem Inv.Ex {its its':List Value} {n:Nat} {f:Array Value->Array Value} {t':Nat} (I:Inv X pins σ H s) (hH:H l=some (.lst xs))
  (e:s.heap.get? l=some { cls:=.type "list",data:=.seq its.toArray n }) (hf:f its.toArray=its'.toArray) (hv:be ys its') (hz:ys.length<=sizeLine) :
  Inv X pins σ (upd H l (.lst ys)) { s with heap:=s.heap.update l (Obj.mapSeq f),toks:=t' }:=by
 have q:=PySem.IsL.update e f;rw [hf] at q;refine I.write (x:=l) (e:=l) (by rw [hH]; exact trivial) (.inl rfl) (λ b' u hb hu=>(Heap.get?_update_other s.heap (Obj.mapSeq f) (Ne.symm hb)).trans hu) ⟨_,q⟩ ?_
 exact ⟨hz,its',_,hv,q⟩
theorem Inv.LC (I:Inv X pins σ H s) (hv:be ys its) (hz:ys.length<=sizeLine) :
  Inv X pins σ (upd H s.heap.objs.size (.lst ys)) { s with heap:=s.heap.push { cls:=.type "list",data:=.seq its.toArray },toks:=t' } :=
 I.laid (λ _ _ q=>Heap.get?_push_of_some _ q) (Zl _) ⟨hz,its,0,hv,Heap.get?_push_size _ rfl⟩
theorem Inv.fresh (I:Inv X pins σ H s):H s.heap.objs.size=none:=I.hok.fresh (Zl _)
theorem Inv.zj (I:Inv X pins σ H s) (hH:H l=some (.lst xs)):xs.length<=sizeLine/\∃ (its:List Value) (n:Nat),be xs its/\xs.length=its.length/\s.heap.get? l=some { cls:=.type "list",data:=.seq its.toArray n }:=by
 obtain ⟨z,its,n,r,e⟩:=I.hok l _ hH;exact ⟨z,its,n,r,r.length,e⟩
theorem xS (h:n<=sizeLine):Builtin.List.listTooLong n=false:=by
 unfold Builtin.List.listTooLong;exact Zq (by omega)
end
section
variable {X:Cx}
def Ad:V->List V->Hp->VK->Prop:=λ x vs H Q=>∃ l xs y,x=.ref l/\vs=[y]/\H l=some (.lst xs)/\xs.length < sizeLine/\Q .non (upd H l (.lst (xs++[y])))
theorem mQ:MtM X "list.append" Ad:=by
 intro pins s σ H x vs v us Q I rx rv h;obtain ⟨l,xs,y,rfl,rfl,hH,hz,q⟩:=h;cases rx;obtain ⟨u,rfl,ru⟩:=rv.one;obtain ⟨z,its,n,r,hl,e⟩:=I.zj hH;refine Xo F.slot_list_append ⟨_,e,rfl⟩ F.entry_list_append (F.args_list_append_2 _ _) (PySem.list_append l its.toArray n u (by rw [Zp]; omega)) ⟨e,?_⟩;refine ⟨.non,_,I.Ex (its':=its++[u]) hH e (by simp) (r.append (.cons ru .nil)) ?_,rfl,q⟩;rw [Z1,List.length_singleton];omega
def Ac:V->List V->Hp->VK->Prop:=λ x vs H Q=>∃ l b xs zs,x=.ref l/\vs=[.ref b]/\H l=some (.lst xs)/\H b=some (.lst zs)/\xs.length+zs.length<=sizeLine/\Q .non (upd H l (.lst (xs++zs)))
theorem uI:MtM X "list.extend" Ac:=by
 intro pins s σ H x vs v us Q I rx rv h;obtain ⟨l,b,xs,zs,rfl,rfl,hH,hB,hz,q⟩:=h;cases rx;obtain ⟨u,rfl,ru⟩:=rv.one;cases ru;obtain ⟨z,its,n,r,hl,e⟩:=I.zj hH;obtain ⟨z2,its2,n2,r2,hl2,e2⟩:=I.zj hB;have hsz:its.toArray.size+its2.toArray.size<=sizeLine:=by rw [Zp,Zp]; omega
 have hlong:¬ (!its.toArray.isEmpty&&Builtin.List.listTooLong (its.toArray.size+its2.toArray.size))=true:=by
  rw [xS hsz,Bool.and_false];exact Zf
 refine Xo F.slot_list_extend ⟨_,e,rfl⟩ F.entry_list_extend (F.args_list_extend_2 _ _)
  (AutoSeq1.list_extend_list_list_0 l its.toArray n b its2.toArray n2 hlong (by rw [Zp]; omega) (by omega)) ⟨e,e2,?_⟩
 refine ⟨.non,_,I.Ex (its':=its++its2) hH e (by simp) (r.append r2) ?_,rfl,q⟩;rw [Z1];omega
def K2:V->List V->Hp->VK->Prop:=λ x vs H Q=>∃ l xs y,x=.ref l/\vs=[]/\H l=some (.lst xs)/\xs[xs.length - 1]?=some y/\Q y (upd H l (.lst xs.dropLast))
theorem Es:MtM X "list.pop" K2:=by
 intro pins s σ H x vs v us Q I rx rv h;obtain ⟨l,xs,y,rfl,rfl,hH,hy,q⟩:=h;cases rx;have hus:=rv.zero;subst hus;obtain ⟨z,its,n,r,hl,e⟩:=I.zj hH;obtain ⟨u,hu,ru⟩:=r.get hy
 have hy':its.toArray[its.toArray.size - 1]?=some u:=by
  show its.toArray[its.length - 1]?=some u;rw [<- Array.getElem?_toList,<- hl];exact hu
 refine Xo F.slot_list_pop ⟨_,e,rfl⟩ F.entry_list_pop (F.args_list_pop_1 _) (MeetsSeq.list_pop_last l its.toArray n u hy' (by rw [Zp]; omega)) ⟨e,?_⟩;refine ⟨y,_,I.Ex (its':=its.dropLast) hH e ?_ r.dropLast ?_,ru,q⟩
 ·show its.toArray.eraseIdxIfInBounds (its.toArray.size - 1)=its.dropLast.toArray
  rw [Zp,List.eraseIdxIfInBounds_toArray,rL]
 ·rw [List.length_dropLast]
  omega
def K8:R2:=λ x y H Q=>∃ l b xs zs,x=.ref l/\y=.ref b/\H l=some (.lst xs)/\H b=some (.lst zs)/\xs.length+zs.length<=sizeLine/\∀ p,H p=none->Q (.ref p) (upd H p (.lst (xs++zs)))
theorem za:OpR X (binaryOp .Add) K8:=by
 intro pins s σ H x y v u Q I rx ry h;obtain ⟨l,b,xs,zs,rfl,rfl,hH,hB,hz,q⟩:=h;cases rx;cases ry;obtain ⟨z,its,n,r,hl,e⟩:=I.zj hH;obtain ⟨z2,its2,n2,r2,hl2,e2⟩:=I.zj hB;refine PySem.P.add_list e e2 ?_ (by rw [Zp,Zp]; omega)
 have ea:its.toArray++its2.toArray=(its++its2).toArray:=by simp
 rw [ea];exact ⟨.ref _,_,I.LC (t':=s.toks) (r.append r2) (by rw [Z1]; omega),rfl,q _ I.fresh⟩
end
end L2
namespace Att
open PySem PySem.W PySem.Calls PyProof.Rows
theorem jX:∀ (ns:List Int) (vs:List Value),WellAll P h vs (ns.map WData.int)->IntsAre vs ns:=by
 intro ns
 induction ns with
 | nil =>
  intro vs w;rw [Xg] at w;cases w;exact .nil
 | cons n ns ih =>
  intro vs w;rw [Zg] at w
  cases w with
  | cons a b =>
   cases a;exact .cons _ _ (ih _ b)
theorem sO {l:OpenLaw} {n:Nat} (hn:l.most=some n) {P:Params} {h:Heap} {args:List WData} {vals:List Value}
  (hpre:l.row.toRowW.claim.pre args=true) (hwl:WellAll P h vals args) :
  ∃ a vs ns,vals=[Value.ref a]/\args=[WData.list (ns.map WData.int)]/\h.get? a=some { cls:=.type "list",data:=.seq vs.toArray }/\IntsAre vs ns/\ns.length<=n:=by
 have hsh:WShape.hasAll [] args [.list .int]=true:=(pre_splitW hpre).1;have hc:l.pre.holds [] { args:=args }=true:=(pre_splitW hpre).2;obtain ⟨d,r,rfl,h1,h2⟩:=hasAllW_cons hsh;obtain rfl:=hasAllW_nil h2;obtain ⟨xs,rfl,h3⟩:=hasW_list h1;obtain ⟨ns,rfl⟩:=items_int h3
 have hlen:ns.length<=n:=by
  unfold OpenLaw.pre at hc
  have h4:(WTm.not (.lt (.lit (.int (n:Int))) (.len (.arg 0)))).holds [] { args:=[.list (ns.map .int)] }=true:=by
   have h4:=(holds_andW hc).1;rw [hn] at h4;exact h4
  have h5:=condW_of h4 (w_not (w_lt w_lit (w_len_list (w_arg rfl))));rw [Za] at h5;refine Nat.le_of_not_lt λ q=>?_
  have q':(n:Int) < ((ns.length:Nat):Int):=by omega
  first
   | (rw [Zs q'] at h5; exact absurd h5 (by decide))
   | (simp at h5; omega)
 cases hwl with
 | cons w1 w2 =>
  cases w2
  cases w1 with
  | list ho hall=>exact ⟨_,_,ns,rfl,rfl,ho,jX ns _ hall,hlen⟩
theorem t4 (l:OpenLaw) (args:List WData):l.row.toRowW.claim.post args (.bool true) args=true :=
 postW_of (r:=l.row.toRowW) (X:=(true == true))
  (show WShape.has [] (.bool true) .bool=true by first | rfl | decide | simp [WShape.has,WShape.arms,WShape.armsAll])
  (show (WTm.eq .res (.lit (.bool true))).value [] { args:=args,res:=some (.bool true),after:=args }=some (.bool (true == true)) from w_eq_bool (w_res rfl) w_lit) rfl
theorem oZ {l:OpenLaw} {n:Nat} {q:Program} {loose:List Str} {XP:(Str->Option Value)->Heap->Prop} {YP:World->Heap->Prop} {d:DefRec}
  (hn:l.most=some n) (hdf:d.params.defaults=[])
  (call:∀ (w:World) (s₀ s₁:Shared) (mg mb:Str->Option Value) (fa:Addr) (o:Obj) (pm cd doc:Value) (a:Addr) (vs:List Value) (ns:List Int),
    Ground q loose [] XP w s₀ mg mb s₁.heap->YP w s₁.heap ->
    s₁.heap.get? fa=some o->o.data=.func (docDef d.name d.params d.body d.scope pm cd doc)->s₁.heap.CodeRec cd d.name->mg d.name=some (.ref fa) ->
    s₁.heap.get? a=some { cls:=.type "list",data:=.seq vs.toArray }->IntsAre vs ns->ns.length<=n->s₁.gens=#[] ->
    codeAny (model l.prog w) callerA (.call (.ref fa) ⟨[.ref a],[]⟩) (λ r s'=>r=.ok (.ret (.bool true))/\OldK s₁.heap s'.heap/\s'.os=s₁.os/\AllBare s'.gens) s₁) :
  WalkO q loose XP YP l.row.toRowW d [] (λ f vs=>PySem.call f vs):=by
 intro w s₀ s₁ mg mb G Y fa o pm cd doc dV kV ho hd hcd hD hmg hg args vals as hpre hlay hrd hwl hlo;obtain rfl:dV=.none:=Dflts.none hD hdf;obtain rfl:kV=.none:=Dflts.noKw hD;obtain ⟨a,vs,ns,rfl,rfl,hobj,hints,hlen⟩:=sO hn hpre hwl;refine enter_call (codeAny_mono (call w s₀ s₁ mg mb fa o pm cd doc a vs ns G Y ho (fd_plain hd) hcd hmg hobj hints hlen hg) λ r s' hq=>?_);obtain ⟨rfl,h2,h3,h4⟩:=hq;exact ⟨.inl ⟨.bool true,.bool true,[],rfl,λ _=>rfl,.bool true,t4 l _,λ _=>⟨List.Pairwise.nil,λ _ hm=>(nomatch hm)⟩⟩,h2,h3,h4⟩
end Att
namespace L2
open PySem PySem.Spec PyProof.Rows
theorem mq:∀ {vs:List Value} {ns:List Int},IntsAre vs ns->be (ns.map V.int) vs
 | _,_,.nil=>.nil
 | _,_,.cons n t h=>.cons ⟨t,rfl⟩ (mq h)
def Gp (H:Hp):Prop:=∀ b,H b=none\/∃ o xs,H b=some (.frz o (.lst xs))
theorem yb {P:Program} {w:World} {K:W.Frag} {mg mb:Str->Option Value} {CX:CXT} {k:Nat} {fa a:Addr} {fd:FuncData} {x:Str} {sp:Sp} {s₁:Shared} {vs:List Value} {ns:List Int}
  (KX:K.In s₁.heap) (hns:s₁.heap.Ns mainGlobals mg) (hb:s₁.heap.Ns builtinsNs mb) (hbb:∀ x:Str,x≠"__name__"->mb x=bootBuiltins x) (hlim:s₁.heap.NoLimit) (hg:s₁.gens=#[])
  (ha:s₁.heap.get? a=some { cls:=.type "list",data:=.seq vs.toArray }) (hi:IntsAre vs ns) (hl:ns.length<=sizeLine) (hr:c6 k callerA)
  (F:∀ base:Heap,K.In base->base.Ns mainGlobals mg->fW P w K mg base CX k fa fd [x] sp) (hbind:∀ (s:Shared) (u:Value),BindsTo s fd ⟨[u],[]⟩ [(x,u)])
  (hsp:∀ H:Hp,Gp H->SqL K H a (ns.map V.int)->sp [.ref a] H (λ v _=>v=.bl true) λ _ _ _=>False)
  (hCX:∀ H e s',CX [] H s₁ (λ _ _ _=>False) e s'->False) :
  codeAny (model P w) callerA (.call (.ref fa) ⟨[.ref a],[]⟩) (λ r s'=>r=.ok (.ret (.bool true))/\OldK s₁.heap s'.heap/\s'.os=s₁.os/\AllBare s'.gens) s₁:=by
 have rv:=mq hi;have lenV:=hi.length
 have core:∀ H:Hp,Gp H->SqL K H a (ns.map V.int)->HOk P w H s₁.heap->(∀ b,H b≠none->b=a)->(H a≠none->K.lookup a=none) ->
   codeAny (model P w) callerA (.call (.ref fa) ⟨[.ref a],[]⟩) (λ r s'=>r=.ok (.ret (.bool true))/\OldK s₁.heap s'.heap/\s'.os=s₁.os/\AllBare s'.gens) s₁:=by
  intro H hO hS hok hA hK;have base_of:∀ {b:Addr} {o:Obj},s₁.heap.get? b=some o->H b=none->(yh s₁.heap H).get? b=some o:=λ e n=>yg e n
  have noA:∀ {b:Addr} {o:Obj} {es:Array DictEntry} {ep:Nat},s₁.heap.get? b=some o->o.data=.dict es ep->H b=none:=λ {b o es ep} e d=>by
   cases q:H b with
   | none=>rfl
   | some u =>
    have e':b=a:=hA b (by rw [q]; simp);subst e';rw [ha] at e; cases e
    have d':Data.seq vs.toArray _=Data.dict es ep:=d;cases d'
  have nsK:∀ {b:Addr} {m:Str->Option Value},s₁.heap.Ns b m->(yh s₁.heap H).Ns b m:=λ {b m} ⟨o,es,ep,e,d,r⟩=>⟨o,es,ep,base_of e (noA e d),d,r⟩
  have hKb:K.In (yh s₁.heap H):=λ b o e=>base_of (KX b o e) (by
   cases q:H b with
   | none=>rfl
   | some u =>
    have e':b=a:=hA b (by rw [q]; simp);subst e'
    rw [hK (by rw [q]; simp)] at e; cases e)
  have hM:Mod K mg (yh s₁.heap H):=⟨hKb,nsK hns,⟨mb,nsK hb,hbb⟩,let ⟨mc,h1,h2⟩:=hlim; ⟨mc,nsK h1,h2⟩⟩
  have e0:Cv P w K mg (yh s₁.heap H) callerA [] s₁ H:=⟨rfl,hM,λ b o e=>Bl e,Nat.le_of_eq (va _ _),trivial,λ b hb=>absurd (show b ∈ ([]:List Addr) from hb) (by simp),hok,.of_eq hg⟩
  refine codeAny_mono ((F _ hKb (nsK hns)).run callerA [] s₁ H ⟨[.ref a],[]⟩ [.ref a] [.ref a] _ _ hr e0 (hbind s₁ (.ref a)) (.cons rfl .nil) (hsp H hO hS)) λ r s' h=>?_
  cases r with
  | error e=>exact (hCX H e s' h).elim
  | ok fl =>
   cases fl with
   | next=>exact False.elim h
   | brk=>exact False.elim h
   | cont=>exact False.elim h
   | ret u =>
    obtain ⟨v,H',os,bare,un,hok',r',q⟩:=h;have q':v=.bl true:=q;subst q';obtain rfl:u=Value.bool true:=r';refine ⟨rfl,OldK.of_keep λ b o e=>?_,os,bare⟩
    cases q:H b with
    | none=>exact un.keep b o e q (by intro z; exact absurd (show b ∈ ([]:List Addr) from z) (by simp)) (by simp)
    | some u =>
     rcases hO b with z | ⟨ob,xs,z⟩
     · rw [q] at z; cases z
     ·have z2:=un.nM b ob _ z
      obtain ⟨e1,_⟩:=hok b _ z;obtain ⟨e2,_⟩:=hok' b _ z2;rw [e] at e1; cases e1
      exact e2
 cases hk:K.lookup a with
 | some o =>
  have e:=KX a o hk;rw [ha] at e;cases e;refine core (λ _=>none) (λ _=>.inl rfl) (.inr ⟨_,vs.toArray,_,hk,rfl,rfl,rfl,by rw [Zp,lenV]; exact hl,by simpa using rv⟩) (λ b u z=>by have z':(none:Option HO)=some u:=z; cases z') (λ b z=>absurd rfl z) λ z=>absurd rfl z
 | none =>
  refine core (λ b=>if b=a then some (.frz { cls:=.type "list",data:=.seq vs.toArray } (.lst (ns.map V.int))) else none) (λ b=>?_) (.inl (.inr ⟨{ cls:=.type "list",data:=.seq vs.toArray },if_pos rfl⟩)) (λ b u z=>?_) (λ b z=>?_) λ _=>hk
  ·by_cases hb:b=a
   · exact .inr ⟨_,_,if_pos hb⟩
   · exact .inl (if_neg hb)
  ·by_cases hb:b=a
   ·have z':=(if_pos hb).symm.trans z
    cases z';subst hb;exact ⟨ha,by rw [Za]; exact hl,vs,_,rv,ha⟩
   ·have z':=(if_neg hb).symm.trans z
    cases z'
  ·by_cases hb:b=a
   · exact hb
   · exact absurd (if_neg hb) z
end L2
namespace L2
open PySem PySem.Spec PyProof.Rows
abbrev KOf {K:W.Frag} {h:Heap} (_:K.In h):W.Frag:=K
theorem zM {l:PySem.W.OpenLaw} {n k:Nat} {q:Program} {loose:List Str} {XP:(Str->Option Value)->Heap->Prop} {YP:World->Heap->Prop} {d:DefRec} {K:Params->W.Frag} {CX:World->CXT} {sp:World->Sp} {x:Str}
    (hn:l.most=some n) (hn2:n<=sizeLine) (hdf:d.params.defaults=[]) (hr:c6 k callerA)
    (hY:∀ (w:World) (h:Heap),YP w h->(K w.params).In h)
    (F : ∀ (w:World) (mg:Str->Option Value) (fa:Addr) (h:Heap),(K w.params).In h->h.Ns mainGlobals mg->mg d.name=some (.ref fa) ->
      ∃ fd:FuncData,(∀ (s:Shared) (u:Value),BindsTo s fd ⟨[u],[]⟩ [(x,u)]) /\
        ∀ base:Heap,(K w.params).In base->base.Ns mainGlobals mg->fW l.prog w (K w.params) mg base (CX w) k fa fd [x] (sp w))
    (hsp:∀ (w:World) (H:Hp) (a:Addr) (ns:List Int),ns.length<=n->Gp H->SqL (K w.params) H a (ns.map V.int)->sp w [.ref a] H (λ v _=>v=.bl true) λ _ _ _=>False)
    (hCX:∀ (w:World) (H:Hp) (s:Shared) (e:Value) (s':Shared),CX w [] H s (λ _ _ _=>False) e s'->False) :
    PySem.W.WalkO q loose XP YP l.row.toRowW d [] (λ f vs=>PySem.call f vs):=by
  refine Att.oZ hn hdf λ w s₀ s₁ mg mb fa o pm cd doc a vs ns G Y ho hd hcd hmg hobj hints hlen hg=>?_
  have KX:=hY w _ Y;obtain ⟨fd,hb,hF⟩:=F w mg fa _ KX G.T.g hmg;exact yb KX G.T.g G.T.b G.T.builtins G.T.nolimit hg hobj hints (Z8 hlen hn2) hr hF hb (λ H hO hS=>hsp w H a ns hlen hO hS) λ H e s'=>hCX w H s₁ e s'
theorem wo {l:PySem.W.OpenLaw} {n k:Nat} {q:Program} {loose:List Str} {XP:(Str->Option Value)->Heap->Prop} {YP:World->Heap->Prop} {d:DefRec} {K:Params->W.Frag} {CX:CXT} {sp:W.Frag->Sp} {x:Str}
    (hn:l.most=some n) (hn2:n<=sizeLine) (hdf:d.params.defaults=[]) (hr:c6 k callerA)
    (hY:∀ (w:World) (h:Heap),YP w h->(K w.params).In h)
    (F : ∀ (w:World) (mg:Str->Option Value) (fa:Addr) (h:Heap),(K w.params).In h->h.Ns mainGlobals mg->mg d.name=some (.ref fa) ->
      ∃ fd:FuncData,(∀ (s:Shared) (u:Value),BindsTo s fd ⟨[u],[]⟩ [(x,u)]) /\
        ∀ base:Heap,(K w.params).In base->base.Ns mainGlobals mg->fW l.prog w (K w.params) mg base CX k fa fd [x] (sp (K w.params)))
    (hsp:∀ (K:W.Frag) (H:Hp) (a:Addr) (ns:List Int),ns.length<=n->Gp H->SqL K H a (ns.map V.int)->sp K [.ref a] H (λ v _=>v=.bl true) λ _ _ _=>False)
    (hCX:∀ (H:Hp) (s:Shared) (e:Value) (s':Shared),CX [] H s (λ _ _ _=>False) e s'->False) :
    PySem.W.WalkO q loose XP YP l.row.toRowW d [] (λ f vs=>PySem.call f vs) :=
  zM (K:=K) (CX:=λ _=>CX) (sp:=λ w=>sp (K w.params)) hn hn2 hdf hr hY F (λ w H a ns h1 h2 h3=>hsp (K w.params) H a ns h1 h2 h3) λ _ H s e s'=>hCX H s e s'
end L2
/- THE LAST THEOREM (shape; LID,My.* are yours):
   My.Adr: a structure of the addresses that your layer names (classes,functions); My.Txt K t: a structure (Prop) of the equations over K;
   My.txt_mk:{K} {implicit addresses ..} (e1:nsIn K mainGlobals "law"=some (some (.ref f))) (e2:K.lookup f=some ⟨oc,od,.func (fnOf "law" "law" params body scope dV kV doc pm an cdv ct),sl⟩) (e3:codeIn K cdv "law"=true) ..:∃ t,My.Txt K t
(the tactic k_is has no namespace: write k_is) -/
namespace L2
open PySem PySem.Spec PyProof.Rows
def inClass (s:Stmt) (j:Nat):Stmt:=match s with
 | .ClassDef _ _ _ body _ _ _ _ _ _ _=>body.getD j (.Pass ⟨0,0,0,0⟩)
 | _=>.Pass ⟨0,0,0,0⟩
def cb (s:Stmt):Arguments:=match s with
 | .FunctionDef _ a _ _ _ _ _ _ _ _=>a
 | _=>{ posonlyargs:=[],args:=[],vararg:=none,kwonlyargs:=[],kw_defaults:=[],kwarg:=none,defaults:=[] }
def bw (s:Stmt):List Stmt:=match s with
 | .FunctionDef _ _ b _ _ _ _ _ _ _=>b
 | _=>[]
def aC (s:Stmt):Scope:=match s with
 | .FunctionDef _ _ _ _ _ _ sc _ _ _=>sc
 | _=>{ kind:=.function,names:=[],isGenerator:=false,isCoroutine:=false }
abbrev CX0:CXT:=λ _ _ _ _ _ _=>False
abbrev E0:XK:=λ _ _ _=>False
theorem qQ:iu CX0 X E0:=λ _ _ _ _ _ _ _ h=>h.elim
structure Fun (K:W.Frag) (x qual:Str) (st:Stmt) (f:Addr) (fd:FuncData):Prop where
 ex:∃ (oc:Value) (od:Option Addr) (kV doc pm:Value) (an:Option Addr) (cdv ct:Value) (osl:Array (Option Value)),
  fd=PySem.W.fnOf x qual (cb st) (bw st) (aC st) .none kV doc pm an cdv ct/\K.lookup f=some ⟨oc,od,.func fd,osl⟩/\PySem.W.codeIn K cdv qual=true
 kp:W.keepIn K (.ref f)=true
section
variable {P:Program} {w:World} {K:W.Frag} {mg:Str->Option Value} {base:Heap}
theorem Fun.ok {x qual:Str} {st:Stmt} {f:Addr} {fd:FuncData} {N ps:List Str} {k:Nat} {sp:Sp} (F:Fun K x qual st f fd) (S:cU N ps (aC st)) (len:∀ vs H Q E,sp vs H Q E->vs.length=ps.length)
  (hbody:∀ (cdv:Value) (A:Around) (outer:List Env) (s:Shared) (H:Hp) (vs:List V) (Q:VK) (E:XK),c6 k (A.deeper (envOfC qual (aC st) s.heap.objs.size f cdv))->sp vs H Q E ->
    ∃ t,PSs (qk CX0 P w K mg base N qual (aC st) f cdv A outer s H E).nox (bw st) t/\t { nx:=λ _ H'=>Q .non H',rt:=Q } (start N vs) H):fW P w K mg base CX0 (k+1) f fd ps sp:=by
 obtain ⟨oc,od,kV,doc,pm,an,cdv,ct,osl,rfl,lk,hcd⟩:=F.ex;refine E2 lk hcd S len λ A outer s H vs Q E hr hsp=>?_
 obtain ⟨t,h,q⟩:=hbody cdv A outer s H vs Q E hr hsp;exact ⟨t,h.nox,q⟩
theorem Fun.binds {x qual:Str} {st:Stmt} {f:Addr} {fd:FuncData} {ps:List Str} (F:Fun K x qual st f fd)
  (h:∀ (kV doc pm:Value) (an:Option Addr) (cdv ct:Value) (us:List Value),us.length=ps.length->bindArgs (PySem.W.fnOf x qual (cb st) (bw st) (aC st) .none kV doc pm an cdv ct) ⟨us,[]⟩=pure (ps.zip us)):Binds K fd ps []:=by
 obtain ⟨oc,od,kV,doc,pm,an,cdv,ct,osl,rfl,lk,hcd⟩:=F.ex;exact .all (h kV doc pm an cdv ct)
theorem j0 {x qual:Str} {st:Stmt} {f:Addr} {oc:Value} {od an:Option Addr} {osl:Array (Option Value)} {kV doc pm cdv ct:Value} (l:K.lookup f=some ⟨oc,od,.func (PySem.W.fnOf x qual (cb st) (bw st) (aC st) .none kV doc pm an cdv ct),osl⟩)
 (c:PySem.W.codeIn K cdv qual=true) (k:W.keepIn K (.ref f)=true):Fun K x qual st f (PySem.W.fnOf x qual (cb st) (bw st) (aC st) .none kV doc pm an cdv ct):=⟨⟨oc,od,kV,doc,pm,an,cdv,ct,osl,rfl,l,c⟩,k⟩
end
theorem d9 (hr:c6 k A):A.units+1 < cLine:=Nat.lt_of_le_of_lt (Nat.add_le_add_left (by decide:1<=64) _) hr.units
section
variable {X:Cx}
theorem pv (i:Nat) (hN:X.N[i]?=some x:=by rfl) (hv:Vis X.env.scope x:=by first | exact Or.inl rfl | exact Or.inr (Or.inl rfl) | exact Or.inr (Or.inr rfl)) (hd:(x == ("__debug__":Str))=false:=by decide)
 (hcd:(x == ("__classdict__":Str))=false:=by decide):PE X (.Name x pos) (yK i):=cI hN hv hd hcd
end
theorem EK {A B:Prop} (h:B):if false=true then A else B:=by
 rw [if_neg Zf];exact h
theorem ye {A B:Prop} (h:A):if true=true then A else B:=by
 rw [if_pos rfl];exact h
def bz (H H':Hp):Prop:=∀ b o,H b=some o->H' b=some o
theorem bz.refl (H:Hp):bz H H:=λ _ _ h=>h
theorem bz.trans (a:bz H H1) (b:bz H1 H2):bz H H2:=λ c o h=>b c o (a c o h)
theorem bz.free (e:bz H H') (h:H' l=Option.none):H l=Option.none:=by
 cases q:H l with
 | none=>rfl
 | some o =>
  rw [e l o q] at h;cases h
theorem bz.seq {K:W.Frag} {H H':Hp} {a:Addr} {xs:List V} (e:bz H H') (h:SqL K H a xs):SqL K H' a xs:=by
 rcases h with (h | ⟨o,h⟩) | h
 · exact .inl (.inl (e _ _ h))
 · exact .inl (.inr ⟨o,e _ _ h⟩)
 · exact .inr h
end L2
end
section
namespace HD12
open PySem PySem.W PySem.W.X PyProof.Rows L2
abbrev hp:Program:=PySem.Challenge.pw_stylehouse_k12_walks
abbrev hl:OpenLaw:=PySem.Challenge.rw_stylehouse_k12_walks
def top (i:Nat):Stmt:=PySem.Challenge.pw_stylehouse_k12_walks.main.body.getD i (.Pass ⟨0,0,0,0⟩)
noncomputable abbrev tL (o:Params->Obj) (P:Params):BT:=.node (o P) .nil .nil
noncomputable abbrev tN (o:Params->Obj) (l r:Params->BT) (P:Params):BT:=.node (o P) (l P) (r P)
noncomputable abbrev tZ (_:Params):BT:=.nil
noncomputable abbrev dE (P:Params) (n:Str) (t:Nat) (v:Value):DictEntry:=⟨PyData.keyHash P n,.str n t,v⟩
noncomputable abbrev oF (y:String) (l:List Value) (_:Params):Obj:=⟨.type y,none,.fields ⟨l⟩,⟨[]⟩⟩
noncomputable abbrev oQ (y:String) (l:List Value) (n:Nat) (_:Params):Obj:=⟨.type y,none,.seq ⟨l⟩ n,⟨[]⟩⟩
noncomputable abbrev oD (y:String) (l:List DictEntry) (n:Nat):Obj:=⟨.type y,none,.dict ⟨l⟩ n,⟨[]⟩⟩
noncomputable abbrev oM (y:String) (n q:Str) (s:Stmt) (g:Nat) (c:List (Str×Addr)) (d k dc pm:Value) (an:Option Addr) (cd ct:Value) (b:Nat):Obj:=⟨.type y,none,.func ⟨n,q,cb s,.stmts (bw s),aC s,g,c,d,k,dc,pm,an,cd,ct,b⟩,⟨[]⟩⟩
noncomputable abbrev oC (y:String) (n:Str) (a:Nat) (q:Str) (b:Nat) (f:Str) (c i1 i2 i3 i4 i5 r1:Nat) (o:Bool) (i6 r2:Nat) (v1 v2 v3 v4:Value) (i7 i8:Nat) (g:Str) (d:Nat):Obj:=⟨.type y,none,.fields ⟨[.str n a,.str q b,.str f c,.int (.ofNat i1) 0,.int (.ofNat i2) 0,.int (.ofNat i3) 0,.int (.ofNat i4) 0,.int (.ofNat i5) 0,.ref r1,.bool o,.int (.ofNat i6) 0,.ref r2,v1,v2,v3,v4,.int (.ofNat i7) 0,.int (.ofNat i8) 0,.str g d]⟩,⟨[]⟩⟩
noncomputable abbrev vI (i t:Nat):Value:=.int (.ofNat i) t
noncomputable abbrev vS (s:Str) (t:Nat):Value:=.str s t
noncomputable abbrev vR (a:Nat):Value:=.ref a
noncomputable abbrev y0:String:=PySem.W.SL.s2766695959194262286x5
noncomputable abbrev y1:String:=PySem.W.SL.s5856160107412720595x4
noncomputable abbrev y2:String:=PySem.W.SL.s658472552662922059x5
noncomputable abbrev y3:String:=PySem.W.SL.s14018661285674007319x4
noncomputable abbrev y4:String:=PySem.W.SL.s7097527257260152453x26
noncomputable abbrev y5:String:=PySem.W.SL.s7174869446012820540x8
noncomputable abbrev y6:String:=PySem.W.SL.s6070975301684473832x10
noncomputable abbrev y7:String:=PySem.W.SL.s11030030927630378310x26
noncomputable abbrev y8:String:=PySem.W.SL.s10062305145149207511x16
noncomputable abbrev y9:String:=PySem.W.SL.s17162191345867700912x4
noncomputable abbrev y10:String:=PySem.W.SL.s5946037652744460706x9
noncomputable abbrev y11:String:=PySem.W.SL.s4278001404047624695x13
noncomputable abbrev y12:String:=PySem.W.SL.s2742458400755230247x6
noncomputable abbrev y13:String:=PySem.W.SL.s4209523147560561109x18
noncomputable abbrev y14:String:=PySem.W.SL.s14755015743595814543x17
noncomputable abbrev y15:String:=PySem.W.SL.s10220274742760427390x26
noncomputable abbrev y16:String:=PySem.W.SL.s4290257624100764138x5
noncomputable abbrev y17:String:=PySem.W.SL.s4860613602091757760x24
noncomputable abbrev y18:String:=PySem.W.SL.s11443829558043349243x14
noncomputable abbrev y19:String:=PySem.W.SL.s6511155373996960695x17
noncomputable abbrev y20:String:=PySem.W.SL.s12411053484034534018x21
noncomputable def n0:Str:="<module>"
noncomputable def n1:Str:="/claim/cut.py"
noncomputable def n2:Str:="__main__"
noncomputable def n3:Str:="__name__"
noncomputable def n4:Str:="stylehouse.errors"
noncomputable def n5:Str:="__doc__"
noncomputable def n6:Str:="__package__"
noncomputable def n7:Str:="__loader__"
noncomputable def n8:Str:="__spec__"
noncomputable def n9:Str:="__annotations__"
noncomputable def n10:Str:="__builtins__"
noncomputable def n11:Str:="__file__"
noncomputable def n12:Str:="__cached__"
noncomputable def n13:Str:="_wall"
noncomputable def n14:Str:="beneath"
noncomputable def n15:Str:="row_of"
noncomputable def n16:Str:="behind"
noncomputable def n17:Str:="holders_of"
noncomputable def n18:Str:="depth_of"
noncomputable def n19:Str:="spot_of"
noncomputable def n20:Str:="HouseError"
noncomputable def n21:Str:="NoBox"
noncomputable def n22:Str:="k"
noncomputable def n23:Str:="tree"
noncomputable def n24:Str:="box"
noncomputable def n25:Str:="found"
noncomputable def n26:Str:="left"
noncomputable def n27:Str:="one"
noncomputable def n28:Str:="stylehouse.walks"
noncomputable def n29:Str:="holder"
noncomputable def n30:Str:="row"
noncomputable def n31:Str:="__module__"
noncomputable def n32:Str:="__qualname__"
noncomputable def n33:Str:="__firstlineno__"
noncomputable def n34:Str:="__static_attributes__"
noncomputable def n35:Str:="__weakref__"
noncomputable def n36:Str:="Rooted"
noncomputable def n37:Str:="NoPlace"
noncomputable def n38:Str:="NoName"
noncomputable def n39:Str:="stylehouse.tree"
noncomputable def n40:Str:="TooMuch"
noncomputable def n41:Str:="LONGEST_NAME"
noncomputable def n42:Str:="is_name"
noncomputable def n43:Str:="MOST_BOXES"
noncomputable def n44:Str:="MOST_DEEP"
noncomputable def n45:Str:="ROOT"
noncomputable def n46:Str:="stylehouse.names"
noncomputable def n47:Str:="Tree"
noncomputable def n48:Str:="check_name"
noncomputable def n49:Str:="__init__"
noncomputable def n50:Str:="enter"
noncomputable def n51:Str:="check"
noncomputable def n52:Str:="put"
noncomputable def n53:Str:="cut"
noncomputable def n54:Str:="move"
noncomputable def n55:Str:="mark"
noncomputable def n56:Str:="bare"
noncomputable def n57:Str:="write"
noncomputable def n58:Str:="dress"
noncomputable def n59:Str:="stands"
noncomputable def n60:Str:="name_of"
noncomputable def n61:Str:="marks_of"
noncomputable def n62:Str:="words_of"
noncomputable def n63:Str:="rows_of"
noncomputable def n64:Str:="holder_of"
noncomputable def n65:Str:="boxes_of"
noncomputable def n66:Str:="self"
noncomputable def n67:Str:="name"
noncomputable def n68:Str:="Tree.__init__"
noncomputable def n69:Str:="Tree.enter"
noncomputable def n70:Str:="Tree.check"
noncomputable def n71:Str:="place"
noncomputable def n72:Str:="Tree.put"
noncomputable def n73:Str:="gone"
noncomputable def n74:Str:="store"
noncomputable def n75:Str:="Tree.cut"
noncomputable def n76:Str:="Tree.move"
noncomputable def n77:Str:="word"
noncomputable def n78:Str:="Tree.mark"
noncomputable def n79:Str:="Tree.bare"
noncomputable def n80:Str:="words"
noncomputable def n81:Str:="Tree.write"
noncomputable def n82:Str:="rows"
noncomputable def n83:Str:="Tree.dress"
noncomputable def n84:Str:="Tree.stands"
noncomputable def n85:Str:="Tree.name_of"
noncomputable def n86:Str:="Tree.marks_of"
noncomputable def n87:Str:="Tree.words_of"
noncomputable def n88:Str:="Tree.rows_of"
noncomputable def n89:Str:="Tree.holder_of"
noncomputable def n90:Str:="Tree.boxes_of"
noncomputable def n91:Str:="boxes"
noncomputable def n92:Str:="given"
noncomputable def n93:Str:="holders"
noncomputable def n94:Str:="marks"
noncomputable def n95:Str:="names"
noncomputable def n96:Str:="__dict__"
noncomputable def n97:Str:="law_stylehouse_k12_walks"
noncomputable def n98:Str:="check_place"
noncomputable def n99:Str:="_law_cell"
noncomputable def BC:Str:="_law_mix"
noncomputable def BB:Str:="_law_name"
noncomputable def BA:Str:="_law_whole"
noncomputable def Bz:Str:="_law_same_row"
noncomputable def By:Str:="_law_under"
noncomputable def Bw:Str:="_law_deep"
noncomputable def Bv:Str:="_law_put"
noncomputable def Bu:Str:="_law_moved"
noncomputable def Bt:Str:="_law_missing"
noncomputable def Bs:Str:="_law_walked"
noncomputable def Br:Str:="law"
noncomputable def Ki:Str:="_law_script"
noncomputable def IW:Str:="_law_k"
noncomputable def Kh:Str:="_law_cell_here"
noncomputable def Kg:Str:="_law_way"
noncomputable def LA:Str:="_law_first"
noncomputable def Kf:Str:="_law_found"
noncomputable def Lz:Str:="_law_due"
noncomputable def IV:Str:="_law_rows"
noncomputable def Eo:Str:="_law_box"
noncomputable def Ly:Str:="_law_told"
noncomputable def Lx:Str:="_law_todo"
noncomputable def Ke:Str:="_law_one"
noncomputable def IU:Str:="_law_facts"
noncomputable def Kc:Str:="_law_deep_here"
noncomputable def IT:Str:="_law_tree"
noncomputable def Lw:Str:="_law_under_here"
noncomputable def Lv:Str:="_law_later"
noncomputable def Lu:Str:="_law_row"
noncomputable def Ls:Str:="_law_at"
noncomputable def Lr:Str:="_law_spot"
noncomputable def Lq:Str:="_law_name_here"
noncomputable def Lp:Str:="_law_number"
noncomputable def Lo:Str:="_law_gone"
noncomputable def Ln:Str:="_law_draw"
noncomputable def Lm:Str:="_law_some"
noncomputable abbrev oN (n q:Str) (s:Stmt) (_:Params):Obj:=⟨.none,none,.func ⟨n,q,cb s,.stmts (bw s),aC s,0,[],.none,.none,.none,.none,none,.none,.none,0⟩,⟨[]⟩⟩
def tri:List Nat->List Value
 | a::b::r=>.int (.ofNat a) 0::.int (.ofNat 0) 0::.ref b::tri r
 | _=>[]
noncomputable abbrev oR (l:List Nat) (_:Params):Obj:=⟨.none,none,.fields ⟨tri l⟩,⟨[]⟩⟩
noncomputable abbrev oE (n q:Str) (t l a r s:Nat) (_:Params):Obj:=oC y1 n t q (t+1) n1 (t+2) l a 0 0 3 r true 181 (r+1) .none (.ref (r+2)) (.ref (r+3)) (.ref (r+4)) s l n1 (s+1)
noncomputable abbrev oG (n q:Str) (s:Stmt) (m:Str) (t r:Nat) (_:Params):Obj:=oM y5 n q s 3 [] .none .none .none (.str m t) none (.ref r) .none 0
noncomputable def o0:=oQ y0 [] 0
noncomputable def o1 (P:Params):Obj:=⟨.none,none,(.fields ⟨[]⟩),⟨[]⟩⟩
noncomputable def o2 (P:Params):Obj:=oC y1 n0 182 n0 183 n1 184 1 0 0 0 0 11 false 181 12 .none .none .none .none 185 1 n1 186
noncomputable def o3 (P:Params):Obj:=⟨(.type y2),none,.plain,⟨[(some (vR 13)),(some (vR 3)),(some (vR 3)),none,(some (vS n2 164)),none,(some (vR 0))]⟩⟩
noncomputable def o4 (P:Params):Obj:=oD y3 [dE P n3 165 (vS n4 252),dE P n5 166 .none,dE P n6 167 .none,dE P n7 168 (.builtin y4),dE P n8 169 .none,dE P n9 170 (vR 6),dE P n10 171 (vR 4),dE P n11 173 (vS n1 172),dE P n12 174 .none,dE P n13 193 (vR 21),dE P n14 206 (vR 28),dE P n15 215 (vR 35),dE P n16 224 (vR 42),dE P n17 234 (vR 49),dE P n18 242 (vR 56),dE P n19 251 (vR 63),dE P n20 271 (vR 73),dE P n21 287 (vR 86)] 18
noncomputable def o5:=oR [1,20,5,27,13,34,16,41,19,48,26,55,28,62,32,69,34,82]
noncomputable def o6:=oQ y0 [vS n22 190] 0
noncomputable def o7:=oN n13 n13 (top 0)
noncomputable def o8:=oE n13 n13 187 1 1 15 191
noncomputable def o9:=oG n13 n13 (top 0) n2 164 20
noncomputable def o10:=oQ y0 [vS n23 199,vS n24 200,vS n25 201,vS n26 202,vS n27 203] 0
noncomputable def o11:=oN n14 n14 (top 2)
noncomputable def o12:=oE n14 n14 196 5 2 22 204
noncomputable def o13:=oG n14 n14 (top 2) n28 194 27
noncomputable def o14:=oQ y0 [vS n23 210,vS n24 211,vS n29 212] 0
noncomputable def o15:=oN n15 n15 (top 3)
noncomputable def o16:=oE n15 n15 207 13 2 29 213
noncomputable def o17:=oG n15 n15 (top 3) n28 194 34
noncomputable def o18:=oQ y0 [vS n23 219,vS n24 220,vS n30 221] 0
noncomputable def o19:=oN n16 n16 (top 4)
noncomputable def o20:=oE n16 n16 216 16 2 36 222
noncomputable def o21:=oG n16 n16 (top 4) n28 194 41
noncomputable def o22:=oQ y0 [vS n23 228,vS n24 229,vS n25 230,vS n29 231] 0
noncomputable def o23:=oN n17 n17 (top 5)
noncomputable def o24:=oE n17 n17 225 19 2 43 232
noncomputable def o25:=oG n17 n17 (top 5) n28 194 48
noncomputable def o26:=oQ y0 [vS n23 238,vS n24 239] 0
noncomputable def o27:=oN n18 n18 (top 6)
noncomputable def o28:=oE n18 n18 235 26 2 50 240
noncomputable def o29:=oG n18 n18 (top 6) n28 194 55
noncomputable def o30:=oQ y0 [vS n23 246,vS n24 247,vS n30 248] 0
noncomputable def o31:=oN n19 n19 (top 7)
noncomputable def o32:=oE n19 n19 243 28 2 57 249
noncomputable def o33:=oG n19 n19 (top 7) n28 194 62
noncomputable def o34:=oQ y0 [(.type y6)] 0
noncomputable def o35:=oF y7 [(.builtin y8),(.type y9)]
noncomputable def o36 (P:Params):Obj:=oD y3 [dE P n31 261 (vS n4 252),dE P n32 263 (vS n20 262),dE P n33 265 (vI 32 264),dE P n34 266 (vR 71)] 4
noncomputable def o37 (P:Params):Obj:=oC y1 n20 256 n20 257 n1 258 32 0 0 0 0 67 false 181 68 .none .none .none .none 259 32 n1 260
noncomputable def o38 (P:Params):Obj:=⟨(.type y2),none,.plain,⟨[(some (vR 69)),(some (vR 3)),(some (vR 66)),none,(some (vS n4 252)),none,(some (vR 0))]⟩⟩
noncomputable def o39 (P:Params):Obj:=oD y3 [dE P n31 261 (vS n4 252),dE P n33 265 (vI 32 264),dE P n34 266 (vR 71),dE P n35 268 (vR 74),dE P n5 269 .none] 3
noncomputable def o40 (P:Params):Obj:=⟨(.type y9),none,(.cls ⟨n20,[(.type y6)],[vR 73,(.type y6),(.type y10),(.type y11),(.type y12)],72,n20,true,[],[vR 86],false,none,false⟩),⟨[(some (vR 64)),none,(some (vS n20 254)),(some (vS n20 262)),(some (.builtin y13)),(some (.bool true))]⟩⟩
noncomputable def o41:=oF y14 [vS n35 267,vR 73,(.builtin y15),.none]
noncomputable def o42:=oF y16 [vR 73,vR 73,vR 73]
noncomputable def o43:=oF y7 [(.builtin y17),vR 73]
noncomputable def o44:=oQ y0 [vR 73] 0
noncomputable def o45 (P:Params):Obj:=oD y3 [dE P n31 279 (vS n4 252),dE P n32 281 (vS n21 280),dE P n33 283 (vI 34 282),dE P n34 284 (vR 84)] 4
noncomputable def o46 (P:Params):Obj:=oC y1 n21 274 n21 275 n1 276 34 0 0 0 0 80 false 181 81 .none .none .none .none 277 34 n1 278
noncomputable def o47 (P:Params):Obj:=⟨(.type y2),none,.plain,⟨[(some (vR 82)),(some (vR 3)),(some (vR 79)),none,(some (vS n4 252)),none,(some (vR 0))]⟩⟩
noncomputable def o48 (P:Params):Obj:=oD y3 [dE P n31 279 (vS n4 252),dE P n33 283 (vI 34 282),dE P n34 284 (vR 84),dE P n5 285 .none] 2
noncomputable def o49 (P:Params):Obj:=⟨(.type y9),none,(.cls ⟨n21,[vR 73],[vR 86,vR 73,(.type y6),(.type y10),(.type y11),(.type y12)],85,n21,true,[],[],false,none,false⟩),⟨[(some (vR 77)),none,(some (vS n21 272)),(some (vS n21 280)),(some (.builtin y13)),(some (.bool true))]⟩⟩
noncomputable def o50:=oF y16 [vR 86,vR 86,vR 86]
noncomputable def o51:=oF y7 [(.builtin y17),vR 86]
noncomputable def o52 (P:Params):Obj:=oD y3 [dE P n3 165 (vS n4 252),dE P n5 166 .none,dE P n6 167 .none,dE P n7 168 (.builtin y4),dE P n8 169 .none,dE P n9 170 (vR 6),dE P n10 171 (vR 4),dE P n11 173 (vS n1 172),dE P n12 174 .none,dE P n13 193 (vR 21),dE P n14 206 (vR 28),dE P n15 215 (vR 35),dE P n16 224 (vR 42),dE P n17 234 (vR 49),dE P n18 242 (vR 56),dE P n19 251 (vR 63),dE P n20 271 (vR 73),dE P n21 287 (vR 86),dE P n36 303 (vR 98),dE P n37 319 (vR 110),dE P n38 335 (vR 122)] 21
noncomputable def o53:=oR [1,20,5,27,13,34,16,41,19,48,26,55,28,62,32,69,34,82,36,94,38,106,40,118]
noncomputable def o54 (P:Params):Obj:=⟨(.type y9),none,(.cls ⟨n20,[(.type y6)],[vR 73,(.type y6),(.type y10),(.type y11),(.type y12)],72,n20,true,[],[vR 86,vR 98,vR 110,vR 122],false,none,false⟩),⟨[(some (vR 64)),none,(some (vS n20 254)),(some (vS n20 262)),(some (.builtin y13)),(some (.bool true))]⟩⟩
noncomputable def o55 (P:Params):Obj:=oD y3 [dE P n31 295 (vS n4 252),dE P n32 297 (vS n36 296),dE P n33 299 (vI 36 298),dE P n34 300 (vR 96)] 4
noncomputable def o56 (P:Params):Obj:=oC y1 n36 290 n36 291 n1 292 36 0 0 0 0 92 false 181 93 .none .none .none .none 293 36 n1 294
noncomputable def o57 (P:Params):Obj:=⟨(.type y2),none,.plain,⟨[(some (vR 94)),(some (vR 3)),(some (vR 91)),none,(some (vS n4 252)),none,(some (vR 0))]⟩⟩
noncomputable def o58 (P:Params):Obj:=oD y3 [dE P n31 295 (vS n4 252),dE P n33 299 (vI 36 298),dE P n34 300 (vR 96),dE P n5 301 .none] 2
noncomputable def o59 (P:Params):Obj:=⟨(.type y9),none,(.cls ⟨n36,[vR 73],[vR 98,vR 73,(.type y6),(.type y10),(.type y11),(.type y12)],97,n36,true,[],[],false,none,false⟩),⟨[(some (vR 89)),none,(some (vS n36 288)),(some (vS n36 296)),(some (.builtin y13)),(some (.bool true))]⟩⟩
noncomputable def o60:=oF y16 [vR 98,vR 98,vR 98]
noncomputable def o61:=oF y7 [(.builtin y17),vR 98]
noncomputable def o62 (P:Params):Obj:=oD y3 [dE P n31 311 (vS n4 252),dE P n32 313 (vS n37 312),dE P n33 315 (vI 38 314),dE P n34 316 (vR 108)] 4
noncomputable def o63 (P:Params):Obj:=oC y1 n37 306 n37 307 n1 308 38 0 0 0 0 104 false 181 105 .none .none .none .none 309 38 n1 310
noncomputable def o64 (P:Params):Obj:=⟨(.type y2),none,.plain,⟨[(some (vR 106)),(some (vR 3)),(some (vR 103)),none,(some (vS n4 252)),none,(some (vR 0))]⟩⟩
noncomputable def o65 (P:Params):Obj:=oD y3 [dE P n31 311 (vS n4 252),dE P n33 315 (vI 38 314),dE P n34 316 (vR 108),dE P n5 317 .none] 2
noncomputable def o66 (P:Params):Obj:=⟨(.type y9),none,(.cls ⟨n37,[vR 73],[vR 110,vR 73,(.type y6),(.type y10),(.type y11),(.type y12)],109,n37,true,[],[],false,none,false⟩),⟨[(some (vR 101)),none,(some (vS n37 304)),(some (vS n37 312)),(some (.builtin y13)),(some (.bool true))]⟩⟩
noncomputable def o67:=oF y16 [vR 110,vR 110,vR 110]
noncomputable def o68:=oF y7 [(.builtin y17),vR 110]
noncomputable def o69 (P:Params):Obj:=oD y3 [dE P n31 327 (vS n4 252),dE P n32 329 (vS n38 328),dE P n33 331 (vI 40 330),dE P n34 332 (vR 120)] 4
noncomputable def o70 (P:Params):Obj:=oC y1 n38 322 n38 323 n1 324 40 0 0 0 0 116 false 181 117 .none .none .none .none 325 40 n1 326
noncomputable def o71 (P:Params):Obj:=⟨(.type y2),none,.plain,⟨[(some (vR 118)),(some (vR 3)),(some (vR 115)),none,(some (vS n4 252)),none,(some (vR 0))]⟩⟩
noncomputable def o72 (P:Params):Obj:=oD y3 [dE P n31 327 (vS n4 252),dE P n33 331 (vI 40 330),dE P n34 332 (vR 120),dE P n5 333 .none] 2
noncomputable def o73 (P:Params):Obj:=⟨(.type y9),none,(.cls ⟨n38,[vR 73],[vR 122,vR 73,(.type y6),(.type y10),(.type y11),(.type y12)],121,n38,true,[],[],false,none,false⟩),⟨[(some (vR 113)),none,(some (vS n38 320)),(some (vS n38 328)),(some (.builtin y13)),(some (.bool true))]⟩⟩
noncomputable def o74:=oF y16 [vR 122,vR 122,vR 122]
noncomputable def o75:=oF y7 [(.builtin y17),vR 122]
noncomputable def o76 (P:Params):Obj:=oD y3 [dE P n3 165 (vS n39 362),dE P n5 166 .none,dE P n6 167 .none,dE P n7 168 (.builtin y4),dE P n8 169 .none,dE P n9 170 (vR 6),dE P n10 171 (vR 4),dE P n11 173 (vS n1 172),dE P n12 174 .none,dE P n13 193 (vR 21),dE P n14 206 (vR 28),dE P n15 215 (vR 35),dE P n16 224 (vR 42),dE P n17 234 (vR 49),dE P n18 242 (vR 56),dE P n19 251 (vR 63),dE P n20 271 (vR 73),dE P n21 287 (vR 86),dE P n36 303 (vR 98),dE P n37 319 (vR 110),dE P n38 335 (vR 122),dE P n40 351 (vR 134),dE P n41 355 (vI 8 354),dE P n42 361 (vR 141),dE P n43 365 (vI 90 364),dE P n44 367 (vI 12 366),dE P n45 369 (vI 0 368)] 27
noncomputable def o77:=oR [1,20,5,27,13,34,16,41,19,48,26,55,28,62,32,69,34,82,36,94,38,106,40,118,42,130,46,140]
noncomputable def o78 (P:Params):Obj:=⟨(.type y9),none,(.cls ⟨n20,[(.type y6)],[vR 73,(.type y6),(.type y10),(.type y11),(.type y12)],72,n20,true,[],[vR 86,vR 98,vR 110,vR 122,vR 134],false,none,false⟩),⟨[(some (vR 64)),none,(some (vS n20 254)),(some (vS n20 262)),(some (.builtin y13)),(some (.bool true))]⟩⟩
noncomputable def o79 (P:Params):Obj:=oD y3 [dE P n31 343 (vS n4 252),dE P n32 345 (vS n40 344),dE P n33 347 (vI 42 346),dE P n34 348 (vR 132)] 4
noncomputable def o80 (P:Params):Obj:=oC y1 n40 338 n40 339 n1 340 42 0 0 0 0 128 false 181 129 .none .none .none .none 341 42 n1 342
noncomputable def o81 (P:Params):Obj:=⟨(.type y2),none,.plain,⟨[(some (vR 130)),(some (vR 3)),(some (vR 127)),none,(some (vS n4 252)),none,(some (vR 0))]⟩⟩
noncomputable def o82 (P:Params):Obj:=oD y3 [dE P n31 343 (vS n4 252),dE P n33 347 (vI 42 346),dE P n34 348 (vR 132),dE P n5 349 .none] 2
noncomputable def o83 (P:Params):Obj:=⟨(.type y9),none,(.cls ⟨n40,[vR 73],[vR 134,vR 73,(.type y6),(.type y10),(.type y11),(.type y12)],133,n40,true,[],[],false,none,false⟩),⟨[(some (vR 125)),none,(some (vS n40 336)),(some (vS n40 344)),(some (.builtin y13)),(some (.bool true))]⟩⟩
noncomputable def o84:=oF y16 [vR 134,vR 134,vR 134]
noncomputable def o85:=oF y7 [(.builtin y17),vR 134]
noncomputable def o86:=oN n42 n42 (top 17)
noncomputable def o87 (P:Params):Obj:=oC y1 n42 356 n42 357 n1 358 46 1 0 0 3 137 true 181 138 .none .none .none (vR 139) 359 46 n1 360
noncomputable def o88:=oG n42 n42 (top 17) n46 352 140
noncomputable def o89 (P:Params):Obj:=oD y3 [dE P n3 165 (vS n39 362),dE P n5 166 .none,dE P n6 167 .none,dE P n7 168 (.builtin y4),dE P n8 169 .none,dE P n9 170 (vR 6),dE P n10 171 (vR 4),dE P n11 173 (vS n1 172),dE P n12 174 .none,dE P n13 193 (vR 21),dE P n14 206 (vR 28),dE P n15 215 (vR 35),dE P n16 224 (vR 42),dE P n17 234 (vR 49),dE P n18 242 (vR 56),dE P n19 251 (vR 63),dE P n20 271 (vR 73),dE P n21 287 (vR 86),dE P n36 303 (vR 98),dE P n37 319 (vR 110),dE P n38 335 (vR 122),dE P n40 351 (vR 134),dE P n41 355 (vI 8 354),dE P n42 361 (vR 141),dE P n43 365 (vI 90 364),dE P n44 367 (vI 12 366),dE P n45 369 (vI 0 368),dE P n47 542 (vR 268),dE P n48 549 (vR 279)] 29
noncomputable def o90:=oR [1,20,5,27,13,34,16,41,19,48,26,55,28,62,32,69,34,82,36,94,38,106,40,118,42,130,46,140,56,147,164,278]
noncomputable def o91 (P:Params):Obj:=oD y3 [dE P n31 377 (vS n39 362),dE P n32 379 (vS n47 378),dE P n33 381 (vI 56 380),dE P n49 389 (vR 155),dE P n50 399 (vR 162),dE P n51 407 (vR 169),dE P n52 418 (vR 176),dE P n53 429 (vR 183),dE P n54 435 (vR 188),dE P n55 444 (vR 195),dE P n56 453 (vR 202),dE P n57 462 (vR 209),dE P n58 471 (vR 216),dE P n59 479 (vR 223),dE P n60 487 (vR 230),dE P n61 495 (vR 237),dE P n62 503 (vR 244),dE P n63 511 (vR 251),dE P n64 519 (vR 258),dE P n65 527 (vR 265),dE P n34 535 (vR 266)] 21
noncomputable def o92 (P:Params):Obj:=⟨.none,none,(.fields ⟨[vI 58 0,vI 4 0,vR 154,vI 69 0,vI 4 0,vR 161,vI 80 0,vI 4 0,vR 168,vI 84 0,vI 4 0,vR 175,vI 96 0,vI 4 0,vR 182,vI 107 0,vI 4 0,vR 187,vI 126 0,vI 4 0,vR 194,vI 129 0,vI 4 0,vR 201,vI 132 0,vI 4 0,vR 208,vI 139 0,vI 4 0,vR 215,vI 142 0,vI 4 0,vR 222,vI 145 0,vI 4 0,vR 229,vI 148 0,vI 4 0,vR 236,vI 151 0,vI 4 0,vR 243,vI 154 0,vI 4 0,vR 250,vI 157 0,vI 4 0,vR 257,vI 161 0,vI 4 0,vR 264]⟩),⟨[]⟩⟩
noncomputable def o93 (P:Params):Obj:=oC y1 n47 372 n47 373 n1 374 56 0 0 0 0 145 false 181 146 .none .none .none .none 375 56 n1 376
noncomputable def o94 (P:Params):Obj:=⟨(.type y2),none,.plain,⟨[(some (vR 147)),(some (vR 3)),(some (vR 144)),none,(some (vS n39 362)),none,(some (vR 0))]⟩⟩
noncomputable def o95:=oQ y0 [vS n66 385,vS n67 386] 0
noncomputable def o96:=oN n49 n68 (inClass (top 22) 0)
noncomputable def o97:=oE n49 n68 382 58 2 149 387
noncomputable def o98:=oG n49 n68 (inClass (top 22) 0) n39 362 154
noncomputable def o99:=oQ y0 [vS n66 393,vS n29 394,vS n67 395,vS n24 396] 0
noncomputable def IP:=oN n50 n69 (inClass (top 22) 1)
noncomputable def Gg:=oE n50 n69 390 69 3 156 397
noncomputable def Gf:=oG n50 n69 (inClass (top 22) 1) n39 362 161
noncomputable def IM:=oQ y0 [vS n66 403,vS n24 404] 0
noncomputable def IL:=oN n51 n70 (inClass (top 22) 2)
noncomputable def Ge:=oE n51 n70 400 80 2 163 405
noncomputable def Gd:=oG n51 n70 (inClass (top 22) 2) n39 362 168
noncomputable def IK:=oQ y0 [vS n66 411,vS n29 412,vS n71 413,vS n67 414,vS n24 415] 0
noncomputable def IJ:=oN n52 n72 (inClass (top 22) 3)
noncomputable def Gc:=oE n52 n72 408 84 4 170 416
noncomputable def Gb:=oG n52 n72 (inClass (top 22) 3) n39 362 175
noncomputable def II:=oQ y0 [vS n66 422,vS n24 423,vS n73 424,vS n27 425,vS n74 426] 0
noncomputable def IH:=oN n53 n75 (inClass (top 22) 4)
noncomputable def Ga:=oE n53 n75 419 96 2 177 427
noncomputable def F9:=oG n53 n75 (inClass (top 22) 4) n39 362 182
noncomputable def IG:=oN n54 n76 (inClass (top 22) 5)
noncomputable def F8 (P:Params):Obj:=oC y1 n54 430 n76 431 n1 432 107 4 0 0 3 184 true 181 185 .none .none .none (vR 186) 433 107 n1 434
noncomputable def F7:=oG n54 n76 (inClass (top 22) 5) n39 362 187
noncomputable def IF:=oQ y0 [vS n66 439,vS n24 440,vS n77 441] 0
noncomputable def IE:=oN n55 n78 (inClass (top 22) 6)
noncomputable def F4:=oE n55 n78 436 126 3 189 442
noncomputable def F3:=oG n55 n78 (inClass (top 22) 6) n39 362 194
noncomputable def ID:=oQ y0 [vS n66 448,vS n24 449,vS n77 450] 0
noncomputable def IC:=oN n56 n79 (inClass (top 22) 7)
noncomputable def F2:=oE n56 n79 445 129 3 196 451
noncomputable def F1:=oG n56 n79 (inClass (top 22) 7) n39 362 201
noncomputable def IB:=oQ y0 [vS n66 457,vS n24 458,vS n80 459] 0
noncomputable def IA:=oN n57 n81 (inClass (top 22) 8)
noncomputable def F0:=oE n57 n81 454 132 3 203 460
noncomputable def FZ:=oG n57 n81 (inClass (top 22) 8) n39 362 208
noncomputable def Iz:=oQ y0 [vS n66 466,vS n24 467,vS n82 468] 0
noncomputable def Iy:=oN n58 n83 (inClass (top 22) 9)
noncomputable def FY:=oE n58 n83 463 139 3 210 469
noncomputable def FX:=oG n58 n83 (inClass (top 22) 9) n39 362 215
noncomputable def Iw:=oQ y0 [vS n66 475,vS n24 476] 0
noncomputable def Iv:=oN n59 n84 (inClass (top 22) 10)
noncomputable def FW:=oE n59 n84 472 142 2 217 477
noncomputable def FV:=oG n59 n84 (inClass (top 22) 10) n39 362 222
noncomputable def Iu:=oQ y0 [vS n66 483,vS n24 484] 0
noncomputable def Ir:=oN n60 n85 (inClass (top 22) 11)
noncomputable def FU:=oE n60 n85 480 145 2 224 485
noncomputable def FT:=oG n60 n85 (inClass (top 22) 11) n39 362 229
noncomputable def Iq:=oQ y0 [vS n66 491,vS n24 492] 0
noncomputable def Ip:=oN n61 n86 (inClass (top 22) 12)
noncomputable def FR:=oE n61 n86 488 148 2 231 493
noncomputable def FQ:=oG n61 n86 (inClass (top 22) 12) n39 362 236
noncomputable def Io:=oQ y0 [vS n66 499,vS n24 500] 0
noncomputable def Im:=oN n62 n87 (inClass (top 22) 13)
noncomputable def FP:=oE n62 n87 496 151 2 238 501
noncomputable def FO:=oG n62 n87 (inClass (top 22) 13) n39 362 243
noncomputable def Il:=oQ y0 [vS n66 507,vS n24 508] 0
noncomputable def Ik:=oN n63 n88 (inClass (top 22) 14)
noncomputable def FN:=oE n63 n88 504 154 2 245 509
noncomputable def FL:=oG n63 n88 (inClass (top 22) 14) n39 362 250
noncomputable def Ij:=oQ y0 [vS n66 515,vS n24 516] 0
noncomputable def Ii:=oN n64 n89 (inClass (top 22) 15)
noncomputable def FK:=oE n64 n89 512 157 2 252 517
noncomputable def FJ:=oG n64 n89 (inClass (top 22) 15) n39 362 257
noncomputable def Ih:=oQ y0 [vS n66 523,vS n24 524] 0
noncomputable def Ig:=oN n65 n90 (inClass (top 22) 16)
noncomputable def FI:=oE n65 n90 520 161 2 259 525
noncomputable def FH:=oG n65 n90 (inClass (top 22) 16) n39 362 264
noncomputable def FG:=oQ y0 [vS n91 528,vS n92 529,vS n93 530,vS n94 531,vS n95 532,vS n82 533,vS n80 534] 0
noncomputable def FF (P:Params):Obj:=oD y3 [dE P n31 377 (vS n39 362),dE P n33 381 (vI 56 380),dE P n49 389 (vR 155),dE P n50 399 (vR 162),dE P n51 407 (vR 169),dE P n52 418 (vR 176),dE P n53 429 (vR 183),dE P n54 435 (vR 188),dE P n55 444 (vR 195),dE P n56 453 (vR 202),dE P n57 462 (vR 209),dE P n58 471 (vR 216),dE P n59 479 (vR 223),dE P n60 487 (vR 230),dE P n61 495 (vR 237),dE P n62 503 (vR 244),dE P n63 511 (vR 251),dE P n64 519 (vR 258),dE P n65 527 (vR 265),dE P n34 535 (vR 266),dE P n96 537 (vR 269),dE P n35 539 (vR 270),dE P n5 540 .none] 4
noncomputable def FE (P:Params):Obj:=⟨(.type y9),none,(.cls ⟨n47,[(.type y12)],[vR 268,(.type y12)],267,n47,true,[],[],false,none,false⟩),⟨[none,none,(some (vS n47 370)),(some (vS n47 378)),(some (.builtin y18)),(some (.bool true))]⟩⟩
noncomputable def FA:=oF y14 [vS n96 536,vR 268,(.builtin y19),(.builtin y20)]
noncomputable def Fz:=oF y14 [vS n35 538,vR 268,(.builtin y15),.none]
noncomputable def Ie:=oF y16 [vR 268,vR 268,vR 268]
noncomputable def Ib:=oF y7 [(.builtin y17),vR 268]
noncomputable def Ia:=oQ y0 [vS n67 546] 0
noncomputable def HZ:=oN n48 n48 (top 23)
noncomputable def Fy:=oE n48 n48 543 164 1 273 547
noncomputable def Fx:=oG n48 n48 (top 23) n39 362 278
noncomputable def HY (P:Params):Obj:=oD y3 [dE P n3 165 (vS n97 558),dE P n5 166 .none,dE P n6 167 .none,dE P n7 168 (.builtin y4),dE P n8 169 .none,dE P n9 170 (vR 6),dE P n10 171 (vR 4),dE P n11 173 (vS n1 172),dE P n12 174 .none,dE P n13 193 (vR 21),dE P n14 206 (vR 28),dE P n15 215 (vR 35),dE P n16 224 (vR 42),dE P n17 234 (vR 49),dE P n18 242 (vR 56),dE P n19 251 (vR 63),dE P n20 271 (vR 73),dE P n21 287 (vR 86),dE P n36 303 (vR 98),dE P n37 319 (vR 110),dE P n38 335 (vR 122),dE P n40 351 (vR 134),dE P n41 355 (vI 8 354),dE P n42 361 (vR 141),dE P n43 365 (vI 90 364),dE P n44 367 (vI 12 366),dE P n45 369 (vI 0 368),dE P n47 542 (vR 268),dE P n48 549 (vR 279),dE P n98 557 (vR 286),dE P n99 567 (vR 293),dE P BC 576 (vR 300),dE P BB 582 (vR 305),dE P BA 589 (vR 312),dE P Bz 598 (vR 319),dE P By 609 (vR 326),dE P Bw 618 (vR 333),dE P Bv 624 (vR 338),dE P Bu 630 (vR 343),dE P Bt 639 (vR 350),dE P Bs 655 (vR 357),dE P Br 674 (vR 364)] 42
noncomputable def Kb:=oR [1,20,5,27,13,34,16,41,19,48,26,55,28,62,32,69,34,82,36,94,38,106,40,118,42,130,46,140,56,147,164,278,167,285,171,292,175,299,178,304,182,311,184,318,191,325,199,332,205,337,218,342,237,349,250,356,268,363]
noncomputable def Ka:=oQ y0 [vS n71 553,vS n30 554] 0
noncomputable def J9:=oN n98 n98 (top 24)
noncomputable def HX:=oE n98 n98 550 167 2 280 555
noncomputable def HW:=oG n98 n98 (top 24) n39 362 285
noncomputable def J8:=oQ y0 [vS Ki 563,vS IW 564] 0
noncomputable def J7:=oN n99 n99 (top 26)
noncomputable def HV:=oE n99 n99 560 171 2 287 565
noncomputable def HU:=oG n99 n99 (top 26) n97 558 292
noncomputable def J6:=oQ y0 [vS Kh 571,vS Kg 572,vS LA 573] 0
noncomputable def J5:=oN BC BC (top 27)
noncomputable def HS:=oE BC BC 568 175 2 294 574
noncomputable def HR:=oG BC BC (top 27) n97 558 299
noncomputable def J4:=oN BB BB (top 28)
noncomputable def HQ (P:Params):Obj:=oC y1 BB 577 BB 578 n1 579 178 2 0 0 3 301 true 181 302 .none .none .none (vR 303) 580 178 n1 581
noncomputable def HP:=oG BB BB (top 28) n97 558 304
noncomputable def J3:=oQ y0 [vS Kf 586] 0
noncomputable def J2:=oN BA BA (top 29)
noncomputable def HN:=oE BA BA 583 182 1 306 587
noncomputable def HM:=oG BA BA (top 29) n97 558 311
noncomputable def J1:=oQ y0 [vS Kf 593,vS Lz 594,vS IW 595] 0
noncomputable def J0:=oN Bz Bz (top 30)
noncomputable def HL:=oE Bz Bz 590 184 2 313 596
noncomputable def HK:=oG Bz Bz (top 30) n97 558 318
noncomputable def JZ:=oQ y0 [vS IV 602,vS Eo 603,vS Ly 604,vS Lx 605,vS Ke 606] 0
noncomputable def JY:=oN By By (top 31)
noncomputable def HJ:=oE By By 599 191 2 320 607
noncomputable def HI:=oG By By (top 31) n97 558 325
noncomputable def JX:=oQ y0 [vS IU 613,vS Eo 614,vS Kc 615] 0
noncomputable def JW:=oN Bw Bw (top 32)
noncomputable def HH:=oE Bw Bw 610 199 2 327 616
noncomputable def HG:=oG Bw Bw (top 32) n97 558 332
noncomputable def JV:=oN Bv Bv (top 33)
noncomputable def HF (P:Params):Obj:=oC y1 Bv 619 Bv 620 n1 621 205 6 0 0 3 334 true 181 335 .none .none .none (vR 336) 622 205 n1 623
noncomputable def HE:=oG Bv Bv (top 33) n97 558 337
noncomputable def JU:=oN Bu Bu (top 34)
noncomputable def HD (P:Params):Obj:=oC y1 Bu 625 Bu 626 n1 627 218 5 0 0 3 339 true 181 340 .none .none .none (vR 341) 628 218 n1 629
noncomputable def HC:=oG Bu Bu (top 34) n97 558 342
noncomputable def JT:=oQ y0 [vS IT 634,vS Eo 635,vS Kg 636] 0
noncomputable def JS:=oN Bt Bt (top 35)
noncomputable def HB:=oE Bt Bt 631 237 3 344 637
noncomputable def HA:=oG Bt Bt (top 35) n97 558 349
noncomputable def JR:=oQ y0 [vS IT 643,vS IV 644,vS IU 645,vS Eo 646,vS Lw 647,vS Lv 648,vS Lu 649,vS Ls 650,vS Kc 651,vS Lr 652] 0
noncomputable def JQ:=oN Bs Bs (top 36)
noncomputable def Hz:=oE Bs Bs 640 250 4 351 653
noncomputable def Hy:=oG Bs Bs (top 36) n97 558 356
noncomputable def JP:=oQ y0 [vS Ki 659,vS Lq 660,vS IT 661,vS IV 662,vS IU 663,vS Lp 664,vS Lo 665,vS IW 666,vS Kh 667,vS Ln 668,vS Eo 669,vS Ke 670,vS Lm 671] 0
noncomputable def JO:=oN Br Br (top 37)
noncomputable def Hx:=oE Br Br 656 268 1 358 672
noncomputable def Hw:=oG Br Br (top 37) n97 558 363
noncomputable def lf0:Life:=⟨[],[],[],0,[],[],false,⟨[]⟩,[],0,false,false,false,(.ofNat 0),[(.ofNat 2000),(.ofNat 10),(.ofNat 10)],false,0,true,[],[],0,false⟩
noncomputable def hcd:Value:=(vR 13)
noncomputable def hq:Pos:=⟨0,0,0,0⟩
noncomputable def hE:Env:={ scope:=hp.main.scope,locals:=mainNs,globals:=mainNs,cells:=[],code:=hcd,frame:=some 14 }
noncomputable def hC:Code:=.body (behindTheImports hp) hE
noncomputable def hB:List Frame:=[topFrame hq]
noncomputable def hAn:Option Value:=(some (vR 6))
noncomputable def hA (P:Params):Heap:=⟨⟨(boot_o_0 P::boot_o_1 P::boot_o_2 P::boot_o_3 P::boot_o_4 P::boot_o_5 P::boot_o_6 P::boot_o_7 P::boot_o_8 P::boot_o_9 P::boot_o_10 P::o0 P::o1 P::o2 P::o3 P::[])⟩,lf0⟩
noncomputable def tr1:=(tN boot_o_0 (tN boot_o_1 (tN boot_o_3 (tL boot_o_7) (tL o0)) (tN boot_o_5 (tL boot_o_9) (tL o2))) (tN boot_o_2 (tN boot_o_4 (tL boot_o_8) (tL o1)) (tN boot_o_6 (tL boot_o_10) (tL o3))))
noncomputable def S1 (w:World) (os:OsState):SharedT:=⟨tr1 w.params,15,lf0,⟨[]⟩,⟨0,0,0,0⟩,187,os⟩
noncomputable def tr2:=(tN boot_o_0 (tN boot_o_1 (tN o4 (tN boot_o_7 (tN o0 (tN o14 (tL o33) tZ) (tN o23 (tL o45) tZ)) (tN o1 (tN o0 (tL o0) tZ) (tN o28 (tL o50) tZ))) (tN o0 (tN o7 (tN o17 (tL o0) tZ) (tN o1 (tL o47) tZ)) (tN o12 (tN o0 (tL o42) tZ) (tL o30)))) (tN boot_o_5 (tN boot_o_9 (tN o6 (tN o15 (tL o35) tZ) (tN o25 (tL o1) tZ)) (tN o0 (tN o20 (tL o40) tZ) (tL o0))) (tN o2 (tN o9 (tN o1 (tL o37) tZ) (tN o0 (tL o48) tZ)) (tN o0 (tN o22 (tL o44) tZ) (tL o31))))) (tN boot_o_2 (tN boot_o_4 (tN boot_o_8 (tN o1 (tN o0 (tL o34) tZ) (tN o24 (tL o0) tZ)) (tN o10 (tN o19 (tL o39) tZ) (tN o29 (tL o51) tZ))) (tN o5 (tN o8 (tN o0 (tL o1) tZ) (tN o26 (tL o0) tZ)) (tN o13 (tN o1 (tL o43) tZ) (tL o0)))) (tN boot_o_6 (tN boot_o_10 (tN o0 (tN o16 (tL o36) tZ) (tN o0 (tL o46) tZ)) (tN o11 (tN o21 (tL o41) tZ) (tL o1))) (tN o3 (tN o0 (tN o18 (tL o38) tZ) (tN o27 (tL o49) tZ)) (tN o1 (tN o0 (tL o35) tZ) (tL o32))))))
noncomputable def S2 (w:World) (os:OsState):SharedT:=⟨tr2 w.params,89,lf0,⟨[]⟩,⟨0,0,0,0⟩,288,os⟩
noncomputable def tr3:=(tN boot_o_0 (tN boot_o_1 (tN o52 (tN boot_o_7 (tN o0 (tN o14 (tL o33) (tL o57)) (tN o23 (tL o45) (tL o67))) (tN o1 (tN o0 (tL o0) (tL o62)) (tN o28 (tL o50) (tL o71)))) (tN o0 (tN o7 (tN o17 (tL o0) (tL o60)) (tN o1 (tL o47) (tL o69))) (tN o12 (tN o0 (tL o42) (tL o64)) (tN o30 (tL o55) (tL o74))))) (tN boot_o_5 (tN boot_o_9 (tN o6 (tN o15 (tL o35) (tL o58)) (tN o25 (tL o1) (tL o44))) (tN o0 (tN o20 (tL o54) (tL o1)) (tN o0 (tL o44) (tL o72)))) (tN o2 (tN o9 (tN o1 (tL o37) (tL o44)) (tN o0 (tL o48) (tL o1))) (tN o0 (tN o22 (tL o44) (tL o65)) (tN o31 (tL o1) tZ))))) (tN boot_o_2 (tN boot_o_4 (tN boot_o_8 (tN o1 (tN o0 (tL o34) (tL o0)) (tN o24 (tL o0) (tL o68))) (tN o10 (tN o19 (tL o39) (tL o0)) (tN o29 (tL o51) (tL o0)))) (tN o53 (tN o8 (tN o0 (tL o1) (tL o61)) (tN o26 (tL o0) (tL o0))) (tN o13 (tN o1 (tL o43) (tL o0)) (tN o0 (tL o0) (tL o75))))) (tN boot_o_6 (tN boot_o_10 (tN o0 (tN o16 (tL o36) (tL o59)) (tN o0 (tL o46) (tL o35))) (tN o11 (tN o21 (tL o41) (tL o63)) (tN o1 (tL o35) (tL o73)))) (tN o3 (tN o0 (tN o18 (tL o38) (tL o35)) (tN o27 (tL o49) (tL o70))) (tN o1 (tN o0 (tL o35) (tL o66)) (tN o32 (tL o56) tZ))))))
noncomputable def S3 (w:World) (os:OsState):SharedT:=⟨tr3 w.params,125,lf0,⟨[]⟩,⟨0,0,0,0⟩,336,os⟩
noncomputable def tr4:=(tN boot_o_0 (tN boot_o_1 (tN o76 (tN boot_o_7 (tN o0 (tN o14 (tN o33 (tL o79) tZ) (tL o57)) (tN o23 (tL o45) (tL o67))) (tN o1 (tN o0 (tN o0 (tL o84) tZ) (tL o62)) (tN o28 (tL o50) (tL o71)))) (tN o0 (tN o7 (tN o17 (tN o0 (tL o81) tZ) (tL o60)) (tN o1 (tL o47) (tL o69))) (tN o12 (tN o0 (tN o42 (tL o86) tZ) (tL o64)) (tN o30 (tL o55) (tL o74))))) (tN boot_o_5 (tN boot_o_9 (tN o6 (tN o15 (tN o35 (tL o1) tZ) (tL o58)) (tN o25 (tL o1) (tL o44))) (tN o0 (tN o20 (tN o78 (tL o0) tZ) (tL o1)) (tN o0 (tL o44) (tL o72)))) (tN o2 (tN o9 (tN o1 (tN o37 (tL o82) tZ) (tL o44)) (tN o0 (tL o48) (tL o1))) (tN o0 (tN o22 (tN o44 (tL o88) tZ) (tL o65)) (tN o31 (tL o1) (tL o44)))))) (tN boot_o_2 (tN boot_o_4 (tN boot_o_8 (tN o1 (tN o0 (tN o34 (tL o0) tZ) (tL o0)) (tN o24 (tL o0) (tL o68))) (tN o10 (tN o19 (tN o39 (tL o85) tZ) (tL o0)) (tN o29 (tL o51) (tL o0)))) (tN o77 (tN o8 (tN o0 (tN o1 (tL o0) tZ) (tL o61)) (tN o26 (tL o0) (tL o0))) (tN o13 (tN o1 (tN o43 (tL o87) tZ) (tL o0)) (tN o0 (tL o0) (tL o75))))) (tN boot_o_6 (tN boot_o_10 (tN o0 (tN o16 (tN o36 (tL o80) tZ) (tL o59)) (tN o0 (tL o46) (tL o35))) (tN o11 (tN o21 (tN o41 (tL o1) tZ) (tL o63)) (tN o1 (tL o35) (tL o73)))) (tN o3 (tN o0 (tN o18 (tN o38 (tL o83) tZ) (tL o35)) (tN o27 (tL o49) (tL o70))) (tN o1 (tN o0 (tL o35) (tL o66)) (tN o32 (tL o56) (tL o35)))))))
noncomputable def S4 (w:World) (os:OsState):SharedT:=⟨tr4 w.params,142,lf0,⟨[]⟩,⟨0,0,0,0⟩,370,os⟩
noncomputable def tr5:=(tN boot_o_0 (tN boot_o_1 (tN o89 (tN boot_o_7 (tN o0 (tN o14 (tN o33 (tN o79 (tL o0) tZ) (tL IF)) (tN o57 (tL o0) (tL FV))) (tN o23 (tN o45 (tN o35 (tL Ie) tZ) (tL IA)) (tN o67 (tL Gc) (tL o1)))) (tN o1 (tN o0 (tN o0 (tN o84 (tL Ig) tZ) (tL o0)) (tN o62 (tL IL) (tL o0))) (tN o28 (tN o50 (tN o95 (tL Fx) tZ) (tL FY)) (tN o71 (tL F9) (tL Il))))) (tN o0 (tN o7 (tN o17 (tN o0 (tN o81 (tL o0) tZ) (tL F3)) (tN o60 (tL o0) (tL o0))) (tN o1 (tN o47 (tN o93 (tL Ia) tZ) (tL o1)) (tN o69 (tL II) (tL FP)))) (tN o12 (tN o0 (tN o42 (tN o86 (tL FF) tZ) (tL o0)) (tN o64 (tL o1) (tL Ip))) (tN o30 (tN o55 (tL o98) (tL Iw)) (tN o74 (tL F8) (tL FL)))))) (tN boot_o_5 (tN boot_o_9 (tN o6 (tN o15 (tN o35 (tN o1 (tL FK) tZ) (tL IE)) (tN o58 (tL Gg) (tL o1))) (tN o25 (tN o1 (tN o0 (tL o0) tZ) (tL FZ)) (tN o44 (tL o0) (tL o0)))) (tN o0 (tN o20 (tN o78 (tN o0 (tL FH) tZ) (tL F2)) (tN o1 (tL Gd) (tL Iq))) (tN o0 (tN o44 (tL o96) (tL o0)) (tN o72 (tL o1) (tL Ik))))) (tN o2 (tN o9 (tN o1 (tN o37 (tN o82 (tL Ih) tZ) (tL o1)) (tN o44 (tL IM) (tL FU))) (tN o0 (tN o48 (tN o0 (tL HZ) tZ) (tL o0)) (tN o1 (tL IH) (tL o0)))) (tN o0 (tN o22 (tN o44 (tN o88 (tL FA) tZ) (tL IB)) (tN o65 (tL o0) (tL FQ))) (tN o31 (tN o1 (tL o1) (tL Iv)) (tN o44 (tL o0) (tL o1))))))) (tN boot_o_2 (tN boot_o_4 (tN boot_o_8 (tN o1 (tN o0 (tN o34 (tN o0 (tL Ii) tZ) (tL o0)) (tN o0 (tL IP) (tL o0))) (tN o24 (tN o0 (tN o91 (tL Ib) tZ) (tL F0)) (tN o68 (tL Gb) (tL Io)))) (tN o10 (tN o19 (tN o39 (tN o85 (tL FI) tZ) (tL IC)) (tN o0 (tL Ge) (tL o1))) (tN o29 (tN o51 (tL o0) (tL FX)) (tN o0 (tL o0) (tL o0))))) (tN o90 (tN o8 (tN o0 (tN o1 (tN o0 (tL o1) tZ) (tL o0)) (tN o61 (tL o1) (tL Ir))) (tN o26 (tN o0 (tN o94 (tL o0) tZ) (tL Iz)) (tN o0 (tL o0) (tL FO)))) (tN o13 (tN o1 (tN o43 (tN o87 (tL FE) tZ) (tL o1)) (tN o0 (tL IK) (tL FR))) (tN o0 (tN o0 (tL o0) (tL o0)) (tN o75 (tL F7) (tL o0)))))) (tN boot_o_6 (tN boot_o_10 (tN o0 (tN o16 (tN o36 (tN o80 (tL FJ) tZ) (tL F4)) (tN o59 (tL Gf) (tL Iu))) (tN o0 (tN o46 (tN o92 (tL o1) tZ) (tL o0)) (tN o35 (tL o1) (tL Im)))) (tN o11 (tN o21 (tN o41 (tN o1 (tL FG) tZ) (tL F1)) (tN o63 (tL o0) (tL o0))) (tN o1 (tN o35 (tL o97) (tL o1)) (tN o73 (tL IG) (tL FN))))) (tN o3 (tN o0 (tN o18 (tN o38 (tN o83 (tL o0) tZ) (tL ID)) (tN o35 (tL o0) (tL FT))) (tN o27 (tN o49 (tN o1 (tL Fy) tZ) (tL Iy)) (tN o70 (tL Ga) (tL o1)))) (tN o1 (tN o0 (tN o35 (tN o0 (tL Fz) tZ) (tL o0)) (tN o66 (tL IJ) (tL o0))) (tN o32 (tN o56 (tL o99) (tL FW)) (tN o35 (tL o1) (tL Ij))))))))
noncomputable def S5 (w:World) (os:OsState):SharedT:=⟨tr5 w.params,280,lf0,⟨[]⟩,⟨0,0,0,0⟩,550,os⟩
noncomputable def tr6:=(tN boot_o_0 (tN boot_o_1 (tN HY (tN boot_o_7 (tN o0 (tN o14 (tN o33 (tN o79 (tL o0) tZ) (tN IF (tL HK) tZ)) (tN o57 (tN o0 (tL o0) tZ) (tN FV (tL o0) tZ))) (tN o23 (tN o45 (tN o35 (tL Ie) tZ) (tN IA (tL o1) tZ)) (tN o67 (tN Gc (tL J4) tZ) (tL o1)))) (tN o1 (tN o0 (tN o0 (tN o84 (tL Ig) tZ) (tN o0 (tL o0) tZ)) (tN o62 (tN IL (tL o1) tZ) (tN o0 (tL o1) tZ))) (tN o28 (tN o50 (tN o95 (tL Fx) tZ) (tN FY (tL HC) tZ)) (tN o71 (tN F9 (tL HN) tZ) (tL Il))))) (tN o0 (tN o7 (tN o17 (tN o0 (tN o81 (tL o0) tZ) (tN F3 (tL o0) tZ)) (tN o60 (tN o0 (tL J7) tZ) (tN o0 (tL JQ) tZ))) (tN o1 (tN o47 (tN o93 (tL Ia) tZ) (tN o1 (tL o0) tZ)) (tN o69 (tN II (tL o1) tZ) (tL FP)))) (tN o12 (tN o0 (tN o42 (tN o86 (tL FF) tZ) (tN o0 (tL JW) tZ)) (tN o64 (tN o1 (tL HS) tZ) (tN Ip (tL Hx) tZ))) (tN o30 (tN o55 (tN o98 (tL o0) tZ) (tN Iw (tL o0) tZ)) (tN o74 (tN F8 (tL J1) tZ) (tL FL)))))) (tN boot_o_5 (tN boot_o_9 (tN o6 (tN o15 (tN o35 (tN o1 (tL FK) tZ) (tN IE (tL o1) tZ)) (tN o58 (tN Gg (tL J8) tZ) (tN o1 (tL JR) tZ))) (tN o25 (tN o1 (tN o0 (tL o0) tZ) (tN FZ (tL HF) tZ)) (tN o44 (tN o0 (tL HP) tZ) (tL o0)))) (tN o0 (tN o20 (tN o78 (tN o0 (tL FH) tZ) (tN F2 (tL JX) tZ)) (tN o1 (tN Gd (tL o0) tZ) (tN Iq (tL o0) tZ))) (tN o0 (tN o44 (tN o96 (tL o1) tZ) (tN o0 (tL o1) tZ)) (tN o72 (tN o1 (tL o0) tZ) (tL Ik))))) (tN o2 (tN o9 (tN o1 (tN o37 (tN o82 (tL Ih) tZ) (tN o1 (tL HJ) tZ)) (tN o44 (tN IM (tL HU) tZ) (tN FU (tL Hy) tZ))) (tN o0 (tN o48 (tN o0 (tL HZ) tZ) (tN o0 (tL JU) tZ)) (tN o1 (tN IH (tL o0) tZ) (tL o0)))) (tN o0 (tN o22 (tN o44 (tN o88 (tL FA) tZ) (tN IB (tL HG) tZ)) (tN o65 (tN o0 (tL o0) tZ) (tL FQ))) (tN o31 (tN o1 (tN o1 (tL HX) tZ) (tN Iv (tL HB) tZ)) (tN o44 (tN o0 (tL J0) tZ) (tL o1))))))) (tN boot_o_2 (tN boot_o_4 (tN boot_o_8 (tN o1 (tN o0 (tN o34 (tN o0 (tL Ii) tZ) (tN o0 (tL o0) tZ)) (tN o0 (tN IP (tL o1) tZ) (tN o0 (tL o1) tZ))) (tN o24 (tN o0 (tN o91 (tL Ib) tZ) (tN F0 (tL JV) tZ)) (tN o68 (tN Gb (tL HQ) tZ) (tL Io)))) (tN o10 (tN o19 (tN o39 (tN o85 (tL FI) tZ) (tN IC (tL o1) tZ)) (tN o0 (tN Ge (tL J6) tZ) (tN o1 (tL JP) tZ))) (tN o29 (tN o51 (tN o0 (tL o0) tZ) (tN FX (tL o0) tZ)) (tN o0 (tN o0 (tL HM) tZ) (tL o0))))) (tN Kb (tN o8 (tN o0 (tN o1 (tN o0 (tL o1) tZ) (tN o0 (tL JY) tZ)) (tN o61 (tN o1 (tL HV) tZ) (tN Ir (tL Hz) tZ))) (tN o26 (tN o0 (tN o94 (tL o0) tZ) (tN Iz (tL o1) tZ)) (tN o0 (tN o0 (tL J3) tZ) (tL FO)))) (tN o13 (tN o1 (tN o43 (tN o87 (tL FE) tZ) (tN o1 (tL HH) tZ)) (tN o0 (tN IK (tL HR) tZ) (tN FR (tL Hw) tZ))) (tN o0 (tN o0 (tN o0 (tL J9) tZ) (tN o0 (tL JS) tZ)) (tN o75 (tN F7 (tL o0) tZ) (tL o0)))))) (tN boot_o_6 (tN boot_o_10 (tN o0 (tN o16 (tN o36 (tN o80 (tL FJ) tZ) (tN F4 (tL JZ) tZ)) (tN o59 (tN Gf (tL o0) tZ) (tN Iu (tL o0) tZ))) (tN o0 (tN o46 (tN o92 (tL o1) tZ) (tN o0 (tL HE) tZ)) (tN o35 (tN o1 (tL o0) tZ) (tL Im)))) (tN o11 (tN o21 (tN o41 (tN o1 (tL FG) tZ) (tN F1 (tL o0) tZ)) (tN o63 (tN o0 (tL J5) tZ) (tN o0 (tL JO) tZ))) (tN o1 (tN o35 (tN o97 (tL Ka) tZ) (tN o1 (tL JT) tZ)) (tN o73 (tN IG (tL o1) tZ) (tL FN))))) (tN o3 (tN o0 (tN o18 (tN o38 (tN o83 (tL o0) tZ) (tN ID (tL HI) tZ)) (tN o35 (tN o0 (tL o0) tZ) (tN FT (tL o0) tZ))) (tN o27 (tN o49 (tN o1 (tL Fy) tZ) (tN Iy (tL HD) tZ)) (tN o70 (tN Ga (tL J2) tZ) (tL o1)))) (tN o1 (tN o0 (tN o35 (tN o0 (tL Fz) tZ) (tN o0 (tL o0) tZ)) (tN o66 (tN IJ (tL o1) tZ) (tL o0))) (tN o32 (tN o56 (tN o99 (tL HW) tZ) (tN FW (tL HA) tZ)) (tN o35 (tN o1 (tL HL) tZ) (tL Ij))))))))
noncomputable def S6 (w:World) (os:OsState):SharedT:=⟨tr6 w.params,365,lf0,⟨[]⟩,⟨0,0,0,0⟩,675,os⟩
noncomputable def hF (P:Params):Heap:=⟨⟨(boot_o_0 P::boot_o_1 P::boot_o_2 P::HY P::boot_o_4 P::boot_o_5 P::boot_o_6 P::boot_o_7 P::boot_o_8 P::boot_o_9 P::boot_o_10 P::o0 P::Kb P::o2 P::o3 P::o0 P::o1 P::o6 P::o0 P::o7 P::o8 P::o9 P::o0 P::o1 P::o10 P::o0 P::o11 P::o12 P::o13 P::o0 P::o1 P::o14 P::o0 P::o15 P::o16 P::o17 P::o0 P::o1 P::o18 P::o0 P::o19 P::o20 P::o21 P::o0 P::o1 P::o22 P::o0 P::o23 P::o24 P::o25 P::o0 P::o1 P::o26 P::o0 P::o27 P::o28 P::o29 P::o0 P::o1 P::o30 P::o0 P::o31 P::o32 P::o33 P::o34 P::o35 P::o36 P::o0 P::o1 P::o37 P::o38 P::o0 P::o39 P::o78 P::o41 P::o42 P::o43 P::o44 P::o35 P::o45 P::o0 P::o1 P::o46 P::o47 P::o0 P::o48 P::o49 P::o50 P::o51 P::o44 P::o35 P::o55 P::o0 P::o1 P::o56 P::o57 P::o0 P::o58 P::o59 P::o60 P::o61 P::o44 P::o35 P::o62 P::o0 P::o1 P::o63 P::o64 P::o0 P::o65 P::o66 P::o67 P::o68 P::o44 P::o35 P::o69 P::o0 P::o1 P::o70 P::o71 P::o0 P::o72 P::o73 P::o74 P::o75 P::o44 P::o35 P::o79 P::o0 P::o1 P::o80 P::o81 P::o0 P::o82 P::o83 P::o84 P::o85 P::o0 P::o1 P::o86 P::o87 P::o88 P::o0 P::o35 P::o91 P::o0 P::o92 P::o93 P::o94 P::o0 P::o1 P::o95 P::o0 P::o96 P::o97 P::o98 P::o0 P::o1 P::o99 P::o0 P::IP P::Gg P::Gf P::o0 P::o1 P::IM P::o0 P::IL P::Ge P::Gd P::o0 P::o1 P::IK P::o0 P::IJ P::Gc P::Gb P::o0 P::o1 P::II P::o0 P::IH P::Ga P::F9 P::o0 P::o1 P::IG P::F8 P::F7 P::o0 P::o1 P::IF P::o0 P::IE P::F4 P::F3 P::o0 P::o1 P::ID P::o0 P::IC P::F2 P::F1 P::o0 P::o1 P::IB P::o0 P::IA P::F0 P::FZ P::o0 P::o1 P::Iz P::o0 P::Iy P::FY P::FX P::o0 P::o1 P::Iw P::o0 P::Iv P::FW P::FV P::o0 P::o1 P::Iu P::o0 P::Ir P::FU P::FT P::o0 P::o1 P::Iq P::o0 P::Ip P::FR P::FQ P::o0 P::o1 P::Io P::o0 P::Im P::FP P::FO P::o0 P::o1 P::Il P::o0 P::Ik P::FN P::FL P::o0 P::o1 P::Ij P::o0 P::Ii P::FK P::FJ P::o0 P::o1 P::Ih P::o0 P::Ig P::FI P::FH P::FG P::FF P::FE P::FA P::Fz P::Ie P::Ib P::o0 P::o1 P::Ia P::o0 P::HZ P::Fy P::Fx P::o0 P::o1 P::Ka P::o0 P::J9 P::HX P::HW P::o0 P::o1 P::J8 P::o0 P::J7 P::HV P::HU P::o0 P::o1 P::J6 P::o0 P::J5 P::HS P::HR P::o0 P::o1 P::J4 P::HQ P::HP P::o0 P::o1 P::J3 P::o0 P::J2 P::HN P::HM P::o0 P::o1 P::J1 P::o0 P::J0 P::HL P::HK P::o0 P::o1 P::JZ P::o0 P::JY P::HJ P::HI P::o0 P::o1 P::JX P::o0 P::JW P::HH P::HG P::o0 P::o1 P::JV P::HF P::HE P::o0 P::o1 P::JU P::HD P::HC P::o0 P::o1 P::JT P::o0 P::JS P::HB P::HA P::o0 P::o1 P::JR P::o0 P::JQ P::Hz P::Hy P::o0 P::o1 P::JP P::o0 P::JO P::Hx P::Hw P::[])⟩,lf0⟩
noncomputable def SA (w:World) (os:OsState):Shared:=⟨hA w.params,⟨[]⟩,⟨0,0,0,0⟩,187,os⟩
noncomputable def SF (w:World) (os:OsState):Shared:=⟨hF w.params,⟨[]⟩,⟨0,0,0,0⟩,675,os⟩
noncomputable def S0 (w:World) (os:OsState):Shared:=⟨boot_heap w.params,⟨[]⟩,boot_drawn,boot_toks,os⟩
noncomputable def KJ:List Stmt:=[top 0,top 1,top 2,top 3,top 4,top 5,top 6,top 7,top 8,top 9,top 10]
noncomputable def KI:List Stmt:=[top 11,top 12,top 13]
noncomputable def KH:List Stmt:=[top 14,top 15,top 16,top 17,top 18,top 19,top 20,top 21]
noncomputable def KG:List Stmt:=[top 22,top 23]
noncomputable def KD:List Stmt:=[top 24,top 25,top 26,top 27,top 28,top 29,top 30,top 31,top 32,top 33,top 34,top 35,top 36,top 37]
noncomputable def hV:Program:={ hp with main:={ hp.main with body:=[top 0,top 2,top 3,top 4,top 5,top 6,top 7,top 9,top 10,top 11,top 12,top 13,top 14,top 16,top 17,top 19,top 20,top 21,top 22,top 23,top 24,top 26,top 27,top 28,top 29,top 30,top 31,top 32,top 33,top 34,top 35,top 36,top 37] } }
noncomputable def hAs:List Addr:=0::1::2::3::4::5::6::7::8::9::10::13::14::20::21::27::28::34::35::41::42::48::49::55::56::62::63::71::72::73::74::84::85::86::96::97::98::108::109::110::120::121::122::132::133::134::140::141::154::155::161::162::168::169::175::176::182::183::187::188::194::195::201::202::208::209::215::216::222::223::229::230::236::237::243::244::250::251::257::258::264::265::266::267::268::269::270::278::279::285::286::292::293::299::300::304::305::311::312::318::319::325::326::332::333::337::338::342::343::349::350::356::357::363::364::[]
noncomputable def hK:Params->W.Frag:=λ P=>((nat_lit 0,boot_o_0 P)::(nat_lit 1,boot_o_1 P)::(nat_lit 2,boot_o_2 P)::(nat_lit 3,HY P)::(nat_lit 4,boot_o_4 P)::(nat_lit 5,boot_o_5 P)::(nat_lit 6,boot_o_6 P)::(nat_lit 7,boot_o_7 P)::(nat_lit 8,boot_o_8 P)::(nat_lit 9,boot_o_9 P)::(nat_lit 10,boot_o_10 P)::(nat_lit 13,o2 P)::(nat_lit 14,o3 P)::(nat_lit 20,o8 P)::(nat_lit 21,o9 P)::(nat_lit 27,o12 P)::(nat_lit 28,o13 P)::(nat_lit 34,o16 P)::(nat_lit 35,o17 P)::(nat_lit 41,o20 P)::(nat_lit 42,o21 P)::(nat_lit 48,o24 P)::(nat_lit 49,o25 P)::(nat_lit 55,o28 P)::(nat_lit 56,o29 P)::(nat_lit 62,o32 P)::(nat_lit 63,o33 P)::(nat_lit 71,o0 P)::(nat_lit 72,o39 P)::(nat_lit 73,o78 P)::(nat_lit 74,o41 P)::(nat_lit 84,o0 P)::(nat_lit 85,o48 P)::(nat_lit 86,o49 P)::(nat_lit 96,o0 P)::(nat_lit 97,o58 P)::(nat_lit 98,o59 P)::(nat_lit 108,o0 P)::(nat_lit 109,o65 P)::(nat_lit 110,o66 P)::(nat_lit 120,o0 P)::(nat_lit 121,o72 P)::(nat_lit 122,o73 P)::(nat_lit 132,o0 P)::(nat_lit 133,o82 P)::(nat_lit 134,o83 P)::(nat_lit 140,o87 P)::(nat_lit 141,o88 P)::(nat_lit 154,o97 P)::(nat_lit 155,o98 P)::(nat_lit 161,Gg P)::(nat_lit 162,Gf P)::(nat_lit 168,Ge P)::(nat_lit 169,Gd P)::(nat_lit 175,Gc P)::(nat_lit 176,Gb P)::(nat_lit 182,Ga P)::(nat_lit 183,F9 P)::(nat_lit 187,F8 P)::(nat_lit 188,F7 P)::(nat_lit 194,F4 P)::(nat_lit 195,F3 P)::(nat_lit 201,F2 P)::(nat_lit 202,F1 P)::(nat_lit 208,F0 P)::(nat_lit 209,FZ P)::(nat_lit 215,FY P)::(nat_lit 216,FX P)::(nat_lit 222,FW P)::(nat_lit 223,FV P)::(nat_lit 229,FU P)::(nat_lit 230,FT P)::(nat_lit 236,FR P)::(nat_lit 237,FQ P)::(nat_lit 243,FP P)::(nat_lit 244,FO P)::(nat_lit 250,FN P)::(nat_lit 251,FL P)::(nat_lit 257,FK P)::(nat_lit 258,FJ P)::(nat_lit 264,FI P)::(nat_lit 265,FH P)::(nat_lit 266,FG P)::(nat_lit 267,FF P)::(nat_lit 268,FE P)::(nat_lit 269,FA P)::(nat_lit 270,Fz P)::(nat_lit 278,Fy P)::(nat_lit 279,Fx P)::(nat_lit 285,HX P)::(nat_lit 286,HW P)::(nat_lit 292,HV P)::(nat_lit 293,HU P)::(nat_lit 299,HS P)::(nat_lit 300,HR P)::(nat_lit 304,HQ P)::(nat_lit 305,HP P)::(nat_lit 311,HN P)::(nat_lit 312,HM P)::(nat_lit 318,HL P)::(nat_lit 319,HK P)::(nat_lit 325,HJ P)::(nat_lit 326,HI P)::(nat_lit 332,HH P)::(nat_lit 333,HG P)::(nat_lit 337,HF P)::(nat_lit 338,HE P)::(nat_lit 342,HD P)::(nat_lit 343,HC P)::(nat_lit 349,HB P)::(nat_lit 350,HA P)::(nat_lit 356,Hz P)::(nat_lit 357,Hy P)::(nat_lit 363,Hx P)::(nat_lit 364,Hw P)::[])
noncomputable abbrev hX:Shared->Bool:=λ s=>xlAt hV [] s&&recOk (RowW.records (OpenRow.toRowW (OpenLaw.row hl))) s
end HD12
end
section
namespace HD12
open PySem PySem.W PySem.W.X PyProof.Rows L2
set_option maxHeartbeats 0
theorem Jl:∀ w,(λ os=>topGo treeTable hp w 11 hAn 12 (S0 w os) (topStub hp))=λ os=>some (SA w os,⟨denote treeTable hC,hC,⟨0,0,0,0⟩,hB⟩):=by
 rewrite [PySem.W.Fast.te15667345088766844465,Z2,PySem.W.Fast.te11892475500146522536]
 intro w; kernel_rfl
theorem Jn:∀ w,(λ os=>segRun treeTable hp w 11 hAn 1 1 (SA w os) (blockOf (behindTheImports hp) hE hC ⟨0,0,0,0⟩ hB))=λ os=>some (Flow.next,(S1 w os).abs,hC,⟨0,0,0,0⟩):=by
 rewrite [PySem.W.Fast.te14374325043358763698,Z2]
 intro w; kernel_rfl
theorem LL:∀ w,(λ os=>segRunT treeTable hp w 11 hAn 1 635 (S1 w os) (piecesOf KJ hE hC ⟨0,0,0,0⟩ hB))=λ os=>some (Flow.next,S2 w os,hC,⟨34,0,35,8⟩):=by
 rewrite [Yd,Z2]
 intro w; kernel_rfl
theorem LK:∀ w,(λ os=>segRunT treeTable hp w 11 hAn 1 640 (S2 w os) (piecesOf KI hE hC ⟨34,0,35,8⟩ hB))=λ os=>some (Flow.next,S3 w os,hC,⟨40,0,41,8⟩):=by
 rewrite [Yd,Z2]
 intro w; kernel_rfl
theorem LJ:∀ w,(λ os=>segRunT treeTable hp w 11 hAn 1 294 (S3 w os) (piecesOf KH hE hC ⟨40,0,41,8⟩ hB))=λ os=>some (Flow.next,S4 w os,hC,⟨55,0,55,4⟩):=by
 rewrite [Yd,Z2]
 intro w; kernel_rfl
theorem LI:∀ w,(λ os=>segRunT treeTable hp w 11 hAn 1 778 (S4 w os) (piecesOf KG hE hC ⟨55,0,55,4⟩ hB))=λ os=>some (Flow.next,S5 w os,hC,⟨164,0,166,67⟩):=by
 rewrite [Yd,Z2]
 intro w; kernel_rfl
theorem LH:∀ w,(λ os=>segRunT treeTable hp w 11 hAn 1 413 (S5 w os) (piecesOf KD hE hC ⟨164,0,166,67⟩ hB))=λ os=>some (Flow.next,S6 w os,hC,⟨268,0,300,15⟩):=by
 rewrite [Yd,Z2]
 intro w; kernel_rfl
theorem Jm:∀ w,(λ os=>topRun treeTable hp w 11 hAn 2 (S6 w os).abs ⟨doneF .next,hC,⟨268,0,300,15⟩,hB⟩)=λ os=>some (SF w os):=by
 rewrite [PySem.W.Fast.te14082659384304107361,Z2]
 intro w; kernel_rfl
theorem Jk (w:World) (os:OsState):topRun treeTable hp w 11 hAn (12+(1+(635+(640+(294+(778+(413+(2)))))))) (S0 w os) (topStub hp)=some (SF w os):=go_top (congrFun (Jl w) os) (piece_block (congrFun (Jn w) os) (piece_app (segRun_of (congrFun (LL w) os)) (piece_app (segRun_of (congrFun (LK w) os)) (piece_app (segRun_of (congrFun (LJ w) os)) (piece_app (segRun_of (congrFun (LI w) os)) (piece_app (segRun_of (congrFun (LH w) os)) (congrFun (Jm w) os)))))))
theorem ES:∀ w:World,((boot_heap w.params).isNs mainGlobals&&(⟨[]⟩:Array GenState).size == 0,(boot_heap w.params).objs.size,(boot_heap w.params).nsMap mainGlobals "__annotations__")=(true,11,hAn):=by
 rewrite [PySem.W.Fast.te8920871248978507458]
 intro w; kernel_rfl
theorem EU:∀ w:World,(λ os=>((staticsOk (importedModules hp.main.body) (boot_heap w.params) (hF w.params)&&namesBound hp (hF w.params)&&gensDone (SF w os)&&laidKept (boot_heap w.params) (hF w.params)),openSeen hV [] (importedModules hp.main.body) hX true (SF w os),obsZ hAs (SF w os)))=λ _=>(true,openGood hV [],valZ hK 365 675 w):=by
 rewrite [PySem.W.Fast.te5923862056798008813,PySem.W.Fast.te4187177175401517315]
 intro w; kernel_rfl
theorem EV:LeftO hp hV [] hX (obsZ hAs) (valZ hK 365 675) 5636:=LeftO.of_pieces (boot_open (p:=hp) (N:=5636) (by kernel_rfl) (by decide) (λ _=>by kernel_rfl)) ES Jk (by decide) EU
theorem ET:PySem.Challenge.rw_stylehouse_k12_walks.wellSaid=true:=by kernel_rfl
theorem EW (said:(OpenLaw.row PySem.Challenge.rw_stylehouse_k12_walks).wellSaid=true) (hw:(OpenRow.toRowW (OpenLaw.row PySem.Challenge.rw_stylehouse_k12_walks)).promised) {d:DefRec} {kwd:List (Str×Expr)} (hdef:defOf hV (OpenLaw.row PySem.Challenge.rw_stylehouse_k12_walks).name=some (d,kwd)) (hp':(OpenLaw.row PySem.Challenge.rw_stylehouse_k12_walks).prog.theDef (OpenLaw.row PySem.Challenge.rw_stylehouse_k12_walks).name=some (d.params,d.body,d.scope)) (hk:kwWritten? d.params.kwonlyargs d.params.kw_defaults=some kwd) (call:WalkX hV [] (XL hV []) (obsZ hAs) (valZ hK 365 675) (OpenRow.toRowW (OpenLaw.row PySem.Challenge.rw_stylehouse_k12_walks)) d kwd λ f vs=>PySem.call f vs):(OpenLaw.row PySem.Challenge.rw_stylehouse_k12_walks).Holds :=
 holds_openX (q:=hV) (loose:=[]) (Xt:=hX) (XP:=XL hV []) (Yf:=obsZ hAs) (Ya:=valZ hK 365 675) (N:=5636) EV (λ s e=>xl_of s (Bool.and_eq_true_iff.mp e).1) XL.keeps hdef hp' hk (λ s e=>recFacts_of (Bool.and_eq_true_iff.mp e).2) rfl said (by decide +kernel) ⟨rfl,rfl,rfl,rfl,rfl,by decide +kernel⟩ hw call
end HD12
end
section
namespace L2
open PySem PySem.Spec PyProof.Rows
section
variable {X:Cx}
def Sz (i:Int):Prop:=i.natAbs < 2 ^ 4000
theorem Sz.bits (h:Sz i):Builtin.Int.intBits i<=2 ^ 20:=Z8 (PySem.intBits_le_iff.mpr h) (by decide)
theorem Sz.log (h:Sz i):i.natAbs.log2 < 9000:=by
 by_cases z:i.natAbs=0
 · rw [z]; decide
 · exact (Nat.log2_lt z).mpr (Nat.lt_trans h (Nat.pow_lt_pow_right (by decide) (by decide)))
theorem Bj:OpR X (binaryOp .FloorDiv) (rI (λ _ j=>j≠0/\Sz j) λ i j=>.int (i.fdiv j)):=opI λ _ _ _ _ _ _ _ hc q=>floordiv_int hc.1 q (.inl (PyProof.noPylong_of_log2 hc.2.log))
end
open PySem.W in
mutual
inductive RdD (K:W.Frag) (H:Hp):V->Dat->Prop where
 | non:RdD K H .non .none
 | int (i:Int):RdD K H (.int i) (.int i)
 | str (x:Str):RdD K H (.str x) (.str x)
 | tup {a:Addr} {xs:List V} {ds:List Dat} (h:SqT K H a xs) (r:wc K H xs ds):RdD K H (.ref a) (.tuple ds)
 | lst {a:Addr} {xs:List V} {ds:List Dat} (h:SqL K H a xs) (r:wc K H xs ds):RdD K H (.ref a) (.list ds)
inductive wc (K:W.Frag) (H:Hp):List V->List Dat->Prop where
 | nil:wc K H [] []
 | cons {x:V} {d:Dat} {xs:List V} {ds:List Dat} (h:RdD K H x d) (r:wc K H xs ds):wc K H (x::xs) (d::ds)
end
section
open PySem.W
variable {X:Cx} {pins:List (Addr×Obj)} {σ:St} {H:Hp} {s:Shared}
mutual
theorem RdD.reads (I:Inv X pins σ H s):∀ {v:V} {d:Dat} {u:Value},RdD X.K H v d->RelV v u->∃ as,Reads s.heap u (kqdP d) as
 | _,_,u,.non,rv=>by cases (show u=Value.none from rv); exact ⟨_,Reads.none⟩
 | _,_,u,.int i,rv=>by obtain ⟨t,rfl⟩:=(show ∃ t,u=Value.int i t from rv); exact ⟨_,Reads.int i t⟩
 | _,_,u,.str x,rv=>by obtain ⟨t,rfl⟩:=(show ∃ t,u=Value.str x t from rv); exact ⟨_,Reads.str x t⟩
 | _,_,u,@RdD.tup _ _ a xs ds h r,rv=>by
  cases (show u=Value.ref a from rv);obtain ⟨its,vs,p,_⟩:=I.tuple h;obtain ⟨as,q⟩:=wc.reads I r vs;obtain ⟨o,h1,h2,n,h3⟩:=p;rw [kqdP];exact ⟨as,reads_tuple_at h1 h2 h3 (by simpa using q)⟩
 | _,_,u,@RdD.lst _ _ a xs ds h r,rv=>by
  cases (show u=Value.ref a from rv);obtain ⟨its,vs,p,_⟩:=I.list h;obtain ⟨as,q⟩:=wc.reads I r vs;obtain ⟨o,h1,h2,n,h3⟩:=p.isList;rw [kqdP];exact ⟨a::as,reads_list_at h1 h2 h3 (by simpa using q)⟩
theorem wc.reads (I:Inv X pins σ H s):∀ {vs:List V} {ds:List Dat} {us:List Value},wc X.K H vs ds->be vs us->∃ as,ReadsAll s.heap us (kqdPs ds) as
 | _,_,_,.nil,.nil=>by rw [kqdPs]; exact ⟨_,ReadsAll.nil⟩
 | _,_,_,.cons h r,.cons rv rs=>by
  obtain ⟨as,q⟩:=RdD.reads I h rv;obtain ⟨bs,p⟩:=wc.reads I r rs;rw [kqdPs];exact ⟨_,ReadsAll.cons q p⟩
end
theorem fJ (h:kqdOk 9 d=true):SeqAt.shaped (kqdP d)=true:=by
 have la:=kqd_lay 9 d h;unfold SeqAt.shaped;rw [la.1,Bool.true_and];exact Zs (Z8 la.2 (by decide))
open Classical in
theorem vj (h:kqdOk 9 d=true) (h':kqdOk 9 e=true):PyData.eqv (kqdP d) (kqdP e)=decide (d=e):=by
 have q:=kqd_eqv 9 d e 9 h h'
 by_cases hq:d=e
 · rw [Zs hq]; exact q.mpr hq
 · rw [Zq hq]; exact Bool.eq_false_iff.mpr λ x=>hq (q.mp x)
open Classical in
noncomputable def eqD (d e:Dat):Bool:=decide (d=e)
open Classical in
theorem yq (h:d=e):eqD d e=true:=Zs h
open Classical in
theorem vk (h:d≠e):eqD d e=false:=Zq h
def K7 (K:W.Frag):R2:=λ x y H Q=>∃ d e,RdD K H x d/\RdD K H y e/\kqdOk 9 d=true/\kqdOk 9 e=true/\Q (.bl (eqD d e)) H
def K3 (K:W.Frag):R2:=λ x y H Q=>∃ d e,RdD K H x d/\RdD K H y e/\kqdOk 9 d=true/\kqdOk 9 e=true/\Q (.bl (!eqD d e)) H
theorem Ee (hu:X.A.units+64 < cLine):OpR X (compareOp .Eq) (K7 X.K):=by
 intro pins s σ H x y v u Q I rx ry h;obtain ⟨d,e,hd,he,kd,ke,q⟩:=h;obtain ⟨as,ra⟩:=hd.reads I rx;obtain ⟨bs,rb⟩:=he.reads I ry;refine eq_dataH ra rb (fJ kd) (fJ ke) hu ⟨.bl _,H,I,rfl,?_⟩;rw [vj kd ke];exact q
theorem Ec (hu:X.A.units+64 < cLine):OpR X (compareOp .NotEq) (K3 X.K):=by
 intro pins s σ H x y v u Q I rx ry h;obtain ⟨d,e,hd,he,kd,ke,q⟩:=h;obtain ⟨as,ra⟩:=hd.reads I rx;obtain ⟨bs,rb⟩:=he.reads I ry;refine ne_dataH ra rb (fJ kd) (fJ ke) hu ⟨.bl _,H,I,rfl,?_⟩;rw [vj kd ke];exact q
end
theorem bz.tup {K:W.Frag} {H H':Hp} {a:Addr} {xs:List V} (e:bz H H') (h:SqT K H a xs):SqT K H' a xs:=by
 rcases h with (h | ⟨o,h⟩) | h
 · exact .inl (.inl (e _ _ h))
 · exact .inl (.inr ⟨o,e _ _ h⟩)
 · exact .inr h
theorem aw (h:H p=none) (o:HO):bz H (upd H p o):=λ b u q=>by rw [ai (cZ q h)]; exact q
end L2
namespace L2
theorem BZ {A B:Prop} (e:b=true) (h:A):if b=true then A else B:=by grind
theorem B0 {A B:Prop} (e:b=false) (h:B):if b=true then A else B:=by grind
end L2
end
section
namespace L2
open PySem PySem.Spec PyProof.Rows
section
variable {prog:Program} {w:World} {A:Around} {R:Result->Shared->Prop} {s:Shared}
theorem nu (I:Nat->Shared->Prop)
  (turn:∀ n s,I n s->wpAny (model prog w) A (pyNext it) (λ r s₁=>match r with
    | none=>R (.ok .next) s₁
    | some v=>wpAny (model prog w) A (letOwnedTupleGo target it v) (λ _ s₁'=>wpAny (model prog w) A (assign target env v) (λ _ s₂=>wpAny (model prog w) A (eval elt env) (λ x s₃ =>
     wpAny (model prog w) A (call (.builtin "list.append") [acc,x]) (λ _ s₄=>∃ m,m < n/\I m s₄) (λ _ _=>False) s₃) (λ _ _=>False) s₂) (λ _ _=>False) s₁') (λ _ _=>False) s₁) (λ _ _=>False) s)
  (n:Nat) (h:I n s) :
  codeAny (model prog w) A (.compLoop (.ListComp elt [⟨target,iter,[],0⟩] scope pos) 0 it acc env) R s:=by
 refine codeAny_loop rfl I (λ n s hI=>?_) n h;refine wpAny_noted ?_
 rw [compTurn_list1];refine Zv (wpAny_standAt (Zv (Yc (turn n s hI) (λ r s₁ h₁=>?_) λ _ _ h'=>h'.elim)))
 cases r with
 | none=>exact Z6 h₁
 | some v =>
  refine Zv (Yc h₁ (λ _ s₁' h₁'=>?_) λ _ _ h'=>h'.elim)
  exact Zv (Yc h₁' (λ _ s₂ h₂=>Zv (Zv (Yc h₂ (λ x s₃ h₃=>Zv (Yc h₃
    (λ _ s₄ h₄=>Z6 (Z6 ⟨rfl,h₄⟩)) λ _ _ h'=>h'.elim)) λ _ _ h'=>h'.elim))) λ _ _ h'=>h'.elim)
end
def bp (X:Cx) (scope:Scope) (cl:List (Str×Addr)) (N:List Str) (s:Shared) (H:Hp) (fp:List Addr) (C:Addr):Cx where
 prog:=X.prog
 w:=X.w
 K:=X.K
 mg:=X.mg
 base:=X.base
 A:=X.A
 N:=N
 s₀:=s
 H₀:=H
 env:=compEnvC scope cl C X.env
 outer:=X.stack
 stack:=X.stack
 ex:=fp
 calm:=X.calm
 fn:=λ _=>false
 pn:=[]
 xe:=λ _ _=>False
structure cC (X:Cx) (scope:Scope) (cl:List (Str×Addr)) (x:Str) (cs:List (Str×Nat)):Prop where
 Gm:closureFor scope X.env=pure cl
 kind:scope.kind=.function
 pQ:∀ y ∈ scope.names,y.2≠.cell
 names:∀ y ∈ scope.names,y.2=.local->scope.names.lookup y.1=some .local
 own:scope.names.lookup x=some .local
 sub:∀ y c,cl.lookup y=some c->X.env.cells.lookup y=some c
 has:∀ y,((relabel scope X.env).names.lookup y=some .cell\/(relabel scope X.env).names.lookup y=some .free)->∃ c,cl.lookup y=some c
 Jx:∀ p ∈ cs,X.N[p.2]?=some p.1/\(X.env.kindOf p.1=some .cell\/X.env.kindOf p.1=some .free)/\((relabel scope X.env).names.lookup p.1=some .cell\/(relabel scope X.env).names.lookup p.1=some .free)
 nd:(x::cs.map (·.1)).Nodup
def aH (σ:St) (cs:List (Str×Nat)):St:=cs.map λ p=>(σ[p.2]?).join
section
variable {X:Cx} {pins:List (Addr×Obj)} {σ:St} {H:Hp} {s:Shared} {scope:Scope} {cl:List (Str×Addr)} {x:Str} {cs:List (Str×Nat)} {fp:List Addr} {C:Addr} {h':Heap} {t':Nat}
theorem lg (O:cC X scope cl x cs) (I:Inv X pins σ H s) (f2:∀ b ∈ fp,sg X pins H b) (there:∀ b ∈ fp,b < s.heap.objs.size) (hC:s.heap.objs.size<=C)
  (old:∀ b o,s.heap.get? b=some o->h'.get? b=some o) (hn:h'.Ns C λ _=>none) :
  Inv (bp X scope cl (x::cs.map (·.1)) s H fp C) [] (none::aH σ cs) H { s with heap:=h',toks:=t' }:=by
 refine ⟨⟨I.ok.mod,O.kind,I.ok.glob,I.ok.blt,hC,λ y z c h1 h2=>I.ok.inj y z c (O.sub y c h1) (O.sub z c h2),λ y hy=>O.has y hy,λ _ _ h=>absurd (h) Zf,I.ok.hd,I.ok.frames,.inl rfl,
   λ b hb=>⟨Zz (Zu (there b hb) hC),λ y c e=>(f2 b hb).2.2.2.2.1 y c (O.sub y c e)⟩,I.bs,Z8 I.ok.bsz I.sz,λ b o e hb=>?_,λ b hb z=>?_,I.stack,I.iy⟩,
  rfl,I.bare,Un.kept old,⟨_,hn,λ i y v e1 e2 e3=>?_⟩,λ y c e=>?_,I.hok.fresh hC,λ y c e=>I.gw y c (O.sub y c e),λ p hp=>absurd (show p ∈ ([]:List (Addr×Obj)) from hp) (by simp),I.hok.kept old,?_⟩
 ·rcases (f2 b hb).2.2.2.1 with z | z
  · exact I.ok.Bo b o e z
  · exact absurd (Zu (Zr e) (Z8 I.ok.bsz z)) (Yn _)
 · exact (Zh.mp (I.dF b z)).elim (f2 b hb).2.1 (f2 b hb).2.2.1
 ·cases i with
  | zero=>simp at e2
  | succ j =>
   have e1':(cs.map (·.1))[j]?=some y:=by simpa [bp] using e1
   have e2':(aH σ cs)[j]?=some (some v):=by simpa using e2
   unfold aH at e2';rw [List.getElem?_map] at e1' e2'
   cases q:cs[j]? with
   | none=>rw [q] at e1'; cases e1'
   | some p =>
    rw [q] at e1' e2';have ey:p.1=y:=by simpa using e1'
    have ev:(σ[p.2]?).join=some v:=by simpa using e2'
    have ev':σ[p.2]?=some (some v):=by
     cases z:σ[p.2]? with
     | none=>rw [z] at ev; cases ev
     | some o=>rw [z] at ev; exact Yo some ev
    obtain ⟨c1,c2,c3⟩:=O.Jx p (List.mem_of_getElem? q);subst ey;obtain ⟨m,hm,hl⟩:=I.loc
    obtain ⟨u,ru,lk⟩:=hl p.2 p.1 v c1 ev' (by
     rcases c2 with c2 | c2
     · exact .inr (.inl c2)
     · exact .inr (.inr c2))
    obtain ⟨c',ec'⟩:=O.has p.1 c3;refine ⟨u,ru,.inr ⟨c3,c',ec',?_⟩⟩;rcases lk with ⟨k,_⟩ | ⟨_,c,ec,o,ho,hd⟩
    ·rcases c2 with c2 | c2
     · rw [c2] at k; cases k
     · rw [c2] at k; cases k
    ·have:=O.sub p.1 c' ec'
     rw [ec] at this;cases this;exact ⟨o,old _ o ho,hd⟩
 ·obtain ⟨v,o,ho,hd⟩:=I.cell y c (O.sub y c e)
  exact ⟨v,o,old c o ho,hd⟩
 · simp [bp,aH]
end
def C7 (J:It) (te:TE) (cs:List (Str×Nat)) (σ:St) (Q:VK) (H1:Hp):Prop:=∃ W:Nat->Nat->List V->Hp->Prop,(∃ m,W 0 m [] H1)/\∀ i m ys H',W i m ys H' ->
 (J.stop i H'/\ys.length<=sizeLine/\∀ p,H' p=none->Q (.ref p) (upd H' p (.lst ys))) \/
 (J.go i H'/\ys.length < sizeLine/\∀ v H2,J.yld i H' v H2->te (some v::aH σ cs) H2 λ y H3=>∃ m',m' < m/\W (i+1) m' (ys++[y]) H3)
def C8 (wi:TI) (te:TE) (cs:List (Str×Nat)):TE:=λ σ H Q=>wi σ H λ J H1=>C7 J te cs σ Q H1
section
variable {X:Cx}
theorem rO {elt iter:Expr} {x:Str} {px pos:Pos} {scope:Scope} {cl:List (Str×Addr)} {cs:List (Str×Nat)} {te:TE} {pins:List (Addr×Obj)} {σ:St} {H:Hp} {s:Shared} {Q:VK} {it:Addr} {fp:List Addr} {tn:Nat->Heap->Prop} {J:It}
  {RR:Value->Addr->Result->Shared->Prop} {E:Value->Shared->Prop} (hc:X.calm=true) (O:cC X scope cl x cs) (he:∀ s H fp C,PE (bp X scope cl (x::cs.map (·.1)) s H fp C) elt te)
  (I:Inv X pins σ H s) (T:Turn X.prog X.w X.K (.Name x px) J fp it tn) (st:tn 0 s.heap) (f2:∀ b ∈ fp,sg X pins H b)
  (h : ∃ W:Nat->Nat->List V->Hp->Prop,(∃ m,W 0 m [] H)/\∀ i m ys H',W i m ys H' ->
    (J.stop i H'/\ys.length<=sizeLine/\∀ p,H' p=none->Q (.ref p) (upd H' p (.lst ys))) \/
    (J.go i H'/\ys.length < sizeLine/\∀ v H2,J.yld i H' v H2->te (some v::aH σ cs) H2 λ y H3=>∃ m',m' < m/\W (i+1) m' (ys++[y]) H3))
  (hRR:∀ D C s' H' ys,s.heap.objs.size<=D->s.heap.objs.size<=C->D≠C->(∃ m,s'.heap.Ns C m)->Inv X pins σ (upd H' D (.lst ys)) s'->H' C=none->Q (.ref D) (upd H' D (.lst ys))->RR (.ref D) C (.ok .next) s') :
  wpAny (model X.prog X.w) X.A (newList []) (λ acc s₃=>wpAny (model X.prog X.w) X.A (newFunctionEnv scope X.env.globals cl [] X.env.qual none .none (some X.env)) (λ cenv s₄ =>
    codeAny (model X.prog X.w) X.A (.compStart (.ListComp elt [⟨.Name x px,iter,[],0⟩] scope pos) 0 (.ref it) acc { cenv with scope:=relabel scope X.env }) (RR acc cenv.locals) s₄) E s₃) E s:=by
 obtain ⟨W,⟨m0,w0⟩,turn⟩:=h;refine wpAny_newObj_type (wpAny_newFunctionEnv O.pQ (by intro y hy; simp at hy) (λ h₁ hns₁ hsb₁=>?_) O.kind);generalize hH2:s.heap.push { cls:=.type "list",dict:=none,data:=.seq ([]:List Value).toArray }=H2 at hns₁ hsb₁ ⊢
 have hC:H2.objs.size=s.heap.objs.size+1:=by rw [<- hH2,Xe]
 have hDC:s.heap.objs.size≠H2.objs.size:=by rw [hC]; exact Zz (Y4 _)
 have hCle:s.heap.objs.size<=H2.objs.size:=by rw [hC]; exact Nat.le_succ _
 have neC:∀ b,b < s.heap.objs.size->b≠H2.objs.size:=λ b hb=>by rw [hC]; exact Zz (Nat.lt_succ_of_lt hb)
 have old:∀ b o,s.heap.get? b=some o->h₁.get? b=some o:=λ b o e=>hsb₁.extBut b o (neC b (Zr e)) (Heap.get?_push_of_some _ (hH2 ▸ Heap.get?_push_of_some _ e))
 have hacc:=hsb₁.extBut _ _ hDC (Heap.get?_push_of_some _ (hH2 ▸ Heap.get?_push_size _ rfl))
 have there:∀ b ∈ fp,b < s.heap.objs.size:=λ b hb=>by
  obtain ⟨o,e,_⟩:=T.obj _ _ st b hb;exact Zr e
 have hns:h₁.Ns H2.objs.size λ _=>none:=by
  have e:(λ x=>List.lookup x ([]:List (Str×Value)).reverse)=λ _=>none:=by funext y; rfl
  rw [e] at hns₁
  exact hns₁
 generalize hD:s.heap.objs.size=D at hDC hCle hacc;generalize hCC:H2.objs.size=C at hDC hCle hns ⊢;have FD:=I.wj (b:=D) (by rw [<- hD]; exact Zl _) (I.hok.fresh (by rw [<- hD]; exact Zl _));have nfpD:∀ b ∈ fp,b≠D:=λ b hb=>by rw [<- hD]; exact Zz (there b hb)
 have nfpC:∀ b ∈ fp,b≠C:=λ b hb=>Zz (Zu (there b hb) (by rw [hD]; exact hCle))
 have st1:=T.keep _ _ _ st λ b _ o e=>old b o e
 have I1:Inv (bp X scope cl (x::cs.map (·.1)) s H fp C) [] (none::aH σ cs) H { s with heap:=h₁,toks:=s.toks+([]:List (Str×Value)).length } :=
  lg O I f2 there (by rw [hD]; exact hCle) old hns
 generalize hY:bp X scope cl (x::cs.map (·.1)) s H fp C=Y at I1
 have pgx:PG Y (.Name x px) (m6 0):=by
  subst hY;exact gr O.nd rfl (.inl (Xf O.own)) (.inr (Xf O.own))
 have peY:PE Y elt te:=by subst hY; exact he _ _ _ _
 have Yx:Y.prog=X.prog/\Y.w=X.w/\Y.K=X.K/\Y.A=X.A/\Y.env=compEnvC scope cl C X.env/\Y.calm=X.calm/\Y.xe=(λ _ _=>False)/\Y.pn=[]/\Y.ex=fp/\Y.fs=frs X.stack/\Y.s₀=s/\Y.H₀=H:=by subst hY; exact ⟨rfl,rfl,rfl,rfl,rfl,rfl,rfl,rfl,rfl,rfl,rfl,rfl⟩
 obtain ⟨y1,y2,y3,y4,y5,y6,y7,y8,y9,y10,y11,y12⟩:=Yx;have nstk:∀ b,b≠X.env.locals->b ∉ X.fs->b ∉ Y.fs:=λ b h1 h2 z=>by rw [y10] at z; exact (Zh.mp (I.dF b z)).elim h1 h2
 have yl:Y.env.locals=C:=by rw [y5]; rfl
 have yc:∀ z c,Y.env.cells.lookup z=some c->X.env.cells.lookup z=some c:=λ z c e=>by rw [y5] at e; exact O.sub z c e
 have stat:∀ {ps:List (Addr×Obj)} {H':Hp},(∀ b ∈ fp,H' b=none)->(∀ p ∈ ps,p.1=D)->∀ b ∈ fp,sg Y ps H' b:=λ {ps H'} hn hp b hb =>
  ⟨hn b hb,by rw [yl]; exact nfpC b hb,nstk b (f2 b hb).2.1 (f2 b hb).2.2.1,.inl (by rw [y9]; exact hb),λ z c e=>(f2 b hb).2.2.2.2.1 z c (yc z c e),λ p hq=>by
    rw [y8,List.nil_append] at hq;rw [hp p hq]
    exact Ne.symm (nfpD b hb)⟩
 have pinD:∀ {σ':St} {H':Hp} {s':Shared} {ob:Obj},Inv Y [] σ' H' s'->H' D=none->s'.heap.get? D=some ob->(∀ v,ob.data≠.cell v)->Inv Y [(D,ob)] σ' H' s':=λ {σ' H' s' ob} I' hn e hd =>
  I'.gq λ p hp=>by
    have e1:p=(D,ob):=by simpa using hp
    subst e1;exact ⟨e,hn,by rw [yl]; exact hDC,nstk D FD.2.1 FD.2.2.1,hd⟩
 have loop:∀ s₃:Shared,s₃={ s with heap:=h₁,toks:=s.toks+([]:List (Str×Value)).length } ->
    codeAny (model X.prog X.w) X.A (.compLoop (.ListComp elt [⟨.Name x px,iter,[],0⟩] scope pos) 0 (.ref it) (.ref D) (compEnvC scope cl C X.env)) (RR (.ref D) C) s₃:=by
  rintro s₃ rfl
  refine nu (λ n s'=>∃ i o H' ys its k,Inv Y [] (o::aH σ cs) H' s'/\tn i s'.heap/\(∀ b ∈ fp,H' b=none)/\H' D=none/\s'.heap.get? D=some { cls:=.type "list",data:=.seq (its:List Value).toArray k }/\be ys its/\W i n ys H') ?_ m0
    ⟨0,none,H,[],[],0,I1,st1,λ b hb=>(f2 b hb).1,FD.1,hacc,.nil,w0⟩
  rintro n s3 ⟨i,o,H3,ys,its,k,I3,st3,fr3,frD,e3,vs3,w3⟩
  have I3p:=pinD I3 frD e3 (by intro v z; cases z)
  have onlyD:∀ p ∈ [(D,({ cls:=.type "list",data:=.seq its.toArray k }:Obj))],p.1=D:=λ p hp=>by
    have e1:=Zn.mp hp;rw [e1]
  rcases turn i n ys H3 w3 with ⟨stop,hz,q⟩ | ⟨go,hz,step⟩
  · have dn:=T.done Y y1 y2 y3 (by rw [y6]; exact hc) i _ s3 (o::aH σ cs) H3 (λ _ _=>False) I3p (stat fr3 onlyD) st3 stop
    rw [y4] at dn;refine thn dn λ r s4 ⟨hr,I4⟩=>?_
    subst hr;obtain ⟨e4,_⟩:=I4.pin (D,_) (Zd _ (Zn.mpr rfl));have b4:=I4.base;rw [y9,y10,y11,y12] at b4;have hk4:=I4.hok;rw [y1,y2] at hk4;have hCn:H3 C=none:=by have:=I4.free; rw [yl] at this; exact this
    refine hRR D C s4 H3 ys (by rw [<- hD]; exact Zl _) (by rw [hD]; exact hCle) hDC (by obtain ⟨m,hm,_⟩:=I4.loc; rw [yl] at hm; exact ⟨m,hm⟩) ?_ hCn (q D frD);have neD:∀ b o,s.heap.get? b=some o->b≠D:=λ b o e=>by rw [<- hD]; exact Zz (Zr e)
    have neDH:∀ b u,H b=some u->b≠D:=λ b u e=>by rw [<- hD]; exact Zz (I.hok.lt e)
    refine I.Cj (by have:=I4.os; rw [y11] at this; exact this) ⟨b4.keep,b4.slot,λ b o e n hx=>?_,b4.there,λ b xs e=>?_,λ b o u e=>?_,λ b ps e=>?_⟩ (λ b u e=>?_) I4.bare λ b hb=>?_
    · rw [ai (neD b o e)]; exact b4.free b o e n hx
    · rw [ai (neDH b _ e)]; exact b4.nQ b xs e
    · rw [ai (neDH b _ e)]; exact b4.nM b o u e
    · rw [ai (neDH b _ e)]; exact b4.nS b ps e
    ·have t1:∀ c u,H3 c=some u->upd H3 D (.lst ys) c=some u:=λ c u z=>by
      rw [ai (λ zz=>by rw [zz,frD] at z; cases z)];exact z
     by_cases hb:b=D
     ·subst hb
      rw [ao] at e;cases e;exact ⟨hz,its,k,vs3,e4⟩
     ·rw [ai hb] at e
      exact (hk4 b u e).sM (λ _ _ _ z=>z) (λ c z=>t1 c _ z) λ c xs z=>t1 c _ z
    · exact ⟨(f2 b hb).2.2.2.1,(f2 b hb).2.1,(f2 b hb).2.2.2.2.1,(f2 b hb).2.2.2.2.2⟩
  · have im:=T.item Y y1 y2 y3 (by rw [y6]; exact hc) i _ s3 (o::aH σ cs) H3 (λ _ _=>False) I3p (stat fr3 onlyD) st3 go
    rw [y4] at im;refine thn im λ r s4 ⟨u,hr,h4⟩=>?_
    subst hr;refine thn h4 λ _ s5 ⟨v,H5,I5,r5,y5',st5,fr5⟩=>?_
    have I5':=I5.pinned (stat fr5 onlyD) (T.obj _ _ st5);have as:=pgx _ s5 (o::aH σ cs) H5 v u _ I5' r5 (show m6 0 v (o::aH σ cs) H5 (λ σ' H'=>σ'=some v::aH σ cs/\H'=H5) from ⟨rfl,rfl⟩);rw [y1,y2,y4,y5,y7] at as;refine thn as λ _ s6 ⟨σ6,H6,I6,e6,e6'⟩=>?_
    subst e6 e6';have el:=peY _ s6 _ H6 _ I6 (step v H6 y5');rw [y1,y2,y4,y5,y7] at el;refine thn el λ u7 s7 ⟨y7',H7,I7,r7,m',hm',w7⟩=>?_
    obtain ⟨e7,n7,_⟩:=I7.pin (D,_) (Zd _ (Zk _ (Zn.mpr rfl)));have hl3:=vs3.length;refine Xo F.slot_list_append ⟨_,e7,rfl⟩ F.entry_list_append (F.args_list_append_2 _ _) (PySem.list_append D its.toArray k u7 (by rw [Zp]; omega)) ⟨e7,?_⟩;obtain ⟨k',up⟩:∃ k',(s7.heap.update D (Obj.mapSeq (·.push u7))).get? D=some { cls:=.type "list",data:=.seq (its.toArray.push u7) k' }:=⟨_,PySem.IsL.update e7 (·.push u7)⟩
    have fpk:∀ b ∈ fp,∀ o,s5.heap.get? b=some o->s7.heap.get? b=some o/\H7 b=none:=λ b hb o e=>by
     obtain ⟨z1,z2,_⟩:=I7.pin (b,o) (Zd _ (Zd _ (dI hb e)));exact ⟨z1,z2⟩
    have I7n:Inv Y [] (some v::aH σ cs) H7 s7:=I7.gq λ p hp=>absurd hp (by simp)
    refine ⟨m',hm',i+1,some v,H7,ys++[y7'],its++[u7],k',?_,?_,?_,n7,?_,vs3.append (.cons r7 .nil),w7⟩
    ·refine I7n.turned (λ b o hb e=>(Heap.get?_update_other s7.heap (Obj.mapSeq (·.push u7)) (Ne.symm hb)).trans e) n7 (by rw [yl]; exact hDC) (.inr (by rw [y11,<- hD]; exact Zl _)) (λ z c e=>FD.2.2.2.2.1 z c (yc z c e)) λ p hp=>?_
     rw [y8] at hp;exact absurd hp (by simp)
    ·refine T.keep _ _ _ st5 λ b hb o e=>?_
     exact (Heap.get?_update_other s7.heap (Obj.mapSeq (·.push u7)) (Ne.symm (nfpD b hb))).trans (fpk b hb o e).1
    ·intro b hb
     obtain ⟨o',e',_⟩:=T.obj _ _ st5 b hb;exact (fpk b hb o' e').2
    ·rw [List.push_toArray] at up
     exact up
 exact codeAny_compStart_list (loop _ rfl) (T.self _ 0 _ _ _ st1 (loop _ rfl))
theorem A4 {elt iter:Expr} {x:Str} {px pos:Pos} {scope:Scope} {cl:List (Str×Addr)} {cs:List (Str×Nat)} {wi:TI} {te:TE} (hc:X.calm=true) (O:cC X scope cl x cs) (hi:PI X (.Name x px) iter wi)
  (he:∀ s H fp C,PE (bp X scope cl (x::cs.map (·.1)) s H fp C) elt te) (hs:∀ x,foldedSetIterable iter X.env x=pure x:=by intro _; rfl) :
  PE X (.ListComp elt [⟨.Name x px,iter,[],0⟩] scope pos) (C8 wi te cs):=by
 intro pins s σ H Q I h;rw [eval_ListComp];refine wpAny_comprehension_free rfl hs O.Gm O.kind O.names (thn (hi pins s σ H _ I h) λ v s1 h1=>thn h1 λ itv s2 h2=>?_);obtain ⟨it,fp,tn,J,H2,rfl,I2,T,st2,f2,hw⟩:=h2;refine rO hc O he I2 T st2 f2 hw λ D C s' H' ys hD hC hDC ⟨m,hm⟩ I' hn q=>?_
 refine ⟨m,hm,λ h' hs'=>?_⟩;have hn':upd H' D (.lst ys) C=none:=by rw [ai (Ne.symm hDC)]; exact hn
 have FC:=I2.wj hC hn';exact ⟨.ref D,upd H' D (.lst ys),I'.turned (λ b o hb e=>(hs'.2 b hb).trans e) hn' FC.2.1 FC.2.2.2.1 FC.2.2.2.2.1 FC.2.2.2.2.2,rfl,q⟩
end
theorem Ci (h1:scope.kind=.function) (h2:∀ y ∈ scope.names,y.2≠.cell) (h3:∀ y ∈ scope.names,y.2≠.free) (h4:∀ y ∈ scope.names,y.2=.local->scope.names.lookup y.1=some .local) (h5:scope.names.lookup x=some .local) :
  cC X scope [] x [] where
 Gm:=closureFor_none h3
 kind:=h1
 pQ:=h2
 names:=h4
 own:=h5
 sub:=λ _ _ e=>by cases e
 has := λ y hy=>by
  have rel:(relabel scope X.env).names=scope.names:=by
   exact map_eq_self λ z hz=>by
    obtain ⟨n,k⟩:=z;have:(k == NameKind.free)=false:=by simpa using h3 _ hz
    simp [this]
  rw [rel] at hy;rcases hy with hy | hy
  · exact absurd rfl (h2 _ (Yj hy))
  · exact absurd rfl (h3 _ (Yj hy))
 Jx:=λ _ h=>by cases h
 nd:=by simp
section
variable {κ:Type} [DecidableEq κ]
def b7 (kvs:List (κ×V)) (k:κ):Option V:=(kvs.find? λ kv=>decide (kv.1=k)).map (·.2)
def putK (kvs:List (κ×V)) (k:κ) (v:V):List (κ×V) :=
 if (kvs.any λ kv=>decide (kv.1=k))=true then kvs.map (λ kv=>if kv.1=k then (kv.1,v) else kv) else kvs++[(k,v)]
def lZ (kvs:List (κ×V)) (k:κ):List (κ×V):=kvs.filter λ kv=>decide (kv.1≠k)
theorem bK {p:κ×V} {r:List (κ×V)} {k:κ} (e:p.1=k):b7 (p::r) k=some p.2:=by simp [b7,List.find?_cons,e]
theorem bL {p:κ×V} {r:List (κ×V)} {k:κ} (e:¬ p.1=k):b7 (p::r) k=b7 r k:=by simp [b7,List.find?_cons,e]
theorem fI (k:κ):∀ kvs:List (κ×V),(kvs.any λ kv=>decide (kv.1=k))=(b7 kvs k).isSome
 | []=>rfl
 | p::r=>by
  rw [Xb]
  by_cases e:p.1=k
  · simp only [bK e,Zs e,Bool.true_or,Option.isSome_some]
  · rw [bL e,Zq e,Bool.false_or]; exact fI k r
theorem pq (k j:κ) (y:V):∀ kvs:List (κ×V),b7 (kvs.map λ kv=>if kv.1=k then (kv.1,y) else kv) j=(b7 kvs j).map λ x=>if j=k then y else x
 | []=>rfl
 | p::r=>by
  have ih:=pq k j y r;rw [Zg]
  by_cases h:p.1=k
  ·rw [if_pos h]
   by_cases e:p.1=j
   · rw [bK (p:=(p.1,y)) e,bK e,Y9,if_pos (e.symm.trans h)]
   · rw [bL (p:=(p.1,y)) e,bL e,ih]
  ·rw [if_neg h]
   by_cases e:p.1=j
   · rw [bK (p:=p) e,bK e,Y9,if_neg (λ z=>h (e.trans z))]
   · rw [bL (p:=p) e,bL e,ih]
theorem mr (k j:κ) (y:V):∀ kvs:List (κ×V),b7 kvs k=none->b7 (kvs++[(k,y)]) j=if j=k then some y else b7 kvs j
 | [],_=>by
  by_cases e:k=j
  · rw [if_pos e.symm]; exact bK (p:=(k,y)) e
  · rw [if_neg (λ z=>e z.symm)]; exact bL (p:=(k,y)) e
 | p::r,hn=>by
  rw [List.cons_append];have hk:¬ p.1=k:=λ z=>by rw [bK z] at hn; cases hn
  rw [bL hk] at hn;have ih:=mr k j y r hn
  by_cases e:p.1=j
  · rw [bK e,bK e,if_neg (λ z=>hk (e.trans z))]
  · rw [bL e,bL e,ih]
theorem wt (kvs:List (κ×V)) (k j:κ) (y:V):b7 (putK kvs k y) j=if j=k then some y else b7 kvs j:=by
 unfold putK
 by_cases a:(kvs.any λ kv=>decide (kv.1=k))=true
 ·rw [if_pos a,pq]
  rw [fI] at a
  by_cases e:j=k
  ·obtain ⟨x,hx⟩:=Yp.mp a
   rw [if_pos e,e,hx,Y9,if_pos rfl]
  ·rw [if_neg e]
   cases b7 kvs j with
   | none=>rfl
   | some x=>rw [Y9,if_neg e]
 ·rw [if_neg a]
  refine mr k j y kvs ?_
  rw [fI] at a
  cases q:b7 kvs k with
  | none=>rfl
  | some x=>rw [q] at a; exact (a rfl).elim
theorem gu (kvs:List (κ×V)) (k:κ) (v:V):(putK kvs k v).length<=kvs.length+1:=by
 unfold putK;split
 · rw [Za]; omega
 · rw [Z1,Zx,Xa]; omega
theorem nK.jW {o:Option V} {u:Option Value} (r:nK o u):o.isSome=u.isSome:=by
 cases o with
 | none=>cases u with
  | none=>rfl
  | some _=>exact (show False from r).elim
 | some _=>cases u with
  | none=>exact (show False from r).elim
  | some _=>rfl
theorem KV.val {kvs:List (κ×V)} {vs:List (κ×Value)} (r:KV kvs vs) (k:κ):nK (b7 kvs k) (valueAt vs k):=by
 unfold KV at r
 induction r with
 | nil=>exact True.intro
 | @cons p q ps qs h t ih =>
  obtain ⟨h1,h2⟩:=h
  by_cases e:p.1=k
  ·have e':q.1=k:=h1.symm.trans e
   have b:valueAt (q::qs) k=some q.2:=by simp [valueAt,List.find?_cons,e']
   rw [bK e,b]; exact h2
  ·have e':¬ q.1=k:=λ z=>e (h1.trans z)
   have b:valueAt (q::qs) k=valueAt qs k:=by simp [valueAt,List.find?_cons,e']
   rw [bL e,b]; exact ih
theorem KV.any {kvs:List (κ×V)} {vs:List (κ×Value)} (r:KV kvs vs) (k:κ):(kvs.any λ kv=>decide (kv.1=k))=vs.any λ kv=>decide (kv.1=k):=by
 unfold KV at r
 induction r with
 | nil=>rfl
 | cons h t ih=>rw [Xb,Xb,ih,h.1]
theorem KV.GQ {kvs:List (κ×V)} {vs:List (κ×Value)} (r:KV kvs vs) (k:κ) {y:V} {u:Value} (ry:RelV y u) :
  KV (kvs.map λ kv=>if kv.1=k then (kv.1,y) else kv) (vs.map λ kv=>if kv.1=k then (kv.1,u) else kv):=by
 unfold KV at r ⊢
 induction r with
 | nil=>exact .nil
 | @cons p q ps qs h t ih =>
  rw [Zg,Zg];refine .cons ?_ ih;obtain ⟨h1,h2⟩:=h
  by_cases e:p.1=k
  · rw [if_pos e,if_pos (h1.symm.trans e)]; exact ⟨h1,ry⟩
  · rw [if_neg e,if_neg (λ z=>e (h1.trans z))]; exact ⟨h1,h2⟩
theorem KV.put {kvs:List (κ×V)} {vs:List (κ×Value)} (r:KV kvs vs) (k:κ) {y:V} {u:Value} (ry:RelV y u):KV (putK kvs k y) (stored vs k u):=by
 unfold putK stored;rw [r.any k]
 by_cases e:(vs.any λ kv=>decide (kv.1=k))=true
 · rw [if_pos e,if_pos e]; exact r.GQ k ry
 · rw [if_neg e,if_neg e]; exact Paired.snoc r ⟨rfl,ry⟩
theorem KV.drop {kvs:List (κ×V)} {vs:List (κ×Value)} (r:KV kvs vs) (k:κ):KV (lZ kvs k) (without vs k):=by
 unfold KV at r ⊢;unfold lZ without
 induction r with
 | nil=>exact .nil
 | @cons p q ps qs h t ih =>
  obtain ⟨h1,h2⟩:=h;rw [List.filter_cons,List.filter_cons]
  by_cases e:p.1=k
  ·have a:¬ decide (p.1≠k)=true:=by simp [e]
   have b:¬ decide (q.1≠k)=true:=by simp [h1.symm.trans e]
   rw [if_neg a,if_neg b]; exact ih
  ·have e':¬ q.1=k:=λ z=>e (h1.trans z)
   have a:decide (p.1≠k)=true:=by simp [e]
   have b:decide (q.1≠k)=true:=by simp [e']
   rw [if_pos a,if_pos b]; exact .cons ⟨h1,h2⟩ ih
theorem KV.length {kvs:List (κ×V)} {vs:List (κ×Value)} (r:KV kvs vs):kvs.length=vs.length:=Paired.length r
theorem yt (kvs:List (κ×V)) (k:κ):(lZ kvs k).length<=kvs.length:=List.length_filter_le _ _
end
theorem rC {P:Program} {w:World} {k:Key} {u:Value} (r:RelV (kV k) u):(bh P w).is k u=true:=by
 cases k with
 | inl i=>obtain ⟨t,e⟩:=(show ∃ t,u=Value.int i t from r); subst e; exact ot P w i t
 | inr x=>obtain ⟨t,e⟩:=(show ∃ t,u=Value.str x t from r); subst e; exact oq P w x t
theorem mY {P:Program} {w:World}:∀ {ks:List Key} {us:List Value},be (ks.map kV) us->ItemsAre (bh P w) ks us
 | [],_,r=>by rw [Xg] at r; cases r; exact .nil
 | k::ks,_,r=>by
  rw [Zg] at r
  cases r with
  | cons h t=>exact .cons (rC h) (mY t)
abbrev KT (H:Hp):List (List Key×V)->List (List Key×Addr×Value)->Prop:=Paired λ p q=>p.1=q.1/\H q.2.1=some (.tup (p.1.map kV))/\RelV p.2 q.2.2
theorem KT.val {H:Hp} {kvs:List (List Key×V)} {xs:List (List Key×Addr×Value)} (r:KT H kvs xs) (k:List Key):nK (b7 kvs k) ((atKey xs k).map (·.2)):=by
 induction r with
 | nil=>exact True.intro
 | @cons p q ps qs h t ih =>
  obtain ⟨h1,_,h2⟩:=h
  by_cases e:p.1=k
  ·have e':q.1=k:=h1.symm.trans e
   have b:atKey (q::qs) k=some q.2:=by simp [atKey,List.find?_cons,e']
   rw [bK e,b]; exact h2
  ·have e':¬ q.1=k:=λ z=>e (h1.trans z)
   have b:atKey (q::qs) k=atKey qs k:=by simp [atKey,List.find?_cons,e']
   rw [bL e,b]; exact ih
theorem KT.GQ {H:Hp} {kvs:List (List Key×V)} {xs:List (List Key×Addr×Value)} (r:KT H kvs xs) (k:List Key) {y:V} {u:Value} (ry:RelV y u) :
  KT H (kvs.map λ kv=>if kv.1=k then (kv.1,y) else kv) (xs.map (putAt k u)):=by
 induction r with
 | nil=>exact .nil
 | @cons p q ps qs h t ih =>
  rw [Zg,Zg];refine .cons ?_ ih;obtain ⟨h1,h2,h3⟩:=h;unfold putAt
  by_cases e:p.1=k
  · rw [if_pos e,if_pos (h1.symm.trans e)]; exact ⟨h1,h2,ry⟩
  · rw [if_neg e,if_neg (λ z=>e (h1.trans z))]; exact ⟨h1,h2,h3⟩
theorem KT.put {H:Hp} {kvs:List (List Key×V)} {xs:List (List Key×Addr×Value)} (r:KT H kvs xs) (k:List Key) {b:Addr} {y:V} {u:Value} (hb:H b=some (.tup (k.map kV))) (ry:RelV y u) :
  KT H (putK kvs k y) (storedH xs k b u):=by
 have e:(kvs.any λ kv=>decide (kv.1=k))=(atKey xs k).isSome:=by
  rw [fI,(r.val k).jW,Option.isSome_map]
 unfold putK storedH;rw [e]
 by_cases q:(atKey xs k).isSome=true
 · rw [if_pos q,if_pos q]; exact r.GQ k ry
 · rw [if_neg q,if_neg q]; exact Paired.snoc r ⟨rfl,hb,ry⟩
theorem KT.keeps {H H':Hp} {kvs:List (List Key×V)} {xs:List (List Key×Addr×Value)} (r:KT H kvs xs) (ht:∀ b ys,H b=some (.tup ys)->H' b=some (.tup ys)):KT H' kvs xs :=
 Paired.IY r λ _ _ z=>⟨z.1,ht _ _ z.2.1,z.2.2⟩
section
variable {P:Program} {w:World} {H:Hp} {h:Heap} {a:Addr}
theorem Dt {u:HO} (ok:HOk P w H h) (e:Rd H a u):cq P w H h a u:=e.ok ok
theorem rN {kvs:List (Key×V)} (ok:HOk P w H h) (e:Rd H a (.dK kvs)):kvs.length<=sizeLine/\(a == sysModules)=false/\∃ vs,KV kvs vs/\h.DictOf (bh P w) a vs :=
 show cq P w H h a (.dK kvs) from Dt ok e
theorem vt {kvs:List (Key×V)} (ok:HOk P w H h) (e:H a=some (.dK kvs)):kvs.length<=sizeLine/\(a == sysModules)=false/\∃ vs,KV kvs vs/\h.DictOf (bh P w) a vs:=rN ok (.inl e)
theorem pS {ks:List Key} (ok:HOk P w H h) (e:H a=some (.tup (ks.map kV))):(tupleKind (bh P w)).is h ks a:=by
 obtain ⟨_,its,r,o,h1,h2,n,h3⟩:=(show cq P w H h a (.tup (ks.map kV)) from ok a _ e)
 exact ⟨o,its.toArray,n,h1,h2,h3,by simpa using mY r⟩
theorem vo {kvs:List (List Key×V)} (ok:HOk P w H h) (e:Rd H a (.dT kvs)):kvs.length<=sizeLine/\(a == sysModules)=false /\
  ∃ xs,KT H kvs xs/\h.DictOfH (tupleKind (bh P w)) a xs:=by
 obtain ⟨z,y,xs,r,o,es,ep,h1,h2,h3,h4,h5⟩:=(show cq P w H h a (.dT kvs) from Dt ok e)
 refine ⟨z,y,xs,r,o,es,ep,h1,h2,h3,h4,λ x hx=>?_,h5⟩
 have all:∀ {l:List (List Key×V)} {m:List (List Key×Addr×Value)},KT H l m->∀ x ∈ m,(tupleKind (bh P w)).is h x.1 x.2.1:=by
  intro l m q
  induction q with
  | nil=>intro x hx; exact nomatch hx
  | @cons p q ps qs hq t ih =>
   intro x hx;rcases Zh.mp hx with e | hx
   ·subst e
    exact pS ok (by rw [<- hq.1]; exact hq.2.1)
   · exact ih x hx
 exact all r x hx
theorem Jr {kvs:List (List Key×V)} (ok:HOk P w H h) (e:H a=some (.dT kvs)):kvs.length<=sizeLine/\(a == sysModules)=false /\
 ∃ xs,KT H kvs xs/\h.DictOfH (tupleKind (bh P w)) a xs:=vo ok (.inl e)
end
def so (H:Hp) (a:Addr) (y:V) (r:Option V):Prop :=
 (∃ kvs k,Rd H a (.dK kvs)/\y=kV k/\r=b7 kvs k)\/∃ kvs k b,Rd H a (.dT kvs)/\y=.ref b/\H b=some (.tup (k.map kV))/\r=b7 kvs k
def Cw (H:Hp) (a:Addr) (y v:V) (H':Hp):Prop :=
 (∃ kvs k,H a=some (.dK kvs)/\y=kV k/\kvs.length < sizeLine/\H'=upd H a (.dK (putK kvs k v))) \/
 ∃ kvs k b,H a=some (.dT kvs)/\y=.ref b/\H b=some (.tup (k.map kV))/\kvs.length < sizeLine/\H'=upd H a (.dT (putK kvs k v))
theorem so.k {H:Hp} {a:Addr} {kvs:List (Key×V)} {k:Key} (e:H a=some (.dK kvs)):so H a (kV k) (b7 kvs k):=.inl ⟨kvs,k,.inl e,rfl,rfl⟩
theorem Cw.k {H:Hp} {a:Addr} {kvs:List (Key×V)} {k:Key} {v:V} (e:H a=some (.dK kvs)) (hl:kvs.length < sizeLine):Cw H a (kV k) v (upd H a (.dK (putK kvs k v))):=.inl ⟨kvs,k,e,rfl,hl,rfl⟩
section
variable {X:Cx} {pins:List (Addr×Obj)} {σ:St} {H:Hp} {s:Shared} {a:Addr} {y v:V} {u r:Value} {o:Option V} {A:Around} {E:Value->Shared->Prop}
theorem Inv.big (I:Inv X pins σ H s):sysModules < s.heap.objs.size:=by
 have h:mainGlobals < s.heap.objs.size:=(I.mod.glob.keeps I.bk).lt;exact Nat.lt_trans (by decide) h
theorem vC {Q:Value->Shared->Prop} (hu:A.units+1 < cLine) (I:Inv X pins σ H s) (g:so H a y (some v)) (ry:RelV y u) (h:∀ w' s',Inv X pins σ H s'->RelV v w'->Q w' s') :
  wpAny (model X.prog X.w) A (getItem (.ref a) u) Q E s:=by
 rcases g with ⟨kvs,k,e,ey,l⟩ | ⟨kvs,k,b,e,ey,eb,l⟩
 ·subst ey
  obtain ⟨z,hd,vs,rel,dd⟩:=rN I.hok e;obtain ⟨w',hw,rw'⟩:=nK.some_of (v:=v) (o:=valueAt vs k) (by rw [l]; exact rel.val k);exact wpAny_getItem_of (rC ry) dd.mapOf hw (h w' _ (I.tok _) rw')
 ·subst ey
  cases (show u=Value.ref b from ry);obtain ⟨z,hd,xs,rel,dd⟩:=vo I.hok e;obtain ⟨w',hw,rw'⟩:=nK.some_of (v:=v) (o:=(atKey xs k).map (·.2)) (by rw [l]; exact rel.val k);obtain ⟨p,hp,hp2⟩:=Zm hw;refine wpAny_getItem_heap (tupleKind_room_in1 hu) (pS I.hok eb) dd hp ?_
  rw [hp2];exact h w' _ (I.tok _) rw'
theorem Cd {Q:Value->Shared->Prop} (hu:A.units+1 < cLine) (I:Inv X pins σ H s) (g:so H a y o) (ry:RelV y u) (h:∀ s',Inv X pins σ H s'->Q (.bool (!o.isSome)) s') :
  wpAny (model X.prog X.w) A (compareOp .NotIn u (.ref a)) Q E s:=by
 rcases g with ⟨kvs,k,e,ey,l⟩ | ⟨kvs,k,b,e,ey,eb,l⟩
 ·subst ey
  obtain ⟨z,hd,vs,rel,dd⟩:=rN I.hok e;refine wpAny_notIn_of (rC ry) hd dd.mapOf ?_
  rw [<- (rel.val k).jW,<- l];exact h _ (I.tok _)
 ·subst ey
  cases (show u=Value.ref b from ry);obtain ⟨z,hd,xs,rel,dd⟩:=vo I.hok e;refine wpAny_notIn_heap (tupleKind_room_in1 hu) (pS I.hok eb) hd dd ?_
  have q:=(rel.val k).jW;rw [Option.isSome_map] at q;rw [<- q,<- l];exact h _ (I.tok _)
theorem l3 {h':Heap} {t':Nat} {ob:HO} (I:Inv X pins σ H s) (mu:Mut (H a)) (hs:Heap.SameBut a s.heap h') (he:∃ q,h'.get? a=some q) (new:cq X.prog X.w (upd H a ob) h' a ob) :
  Inv X pins σ (upd H a ob) { s with heap:=h',toks:=t' } :=
 I.write (x:=a) (e:=a) mu (.inl rfl) (λ b q hb z=>(hs.2 b hb).trans z) he new
theorem vv {P:Program} {w:World} {H':Hp} {h':Heap} {kvs:List (Key×V)} {vs:List (Key×Value)} (z:kvs.length<=sizeLine) (hd:(a == sysModules)=false) (rel:KV kvs vs) (dd:h'.DictOf (bh P w) a vs) :
 cq P w H' h' a (.dK kvs):=⟨z,hd,vs,rel,dd⟩
theorem vB {H':Hp} {Q:Unit->Shared->Prop} (hu:A.units+1 < cLine) (I:Inv X pins σ H s) (g:Cw H a y v H') (ry:RelV y u) (rv:RelV v r) (h:∀ s',Inv X pins σ H' s'->Q () s') :
  wpAny (model X.prog X.w) A (setItem (.ref a) u r) Q E s:=by
 rcases g with ⟨kvs,k,e,ey,l,eH⟩ | ⟨kvs,k,b,e,ey,eb,l,eH⟩
 ·subst ey eH
  obtain ⟨z,hd,vs,rel,dd⟩:=vt I.hok e;have hz:vs.length<=sizeLine:=by rw [<- rel.length]; exact z
  have hl:(putK kvs k v).length<=sizeLine:=by have:=gu kvs k v; omega
  refine wpAny_setItem_pairs (hsz:=hz) (rC ry) dd λ h' dd' hs=>h _ ?_
  have he:∃ q,h'.get? a=some q:=let ⟨q,_,_,hq,_⟩:=dd'; ⟨q,hq⟩
  exact l3 I (by rw [e]; exact True.intro) hs he (vv hl hd (rel.put k rv) dd')
 ·subst ey eH
  cases (show u=Value.ref b from ry);obtain ⟨z,hd,xs,rel,dd⟩:=Jr I.hok e;have hz:xs.length<=sizeLine:=by rw [<- Paired.length rel]; exact z
  have hl:(putK kvs k v).length<=sizeLine:=by have:=gu kvs k v; omega
  refine wpAny_setItem_heap (hsz:=hz) (tupleKind_room_in1 hu) (pS I.hok eb) dd λ h' dd' hs=>h _ ?_
  obtain ⟨q,es,ep,hq,h2,h3,h4,_,h5⟩:=dd';refine l3 I (by rw [e]; exact True.intro) hs ⟨q,hq⟩ ⟨hl,hd,_,(rel.put k eb rv).keeps λ c ys ec=>?_,q,es,ep,hq,h2,h3,h4,h5⟩;rw [ai (IQ ec e (λ z=>nomatch z))];exact ec
end
section
variable {X:Cx} {pins:List (Addr×Obj)} {σ:St} {H:Hp} {s:Shared} {a:Addr} {kvs:List (Key×V)} {k:Key} {u:Value} {A:Around} {E:Value->Shared->Prop}
theorem Js {v:V} {more:List Value} {Q:Value->Shared->Prop} (I:Inv X pins σ H s) (e:H a=some (.dK kvs)) (ry:RelV (kV k) u) (l:b7 kvs k=some v) (hm:more=[]\/∃ x,more=[x])
  (h:∀ w' s',Inv X pins σ (upd H a (.dK (lZ kvs k))) s'->RelV v w'->Q w' s'):wpAny (model X.prog X.w) A (call (.builtin "dict.pop") (.ref a::u::more)) Q E s:=by
 obtain ⟨z,hd,vs,rel,dd⟩:=vt I.hok e;obtain ⟨w',hw,rw'⟩:=nK.some_of (v:=v) (o:=valueAt vs k) (by rw [<- l]; exact rel.val k)
 have hp:(keyPart u).isSome=true:=by
  cases k with
  | inl i=>obtain ⟨t,q⟩:=(show ∃ t,u=Value.int i t from ry); subst q; rfl
  | inr x=>obtain ⟨t,q⟩:=(show ∃ t,u=Value.str x t from ry); subst q; rfl
 have ha:argsOk "dict.pop" ⟨.ref a::u::more,[]⟩:=by
  rcases hm with q | ⟨x,q⟩
  · subst q; exact PySem.F.args_dict_pop_2 _ _
  · subst q; exact PySem.F.args_dict_pop_3 _ _ _
 refine call_meetsIn PySem.F.slot_dict_pop dd.typeIs PySem.F.entry_dict_pop ha (meets_dict_pop_there (bh X.prog X.w) a (rC ry) more hm hp)
  ⟨vs,w',dd,by rw [<- rel.length]; exact z,hw,λ h' dd' hs=>h w' _ ?_ rw'⟩
 have he:∃ q,h'.get? a=some q:=let ⟨q,_,_,hq,_⟩:=dd'; ⟨q,hq⟩
 exact l3 I (by rw [e]; exact True.intro) hs he (vv (Z8 (yt kvs k) z) hd (rel.drop k) dd')
theorem Jt {Q:Value->Shared->Prop} (I:Inv X pins σ H s) (e:Rd H a (.dK kvs)) (h:∀ t s',Inv X pins σ H s'->Q (.int kvs.length t) s'):wpAny (model X.prog X.w) A (call (.builtin "len") [.ref a]) Q E s:=by
 obtain ⟨z,hd,vs,rel,dd⟩:=rN I.hok e;refine call_len_dict hd dd (by rw [<- rel.length]; rw [Xp] at z; omega) ?_
 rw [<- rel.length];exact h _ _ (I.tok _)
end
def CK (i:Expr):Prop:=∀ ov iv,subscripted i false ov iv=operate [ov,iv] (getItem ov iv)
theorem zV {prog:Program} {w:World} {A:Around} {E:Value->Shared->Prop} {s:Shared} {env:Env} {value slice:Expr} {pos:Pos} {T id:String} {Q:Value->Shared->Prop}
  (hl:typeLookup (.type T) "__getitem__"=pure (some (.builtin id))) (hs:CK slice)
  (h:wpAny (model prog w) A (eval value env) (λ o s₁=>wpAny (model prog w) A (eval slice env) (λ i s₂=>s₂.TypeIs o T/\wpAny (model prog w) A (getItem o i) Q E s₂) E s₁) E s) :
  wpAny (model prog w) A (eval (.Subscript value slice pos) env) Q E s:=by
 refine Subscript_ (Yc h (λ o s₁ h₁=>Yc h₁ (λ i s₂ h₂=>?_) λ _ _ x=>x) λ _ _ x=>x);obtain ⟨hT,h₂⟩:=h₂;unfold subscriptTail;refine Zv ?_
 rw [getitemInPython_of_ne hT.not_modules];refine Zv (wpAny_specialOf hT hl ?_)
 have fin:wpAny (model prog w) A (subscripted slice false o i) (λ r s₃=>wpAny (model prog w) A (letTemporaryGo value o r >>= λ _=>pure r) Q E s₃) E s₂:=by
  rw [hs o i];exact wpAny_operating (Yc h₂ (λ r s₃ h₃=>Zv (wpAny_letTemporaryGo (Z6 h₃))) λ _ _ x=>x)
 first
  | exact Z6 (Zv fin)
  | exact Zv (Z6 (Zv fin))
  | exact Zv fin
theorem oP {X:Cx} {pins:List (Addr×Obj)} {σ:St} {H:Hp} {s:Shared} {a:Addr} {y:V} {o:Option V} (I:Inv X pins σ H s) (g:so H a y o):s.TypeIs (.ref a) "dict":=by
 rcases g with ⟨kvs,k,e,_,_⟩ | ⟨kvs,k,b,e,_,_,_⟩
 ·obtain ⟨_,_,vs,_,dd⟩:=rN I.hok e
  exact dd.typeIs
 ·obtain ⟨_,_,xs,_,dd⟩:=vo I.hok e
  exact dd.typeIs
def GI (td ty:TE):TE:=λ σ H Q=>td σ H λ x H1=>ty σ H1 λ y H2=>∃ a v,x=.ref a/\so H2 a y (some v)/\Q v H2
def zR (ty td:TE):TE:=λ σ H Q=>ty σ H λ y H1=>td σ H1 λ x H2=>∃ a o,x=.ref a/\so H2 a y o/\Q (.bl (!o.isSome)) H2
def GP (td ty tv:TE):TS:=λ D σ H=>tv σ H λ v H1=>td σ H1 λ x H2=>ty σ H2 λ y H3=>∃ a H4,x=.ref a/\Cw H3 a y v H4/\D.nx σ H4
section
variable {X:Cx} {o i e value:Expr} {pos pos' tpos:Pos} {td ty tv:TE}
theorem uj (hu:X.A.units+1 < cLine) (ho:PE X o td) (hi:PE X i ty) (hs:CK i):PE X (.Subscript o i pos) (GI td ty):=by
 intro pins s σ H Q I h;refine zV PySem.F.slot_dict_getitem.lookup hs (thn (ho pins s σ H _ I h) λ u s1 ⟨x,H1,I1,rx,q1⟩=>thn (hi pins s1 σ H1 _ I1 q1) λ iv s2 ⟨y,H2,I2,ry,a,v,ex,g,q2⟩=>?_);subst ex;obtain rfl:u=Value.ref a:=rx;exact ⟨oP I2 g,vC hu I2 g ry λ w' s3 I3 rw'=>⟨v,H2,I3,rw',q2⟩⟩
theorem mH (hu:X.A.units+1 < cLine) (hi:PE X i ty) (ho:PE X o td):PC X .NotIn i o (zR ty td):=by
 intro pins s σ H Q I h;refine thn (hi pins s σ H _ I h) λ iv s1 ⟨y,H1,I1,ry,q1⟩=>thn (ho pins s1 σ H1 _ I1 q1) λ u s2 ⟨x,H2,I2,rx,a,ov,ex,g,q2⟩=>?_
 subst ex;obtain rfl:u=Value.ref a:=rx;exact Cd hu I2 g ry λ s3 I3=>⟨.bl (!ov.isSome),H2,I3,rfl,q2⟩
theorem nV (hu:X.A.units+1 < cLine) (ho:PE X o td) (hi:PE X i ty) (hv:PE X value tv) (hs:swapsWith value (some (.Subscript o i pos')) pos.line X.env=pure false) :
  PS X (.Assign [.Subscript o i pos'] value pos) (GP td ty tv):=by
 intro pins s σ H D I h;refine wpAny_Assign_Subscript (thn (hv pins s σ H _ I h) λ r s1 ⟨v,H1,I1,rv,q1⟩=>thn (ho pins s1 σ H1 _ I1 q1) λ u s2 ⟨x,H2,I2,rx,q2⟩=>thn (hi pins s2 σ H2 _ I2 q2) λ iv s3 ⟨y,H3,I3,ry,a,H4,ex,g,q3⟩=>?_) hs;subst ex;obtain rfl:u=Value.ref a:=rx;exact vB hu I3 g ry rv λ s4 I4=>⟨σ,H4,I4,q3⟩
end
theorem qh {P:Program} {w:World} {H:Hp} (h:Heap) (hb:sysModules < h.objs.size):cq P w H (h.push { cls:=.type "dict",data:=.dict #[] }) h.objs.size (.dK []) :=
 ⟨Z3 _,Y2.mpr (Ne.symm (Zz hb)),[],.nil,Heap.DictOf.new h⟩
def C6:TE:=λ _ H Q=>∀ p,H p=none->Q (.ref p) (upd H p (.dK []))
section
variable {X:Cx} {pos:Pos}
theorem xD:PE X (.Dict [] [] pos) C6:=λ pins s σ H Q I h =>
 wpAny_Dict_empty ⟨.ref s.heap.objs.size,_,I.laid (a:=s.heap.objs.size) (o:=.dK []) (t':=s.toks) (λ _ _ q=>Heap.get?_push_of_some _ q) (Zl _) (qh s.heap I.big),rfl,h _ (I.hok.fresh (Zl _))⟩
end
def sI:List (TE×TE)->St->Hp->(List (V×V)->Hp->Prop)->Prop
 | [],_,H,Q=>Q [] H
 | (tk,tv)::r,σ,H,Q=>tk σ H λ x H1=>tv σ H1 λ y H2=>sI r σ H2 λ ps H3=>Q ((x,y)::ps) H3
abbrev VV:List (V×V)->List (Value×Value)->Prop:=Paired λ p q=>RelV p.1 q.1/\RelV p.2 q.2
def PPs (X:Cx) (pos:Pos) (keys:List (Option Expr)) (values:List Expr) (trs:List (TE×TE)):Prop :=
  ∀ (pins:List (Addr×Obj)) (s:Shared) (σ:St) (H:Hp) (Q:List (V×V)->Hp->Prop),Inv X pins σ H s->sI trs σ H Q ->
    wpAny (model X.prog X.w) X.A (evalPairs (pairTrees keys values X.env pos)) (λ vs s'=>∃ ps H',Inv X pins σ H' s'/\VV ps vs/\Q ps H') X.xe s
theorem AI {X:Cx} {pos:Pos}:PPs X pos [] [] []:=λ pins s σ H Q I h=>pairTrees_nil_walk ⟨[],H,I,.nil,h⟩
theorem xk {X:Cx} {pos:Pos} {k v:Expr} {ks:List (Option Expr)} {vs:List Expr} {tk tv:TE} {trs:List (TE×TE)} (hk:PE X k tk) (hv:PE X v tv) (hr:PPs X pos ks vs trs) :
  PPs X pos (some k::ks) (v::vs) ((tk,tv)::trs):=λ pins s σ H Q I h =>
 pairTrees_cons_walk (thn (hk pins s σ H _ I h) λ u s1 ⟨x,H1,I1,rx,q1⟩=>thn (hv pins s1 σ H1 _ I1 q1) λ w2 s2 ⟨y,H2,I2,ry,q2⟩ =>
  thn (hr pins s2 σ H2 _ I2 q2) λ ws s3 ⟨ps,H3,I3,rel,q3⟩=>⟨(x,y)::ps,H3,I3,.cons ⟨rx,ry⟩ rel,q3⟩)
def mR (kvs more:List (Key×V)):List (Key×V):=more.foldl (λ acc kv=>putK acc kv.1 kv.2) kvs
theorem KV.merge:∀ {more:List (Key×V)} {rs:List (Key×Value)} {kvs:List (Key×V)} {vs:List (Key×Value)},KV more rs->KV kvs vs->KV (mR kvs more) (merged vs rs):=by
 intro more rs kvs vs r;unfold KV at r
 induction r generalizing kvs vs with
 | nil=>intro q; exact q
 | @cons p q ps qs h t ih =>
  intro r0
  have e:KV (putK kvs p.1 p.2) (stored vs q.1 q.2):=by
   have:=r0.put p.1 h.2;rw [<- h.1]; exact this
  exact ih e
theorem gV:∀ (more kvs:List (Key×V)),(mR kvs more).length<=kvs.length+more.length
 | [],kvs=>by show kvs.length<=kvs.length+0; omega
 | p::r,kvs=>by
  have h1:=gV r (putK kvs p.1 p.2);have h2:=gu kvs p.1 p.2;show (mR (putK kvs p.1 p.2) r).length<=_;rw [Zx]; omega
theorem lh {P:Program} {w:World}:∀ {kvs:List (Key×V)} {ws:List (Value×Value)},VV (kvs.map λ kv=>(kV kv.1,kv.2)) ws->∃ rs,Carries (bh P w) ws rs/\KV kvs rs
 | [],_,r=>by rw [Xg] at r; cases r; exact ⟨[],True.intro,.nil⟩
 | p::kvs,_,r=>by
  rw [Zg] at r
  cases r with
  | @cons a b as bs h t =>
   obtain ⟨rs,c,q⟩:=lh (P:=P) (w:=w) t;obtain ⟨b1,b2⟩:=b;exact ⟨(p.1,b2)::rs,⟨rC h.1,rfl,c⟩,.cons ⟨rfl,h.2⟩ q⟩
def GH (trs:List (TE×TE)):TE:=λ σ H Q=>∀ p,H p=none->sI trs σ (upd H p (.dK [])) λ ps H2=>H2 p=some (.dK [])/\∃ kvs:List (Key×V),ps=kvs.map (λ kv=>(kV kv.1,kv.2))/\kvs.length<=15/\Q (.ref p) (upd H2 p (.dK (mR [] kvs)))
theorem A3 {X:Cx} {pos:Pos} {keys:List (Option Expr)} {values:List Expr} {trs:List (TE×TE)} (h:PPs X pos keys values trs) (hall:keys.all (·.isSome)=true) (hl:keys.length=values.length) (h0:keys≠[])
  (h15:keys.length<=15):PE X (.Dict keys values pos) (GH trs):=by
 intro pins s σ H Q I q;have hn:=I.hok.fresh (Zl s.heap.objs.size);have I1:=I.laid (a:=s.heap.objs.size) (o:=.dK []) (h':=s.heap.push { cls:=.type "dict",data:=.dict #[] }) (t':=s.toks) (λ _ _ q=>Heap.get?_push_of_some _ q) (Zl _) (qh s.heap I.big);refine wpAny_Dict_walk (knd:=bh X.prog X.w) hall hl h0 h15 (thn (h pins _ σ _ _ I1 (q _ hn)) λ ws s2 ⟨ps,H2,I2,rel,e,kvs,ep,lk,q2⟩=>?_);subst ep;obtain ⟨rs,c,rk⟩:=lh (P:=X.prog) (w:=X.w) rel;obtain ⟨z,hd,vs0,r0,dd⟩:=vt I2.hok e;cases r0;refine ⟨rs,c,dd,λ h' dd' hs=>⟨.ref s.heap.objs.size,_,?_,rfl,q2⟩⟩
 have hz:(mR [] kvs).length<=sizeLine:=by
  have h1:=gV kvs [];rw [Xa] at h1;rw [Xp]; omega
 have he:∃ q,h'.get? s.heap.objs.size=some q:=let ⟨q,_,_,hq,_⟩:=dd'; ⟨q,hq⟩
 exact l3 I2 (by rw [e]; exact True.intro) hs he (vv hz hd (rk.merge .nil) dd')
structure M1 (X:Cx) (o:Expr) (m:Str) (apos:Pos) (e:Expr) (cpos:Pos):Prop where
 base:attributeBase o m X.env (eval o X.env)=eval o X.env
 few:((backTo cpos (starEach [e] X.env)).all (λ x=>!x.1)&&(backToKw cpos (keywordEach [] X.env)).all (λ x=>x.1.isSome)
  && decide (([e]:List Expr).length+([]:List Keyword).length+(if ([]:List Keyword).isEmpty then 0 else 1) < 30))=true
 line:(apos.endLine == cpos.line)=true
 trees:backTo cpos (starEach [e] X.env)=[(false,eval e X.env)]
def IsD (H:Hp) (a:Addr):Prop:=(∃ kvs,Rd H a (.dK kvs))\/∃ kvs,Rd H a (.dT kvs)
theorem EL {X:Cx} {pins:List (Addr×Obj)} {σ:St} {H:Hp} {s:Shared} {a:Addr} (I:Inv X pins σ H s) (d:IsD H a) :
  s.TypeIs (.ref a) "dict"/\(∀ b,Value.ref a=.ref b->∃ ob,s.heap.get? b=some ob/\ob.dict=none)/\(a == sysModules)=false:=by
 rcases d with ⟨kvs,e⟩ | ⟨kvs,e⟩
 ·obtain ⟨_,hd,vs,_,dd⟩:=rN I.hok e
  refine ⟨dd.typeIs,λ b q=>?_,hd⟩;cases q;obtain ⟨ob,_,_,h1,h2,_⟩:=dd;exact ⟨ob,h1,h2.2.1⟩
 ·obtain ⟨_,hd,xs,_,dd⟩:=vo I.hok e
  refine ⟨dd.typeIs,λ b q=>?_,hd⟩;cases q;obtain ⟨ob,_,_,h1,h2,_⟩:=dd;exact ⟨ob,h1,h2.2.1⟩
def C5 (td ty:TE):TE:=λ σ H Q=>td σ H λ x H1=>∃ a,x=.ref a/\IsD H1 a/\ty σ H1 λ y H2=>∃ kvs k v,H2 a=some (.dK kvs)/\y=kV k/\b7 kvs k=some v/\Q v (upd H2 a (.dK (lZ kvs k)))
section
variable {X:Cx} {o e f:Expr} {apos cpos:Pos} {td ty tx:TE}
theorem pL (ho:PE X o td) (he:PE X e ty) (m:M1 X o "pop" apos e cpos):PE X (.Call (.Attribute o "pop" apos) [e] [] cpos) (C5 td ty):=by
 intro pins s σ H Q I h;refine wpAny_Call_method m.base m.few m.line PySem.F.plainAttrs_dict PySem.F.slot_dict_pop PySem.F.type_dict_pop (thn (ho pins s σ H _ I h) λ u s1 ⟨x,H1,I1,rx,a,ex,d,q1⟩=>?_);subst ex;obtain rfl:u=Value.ref a:=rx;obtain ⟨t1,t2,_⟩:=EL I1 d;refine ⟨t1,t2,?_⟩;rw [m.trees];refine Calls.callWith_builtin rfl (Calls.evalArgs_plain (Calls.spliced_cons (thn (he pins s1 σ H1 _ I1 q1) λ iv s2 ⟨y,H2,I2,ry,kvs,k,v,ea,ey,l,q2⟩=>Calls.spliced_nil ?_)));subst ey;exact Js I2 ea ry l (.inl rfl) λ w' s3 I3 rw'=>⟨v,_,I3,rw',q2⟩
end
def Its (z:Str):It:=⟨λ i _=>i < z.cps.size,λ i H x H'=>H'=H/\∃ c,z.cps[i]?=some c/\x=.str ⟨#[c]⟩,λ i _=>z.cps.size<=i⟩
theorem qE {P:Program} {w:World} {K:W.Frag} {tg:Expr} (it:Addr) (z:Str) (t:Tok):Turn P w K tg (Its z) [it] it (λ i h=>h.IsStrIter it "str_ascii_iterator" z t i) where
 mem:=by simp
 obj:=λ i h st b hb=>by
  have e:b=it:=by simpa using hb
  subst e;obtain ⟨o,e,c,d⟩:=st;exact ⟨o,e,λ v z=>by rw [d] at z; cases z⟩
 keep:=λ i h h' st k=>let ⟨o,ho,r⟩:=st; ⟨o,k it (by simp) o ho,r⟩
 item:=by
  intro X hP hw hK hc i pins s σ H E I hf st hg;subst hP hw hK;obtain ⟨f0,f1,f2,f3,f4,f5⟩:=hf it (by simp);have hg':i < z.cps.size:=hg;have hx:z.cps[i]?=some z.cps[i]:=by simp [hg']
  refine wpAny_pyNext_ascii_item st hx λ h' st' sb=>?_
  have I1:Inv X pins σ H { s with heap:=h',toks:=s.toks+1 }:=I.turned (λ b o hb e=>(sb.2 b hb).trans e) f0 f1 f3 f4 f5;obtain ⟨o,e,c,d⟩:=id st';exact ⟨_,rfl,rE e c d (by decide) ⟨.str ⟨#[z.cps[i]]⟩,H,I1,⟨_,rfl⟩,⟨rfl,_,hx,rfl⟩,st',λ b hb=>(hf b hb).1⟩⟩
 done:=by
  intro X hP hw hK hc i pins s σ H E I hf st hg;subst hP hw hK;obtain ⟨f0,f1,f2,f3,f4,f5⟩:=hf it (by simp);have hg':z.cps.size<=i:=hg;exact wpAny_pyNext_ascii_end (I.ok.hd hc) st (by simp [hg']) λ h' eb=>⟨rfl,I.turned (λ b o hb e=>eb b o hb e) f0 f1 f3 f4 f5⟩
 self:=λ _ _ _ _ _ st h=>wpAny_pyIter_striter_ascii st h
theorem sC {P:Program} {w:World} {K:W.Frag} {tg:Expr} (it:Addr) (z:Str) (t:Tok):Turn P w K tg (Its z) [it] it (λ i h=>h.IsStrIter it "str_iterator" z t i) where
 mem:=by simp
 obj:=λ i h st b hb=>by
  have e:b=it:=by simpa using hb
  subst e;obtain ⟨o,e,c,d⟩:=st;exact ⟨o,e,λ v z=>by rw [d] at z; cases z⟩
 keep:=λ i h h' st k=>let ⟨o,ho,r⟩:=st; ⟨o,k it (by simp) o ho,r⟩
 item:=by
  intro X hP hw hK hc i pins s σ H E I hf st hg;subst hP hw hK;obtain ⟨f0,f1,f2,f3,f4,f5⟩:=hf it (by simp);have hg':i < z.cps.size:=hg;have hx:z.cps[i]?=some z.cps[i]:=by simp [hg']
  refine wpAny_pyNext_wide_item st hx λ h' st' sb=>?_
  have I1:Inv X pins σ H { s with heap:=h',toks:=s.toks+1 }:=I.turned (λ b o hb e=>(sb.2 b hb).trans e) f0 f1 f3 f4 f5;obtain ⟨o,e,c,d⟩:=id st';exact ⟨_,rfl,rE e c d (by decide) ⟨.str ⟨#[z.cps[i]]⟩,H,I1,⟨_,rfl⟩,⟨rfl,_,hx,rfl⟩,st',λ b hb=>(hf b hb).1⟩⟩
 done:=by
  intro X hP hw hK hc i pins s σ H E I hf st hg;subst hP hw hK;obtain ⟨f0,f1,f2,f3,f4,f5⟩:=hf it (by simp);have hg':z.cps.size<=i:=hg;exact wpAny_pyNext_wide_end (I.ok.hd hc) st (by simp [hg']) λ h' eb=>⟨rfl,I.turned (λ b o hb e=>eb b o hb e) f0 f1 f3 f4 f5⟩
 self:=λ _ _ _ _ _ st h=>wpAny_pyIter_striter_wide st h
section
variable {X:Cx} {tg:Expr}
def LG (tl:TE):TI:=λ σ H R=>tl σ H λ x H1=>∃ z,x=.str z/\R (Its z) H1
theorem DM {l:Expr} {tl:TE} (hl:PE X l tl):PI X tg l (LG tl):=by
 intro pins s σ H R I h;refine thn (hl pins s σ H _ I h) λ v s1 ⟨x,H1,I1,r1,q1⟩=>?_
 obtain ⟨z,e,q⟩:=q1;subst e;obtain ⟨t,rfl⟩:=r1
 have fp:∀ b ∈ [s1.heap.objs.size],sg X pins H1 b:=λ b hb=>by
  have e:b=s1.heap.objs.size:=by simpa using hb
  subst e;exact I1.wj (Zl _) (I1.hok.fresh (Zl _))
 cases ha:z.cps.all (· < 128)
 ·refine wpAny_pyIter_wide ha ?_
  exact ⟨s1.heap.objs.size,[s1.heap.objs.size],_,_,H1,rfl,I1.kept λ b o e=>Heap.get?_push_of_some _ e,sC _ z t,⟨_,Heap.get?_push_size _ rfl,rfl,rfl⟩,fp,q⟩
 ·refine wpAny_pyIter_ascii ha ?_
  exact ⟨s1.heap.objs.size,[s1.heap.objs.size],_,_,H1,rfl,I1.kept (t':=s1.toks) λ b o e=>Heap.get?_push_of_some _ e,qE _ z t,⟨_,Heap.get?_push_size _ rfl,rfl,rfl⟩,fp,q⟩
theorem uq:OpR X (compareOp .LtE) (λ x y H Q=>∃ i j,x=.str i/\y=.str j/\Q (.bl (!decide (j.cps.toList < i.cps.toList))) H):=by
 intro pins s σ H x y v u Q I rx ry h;obtain ⟨i,j,rfl,rfl,q⟩:=h;obtain ⟨t,rfl⟩:=rx;obtain ⟨t',rfl⟩:=ry;exact PySem.P.le_str (aS I q (by simp))
theorem qu:∀ {bs:List Bool} {us:List Value},be (bs.map V.bl) us->∀ (i:Nat) (v:Value),us[i]?=some v->∃ b,bs[i]?=some b/\v=Value.bool b
 | [],_,.nil,i,v,e=>by simp at e
 | b::bs,_,.cons r t,0,v,e=>by
  simp at e;subst e;exact ⟨b,by simp,r⟩
 | b::bs,_,.cons r t,i+1,v,e=>by
  obtain ⟨c,h1,h2⟩:=qu t i v (by simpa using e);exact ⟨c,by simpa using h1,h2⟩
theorem yA (hc:X.calm=true):fF X (.builtin "all") (λ xs H Q=>∃ (p:Addr) (bs:List Bool),xs=[.ref p]/\SqL X.K H p (bs.map V.bl)/\Q (.bl (bs.all id)) H):=by
 intro pins s σ H xs us Q I r h;obtain ⟨p,bs,rfl,hL,q⟩:=h;obtain ⟨u,rfl,ru⟩:=vals1 r;cases (ru);obtain ⟨its,rv,pl,hz⟩:=I.list hL;have hl:=pl.isList;have hlen:=rv.length;rw [Za] at hlen;have hlt:p < s.heap.objs.size:=by obtain ⟨_,e,_⟩:=hl; exact Zr e
 refine call_all_walk (wpAny_pyIter_list hl ?_)
 refine ⟨s.heap.objs.size,[s.heap.objs.size,p],[s.heap.objs.size],its.toArray.size,_,_,λ i=>(bs[i]?).getD true,rfl,Walks.list (A:=X.A.in1) (I.ok.hd hc) _ p (Zz hlt) its.toArray,
  ⟨⟨_,Heap.get?_push_size _ rfl,rfl,rfl⟩,hl.push _⟩,λ i v s' Q' E' hP hQ=>?_,λ h' tk hk=>?_⟩
 ·obtain ⟨b,e,rfl⟩:=qu rv i v (by simpa using hP)
  simp only [e,Option.getD_some] at hQ;exact Yl hQ
 ·have e:((List.range its.toArray.size).all λ i=>(bs[i]?).getD true)=bs.all id:=by
   rw [Zp,<- hlen,Xm,Ys,Ys];constructor
   ·intro hh b hb
    obtain ⟨i,hi,rfl⟩:=List.getElem_of_mem hb;have:=hh i (List.mem_range.mpr hi)
    simpa [List.getElem?_eq_getElem hi] using this
   ·intro hh i hi
    have hi':=List.mem_range.mp hi;simp only [List.getElem?_eq_getElem hi',Option.getD_some];exact hh _ (Y6 hi')
  rw [e];refine ⟨.bl _,H,I.kept λ b x ex=>hk b x (λ hm=>?_) (Heap.get?_push_of_some _ ex),rfl,q⟩;rw [Zn.mp hm] at ex;exact Yn _ (Zr ex)
theorem jw:∀ {ts:List Str} {us:List Value},be (ts.map V.str) us->StrsAre us ts
 | [],_,.nil=>.nil
 | x::ts,_,.cons r t=>by
  obtain ⟨tk,rfl⟩:=r;exact .cons x tk (jw t)
theorem BF:MtR X "str.join" (λ x xs H Q=>∃ (z:Str) (p:Addr) (ts:List Str),x=.str z/\xs=[.ref p]/\SqL X.K H p (ts.map V.str)/\(ts.map (·.length)).sum+ts.length * z.length<=16777216/\Q (.str (Txt.join z ts)) H):=by
 intro pins s σ H x xs v us Q I rx rv h;obtain ⟨z,p,ts,rfl,rfl,hL,hz,q⟩:=h;obtain ⟨t,rfl⟩:=rx;obtain ⟨u,rfl,ru⟩:=vals1 rv;cases (ru);obtain ⟨its,rv',pl,_⟩:=I.list hL;exact join_list pl.isList (by simpa using jw rv') hz λ t' k=>⟨.str _,H,I.tok k,⟨_,rfl⟩,q⟩
end
theorem Cg (h0:closureFor scope X.env=pure cl) (h1:scope.kind=.function) (h2:(scope.names.all λ y=>!(y.2 == .cell))=true)
  (h3:(scope.names.all λ y=>!(y.2 == .local)||(scope.names.lookup y.1 == some .local))=true) (h4:scope.names.lookup x=some .local) (h5:∀ p ∈ cl,X.env.cells.lookup p.1=some p.2)
  (h6:((relabel scope X.env).names.all λ p=>!(p.2 == .cell||p.2 == .free)||(cl.lookup p.1).isSome)=true)
  (h7:∀ p ∈ cs,X.N[p.2]?=some p.1/\X.env.kindOf p.1=some .cell/\(relabel scope X.env).names.lookup p.1=some .cell) (h8:(x::cs.map (·.1)).Nodup):cC X scope cl x cs where
 Gm:=h0
 kind:=h1
 pQ:=λ y hy z=>by
  have:=Ys.mp h2 y hy;rw [z] at this;exact absurd this (by decide)
 names:=λ y hy z=>by
  have:=Ys.mp h3 y hy;rw [z] at this
  simpa using this
 own:=h4
 sub:=λ y c e=>h5 (y,c) (Yj e)
 has:=λ y hy=>by
  have key:∀ k,(relabel scope X.env).names.lookup y=some k->(k=.cell\/k=.free)->∃ c,cl.lookup y=some c:=λ k e hk=>by
   have:=Ys.mp h6 (y,k) (Yj e);rcases hk with rfl | rfl
   · exact Yp.mp (by simpa using this)
   · exact Yp.mp (by simpa using this)
  rcases hy with hy | hy
  · exact key _ hy (.inl rfl)
  · exact key _ hy (.inr rfl)
 Jx:=λ p hp=>⟨(h7 p hp).1,.inl (h7 p hp).2.1,.inl (h7 p hp).2.2⟩
 nd:=h8
def CL (X:Cx):List (Str×Addr)->Prop
 | []=>True
 | p::r=>X.env.cells.lookup p.1=some p.2/\CL X r
def AllP (X:Cx) (scope:Scope):List (Str×Nat)->Prop
 | []=>True
 | p::r=>(X.N[p.2]?=some p.1/\X.env.kindOf p.1=some .cell/\(relabel scope X.env).names.lookup p.1=some .cell)/\AllP X scope r
theorem CL.all:∀ {cl:List (Str×Addr)},CL X cl->∀ p ∈ cl,X.env.cells.lookup p.1=some p.2
 | [],_,p,h=>by cases h
 | q::r,a,p,h=>by
  rcases Zh.mp h with rfl | h
  · exact a.1
  · exact CL.all a.2 p h
theorem AllP.all:∀ {cs:List (Str×Nat)},AllP X scope cs->∀ p ∈ cs,X.N[p.2]?=some p.1/\X.env.kindOf p.1=some .cell/\(relabel scope X.env).names.lookup p.1=some .cell
 | [],_,p,h=>by cases h
 | q::r,a,p,h=>by
  rcases Zh.mp h with rfl | h
  · exact a.1
  · exact AllP.all a.2 p h
theorem Cf (cs:List (Str×Nat)) (h0:closureFor scope X.env=pure cl) (h1:scope.kind=.function) (h2:(scope.names.all λ y=>!(y.2 == .cell))=true)
 (h3:(scope.names.all λ y=>!(y.2 == .local)||(scope.names.lookup y.1 == some .local))=true) (h4:scope.names.lookup x=some .local) (h5:CL X cl)
 (h6:((relabel scope X.env).names.all λ p=>!(p.2 == .cell||p.2 == .free)||(cl.lookup p.1).isSome)=true)
 (h7:AllP X scope cs) (h8:(x::cs.map (·.1)).Nodup):cC X scope cl x cs:=Cg h0 h1 h2 h3 h4 h5.all h6 h7.all h8
structure Fly (P:Program) (w:World) (fs:List Addr) (H H':Hp) (h0 B h:Heap):Prop where
 un:Un fs [] H H' h0 h
 hok:HOk P w H' B
 cov:∀ b o,h0.get? b=some o->H b=none->b ∉ fs->B.get? b=some o
 CI:∀ b o,h0.get? b=some o->b ∉ fs->∃ o',B.get? b=some o'
theorem Fly.step (F:Fly P w fs H H' h0 B h) (st:B.StaysIn h') (sm:h.UpToSlots h')
  (nf:∀ b ∈ fs,∀ o,h.get? b=some o->∀ vs,o.data≠.fields vs):Fly P w fs H H' h0 B h' where
 un := ⟨λ b o e n hb _=>st b o (F.cov b o e n hb),λ b o e n hb _=>by
   obtain ⟨sl,e1⟩:=F.un.slot b o e n hb (by simp);obtain ⟨sl',e2⟩:=sm b _ e1 (nf b hb _ e1);exact ⟨sl',e2⟩,F.un.free,λ b o e _=>by
   by_cases hb:b ∈ fs
   ·obtain ⟨o1,e1⟩:=F.un.there b o e (by simp)
    obtain ⟨sl',e2⟩:=sm b _ e1 (nf b hb _ e1);exact ⟨_,e2⟩
   ·obtain ⟨o',e1⟩:=F.CI b o e hb
    exact ⟨o',st b o' e1⟩,F.un.nQ,F.un.nM,F.un.nS⟩
 hok:=F.hok
 cov:=F.cov
 CI:=F.CI
theorem xU {h base:Heap} {l:List Env} (hl:h.FunFrames base l):∀ b ∈ frs l,∀ o,h.get? b=some o->∀ vs,o.data≠.fields vs:=λ b hb o e=>by
 obtain ⟨_,o',e',nf⟩:=hl.mem hb;rw [e] at e';cases e';exact nf
def CX1 (P:Program) (w:World):CXT:=λ outer H s E e s' =>
 ∃ (ea:Addr) (cls a0:Value) (H':Hp) (B:Heap),e=.ref ea/\s'.os=s.os/\AllBare s'.gens/\Heap.FlyingW B outer ea cls a0 s'.heap/\Fly P w (frs outer) H H' s.heap B s'.heap/\E cls none H'
def zD (X:Cx) (E:XK):Prop:=∀ (pins:List (Addr×Obj)) (σ:St) (H:Hp) (s:Shared) (e:Addr) (cls:Value) (vs:List Value) (h':Heap),Inv X pins σ H s->Heap.MadeExcOf s.heap h' e cls vs->E cls none H->X.xe (.ref e) { s with heap:=h' }
section
variable {P:Program} {w:World} {K:W.Frag} {mg:Str->Option Value} {base:Heap} {N:List Str} {qual:Str} {scope:Scope} {f:Addr} {cd:Value} {A:Around} {outer:List Env} {s:Shared} {H:Hp} {E:XK}
theorem tw:zD (qk (CX1 P w) P w K mg base N qual scope f cd A outer s H E) E:=by
 intro pins σ H1 s1 e cls vs h' I hx hE;show wpAny (model P w) (A.deeper (envOfC qual scope s.heap.objs.size f cd)) (leaving (envOfC qual scope s.heap.objs.size f cd) (.ref e)) (λ _ s''=>CX1 P w outer H s E (.ref e) s'') (λ e' s''=>CX1 P w outer H s E e' s'') { s1 with heap:=h' };generalize hX:qk (CX1 P w) P w K mg base N qual scope f cd A outer s H E=X at I;have hfr:X.A.frames=some (envOfC qual scope s.heap.objs.size f cd::outer):=by rw [I.ok.frames,<- hX]; rfl
 have hst:X.stack=envOfC qual scope s.heap.objs.size f cd::outer:=by rw [<- hX]; rfl
 have hfs:X.fs=frs outer:=by rw [<- hX]; rfl
 have bs:=I.base;rw [hfs] at bs;have hs0:X.s₀=s:=by rw [<- hX]; rfl
 have hH0:X.H₀=H:=by rw [<- hX]; rfl
 have hex:X.ex=[]:=by rw [<- hX]; rfl
 have hA:X.A=A.deeper (envOfC qual scope s.heap.objs.size f cd):=by rw [<- hX]; rfl
 have hP:X.prog=P:=by rw [<- hX]; rfl
 have hw:X.w=w:=by rw [<- hX]; rfl
 rw [hs0,hH0,hex] at bs;have stk:=I.stack;have dF:=I.dF;have iy:=I.iy;rw [hst] at stk dF iy;have hok:=I.hok;rw [hP,hw] at hok;rw [hA] at hfr;have aboveL:s.heap.objs.size<=X.env.locals:=by have:=I.ok.above; rw [hs0] at this; exact this
 have hin:∀ env ∈ (envOfC qual scope s.heap.objs.size f cd::outer),∀ b,env.frame=some b->b ∈ frs (envOfC qual scope s.heap.objs.size f cd::outer):=λ env he b hb=>Y8.mpr ⟨env,he,hb⟩
 refine wpAny_leaves_madeW (base:=PySem.W.hideAll s1.heap (frs (envOfC qual scope s.heap.objs.size f cd::outer))) (h:=s1.heap) hfr rfl (λ b o q=>PySem.W.of_hideAll _ q) (PySem.W.funFrames_hide stk hin) hx λ h'' t x1 x2 x3 x4=>?_
 have inB:∀ b o,s1.heap.get? b=some o->b ∉ frs (envOfC qual scope s.heap.objs.size f cd::outer)->(PySem.W.hideAll s1.heap (frs (envOfC qual scope s.heap.objs.size f cd::outer))).get? b=some o:=λ b o q hb=>PySem.W.hideAll_get _ q hb
 have notF:∀ b u,H1 b=some u->b ∉ frs (envOfC qual scope s.heap.objs.size f cd::outer):=λ b u q z=>by rw [iy b z] at q; cases q
 have neL:∀ b o,s.heap.get? b=some o->b ∉ frs outer->b ∉ frs (envOfC qual scope s.heap.objs.size f cd::outer):=λ b o q hb z =>
  (Zh.mp (dF b z)).elim (Zz (Zu (Zr q) aboveL)) (λ z'=>hb (by rw [<- hfs]; exact z'))
 have sub:∀ b,b ∈ frs outer->b ∈ frs (envOfC qual scope s.heap.objs.size f cd::outer):=λ b hb=>by
  obtain ⟨env,he,hf⟩:=Y8.mp hb;exact Y8.mpr ⟨env,Zc _ he,hf⟩
 have nf:=xU stk;have cov:∀ b o,s.heap.get? b=some o->H b=none->b ∉ frs outer->(PySem.W.hideAll s1.heap (frs (envOfC qual scope s.heap.objs.size f cd::outer))).get? b=some o:=λ b o q n hb=>inB b o (bs.keep b o q n hb (by simp)) (neL b o q hb)
 have CI:∀ b o,s.heap.get? b=some o->b ∉ frs outer->∃ o',(PySem.W.hideAll s1.heap (frs (envOfC qual scope s.heap.objs.size f cd::outer))).get? b=some o':=λ b o q hb=>by
  obtain ⟨o1,e1⟩:=bs.there b o q (by simp);exact ⟨o1,inB b o1 e1 (neL b o q hb)⟩
 refine ⟨e,cls,_,H1,_,rfl,by have:=I.os; rw [hs0] at this; exact this,I.bare,x1,⟨⟨λ b o q n hb _=>x1.1 b o (cov b o q n hb),λ b o q n hb _=>?_,bs.free,λ b o q _=>?_,bs.nQ,bs.nM,bs.nS⟩,λ b u q=>?_,cov,CI⟩,hE⟩
 ·obtain ⟨sl,e1⟩:=bs.slot b o q n hb (by simp)
  obtain ⟨sl',e2⟩:=x4 b _ (hx.keeps b _ e1) (nf b (sub b hb) _ e1);exact ⟨sl',e2⟩
 ·obtain ⟨o1,e1⟩:=bs.there b o q (by simp)
  by_cases hb:b ∈ frs (envOfC qual scope s.heap.objs.size f cd::outer)
  ·obtain ⟨sl',e2⟩:=x4 b _ (hx.keeps b _ e1) (nf b hb _ e1)
   exact ⟨_,e2⟩
  · exact ⟨o1,x1.1 b o1 (inB b o1 e1 hb)⟩
 ·exact (hok b u q).sM (λ c v hc z=>inB c v z (by
   rcases hc with rfl | hc
   · exact notF _ _ q
   · exact notF _ _ hc)) (λ _ z=>z) λ _ _ z=>z
theorem cJ:iu (CX1 P w) (qk (CX1 P w) P w K mg base N qual scope f cd A outer s H E) E:=by
 intro pins σ H1 s1 e s' I h;obtain ⟨ea,cls,a0,H',B,rfl,os,bare,fl,fy,hE⟩:=h;show wpAny (model P w) (A.deeper (envOfC qual scope s.heap.objs.size f cd)) (leaving (envOfC qual scope s.heap.objs.size f cd) (.ref ea)) (λ _ s''=>CX1 P w outer H s E (.ref ea) s'') (λ e' s''=>CX1 P w outer H s E e' s'') s';generalize hX:qk (CX1 P w) P w K mg base N qual scope f cd A outer s H E=X at I fl fy;have hst:X.stack=envOfC qual scope s.heap.objs.size f cd::outer:=by rw [<- hX]; rfl
 have hfr:X.A.frames=some (envOfC qual scope s.heap.objs.size f cd::outer):=by rw [I.ok.frames,hst]
 have hfs:X.fs=frs outer:=by rw [<- hX]; rfl
 have bs:=I.base;rw [hfs] at bs;have hs0:X.s₀=s:=by rw [<- hX]; rfl
 have hH0:X.H₀=H:=by rw [<- hX]; rfl
 have hex:X.ex=[]:=by rw [<- hX]; rfl
 have hA:X.A=A.deeper (envOfC qual scope s.heap.objs.size f cd):=by rw [<- hX]; rfl
 rw [hs0,hH0,hex] at bs;have dF:=I.dF;rw [hst] at dF fl fy;rw [hA] at hfr;have aboveL:s.heap.objs.size<=X.env.locals:=by have:=I.ok.above; rw [hs0] at this; exact this
 refine wpAny_leaves_onW hfr rfl fl λ h'' x1 x2=>?_
 have neL:∀ b o,s.heap.get? b=some o->b ∉ frs outer->b ∉ frs (envOfC qual scope s.heap.objs.size f cd::outer):=λ b o q hb z =>
  (Zh.mp (dF b z)).elim (Zz (Zu (Zr q) aboveL)) (λ z'=>hb (by rw [<- hfs]; exact z'))
 have nf:=xU fl.2.2.1;have fy2:=fy.step x1.1 x2 nf;have cov:∀ b o,s.heap.get? b=some o->H b=none->b ∉ frs outer->B.get? b=some o:=λ b o q n hb=>fy.cov b o (bs.keep b o q n hb (by simp)) (bs.free b o q n (by simp)) (neL b o q hb)
 refine ⟨ea,cls,a0,H',B,rfl,os.trans (by have:=I.os; rw [hs0] at this; exact this),bare,x1,⟨⟨λ b o q n hb _=>x1.1 b o (cov b o q n hb),λ b o q n hb _=>?_,λ b o q n _=>?_,λ b o q _=>?_,λ b xs q=>fy.un.nQ b xs (bs.nQ b xs q),λ b o u q=>fy.un.nM b o u (bs.nM b o u q),λ b ps q=>?_⟩,fy.hok,cov,λ b o q hb=>?_⟩,hE⟩
 ·obtain ⟨sl,e1⟩:=bs.slot b o q n hb (by simp)
  obtain ⟨sl',e2⟩:=fy2.un.any e1 (bs.free b o q n (by simp)) (by simp);exact ⟨sl',e2⟩
 ·obtain ⟨o1,e1⟩:=bs.there b o q (by simp)
  exact fy.un.free b o1 e1 (bs.free b o q n (by simp)) (by simp)
 ·obtain ⟨o1,e1⟩:=bs.there b o q (by simp)
  exact fy2.un.there b o1 e1 (by simp)
 ·obtain ⟨m1,e1⟩:=bs.nS b ps q
  obtain ⟨m2,e2⟩:=fy.un.nS b _ e1;exact ⟨m1++m2,by rw [e2,Array.append_assoc]⟩
 ·obtain ⟨o1,e1⟩:=bs.there b o q (by simp)
  exact fy.CI b o1 e1 (neL b o q hb)
end
theorem Fun.okX {P:Program} {w:World} {K:W.Frag} {mg:Str->Option Value} {base:Heap} {x qual:Str} {st:Stmt} {f:Addr} {fd:FuncData} {N ps:List Str} {k:Nat} {sp:Sp} (F:Fun K x qual st f fd) (S:cU N ps (aC st)) (len:∀ vs H Q E,sp vs H Q E->vs.length=ps.length)
  (hbody:∀ (cdv:Value) (A:Around) (outer:List Env) (s:Shared) (H:Hp) (vs:List V) (Q:VK) (E:XK),c6 k (A.deeper (envOfC qual (aC st) s.heap.objs.size f cdv))->sp vs H Q E ->
    ∃ t,PSs (qk (CX1 P w) P w K mg base N qual (aC st) f cdv A outer s H E) (bw st) t/\t { nx:=λ _ H'=>Q .non H',rt:=Q } (start N vs) H):fW P w K mg base (CX1 P w) (k+1) f fd ps sp:=by
 obtain ⟨oc,od,kV,doc,pm,an,cdv,ct,osl,rfl,lk,hcd⟩:=F.ex;refine E2 lk hcd S len λ A outer s H vs Q E hr hsp=>?_
 obtain ⟨t,h,q⟩:=hbody cdv A outer s H vs Q E hr hsp;exact ⟨t,h,q⟩
end L2
end
section
namespace L2
open PySem PySem.Spec PySem.W PySem.Calls PyProof.Rows
def Km:List Value:=[.type "ValueError",.type "Exception",.type "BaseException",.type "object"]
theorem Ea {K:Frag} {h₀:Heap} {mg:Str->Option Value} {x:Str} {C:Addr} {bmB:List Value} {newId:String} (X:K.In h₀) (e:mg x=some (.ref C)) (q:excIn K C bmB newId=true):OwnCls x C bmB newId mg h₀:=by
 refine ⟨e,?_⟩;unfold excIn at q;split at q
 ·rename_i dd cd sl ho
  split at q
  ·rename_i C' bm k0 k1 k2 k3 n k5 hm hs
   simp only [Yr,beq_iff_eq,Bool.not_eq_true'] at q;obtain ⟨⟨⟨⟨⟨rfl,rfl⟩,hdel⟩,ht⟩,hok⟩,hni⟩:=q;obtain ⟨nm,bs,mro,ns,qn,hd,sn,sub,ab,col,del⟩:=cd;dsimp only at hm hdel hok hni;subst hm hdel
   have hsl:sl=#[k0,k1,k2,k3,some (.builtin n),k5]:=by
    obtain ⟨l⟩:=sl;simp only at hs;rw [hs]
   subst hsl;exact ⟨bm,ns,nm,qn,bs,hd,sn,sub,ab,col,dd,k0,k1,k2,k3,k5,_,X _ _ ho,.of_isNs (isNs_of_in X hok),nsMap_none_of_in X hok hni,tail_of_in X ht⟩
  · cases q
 · cases q
def C0 (t:TA) (E:XK) (C:Addr):TS:=λ _ σ H=>t σ H λ vs H1=>vs.length<=sizeLine/\E (.ref C) none H1
theorem xj {X:Cx} {E:XK} {x:Str} {C:Addr} {np cpos pos:Pos} {e₀:Expr} {rest:List Expr} {t:TA} (hR:zD X E) (hc:X.calm=true) (hex:excIn X.K C Km "ValueError.__new__"=true) (hg:Gl X x) (hm:X.mg x=some (.ref C))
  (ha:PA X (e₀::rest) t) (he:starEach (e₀::rest) X.env=(false,eval e₀ X.env)::starEach rest X.env:=by rfl)
  (hplain:(backTo cpos (starEach rest X.env)).any (·.1)=false:=by rfl) (hd:(x == ("__debug__":Str))=false:=by decide) :
  PS X (.Raise (some (.Call (.Name x np) (e₀::rest) [] cpos)) none pos) (C0 t E C):=by
 intro pins s σ H D I h;have O:=Ea (mg:=X.mg) (x:=x) I.ok.mod.kin hm hex;obtain ⟨tl,N,nm,q,bs,hdct,sn,sub,ab,col,dd,k0,k1,k2,k3,k5,mN,hC,hN,hni,T⟩:=O.obj
 refine wpAny_Raise_call_subT (C:=C) (nm:=nm) (q:=q) (N:=N) (bs:=bs) (bm:=tl) (hdct:=hdct) (sn:=sn) (sub:=sub) (ab:=ab) (col:=col) (dd:=dd) (k0:=k0) (k1:=k1) (k2:=k2) (k3:=k3) (k5:=k5)
  PySem.F.excBase_ValueError (mN:=mN) (T.hasType PySem.F.excBase_ValueError.hasBase) (I.ok.hd hc) (by rw [he]; show (false||(backTo cpos (starEach rest X.env)).any (·.1))=false; rw [hplain]; rfl) hni (jT I hg hm ⟨rfl,?_⟩ hd)
 have A1:=ha cpos pins s σ H _ I h;rw [he] at A1 ⊢;exact Calls.evalArgs_plain (thn A1 λ us s1 ⟨vs,H1,I1,r,z,q⟩=>⟨rfl,by rw [<- r.length]; exact z,I1.bk _ _ hC,hN.keeps I1.bk,T.keeps I1.bk,λ h' e mk=>hR pins σ H1 s1 e _ _ h' I1 mk q⟩)
def mS (X:Cx) (ea:Addr):Cx:={ X with A:=X.A.mark (some (.ref ea)),calm:=false,xe:=λ _ _=>False }
section
variable {X:Cx} {pins:List (Addr×Obj)} {σ:St} {H:Hp} {s:Shared} {ea:Addr}
theorem Cx.Ok.mark (ok:X.Ok):(mS X ea).Ok:=⟨ok.mod,ok.kind,ok.glob,ok.blt,ok.above,ok.inj,ok.has,ok.cab,λ z=>absurd (show false=true from z) Zf,ok.frames,ok.stk,ok.exf,ok.bs,ok.bsz,ok.Bo,ok.CD,ok.pX,ok.frf⟩
theorem Inv.mark (I:Inv X pins σ H s):Inv (mS X ea) pins σ H s:=⟨I.ok.mark,I.os,I.bare,I.base,I.loc,I.cell,I.free,I.gw,I.pin,I.hok,I.len⟩
theorem Inv.unmark (ok:X.Ok) (I:Inv (mS X ea) pins σ H s):Inv X pins σ H s:=⟨ok,I.os,I.bare,I.base,I.loc,I.cell,I.free,I.gw,I.pin,I.hok,I.len⟩
theorem SP.unmark (ok:X.Ok) (h:SP (mS X ea) pins D f s'):SP X pins D f s':=by
 cases f with
 | next=>obtain ⟨σ',H',I,q⟩:=h; exact ⟨σ',H',I.unmark ok,q⟩
 | brk=>obtain ⟨σ',H',I,q⟩:=h; exact ⟨σ',H',I.unmark ok,q⟩
 | cont=>obtain ⟨σ',H',I,q⟩:=h; exact ⟨σ',H',I.unmark ok,q⟩
 | ret u=>obtain ⟨v,σ',H',I,r,q⟩:=h; exact ⟨v,σ',H',I.unmark ok,r,q⟩
end
abbrev THn:=Ends->St->Hp->Addr->Value->Prop
def PH (X:Cx) (hs:List ExceptHandler) (th:THn):Prop :=
  ∀ (pins:List (Addr×Obj)) (s0 s:Shared) (σ:St) (H H':Hp) (D:Ends) (ea:Addr) (cls a0:Value) (B:Heap),Inv X pins σ H s0->Fly X.prog X.w (frs X.stack) H H' s0.heap B s.heap->s.os=s0.os->AllBare s.gens ->
    Heap.FlyingW B X.stack ea cls a0 s.heap->th D σ H' ea cls->wpAny (model X.prog X.w) X.A (handleBy (.ref ea) X.env hs) (SP X pins D) X.xe s
theorem Fly.inv (I:Inv X pins σ H s0) (F:Fly X.prog X.w (frs X.stack) H H' s0.heap B s.heap) (ho:s.os=s0.os) (hg:AllBare s.gens) (st:B.StaysIn s.heap):Inv X pins σ H' s :=
 I.Cj (ch:=[]) ho F.un (F.hok.kept st) hg λ b z=>absurd z (by simp)
section
variable {X:Cx} {x:Str} {C:Addr} {p pos:Pos} {b₀:Stmt} {suite:List Stmt} {rest:List ExceptHandler} {ts:TS} {th:THn}
def Gx (K:Frag) (C:Addr) (ts:TS) (th:THn):THn:=λ D σ H ea cls=>∃ b,exmOne K cls (.ref C)=some b/\if b=true then ts D σ H else th D σ H ea cls
theorem DP:PH X [] (λ _ _ _ _ _=>False):=λ _ _ _ _ _ _ _ _ _ _ _ _ _ _ _ _ h=>h.elim
theorem ya (I:Inv X pins σ H s) (hg:Gl X x) (hm:X.mg x=some u) (h:Q u s)
  (hd:(x == ("__debug__":Str))=false:=by decide):wpAny (model X.prog X.w) A (eval (.Name x pos) X.env) Q E s :=
 Xd I.ok.kind hg (Calls.loadGlobal_global (by rw [I.ok.glob]; exact I.mod.glob.keeps I.bk) hm h) hd
theorem DN (hg:Gl X x) (hm:X.mg x=some (.ref C)) (hs:∀ ea,PSs (mS X ea) (b₀::suite) ts) (hr:PH X rest th) (hd:(x == ("__debug__":Str))=false:=by decide) :
  PH X (.ExceptHandler (some (.Name x p)) none (b₀::suite) pos::rest) (Gx X.K C ts th):=by
 intro pins s0 s σ H H' D ea cls a0 B I F ho hb fl h;obtain ⟨b,he,h⟩:=h;have I1:=F.inv I ho hb fl.1
 have LT:Looks (model X.prog X.w) s.heap (typeOf (.ref ea)) cls:=by
  obtain ⟨ob,hob,hc⟩:=fl.there;subst hc;exact (Looks.ld hob).andThen .now
 refine wpAny_handleBy_cons (codeAny_handlers_test (ya I1 hg hm ((exm_one I1.kIn LT he).here ?_) hd)) (by intro q; cases q)
 cases b with
 | false=>exact hr pins s0 s σ H H' D ea cls a0 B I F ho hb fl h
 | true =>
  refine codeAny_handlers_suite (lands_againW fl λ h6 fl6 sm6=>?_);have F6:=F.step fl6.1 sm6 (xU fl.2.2.1);have I6:Inv X pins σ H' { s with heap:=h6 }:=F6.inv (s:={ s with heap:=h6 }) I ho hb fl6.1;exact Yc (hs ea pins _ σ H' D I6.mark h) (λ f s2 q=>q.unmark I.ok) λ _ _ q=>q.elim
end
def sH (X:Cx) (pn:List (Addr×Obj)) (E:Value->Shared->Prop):Cx:={ X with pn:=pn,xe:=E }
section
variable {X:Cx} {pins:List (Addr×Obj)} {σ:St} {H:Hp} {s:Shared} {E:Value->Shared->Prop}
theorem Cx.Ok.into (ok:X.Ok) {pn:List (Addr×Obj)}:(sH X pn E).Ok:=⟨ok.mod,ok.kind,ok.glob,ok.blt,ok.above,ok.inj,ok.has,ok.cab,ok.hd,ok.frames,ok.stk,ok.exf,ok.bs,ok.bsz,ok.Bo,ok.CD,ok.pX,ok.frf⟩
theorem Inv.into (I:Inv X pins σ H s):Inv (sH X (X.pn++pins) E) [] σ H s:=⟨I.ok.into,I.os,I.bare,I.base,I.loc,I.cell,I.free,I.gw,λ p hp=>I.pin p (by
 have hp':p ∈ (X.pn++pins)++[]:=hp
 simpa using hp'),I.hok,I.len⟩
theorem Inv.out (ok:X.Ok) (I:Inv (sH X (X.pn++pins) E) pins' σ H s):Inv X pins σ H s:=⟨ok,I.os,I.bare,I.base,I.loc,I.cell,I.free,I.gw,λ p hp=>I.pin p (Zk _ hp),I.hok,I.len⟩
end
def ir (CX:CXT) (X:Cx) (σ:St) (E:XK):Prop:=∀ (pins:List (Addr×Obj)) (H:Hp) (s:Shared) (e:Value) (s':Shared),Inv X pins σ H s->CX X.stack H s E e s'->X.xe e s'
theorem iu.at (h:iu CX X E) (σ:St):ir CX X σ E:=λ pins H s e s' I q=>h pins σ H s e s' I q
def Kq (tb:(St->XK)->TS) (th:THn) (te:TS):TS:=λ D σ H=>tb (λ σ' cls _ H'=>∀ ea,th D σ' H' ea cls) { D with nx:=te D } σ H
theorem DF
  (hb:∀ (pn:List (Addr×Obj)) (E:Value->Shared->Prop) (EX:St->XK),(∀ σ,ir (CX1 X.prog X.w) (sH X pn E) σ (EX σ))->PSs (sH X pn E) body (tb EX))
  (hh:PH X (h₀::hs) th) (ho:PSs X orelse te) (hst:X.stack=X.env::X.outer) (hf:X.env.frame=some L):PS X (.Try body (h₀::hs) orelse [] pos) (Kq tb th te):=by
 intro pins s σ H D I h;refine wpAny_Try_except ?_
 refine Yc (hb (X.pn++pins) (λ e s₁=>wpAny (model X.prog X.w) X.A (noteFrame e X.env) (λ _ s₂=>wpAny (model X.prog X.w) X.A (setFlight e none) (λ _ s₃=>wpAny (model X.prog X.w) X.A (handleBy e X.env (h₀::hs)) (SP X pins D) X.xe s₃) X.xe s₂) X.xe s₁)
  (λ σ' cls _ H'=>∀ ea,th D σ' H' ea cls) ?_ [] s σ H { D with nx:=te D } I.into h) (λ f s1 q=>?_) λ e s1 q=>q
 ·intro σ' pins' H1 s1 e s' I' hc
  obtain ⟨ea,cls,a0,H',B,rfl,os,bare,fl,fy,hE⟩:=hc;have I1:Inv X pins σ' H1 s1:=I'.out I.ok;have fl':Heap.FlyingW B (X.env::X.outer) ea cls a0 s'.heap:=by rw [<- hst]; exact fl
  refine wpAny_looks_onW (by rw [I.ok.frames,hst]) hf fl' λ h4 held4 sm4=>?_
  refine wpAny_landsW held4 λ h5 fl5 sm5=>?_
  have F5:Fly X.prog X.w (frs X.stack) H1 H' s1.heap B h5:=fy.step fl5.1 (sm4.trans sm5) (xU fl.2.2.1);exact hh pins s1 { s' with heap:=h5 } σ' H1 H' D ea cls a0 B I1 F5 os bare (by rw [hst]; exact fl5) (hE ea)
 ·cases f with
  | next=>obtain ⟨σ',H',I',q⟩:=q; exact ho pins s1 σ' H' D (I'.out I.ok) q
  | brk=>obtain ⟨σ',H',I',q⟩:=q; exact ⟨σ',H',I'.out I.ok,q⟩
  | cont=>obtain ⟨σ',H',I',q⟩:=q; exact ⟨σ',H',I'.out I.ok,q⟩
  | ret u=>obtain ⟨v,σ',H',I',r,q⟩:=q; exact ⟨v,σ',H',I'.out I.ok,r,q⟩
section
variable {X:Cx} {CX:CXT} {k:Nat} {f C:Addr} {fd:FuncData} {ps:List Str} {sp:Sp} {dvs:List V} {ds:List Value} {EX:St->XK} {x m:Str} {p pos apos:Pos} {e o:Expr} {es:List Expr} {ta:TE} {t:TA}
theorem s9 (F:fW X.prog X.w X.K X.mg X.base CX k f fd ps sp) (hr:c6 k X.A) (hb:Binds X.K fd ps ds) (hd:be dvs ds) (hx:ir CX X σ E)
  (I:Inv X pins σ H s) (r:be vs us) (h:sp (vs++dvs) H Q E):wpAny (model X.prog X.w) X.A (call (.ref f) us) (EP X pins σ Q) X.xe s:=by
 have r2:be (vs++dvs) (us++ds):=r.append hd;have hl:(us++ds).length=ps.length:=by rw [<- r2.length]; exact F.len _ _ _ _ h
 refine wpAny_call (codeAny_mono (F.run X.A X.stack s H ⟨us,[]⟩ (us++ds) (vs++dvs) Q E hr I.Jq (hb s us I.kIn hl) r2 h) λ r s' hq=>?_)
 cases r with
 | error e=>exact hx pins H s e s' I hq
 | ok fl =>
  cases fl with
  | ret u=>exact I.after hq
  | next=>exact False.elim hq
  | brk=>exact False.elim hq
  | cont=>exact False.elim hq
def C9 (sp:Sp) (dvs:List V) (EX:St->XK) (t:TA):TE:=λ σ H Q=>t σ H λ vs H1=>sp (vs++dvs) H1 Q (EX σ)
theorem dS (F:fW X.prog X.w X.K X.mg X.base CX k f fd ps sp) (hr:c6 k X.A) (hg:Gl X x) (hm:X.mg x=some (.ref f)) (hk:keepIn X.K (.ref f)=true) (hb:Binds X.K fd ps ds) (hd:be dvs ds) (hx:∀ σ,ir CX X σ (EX σ))
  (ha:PA X (e::es) t) (hdb:(x == ("__debug__":Str))=false:=by decide) (he:starEach (e::es) X.env=(false,eval e X.env)::starEach es X.env:=by rfl) (hpl:(backTo pos (starEach es X.env)).any (·.1)=false:=by rfl) :
  PE X (.Call (.Name x p) (e::es) [] pos) (C9 sp dvs EX t):=by
 intro pins s σ H Q I h;refine Yu (jT I hg hm ?_ hdb);refine callWith_K (h₀:=X.base) I.ok.mod.kin hk (thn (ha pos pins s σ H _ I h) λ us s1 ⟨vs,H1,I1,r,q⟩=>⟨I1.kIn,?_⟩) he hpl;exact s9 F hr hb hd (hx σ) I1 r q
end
end L2
end
section
namespace L2
open PySem PySem.Spec PySem.W PySem.Calls PyProof.Rows Builtin Builtin.ObjectAttr Builtin.Getset_descriptor
def LR (K:Frag) (D:Addr):Bool :=
 (clsIn K D).isSome&&(findIn K (.ref D) "__getattribute__" == some (some (.builtin "BaseException.__getattribute__")))&&(findIn K (.ref D) "__getattr__" == some none) &&
 (findIn K (.ref D) "__class__" == some (some (.builtin "object.__class__")))&&(specialIn K (.builtin "object.__class__") "__get__" == some (some (.builtin "getset_descriptor.__get__"))) &&
 (takesIn K (.builtin "object.__class__") == some true)&&(mroIn K D (.type "object") == some true)&&(mroIn K D (.type "BaseException") == some true)
end L2
end
section
namespace L2
open PySem PySem.Spec PyProof.Rows
inductive D where
 | non | bl (b:Bool) | int (i:Int) | str (x:Str) | ty (n:String)
 | tup (ds:List D) | lst (ds:List D) | fz (ds:List D) | dct (kvs:List (Key×D)) | obj (C:Addr) (fs:List (Str×D)) | cls (C:Addr) | dfz (kvs:List (Key×D))
mutual
inductive Rp (K:W.Frag) (H:Hp):V->D->Prop where
 | non:Rp K H .non .non
 | bl (b:Bool):Rp K H (.bl b) (.bl b)
 | int (i:Int):Rp K H (.int i) (.int i)
 | str (x:Str):Rp K H (.str x) (.str x)
 | ty (n:String):Rp K H (.ty n) (.ty n)
 | cls (C:Addr):Rp K H (.ref C) (.cls C)
 | tup {a:Addr} {xs:List V} {ds:List D} (h:SqT K H a xs) (r:Rps K H xs ds):Rp K H (.ref a) (.tup ds)
 | lst {a:Addr} {xs:List V} {ds:List D} (h:H a=some (.lst xs)) (r:Rps K H xs ds):Rp K H (.ref a) (.lst ds)
 | fz {a:Addr} {xs:List V} {ds:List D} (h:SqL K H a xs) (r:Rps K H xs ds):Rp K H (.ref a) (.fz ds)
 | dct {a:Addr} {kvs:List (Key×V)} {ds:List (Key×D)} (h:H a=some (.dK kvs)) (r:RpK K H kvs ds):Rp K H (.ref a) (.dct ds)
 | obj {a C dx:Addr} {fs:List (Str×V)} {ds:List (Str×D)} (h:H a=some (.ins C dx fs)) (r:RpF K H fs ds):Rp K H (.ref a) (.obj C ds)
 | dfz {a:Addr} {kvs:List (Key×V)} {ds:List (Key×D)} (h:Rd H a (.dK kvs)) (r:RpK K H kvs ds):Rp K H (.ref a) (.dfz ds)
inductive Rps (K:W.Frag) (H:Hp):List V->List D->Prop where
 | nil:Rps K H [] []
 | cons {x:V} {d:D} {xs:List V} {ds:List D} (h:Rp K H x d) (r:Rps K H xs ds):Rps K H (x::xs) (d::ds)
inductive RpK (K:W.Frag) (H:Hp):List (Key×V)->List (Key×D)->Prop where
 | nil:RpK K H [] []
 | cons {k:Key} {x:V} {d:D} {xs:List (Key×V)} {ds:List (Key×D)} (h:Rp K H x d) (r:RpK K H xs ds):RpK K H ((k,x)::xs) ((k,d)::ds)
inductive RpF (K:W.Frag) (H:Hp):List (Str×V)->List (Str×D)->Prop where
 | nil:RpF K H [] []
 | cons {k:Str} {x:V} {d:D} {xs:List (Str×V)} {ds:List (Str×D)} (h:Rp K H x d) (r:RpF K H xs ds):RpF K H ((k,x)::xs) ((k,d)::ds)
end
section
variable {K:W.Frag} {H H':Hp}
mutual
theorem Rp.same (g:bz H H'):∀ {v:V} {d:D},Rp K H v d->Rp K H' v d
 | _,_,.non=>.non
 | _,_,.bl b=>.bl b
 | _,_,.int i=>.int i
 | _,_,.str x=>.str x
 | _,_,.ty n=>.ty n
 | _,_,.cls n=>.cls n
 | _,_,.tup h r=>.tup (g.tup h) (Rps.same g r)
 | _,_,.lst h r=>.lst (g _ _ h) (Rps.same g r)
 | _,_,.fz h r=>.fz (g.seq h) (Rps.same g r)
 | _,_,.dct h r=>.dct (g _ _ h) (RpK.same g r)
 | _,_,.obj h r=>.obj (g _ _ h) (RpF.same g r)
 | _,_,.dfz h r=>.dfz (h.elim (λ z=>.inl (g _ _ z)) λ ⟨o,z⟩=>.inr ⟨o,g _ _ z⟩) (RpK.same g r)
theorem Rps.same (g:bz H H'):∀ {v:List V} {d:List D},Rps K H v d->Rps K H' v d
 | _,_,.nil=>.nil
 | _,_,.cons h r=>.cons (Rp.same g h) (Rps.same g r)
theorem RpK.same (g:bz H H'):∀ {v:List (Key×V)} {d:List (Key×D)},RpK K H v d->RpK K H' v d
 | _,_,.nil=>.nil
 | _,_,.cons h r=>.cons (Rp.same g h) (RpK.same g r)
theorem RpF.same (g:bz H H'):∀ {v:List (Str×V)} {d:List (Str×D)},RpF K H v d->RpF K H' v d
 | _,_,.nil=>.nil
 | _,_,.cons h r=>.cons (Rp.same g h) (RpF.same g r)
end
theorem Rps.length:∀ {xs:List V} {ds:List D},Rps K H xs ds->xs.length=ds.length
 | _,_,.nil=>rfl
 | _,_,.cons _ r=>Yo (·+1) r.length
theorem Rps.get:∀ {xs:List V} {ds:List D} {i:Nat} {d:D},Rps K H xs ds->ds[i]?=some d->∃ x,xs[i]?=some x/\Rp K H x d
 | _,_,_,_,.nil,e=>by simp at e
 | _,_,0,_,.cons h _,e=>by simp at e; subst e; exact ⟨_,by simp,h⟩
 | _,_,i+1,d,.cons _ r,e=>by
  obtain ⟨x,h1,h2⟩:=Rps.get (i:=i) (d:=d) r (by simpa using e);exact ⟨x,by simpa using h1,h2⟩
theorem Rps.append:∀ {xs ys:List V} {ds es:List D},Rps K H xs ds->Rps K H ys es->Rps K H (xs++ys) (ds++es)
 | _,_,_,_,.nil,h=>h
 | _,_,_,_,.cons h r,h'=>.cons h (Rps.append r h')
theorem Rps.take:∀ {xs:List V} {ds:List D} (n:Nat),Rps K H xs ds->Rps K H (xs.take n) (ds.take n)
 | _,_,0,_=>.nil
 | _,_,_+1,.nil=>.nil
 | _,_,n+1,.cons h r=>.cons h (Rps.take n r)
theorem Rps.drop:∀ {xs:List V} {ds:List D} (n:Nat),Rps K H xs ds->Rps K H (xs.drop n) (ds.drop n)
 | _,_,0,h=>h
 | _,_,_+1,.nil=>.nil
 | _,_,n+1,.cons _ r=>Rps.drop n r
theorem Rps.ints:∀ (ns:List Int),Rps K H (ns.map V.int) (ns.map D.int)
 | []=>.nil
 | n::ns=>.cons (.int n) (Rps.ints ns)
end
structure Ext (Hs H Hs' H':Hp):Prop where
 ss:bz Hs Hs'
 sh:bz Hs' H'
 hh:bz H H'
 fr:∀ b,Hs b=none->H b≠none->Hs' b=none
theorem Ext.refl (h:bz Hs H):Ext Hs H Hs H:=⟨.refl _,h,.refl _,λ _ h _=>h⟩
theorem eu {α:Type} {o:Option α} {x:α} (h:o=some x):o≠none:=by rw [h]; simp
theorem bz.live (g:bz H H') (h:H b≠none):H' b≠none:=by
 cases q:H b with
 | none=>exact absurd q h
 | some o=>rw [g _ _ q]; simp
theorem Ext.trans (a:Ext Hs H Hs1 H1) (b:Ext Hs1 H1 Hs2 H2):Ext Hs H Hs2 H2 :=
 ⟨a.ss.trans b.ss,b.sh,a.hh.trans b.hh,λ c h1 h2=>b.fr c (a.fr c h1 h2) (a.hh.live h2)⟩
theorem Ext.new (h:bz Hs H) (hp:H p=none) (o:HO):Ext Hs H (upd Hs p o) (upd H p o):=by
 refine ⟨aw (h.free hp) o,λ b u q=>?_,aw hp o,λ b h1 h2=>?_⟩
 ·by_cases e:b=p
  · subst e; rw [ao] at q ⊢; exact q
  · rw [ai e] at q ⊢; exact h _ _ q
 ·by_cases e:b=p
  · subst e; exact absurd hp h2
  · rw [ai e]; exact h1
inductive Sl where
 | no | shr (d:D) | own (d:D)
inductive Ow (K:W.Frag) (Hs H:Hp) (a:Addr):D->Prop where
 | lst {xs:List V} {ds:List D} (h:H a=some (.lst xs)) (n:Hs a=none) (r:Rps K Hs xs ds):Ow K Hs H a (.lst ds)
 | dct {kvs:List (Key×V)} {ds:List (Key×D)} (h:H a=some (.dK kvs)) (n:Hs a=none) (r:RpK K Hs kvs ds):Ow K Hs H a (.dct ds)
theorem Ow.hid {K:W.Frag} {Hs H:Hp} {a:Addr} {d:D} (h:Ow K Hs H a d):Hs a=none:=by cases h <;> assumption
theorem Ow.live {K:W.Frag} {Hs H:Hp} {a:Addr} {d:D} (h:Ow K Hs H a d):H a≠none:=by
 cases h with
 | lst h _ _=>exact eu h
 | dct h _ _=>exact eu h
theorem Ow.ext {K:W.Frag} {Hs H Hs' H':Hp} {a:Addr} {d:D} (g:Ext Hs H Hs' H') (h:Ow K Hs H a d):Ow K Hs' H' a d:=by
 have n':=g.fr a h.hid h.live
 cases h with
 | lst h n r=>exact .lst (g.hh _ _ h) n' (r.same g.ss)
 | dct h n r=>exact .dct (g.hh _ _ h) n' (r.same g.ss)
theorem Ow.off {K:W.Frag} {Hs H H':Hp} {a:Addr} {d:D} (h:Ow K Hs H a d) (e:H' a=H a):Ow K Hs H' a d:=by
 cases h with
 | lst h n r=>exact .lst (e.trans h) n r
 | dct h n r=>exact .dct (e.trans h) n r
inductive StR (K:W.Frag) (H0 Hs H:Hp):List (Option V)->List Sl->List Addr->Prop where
 | nil:StR K H0 Hs H [] [] []
 | no {o:Option V} {σ:List (Option V)} {τ:List Sl} {fp:List Addr} (r:StR K H0 Hs H σ τ fp):StR K H0 Hs H (o::σ) (.no::τ) fp
 | shr {v:V} {d:D} {σ:List (Option V)} {τ:List Sl} {fp:List Addr} (h:Rp K Hs v d) (r:StR K H0 Hs H σ τ fp):StR K H0 Hs H (some v::σ) (.shr d::τ) fp
 | own {a:Addr} {d:D} {σ:List (Option V)} {τ:List Sl} {fp:List Addr} (h:Ow K Hs H a d) (z:H0 a=none) (m:a ∉ fp) (r:StR K H0 Hs H σ τ fp):StR K H0 Hs H (some (.ref a)::σ) (.own d::τ) (a::fp)
section
variable {K:W.Frag} {H0 Hs H Hs' H':Hp} {σ:List (Option V)} {τ:List Sl} {fp:List Addr}
theorem StR.ext (g:Ext Hs H Hs' H') (h:StR K H0 Hs H σ τ fp):StR K H0 Hs' H' σ τ fp:=by
 induction h with
 | nil=>exact .nil
 | no _ ih=>exact .no ih
 | shr h _ ih=>exact .shr (h.same g.ss) ih
 | own h z m _ ih=>exact .own (h.ext g) z m ih
theorem StR.off (h:StR K H0 Hs H σ τ fp) (m:a ∉ fp):StR K H0 Hs (upd H a o) σ τ fp:=by
 induction h with
 | nil=>exact .nil
 | no _ ih=>exact .no (ih m)
 | shr h _ ih=>exact .shr h (ih m)
 | @own b d σ τ fp h z n _ ih =>
  have ne:b≠a:=λ e=>m (by rw [e]; exact Ze ..)
  exact .own (h.off (ai ne)) z n (ih (λ q=>m (Zc _ q)))
theorem StR.B5 (h:StR K H0 Hs H σ τ fp):∀ a ∈ fp,Hs a=none/\H0 a=none/\H a≠none:=by
 induction h with
 | nil=>intro a h; cases h
 | no _ ih=>exact ih
 | shr _ _ ih=>exact ih
 | own h z m _ ih =>
  intro b hb;rcases Zh.mp hb with e | e
  · subst e; exact ⟨h.hid,z,h.live⟩
  · exact ih b e
theorem StR.get {i:Nat} {d:D} (h:StR K H0 Hs H σ τ fp):τ[i]?=some (.shr d)->∃ v,σ[i]?=some (some v)/\Rp K Hs v d:=by
 induction h generalizing i with
 | nil=>intro e; simp at e
 | no _ ih =>
  intro e
  cases i with
  | zero=>simp at e
  | succ i=>exact ih (by simpa using e)
 | shr h _ ih =>
  intro e
  cases i with
  | zero=>simp at e; subst e; exact ⟨_,rfl,h⟩
  | succ i=>exact ih (by simpa using e)
 | own _ _ _ _ ih =>
  intro e
  cases i with
  | zero=>simp at e
  | succ i=>exact ih (by simpa using e)
theorem StR.zt {i:Nat} {d:D} (h:StR K H0 Hs H σ τ fp):τ[i]?=some (.own d)->∃ a,σ[i]?=some (some (.ref a))/\Ow K Hs H a d/\H0 a=none/\a ∈ fp:=by
 induction h generalizing i with
 | nil=>intro e; simp at e
 | no _ ih =>
  intro e
  cases i with
  | zero=>simp at e
  | succ i=>exact ih (by simpa using e)
 | shr h _ ih =>
  intro e
  cases i with
  | zero=>simp at e
  | succ i=>exact ih (by simpa using e)
 | own h z m _ ih =>
  intro e
  cases i with
  | zero=>simp at e; subst e; exact ⟨_,rfl,h,z,Ze ..⟩
  | succ i =>
   obtain ⟨a,h1,h2,h3,h4⟩:=ih (by simpa using e);exact ⟨a,h1,h2,h3,Zc _ h4⟩
theorem StR.qI (hv:Rp K Hs v d) (h:StR K H0 Hs H σ τ fp):∃ fp',(∀ a ∈ fp',a ∈ fp)/\StR K H0 Hs H (σ.set i (some v)) (τ.set i (.shr d)) fp':=by
 induction h generalizing i with
 | nil=>exact ⟨[],λ _ h=>h,.nil⟩
 | no r ih =>
  cases i with
  | zero=>exact ⟨_,λ _ h=>h,.shr hv r⟩
  | succ i=>obtain ⟨fp',h1,h2⟩:=ih; exact ⟨fp',h1,.no h2⟩
 | shr h r ih =>
  cases i with
  | zero=>exact ⟨_,λ _ h=>h,.shr hv r⟩
  | succ i=>obtain ⟨fp',h1,h2⟩:=ih (i:=i); exact ⟨fp',h1,.shr h h2⟩
 | own h z m r ih =>
  cases i with
  | zero=>exact ⟨_,λ _ h=>Zc _ h,.shr hv r⟩
  | succ i =>
   obtain ⟨fp',h1,h2⟩:=ih (i:=i);exact ⟨_::fp',λ b hb=>(Zh.mp hb).elim (λ e=>by subst e; exact Ze ..) λ e=>Zc _ (h1 b e),.own h z (λ q=>m (h1 _ q)) h2⟩
theorem StR.KL (hv:Ow K Hs H a d) (z0:H0 a=none) (h:StR K H0 Hs H σ τ fp) (m0:a ∉ fp) (hi:i < τ.length) :
  ∃ fp',(∀ b ∈ fp',b=a\/b ∈ fp)/\StR K H0 Hs H (σ.set i (some (.ref a))) (τ.set i (.own d)) fp':=by
 induction h generalizing i with
 | nil=>exact absurd hi (by simp)
 | @no o σ τ fp r ih =>
  cases i with
  | zero=>exact ⟨a::fp,λ b h=>Zh.mp h,.own hv z0 m0 r⟩
  | succ i=>obtain ⟨fp',h1,h2⟩:=ih m0 (by simpa using hi); exact ⟨fp',h1,.no h2⟩
 | @shr v d σ τ fp h r ih =>
  cases i with
  | zero=>exact ⟨a::fp,λ b h=>Zh.mp h,.own hv z0 m0 r⟩
  | succ i=>obtain ⟨fp',h1,h2⟩:=ih m0 (i:=i) (by simpa using hi); exact ⟨fp',h1,.shr h h2⟩
 | @own b d' σ τ fp h z m r ih =>
  have m1:a ∉ fp:=λ q=>m0 (Zc _ q)
  cases i with
  | zero=>exact ⟨a::fp,λ c hc=>(Zh.mp hc).imp id λ e=>Zc _ e,.own hv z0 m1 r⟩
  | succ i =>
   obtain ⟨fp',h1,h2⟩:=ih m1 (i:=i) (by simpa using hi);refine ⟨b::fp',λ c hc=>?_,.own h z (λ q=>?_) h2⟩
   ·rcases Zh.mp hc with e | e
    · exact .inr (by subst e; exact Ze ..)
    · exact (h1 c e).imp id λ e=>Zc _ e
   ·rcases h1 _ q with e | e
    · exact m0 (by rw [<- e]; exact Ze ..)
    · exact m e
theorem StR.mut {i:Nat} {a:Addr} {d d':D} {o:HO} (h:StR K H0 Hs H σ τ fp):τ[i]?=some (.own d)->σ[i]?=some (some (.ref a))->Ow K Hs (upd H a o) a d'->StR K H0 Hs (upd H a o) σ (τ.set i (.own d')) fp:=by
 induction h generalizing i with
 | nil=>intro e; simp at e
 | no _ ih =>
  intro e e2 hv
  cases i with
  | zero=>simp at e
  | succ i=>exact .no (ih (by simpa using e) (by simpa using e2) hv)
 | shr h _ ih =>
  intro e e2 hv
  cases i with
  | zero=>simp at e
  | succ i=>exact .shr h (ih (by simpa using e) (by simpa using e2) hv)
 | @own b d1 σ τ fp h z m r ih =>
  intro e e2 hv
  cases i with
  | zero =>
   have q:b=a:=by simpa using e2
   subst q;exact .own hv z m (r.off m)
  | succ i =>
   have e':τ[i]?=some (.own d):=by simpa using e
   have e2':σ[i]?=some (some (.ref a)):=by simpa using e2
   obtain ⟨c,h1,h2,h3,h4⟩:=r.zt e';have q:c=a:=by rw [e2'] at h1; simpa using h1.symm
   subst q;have ne:b≠c:=λ e=>m (by rw [e]; exact h4)
   exact .own (h.off (ai ne)) z m (ih e' e2' hv)
end
theorem Ow.rp {K:W.Frag} {Hs H:Hp} {a:Addr} {d:D} (h:Ow K Hs H a d):∃ o,H a=some o/\Rp K (upd Hs a o) (.ref a) d:=by
 cases h with
 | lst h n r=>exact ⟨_,h,.lst ao (r.same (aw n _))⟩
 | dct h n r=>exact ⟨_,h,.dct ao (r.same (aw n _))⟩
section
variable {K:W.Frag} {H0 Hs H Hs' H':Hp} {σ:List (Option V)} {τ:List Sl} {fp:List Addr}
theorem StR.LP (h:StR K H0 Hs H σ τ fp) (n:Hs a=none) (m:a ∉ fp):StR K H0 (upd Hs a o) H σ τ fp:=by
 induction h with
 | nil=>exact .nil
 | no _ ih=>exact .no (ih m)
 | shr h _ ih=>exact .shr (h.same (aw n o)) (ih m)
 | @own b d σ τ fp h z k _ ih =>
  have ne:b≠a:=λ e=>m (by rw [e]; exact Ze ..)
  refine .own ?_ z k (ih (λ q=>m (Zc _ q)))
  cases h with
  | lst h n' r=>exact .lst h (by rw [ai ne]; exact n') (r.same (aw n o))
  | dct h n' r=>exact .dct h (by rw [ai ne]; exact n') (r.same (aw n o))
theorem StR.frz {i:Nat} {d:D} (h:StR K H0 Hs H σ τ fp):τ[i]?=some (.own d)->∃ a o fp',H a=some o/\Hs a=none/\H0 a=none/\StR K H0 (upd Hs a o) H σ (τ.set i (.shr d)) fp'/\a ∉ fp'/\(∀ b ∈ fp',b ∈ fp)/\σ[i]?=some (some (.ref a))/\Ow K Hs H a d:=by
 induction h generalizing i with
 | nil=>intro e; simp at e
 | no _ ih =>
  intro e
  cases i with
  | zero=>simp at e
  | succ i =>
   obtain ⟨a,o,fp',h1,h2,h3,h4,h5,h6,h7,h8⟩:=ih (by simpa using e);exact ⟨a,o,fp',h1,h2,h3,.no h4,h5,h6,h7,h8⟩
 | shr h _ ih =>
  intro e
  cases i with
  | zero=>simp at e
  | succ i =>
   obtain ⟨a,o,fp',h1,h2,h3,h4,h5,h6,h7,h8⟩:=ih (i:=i) (by simpa using e);exact ⟨a,o,fp',h1,h2,h3,.shr (h.same (aw h2 o)) h4,h5,h6,h7,h8⟩
 | @own b d1 σ τ fp h z m r ih =>
  intro e
  cases i with
  | zero =>
   simp at e;subst e;obtain ⟨o,h1,h2⟩:=h.rp;exact ⟨b,o,fp,h1,h.hid,z,.shr h2 (r.LP h.hid m),m,λ _ q=>Zc _ q,rfl,h⟩
  | succ i =>
   obtain ⟨a,o,fp',h1,h2,h3,h4,h5,h6,h7,h8⟩:=ih (i:=i) (by simpa using e);obtain ⟨c,k1,k2,k3,k4⟩:=r.zt (i:=i) (by simpa using e);have q:c=a:=by rw [h7] at k1; simpa using k1.symm
   subst q;have ne:b≠c:=λ e=>m (by rw [e]; exact k4)
   refine ⟨c,o,b::fp',h1,h2,h3,.own ?_ z (λ q=>m (h6 _ q)) h4,?_,?_,h7,h8⟩
   ·cases h with
    | lst h n' r=>exact .lst h (by rw [ai ne]; exact n') (r.same (aw h2 o))
    | dct h n' r=>exact .dct h (by rw [ai ne]; exact n') (r.same (aw h2 o))
   ·intro q
    rcases Zh.mp q with e | e
    · exact ne e.symm
    · exact h5 e
   ·intro c' hc
    rcases Zh.mp hc with e | e
    · subst e; exact Ze ..
    · exact Zc _ (h6 _ e)
end
abbrev DE:=List Sl->Option D
abbrev DT:=List Sl->Option Bool
abbrev DA:=List Sl->Option (List D)
inductive Out where
 | next (τ:List Sl) | ret (s:Sl) | brk (τ:List Sl) | cnt (τ:List Sl)
abbrev DS:=List Sl->Option Out
def SlV (K:W.Frag) (H0 Hs H:Hp) (v:V):Sl->Prop
 | .no=>False
 | .shr d=>Rp K Hs v d
 | .own d=>∃ a,v=.ref a/\Ow K Hs H a d/\H0 a=none
structure Rep (K:W.Frag) (Hs0 H0 Hs H:Hp) (σ:St) (τ:List Sl):Prop where
 ext:Ext Hs0 H0 Hs H
 st:∃ fp,StR K H0 Hs H σ τ fp
def rdE (K:W.Frag) (f:DE):TE:=λ σ H Q=>∃ H0 Hs τ fp d,StR K H0 Hs H σ τ fp/\bz Hs H/\f τ=some d/\∀ v Hs' H',Ext Hs H Hs' H'->Rp K Hs' v d->Q v H'
def rdT (K:W.Frag) (f:DT):TT:=λ σ H Q=>∃ H0 Hs τ fp d,StR K H0 Hs H σ τ fp/\bz Hs H/\f τ=some d/\∀ Hs' H',Ext Hs H Hs' H'->Q d H'
def rdA (K:W.Frag) (f:DA):TA:=λ σ H Q=>∃ H0 Hs τ fp d,StR K H0 Hs H σ τ fp/\bz Hs H/\f τ=some d/\∀ v Hs' H',Ext Hs H Hs' H'->Rps K Hs' v d->Q v H'
def rdO (K:W.Frag) (f:DE):TE:=λ σ H Q=>∃ H0 Hs τ fp d,StR K H0 Hs H σ τ fp/\bz Hs H/\f τ=some d/\∀ a Hs' H',Ext Hs H Hs' H'->Ow K Hs' H' a d->H a=none->Q (.ref a) H'
def PEd (X:Cx) (e:Expr) (f:DE):Prop:=PE X e (rdE X.K f)
def PEo (X:Cx) (e:Expr) (f:DE):Prop:=PE X e (rdO X.K f)
def PTd (X:Cx) (e:Expr) (f:DT):Prop:=PT X e (rdT X.K f)
def PAd (X:Cx) (es:List Expr) (f:DA):Prop:=PA X es (rdA X.K f)
def Fin (K:W.Frag) (Hs0 H0:Hp) (E:Ends):Out->Prop
 | .next τ=>∀ σ Hs H,Rep K Hs0 H0 Hs H σ τ->E.nx σ H
 | .brk τ=>∀ σ Hs H,Rep K Hs0 H0 Hs H σ τ->E.bk σ H
 | .cnt τ=>∀ σ Hs H,Rep K Hs0 H0 Hs H σ τ->E.ct σ H
 | .ret s=>∀ v Hs H,Ext Hs0 H0 Hs H->SlV K H0 Hs H v s->E.rt v H
def rdS (K:W.Frag) (f:DS):TS:=λ E σ H=>∃ Hs0 H0 Hs τ o,Rep K Hs0 H0 Hs H σ τ/\f τ=some o/\Fin K Hs0 H0 E o
def PSd (X:Cx) (s:Stmt) (f:DS):Prop:=PS X s (rdS X.K f)
def mf (X:Cx) (s:List Stmt) (f:DS):Prop:=PSs X s (rdS X.K f)
theorem PE.imp (h:PE X e t) (hi:∀ σ H Q,t' σ H Q->t σ H Q):PE X e t':=λ pins s σ H Q I q=>h pins s σ H Q I (hi _ _ _ q)
theorem PT.imp (h:PT X e t) (hi:∀ σ H Q,t' σ H Q->t σ H Q):PT X e t':=λ pins s σ H Q I q=>h pins s σ H Q I (hi _ _ _ q)
theorem PA.imp (h:PA X e t) (hi:∀ σ H Q,t' σ H Q->t σ H Q):PA X e t':=λ pos pins s σ H Q I q=>h pos pins s σ H Q I (hi _ _ _ q)
theorem PS.imp (h:PS X e t) (hi:∀ E σ H,t' E σ H->t E σ H):PS X e t':=λ pins s σ H E I q=>h pins s σ H E I (hi _ _ _ q)
theorem PSs.imp (h:PSs X e t) (hi:∀ E σ H,t' E σ H->t E σ H):PSs X e t':=λ pins s σ H E I q=>h pins s σ H E I (hi _ _ _ q)
def aF (i:Nat):DE:=λ τ=>match τ[i]? with | some (.shr d)=>some d | _=>none
def dC (d:D):DE:=λ _=>some d
def dOp (o:D->D->Option D) (f g:DE):DE:=λ τ=>(f τ).bind λ x=>(g τ).bind λ y=>o x y
def dUn (o:D->Option D) (f:DE):DE:=λ τ=>(f τ).bind o
def dM:DA:=λ _=>some []
def aI (f:DE) (g:DA):DA:=λ τ=>(f τ).bind λ x=>(g τ).bind λ xs=>some (x::xs)
def gA (o:List D->Option D) (f:DA):DE:=λ τ=>(f τ).bind o
def Gj (f:DA):DE:=λ τ=>(f τ).bind λ ds=>if ds.length<=100000 then some (.tup ds) else none
def Fd (f:DA):DE:=λ τ=>(f τ).bind λ ds=>if ds.length<=100000 then some (.lst ds) else none
def dIf (c:DT) (f g:DE):DE:=λ τ=>(c τ).bind λ b=>if b=true then f τ else g τ
def ka (f g:DE):DE:=λ τ=>(f τ).bind λ x=>match x with | .bl true=>g τ | .bl false=>some (.bl false) | _=>none
def LW (f g:DE):DE:=λ τ=>(f τ).bind λ x=>match x with | .bl true=>some (.bl true) | .bl false=>g τ | _=>none
def Fc (f:DE):DE:=λ τ=>(f τ).bind λ x=>match x with | .bl b=>some (.bl (!b)) | _=>none
def dT (f:DE):DT:=λ τ=>(f τ).bind λ x=>match x with | .bl b=>some b | _=>none
def Gk (f g:DT):DT:=λ τ=>(f τ).bind λ b=>if b=true then g τ else some false
def dOr (f g:DT):DT:=λ τ=>(f τ).bind λ b=>if b=true then some true else g τ
def wm (f:DT):DT:=λ τ=>(f τ).map (!·)
theorem le5 (h:n<=100000):n < sizeLine:=Nat.lt_of_le_of_lt h (by rw [Xp]; decide)
theorem rq (h:n<=100000):n<=sizeLine:=Yw (le5 h)
theorem nn {α:Type} {d:α} {p:Prop} (h:(none:Option α)=some d):p:=nomatch h
theorem bind_some {α β:Type} {o:Option α} {f:α->Option β} {b:β} (h:o.bind f=some b):∃ a,o=some a/\f a=some b:=Option.bind_eq_some_iff.mp h
section
variable {X:Cx} {a b c e:Expr} {es:List Expr} {pos:Pos} {f g h:DE}
theorem DY (i:Nat) (hN:X.N[i]?=some x:=by rfl) (hv:Vis X.env.scope x:=by first | exact Or.inl rfl | exact Or.inr (Or.inl rfl) | exact Or.inr (Or.inr rfl)) (hd:(x == ("__debug__":Str))=false:=by decide)
   (hcd:(x == ("__classdict__":Str))=false:=by decide):PEd X (.Name x pos) (aF i) :=
 (cI hN hv hd hcd).imp λ σ H Q ⟨H0,Hs,τ,fp,d,st,sm,e,k⟩=>by
   have e':τ[i]?=some (.shr d):=by
    unfold aF at e;split at e
    · rename_i d' q; rw [q]; simpa using e
    · cases e
   obtain ⟨v,h1,h2⟩:=st.get e';exact ⟨v,h1,k v Hs H (.refl sm) h2⟩
theorem fK (h:PE X e (tC v)) (r:∀ H,Rp X.K H v d):PEd X e (dC d) :=
 h.imp λ σ H Q ⟨H0,Hs,τ,fp,d',st,sm,e,k⟩=>by
  have e':=Zj e;subst e';exact k v Hs H (.refl sm) (r Hs)
theorem D4 {j}:PEd X (.Constant (.int i) j pos) (dC (.int i)):=fK kS λ _=>.int i
theorem G8 {j}:PEd X (.Constant (.bool i) j pos) (dC (.bl i)):=fK A7 λ _=>.bl i
theorem D3 {j}:PEd X (.Constant .none j pos) (dC .non):=fK DV λ _=>.non
theorem D0 {j}:PEd X (.Constant (.str x) j pos) (dC (.str x)):=fK yX λ _=>.str x
theorem Ba (hg:Gl X x) (hm:X.mg x=some u) (r:RelV v u) (rd:∀ H,Rp X.K H v d) (hd:(x == ("__debug__":Str))=false:=by decide):PEd X (.Name x pos) (dC d):=fK (A2 hg hm r hd) rd
theorem G4 (hg:Gl X x) (hm:X.mg x=none) (hv:bootBuiltins x=some (.type n)) (hn:x≠"__name__":=by decide) (hd:(x == ("__debug__":Str))=false:=by decide):PEd X (.Name x pos) (dC (.ty n)) :=
 fK (v:=.ty n) (A6 hg hm hv (rfl) hn hd) λ _=>.ty n
def rdR (K:W.Frag) (o:D->D->Option D):R2:=λ x y H Q=>∃ Hs dx dy d,bz Hs H/\Rp K Hs x dx/\Rp K Hs y dy/\o dx dy=some d/\∀ v Hs' H',Ext Hs H Hs' H'->Rp K Hs' v d->Q v H'
def rdU (K:W.Frag) (o:D->Option D):V->Hp->VK->Prop:=λ x H Q=>∃ Hs dx d,bz Hs H/\Rp K Hs x dx/\o dx=some d/\∀ v Hs' H',Ext Hs H Hs' H'->Rp K Hs' v d->Q v H'
def rdL (K:W.Frag) (o:List D->Option D):List V->Hp->VK->Prop:=λ xs H Q=>∃ Hs ds d,bz Hs H/\Rps K Hs xs ds/\o ds=some d/\∀ v Hs' H',Ext Hs H Hs' H'->Rp K Hs' v d->Q v H'
theorem kN (K:W.Frag) (hh:rdE K (dOp o f g) σ H Q):tOp (rdR K o) (rdE K f) (rdE K g) σ H Q:=by
 obtain ⟨H0,Hs,τ,fp,d,st,sm,e,k⟩:=hh;obtain ⟨x,e1,e⟩:=bind_some e;obtain ⟨y,e2,e⟩:=bind_some e;refine ⟨H0,Hs,τ,fp,x,st,sm,e1,λ v Hs1 H1 g1 r1=>?_⟩;refine ⟨H0,Hs1,τ,fp,y,st.ext g1,g1.sh,e2,λ u Hs2 H2 g2 r2=>?_⟩;exact ⟨Hs2,x,y,d,g2.sh,r1.same g2.ss,r2,e,λ w Hs3 H3 g3 r3=>k w Hs3 H3 ((g1.trans g2).trans g3) r3⟩
theorem G5 (ho:OpR X (binaryOp op) (rdR X.K o)) (ha:PEd X a f) (hb:PEd X b g):PEd X (.BinOp a op b pos) (dOp o f g) :=
 (DQ ho ha hb).imp λ σ H Q h=>kN X.K h
theorem G3 (ho:UnR X (unaryOp op) (rdU X.K o)) (ha:PEd X a f):PEd X (.UnaryOp op a pos) (dUn o f) :=
 (G1 ho ha).imp λ σ H Q ⟨H0,Hs,τ,fp,d,st,sm,e,k⟩=>by
   obtain ⟨x,e1,e⟩:=bind_some e;exact ⟨H0,Hs,τ,fp,x,st,sm,e1,λ v Hs1 H1 g1 r1=>⟨Hs1,x,d,g1.sh,r1,e,λ w Hs3 H3 g3 r3=>k w Hs3 H3 (g1.trans g3) r3⟩⟩
theorem D7 (ho:OpR X (compareOp op) (rdR X.K o)) (ha:PEd X a f) (hb:PEd X b g) (hm:behindInMarks op b=false):PEd X (.Compare a [op] [b] pos) (dOp o f g) :=
 (A5 ho ha hb hm).imp λ σ H Q h=>kN X.K h
theorem Ap (ho:OpR X (compareOp op) (rdR X.K o)) (ha:PEd X a f) (hb:PEd X b g) (hm:behindInMarks op b=false):PTd X (.Compare a [op] [b] pos) (dT (dOp o f g)) :=
 (Ar ho ha hb hm).imp λ σ H Q ⟨H0,Hs,τ,fp,d,st,sm,e,k⟩=>by
   obtain ⟨x,e1,e⟩:=bind_some e;have hx:x=.bl d:=by cases x <;> simp at e <;> subst e <;> rfl
   subst hx;refine kN X.K ⟨H0,Hs,τ,fp,_,st,sm,e1,λ v Hs' H' g r=>?_⟩;cases r;exact ⟨d,rfl,k Hs' H' g⟩
theorem xF (ho:OpR X (compareOp op) (rdR X.K o)) (ho':OpR X (compareOp op') (rdR X.K o')) (ha:PEd X a f) (hb:PEd X b g) (hc:PEd X c h)
   (hm:lastMarks [op,op'] [b,c]=false:=by with_unfolding_all rfl):PEd X (.Compare a [op,op'] [b,c] pos) (ka (dOp o f g) (dOp o' g h)) :=
 (xE ho ho' ha hb hc hm).imp λ σ H Q ⟨H0,Hs,τ,fp,d,st,sm,e,k⟩=>by
   obtain ⟨r,e0,e⟩:=bind_some e;obtain ⟨x,e1,e0⟩:=bind_some e0;obtain ⟨y,e2,e0⟩:=bind_some e0;refine ⟨H0,Hs,τ,fp,x,st,sm,e1,λ v Hs1 H1 g1 r1=>?_⟩;refine ⟨H0,Hs1,τ,fp,y,st.ext g1,g1.sh,e2,λ u Hs2 H2 g2 r2=>?_⟩;refine ⟨Hs2,x,y,r,g2.sh,r1.same g2.ss,r2,e0,λ w Hs3 H3 g3 r3=>?_⟩
   cases r3 with
   | bl kb =>
    refine ⟨kb,rfl,?_⟩
    cases kb with
    | false =>
     rw [if_neg Zf];have e':D.bl false=d:=by simpa using e
     subst e';exact k _ Hs3 H3 ((g1.trans g2).trans g3) (.bl false)
    | true =>
     rw [if_pos rfl];obtain ⟨y',q1,q2⟩:=bind_some (e);have ey:y'=y:=by rw [e2] at q1; exact (Zj q1).symm
     subst ey;obtain ⟨z,q3,q4⟩:=bind_some q2;refine ⟨H0,Hs3,τ,fp,z,st.ext ((g1.trans g2).trans g3),g3.sh,q3,λ u' Hs4 H4 g4 r4=>?_⟩;exact ⟨Hs4,y',z,d,g4.sh,(r2.same g3.ss).same g4.ss,r4,q4,λ w' Hs5 H5 g5 r5=>k w' Hs5 H5 ((((g1.trans g2).trans g3).trans g4).trans g5) r5⟩
   | _=>exact nn e
theorem Bf:PAd X [] dM:=bc.imp λ σ H Q ⟨H0,Hs,τ,fp,d,st,sm,e,k⟩=>by
 have e':=Zj e;subst e';exact k [] Hs H (.refl sm) .nil
theorem xJ {g:DA} (ha:PEd X e f) (hr:PAd X es g) (hs:starEach (e::es) X.env=(false,eval e X.env)::starEach es X.env:=by rfl):PAd X (e::es) (aI f g) :=
 (aJ ha hr hs).imp λ σ H Q ⟨H0,Hs,τ,fp,d,st,sm,e,k⟩=>by
   obtain ⟨x,e1,e⟩:=bind_some e;obtain ⟨xs,e2,e⟩:=bind_some e;have e':=Zj e;subst e';refine ⟨H0,Hs,τ,fp,x,st,sm,e1,λ v Hs1 H1 g1 r1=>?_⟩;exact ⟨H0,Hs1,τ,fp,xs,st.ext g1,g1.sh,e2,λ u Hs2 H2 g2 r2=>k _ Hs2 H2 (g1.trans g2) (.cons (r1.same g2.ss) r2)⟩
theorem DZ {x1} {g:DA} (h:PAd X es g):PEd X (.Tuple es x1 pos) (Gj g) :=
 (uf h).imp λ σ H Q ⟨H0,Hs,τ,fp,d,st,sm,e,k⟩=>by
   obtain ⟨xs,e1,e⟩:=bind_some e
   by_cases hl:xs.length<=100000
   ·rw [if_pos hl] at e
    have e':=Zj e;subst e';refine ⟨H0,Hs,τ,fp,xs,st,sm,e1,λ v Hs1 H1 g1 r1=>?_⟩;refine ⟨by rw [r1.length]; exact rq hl,λ p hp=>?_⟩;have g2:=Ext.new g1.sh hp (.tup v);exact k _ _ _ (g1.trans g2) (.tup (SqT.of ao) (r1.same g2.ss))
   · rw [if_neg hl] at e; cases e
theorem DK {g:DA} (h:PAd X es g):PEo X (.List es pos) (Fd g) :=
 (uh h).imp λ σ H Q ⟨H0,Hs,τ,fp,d,st,sm,e,k⟩=>by
   obtain ⟨xs,e1,e⟩:=bind_some e
   by_cases hl:xs.length<=100000
   ·rw [if_pos hl] at e
    have e':=Zj e;subst e';refine ⟨H0,Hs,τ,fp,xs,st,sm,e1,λ v Hs1 H1 g1 r1=>?_⟩;refine ⟨by rw [r1.length]; exact rq hl,λ p hp=>?_⟩;refine k p Hs1 _ ⟨g1.ss,g1.sh.trans (aw hp _),g1.hh.trans (aw hp _),g1.fr⟩ (.lst ao (g1.sh.free hp) r1) (g1.hh.free hp)
   · rw [if_neg hl] at e; cases e
theorem PEo.shr (h:PEo X e f):PEd X e f :=
 PE.imp h λ σ H Q ⟨H0,Hs,τ,fp,d,st,sm,e,k⟩=>⟨H0,Hs,τ,fp,d,st,sm,e,λ a Hs' H' g o z=>by
  obtain ⟨ob,h1,h2⟩:=o.rp;refine k _ (upd Hs' a ob) H' ⟨g.ss.trans (aw o.hid ob),λ b u q=>?_,g.hh,λ b h3 h4=>?_⟩ h2
  ·by_cases eb:b=a
   · subst eb; rw [ao] at q; rw [h1]; exact q
   · rw [ai eb] at q; exact g.sh _ _ q
  ·by_cases eb:b=a
   · subst eb; exact absurd z h4
   · rw [ai eb]; exact g.fr b h3 h4⟩
theorem An (h:PEd X e f) (he:∀ whole,isTrue e X.env whole=(do let v <- whole; standAt e.pos; holding [v] (truthy v)):=by intro _; rfl):PTd X e (dT f) :=
 (yU h he).imp λ σ H Q ⟨H0,Hs,τ,fp,d,st,sm,e,k⟩=>by
   obtain ⟨x,e1,e⟩:=bind_some e;have hx:x=.bl d:=by cases x <;> simp at e <;> subst e <;> rfl
   subst hx;refine ⟨H0,Hs,τ,fp,_,st,sm,e1,λ v Hs' H' g r=>?_⟩;cases r;exact ⟨d,rfl,k Hs' H' g⟩
theorem Ao {f:DT} (h:PTd X e f):PTd X (.UnaryOp .Not e pos) (wm f) :=
 (yV h).imp λ σ H Q ⟨H0,Hs,τ,fp,d,st,sm,e,k⟩=>by
   obtain ⟨x,e1,e⟩:=Zm e;subst e;exact ⟨H0,Hs,τ,fp,x,st,sm,e1,λ Hs' H' g=>k Hs' H' g⟩
def PWd (X:Cx) (e:Expr) (f:DT):Prop:=PW X e (rdT X.K f)
theorem PW.imp (h:PW X e t) (hi:∀ σ H Q,t' σ H Q->t σ H Q):PW X e t':=λ wh pins s σ H Q I q=>h wh pins s σ H Q I (hi _ _ _ q)
theorem wH {f:DT} (h:PTd X a f):PWd X (.BoolOp .And [a] pos) f:=pw_and1 h
theorem Ae {f:DT} (h:PTd X a f):PWd X (.BoolOp .Or [a] pos) f:=pw_or1 h
theorem Af {f g:DT} (ha:PTd X a f) (hb:PWd X (.BoolOp .And (b::es) pos) g):PWd X (.BoolOp .And (a::b::es) pos) (Gk f g) :=
 PW.imp (pw_and ha hb) λ σ H Q ⟨H0,Hs,τ,fp,d,st,sm,e,k⟩=>by
  obtain ⟨x,e1,e⟩:=bind_some e;refine ⟨H0,Hs,τ,fp,x,st,sm,e1,λ Hs' H' g1=>?_⟩
  cases x with
  | true=>exact ⟨H0,Hs',τ,fp,d,st.ext g1,g1.sh,e,λ Hs2 H2 g2=>k Hs2 H2 (g1.trans g2)⟩
  | false =>
   have e':false=d:=by simpa using e
   subst e';exact k Hs' H' g1
theorem Dy {f g:DT} (ha:PTd X a f) (hb:PWd X (.BoolOp .Or (b::es) pos) g):PWd X (.BoolOp .Or (a::b::es) pos) (dOr f g) :=
 PW.imp (pw_or ha hb) λ σ H Q ⟨H0,Hs,τ,fp,d,st,sm,e,k⟩=>by
  obtain ⟨x,e1,e⟩:=bind_some e;refine ⟨H0,Hs,τ,fp,x,st,sm,e1,λ Hs' H' g1=>?_⟩
  cases x with
  | false=>exact ⟨H0,Hs',τ,fp,d,st.ext g1,g1.sh,e,λ Hs2 H2 g2=>k Hs2 H2 (g1.trans g2)⟩
  | true =>
   have e':true=d:=by simpa using e
   subst e';exact k Hs' H' g1
theorem PWd.ptd {f:DT} (h:PWd X e f):PTd X e f:=PW.pt h
theorem D1 {op} (h:PEd X a f):PEd X (.BoolOp op [a] pos) f:=DR h
theorem D8 (ha:PEd X a f) (hb:PEd X (.BoolOp .And (b::es) pos) g):PEd X (.BoolOp .And (a::b::es) pos) (ka f g) :=
 (DX ha hb).imp λ σ H Q ⟨H0,Hs,τ,fp,d,st,sm,e,k⟩=>by
   obtain ⟨x,e1,e⟩:=bind_some e;refine ⟨H0,Hs,τ,fp,x,st,sm,e1,λ v Hs' H' g1 r=>?_⟩
   cases r with
   | bl kb =>
    refine ⟨kb,rfl,?_⟩
    cases kb with
    | true=>exact ⟨H0,Hs',τ,fp,d,st.ext g1,g1.sh,e,λ v Hs2 H2 g2 r=>k v Hs2 H2 (g1.trans g2) r⟩
    | false =>
     have e':D.bl false=d:=by simpa using e
     subst e';exact k _ Hs' H' g1 (.bl false)
   | _=>exact nn e
theorem D2 (ha:PEd X a f):PEd X (.UnaryOp .Not a pos) (Fc f) :=
 (DU ha).imp λ σ H Q ⟨H0,Hs,τ,fp,d,st,sm,e,k⟩=>by
   obtain ⟨x,e1,e⟩:=bind_some e;refine ⟨H0,Hs,τ,fp,x,st,sm,e1,λ v Hs' H' g1 r=>?_⟩
   cases r with
   | bl kb =>
    have e':D.bl (!kb)=d:=by simpa using e
    subst e';exact ⟨kb,rfl,k _ Hs' H' g1 (.bl _)⟩
   | _=>exact nn e
theorem G7 (hc:PTd X c t) (ha:PEd X a f) (hb:PEd X b g):PEd X (.IfExp c a b pos) (dIf t f g) :=
 (xC hc ha hb).imp λ σ H Q ⟨H0,Hs,τ,fp,d,st,sm,e,k⟩=>by
   obtain ⟨x,e1,e⟩:=bind_some e;refine ⟨H0,Hs,τ,fp,x,st,sm,e1,λ Hs' H' g1=>?_⟩
   cases x with
   | true=>exact ⟨H0,Hs',τ,fp,d,st.ext g1,g1.sh,by simpa using e,λ v Hs2 H2 g2 r=>k v Hs2 H2 (g1.trans g2) r⟩
   | false=>exact ⟨H0,Hs',τ,fp,d,st.ext g1,g1.sh,by simpa using e,λ v Hs2 H2 g2 r=>k v Hs2 H2 (g1.trans g2) r⟩
end
instance {i j:Int}:Decidable (zJ i j):=by unfold zJ; infer_instance
instance {i:Int}:Decidable (Sz i):=by unfold Sz; infer_instance
def mM:D->D->Option D
 | .int i,.int j=>some (.int (i+j))
 | .str x,.str y=>if x.length+y.length<=100000 then some (.str (x++y)) else none
 | .lst x,.lst y=>if x.length+y.length<=100000 then some (.lst (x++y)) else none
 | _,_=>none
def Ek:D->D->Option D
 | .int i,.int j=>some (.int (i - j))
 | _,_=>none
def zc:D->D->Option D
 | .int i,.int j=>if zJ i j\/(Sz i/\Sz j) then some (.int (i * j)) else none
 | _,_=>none
def oDiv:D->D->Option D
 | .int i,.int j=>if j≠0/\Sz j then some (.int (i.fdiv j)) else none
 | _,_=>none
def oMod:D->D->Option D
 | .int i,.int j=>if j≠0 then some (.int (i.fmod j)) else none
 | _,_=>none
def Fu:D->Option D
 | .int i=>some (.int (-i))
 | _=>none
def oLt:D->D->Option D
 | .int i,.int j=>some (.bl (decide (i < j)))
 | .str i,.str j=>some (.bl (decide (i.cps.toList < j.cps.toList)))
 | _,_=>none
def oLe:D->D->Option D
 | .int i,.int j=>some (.bl (decide (i<=j)))
 | _,_=>none
def oGt:D->D->Option D
 | .int i,.int j=>some (.bl (decide (j < i)))
 | _,_=>none
def oGe:D->D->Option D
 | .int i,.int j=>some (.bl (decide (j<=i)))
 | _,_=>none
def Fv:D->D->Option D
 | .non,.non=>some (.bl true)
 | _,.non=>some (.bl false)
 | _,_=>none
def kG:D->D->Option D
 | .non,.non=>some (.bl false)
 | _,.non=>some (.bl true)
 | _,_=>none
def eqS:D->D->Option Bool
 | .non,.non=>some true | .non,.int _=>some false | .int _,.non=>some false | .non,.bl _=>some false | .bl _,.non=>some false | .non,.str _=>some false | .str _,.non=>some false
 | .int i,.int j=>some (decide (i=j)) | .bl i,.bl j=>some (decide (i=j)) | .str i,.str j=>some (decide (i=j))
 | .int _,.str _=>some false | .str _,.int _=>some false | .bl _,.str _=>some false | .str _,.bl _=>some false
 | _,_=>none
mutual
def ja:D->PySem.W.Dat
 | .non=>.none | .bl b=>.bool b | .int i=>.int i | .str x=>.str x | .ty _=>.bytes #[]
 | .tup ds=>.tuple (hW ds) | .lst ds=>.list (hW ds) | .fz _=>.bytes #[] | .dct _=>.bytes #[] | .obj _ _=>.bytes #[] | .cls _=>.bytes #[] | .dfz _=>.bytes #[]
def hW:List D->List PySem.W.Dat
 | []=>[]
 | d::ds=>ja d::hW ds
end
mutual
def okD:Nat->D->Bool
 | _,.non=>true
 | _,.int _=>true
 | _,.str x=>PyData.strOk x
 | n+1,.tup ds=>oi n ds
 | n+1,.lst ds=>oi n ds
 | _,_=>false
def oi:Nat->List D->Bool
 | _,[]=>true
 | n,d::ds=>okD n d&&oi n ds
end
open PySem.W in
mutual
theorem jH:∀ (n:Nat) (d:D),okD n d=true->kqdOk n (ja d)=true
 | _,.non,_=>by simp [ja,kqdOk]
 | _,.int _,_=>by simp [ja,kqdOk]
 | n,.str x,h=>by simp [okD] at h; simp [ja,kqdOk,h]
 | n+1,.tup ds,h=>by
  simp [okD] at h;rw [ja,kqdOk];exact lO n ds h
 | n+1,.lst ds,h=>by
  simp [okD] at h;rw [ja,kqdOk];exact lO n ds h
 | _,.bl _,h=>by simp [okD] at h
 | _,.ty _,h=>by simp [okD] at h
 | _,.cls _,h=>by simp [okD] at h
 | _,.dct _,h=>by simp [okD] at h
 | _,.fz _,h=>by simp [okD] at h
 | _,.obj _ _,h=>by simp [okD] at h
 | _,.dfz _,h=>by simp [okD] at h
 | 0,.tup _,h=>by simp [okD] at h
 | 0,.lst _,h=>by simp [okD] at h
theorem lO:∀ (n:Nat) (ds:List D),oi n ds=true->(hW ds).all (kqdOk n)=true
 | _,[],_=>by simp [hW]
 | n,d::ds,h=>by
  simp [oi] at h;simp only [hW,List.all_cons,Yr];exact ⟨jH n d h.1,lO n ds h.2⟩
end
mutual
theorem qj:∀ (n:Nat) (d e:D),okD n d=true->okD n e=true->ja d=ja e->d=e
 | _,.non,e,_,h,q=>by cases e <;> simp [ja] at q <;> simp [okD] at h <;> rfl
 | _,.int _,e,_,h,q=>by cases e <;> simp [ja] at q <;> simp [okD] at h <;> rw [q]
 | _,.str x,e,_,h,q=>by cases e <;> simp [ja] at q <;> simp [okD] at h <;> rw [q]
 | n+1,.tup ds,e,h1,h,q=>by
  cases e <;> simp [ja] at q <;> simp [okD] at h
  simp [okD] at h1;rw [j7 n _ _ h1 h q]
 | n+1,.lst ds,e,h1,h,q=>by
  cases e <;> simp [ja] at q <;> simp [okD] at h
  simp [okD] at h1;rw [j7 n _ _ h1 h q]
 | _,.bl _,_,h,_,_=>by simp [okD] at h
 | _,.ty _,_,h,_,_=>by simp [okD] at h
 | _,.cls _,_,h,_,_=>by simp [okD] at h
 | _,.dct _,_,h,_,_=>by simp [okD] at h
 | _,.fz _,_,h,_,_=>by simp [okD] at h
 | _,.obj _ _,_,h,_,_=>by simp [okD] at h
 | _,.dfz _,_,h,_,_=>by simp [okD] at h
 | 0,.tup _,_,h,_,_=>by simp [okD] at h
 | 0,.lst _,_,h,_,_=>by simp [okD] at h
theorem j7:∀ (n:Nat) (d e:List D),oi n d=true->oi n e=true->hW d=hW e->d=e
 | _,[],e,_,h,q=>by cases e <;> simp [hW] at q; rfl
 | n,d::ds,e,h1,h,q=>by
  cases e with
  | nil=>simp [hW] at q
  | cons e es =>
   simp [hW] at q;simp [oi] at h h1;rw [qj n d e h1.1 h.1 q.1,j7 n ds es h1.2 h.2 q.2]
end
section
variable {K:W.Frag} {H:Hp}
mutual
theorem Rp.rdD:∀ {v:V} {d:D} (n:Nat),Rp K H v d->okD n d=true->RdD K H v (ja d)
 | _,_,_,.non,_=>by rw [ja]; exact .non
 | _,_,_,.int i,_=>by rw [ja]; exact .int i
 | _,_,_,.str i,_=>by rw [ja]; exact .str i
 | _,_,n,.tup h r,o=>by
  cases n with
  | zero=>simp [okD] at o
  | succ n=>simp [okD] at o; rw [ja]; exact .tup h (Rps.rdD n r o)
 | _,_,n,.lst h r,o=>by
  cases n with
  | zero=>simp [okD] at o
  | succ n=>simp [okD] at o; rw [ja]; exact .lst (SqL.of h) (Rps.rdD n r o)
 | _,_,_,.bl _,o=>by simp [okD] at o
 | _,_,_,.ty _,o=>by simp [okD] at o
 | _,_,_,.cls _,o=>by simp [okD] at o
 | _,_,_,.dct _ _,o=>by simp [okD] at o
 | _,_,_,.fz _ _,o=>by simp [okD] at o
 | _,_,_,.obj _ _,o=>by simp [okD] at o
 | _,_,_,.dfz _ _,o=>by simp [okD] at o
theorem Rps.rdD:∀ {v:List V} {d:List D} (n:Nat),Rps K H v d->oi n d=true->wc K H v (hW d)
 | _,_,_,.nil,_=>by rw [hW]; exact .nil
 | _,_,n,.cons h r,o=>by
  simp [oi] at o;rw [hW];exact .cons (Rp.rdD n h o.1) (Rps.rdD n r o.2)
end
end
open Classical in
noncomputable def eqB (d e:D):Bool:=decide (d=e)
theorem lY (d:D):eqB d d=true:=by unfold eqB; simp
theorem zx (h:d≠e):eqB d e=false:=by unfold eqB; simp [h]
noncomputable def eqO (d e:D):Option Bool:=match eqS d e with
 | some b=>some b
 | none=>if okD 9 d=true/\okD 9 e=true then some (eqB d e) else none
noncomputable def oEq (d e:D):Option D:=(eqO d e).map D.bl
noncomputable def oNe (d e:D):Option D:=(eqO d e).map λ b=>.bl (!b)
section
variable {X:Cx}
theorem OpR.imp (h:OpR X fn r) (hi:∀ x y H Q,r' x y H Q->r x y H Q):OpR X fn r':=λ pins s σ H x y v u Q I rx ry q=>h pins s σ H x y v u Q I rx ry (hi _ _ _ _ q)
theorem Ho : OpR X (binaryOp .Add) (rdR X.K mM) :=
  ((Ef.or qR).or za).imp λ x y H Q ⟨Hs,dx,dy,d,sm,rx,ry,e,k⟩=>by
    cases rx with
    | int i => cases ry with
      | int j => have e':D.int (i+j)=d:=by simpa [mM] using e
                 subst e';exact .inl (.inl ⟨i,j,rfl,rfl,k _ Hs H (.refl sm) (.int _)⟩)
      | _=>exact nn e
    | str x=>cases ry with
      | str y =>
        by_cases hl:x.length+y.length<=100000
        · have e':D.str (x++y)=d:=by simpa [mM,hl] using e
          subst e';exact .inl (.inr ⟨x,y,rfl,rfl,rq hl,k _ Hs H (.refl sm) (.str _)⟩)
        · simp [mM,hl] at e
      | _=>exact nn e
    | @lst a xs ds h r=>cases ry with
      | @lst b ys es h' r' =>
        by_cases hl:ds.length+es.length<=100000
        · have e':D.lst (ds++es)=d:=by simpa [mM,hl] using e
          subst e';refine .inr ⟨a,b,xs,ys,rfl,rfl,sm _ _ h,sm _ _ h',by rw [r.length,r'.length]; exact rq hl,λ p hp=>?_⟩;have g:=Ext.new sm hp (.lst (xs++ys));exact k _ _ _ g (.lst ao ((r.same g.ss).append (r'.same g.ss)))
        · simp [mM,hl] at e
      | _=>exact nn e
    | _=>exact nn e
theorem qT {fn:Value->Value->Sem Value} {C:Int->Int->Prop} [∀ i j,Decidable (C i j)] {gv:Int->Int->V} {gd:Int->Int->D} {o:D->D->Option D} (h:OpR X fn (rI C gv)) (hg:∀ i j H,Rp X.K H (gv i j) (gd i j))
  (ho:∀ x y d,o x y=some d->∃ i j,x=.int i/\y=.int j/\C i j/\d=gd i j):OpR X fn (rdR X.K o) :=
 h.imp λ x y H Q ⟨Hs,dx,dy,d,sm,rx,ry,e,k⟩=>by
  obtain ⟨i,j,rfl,rfl,c,rfl⟩:=ho _ _ _ e;cases rx;cases ry;exact ⟨i,j,rfl,rfl,c,k _ Hs H (.refl sm) (hg i j Hs)⟩
theorem GV (h:OpR X fn (rI0 g)):OpR X fn (rI (λ _ _=>True) g):=h.imp λ x y H Q ⟨i,j,h1,h2,_,q⟩=>⟨i,j,h1,h2,q⟩
theorem Hh:OpR X (binaryOp .Sub) (rdR X.K Ek):=qT (GV Eb) (λ _ _ _=>.int _) λ x y d e=>by
 unfold Ek at e;split at e
 · exact ⟨_,_,rfl,rfl,trivial,(Zj e).symm⟩
 · cases e
theorem Bh:OpR X (binaryOp .Mult) (rI (λ i j=>zJ i j\/(Sz i/\Sz j)) λ i j=>.int (i * j)):=opI λ _ _ _ _ _ _ _ hc q=>mul_int q (hc.elim (·.ok) λ h=>PySem.IntMulOk.of_bits h.1.bits h.2.bits)
theorem Hj:OpR X (binaryOp .Mult) (rdR X.K zc):=qT Bh (λ _ _ _=>.int _) λ x y d e=>by
 unfold zc at e;split at e
 ·split at e
  ·rename_i c
   exact ⟨_,_,rfl,rfl,c,(Zj e).symm⟩
  · cases e
 · cases e
theorem Hn:OpR X (binaryOp .FloorDiv) (rdR X.K oDiv):=qT Bj (λ _ _ _=>.int _) λ x y d e=>by
 unfold oDiv at e;split at e
 ·split at e
  ·rename_i c
   exact ⟨_,_,rfl,rfl,c,(Zj e).symm⟩
  · cases e
 · cases e
theorem Hk:OpR X (binaryOp .Mod) (rdR X.K oMod):=qT Bi (λ _ _ _=>.int _) λ x y d e=>by
 unfold oMod at e;split at e
 ·split at e
  ·rename_i c
   exact ⟨_,_,rfl,rfl,c,(Zj e).symm⟩
  · cases e
 · cases e
theorem Ei:OpR X (compareOp .LtE) (rdR X.K oLe):=qT (GV Hb) (λ _ _ _=>.bl _) λ x y d e=>by
 unfold oLe at e;split at e
 · exact ⟨_,_,rfl,rfl,trivial,(Zj e).symm⟩
 · cases e
theorem Li:OpR X (compareOp .Gt) (rdR X.K oGt):=qT (GV Hc) (λ _ _ _=>.bl _) λ x y d e=>by
 unfold oGt at e;split at e
 · exact ⟨_,_,rfl,rfl,trivial,(Zj e).symm⟩
 · cases e
theorem Lh:OpR X (compareOp .Lt) (rdR X.K oLt):=(Ha.or uo).imp λ x y H Q ⟨Hs,dx,dy,d,sm,rx,ry,e,k⟩=>by
 cases rx with
 | int i=>cases ry with
  | int j =>
   have e':D.bl (decide (i < j))=d:=by simpa [oLt] using e
   subst e';exact .inl ⟨i,j,rfl,rfl,k _ Hs H (.refl sm) (.bl _)⟩
  | _=>exact nn e
 | str i=>cases ry with
  | str j =>
   have e':=Zj e;subst e';exact .inr ⟨i,j,rfl,rfl,k _ Hs H (.refl sm) (.bl _)⟩
  | _=>exact nn e
 | _=>exact nn e
theorem Hi:UnR X (unaryOp .USub) (rdU X.K Fu):=λ pins s σ H x v Q I rx ⟨Hs,dx,d,sm,r,e,k⟩=>CQ pins s σ H x v Q I rx (by
 cases r with
 | int i =>
  have e':D.int (-i)=d:=by simpa [Fu] using e
  subst e';exact ⟨i,rfl,k _ Hs H (.refl sm) (.int _)⟩
 | _=>simp [Fu] at e)
theorem Hl:OpR X (compareOp .Is) (rdR X.K Fv):=Ed.imp λ x y H Q ⟨Hs,dx,dy,d,sm,rx,ry,e,k⟩=>by
 have hy:dy=.non:=by
  unfold Fv at e;split at e <;> first | rfl | cases e
 subst hy;cases ry;refine ⟨rfl,?_⟩;cases rx <;> (have e':=Zj e; subst e'; exact k _ Hs H (.refl sm) (.bl _))
theorem Eg:OpR X (compareOp .IsNot) (rdR X.K kG):=Bg.imp λ x y H Q ⟨Hs,dx,dy,d,sm,rx,ry,e,k⟩=>by
 have hy:dy=.non:=by
  unfold kG at e;split at e <;> first | rfl | cases e
 subst hy;cases ry;refine ⟨rfl,?_⟩;cases rx <;> (have e':=Zj e; subst e'; exact k _ Hs H (.refl sm) (.bl _))
theorem zw {K:W.Frag} {H:Hp} {x y:V} {dx dy:D} {b:Bool} (rx:Rp K H x dx) (ry:Rp K H y dy) (e:eqS dx dy=some b):GK x y=true/\decide (x=y)=b:=by
  unfold eqS at e
  split at e <;> first
    | (cases e; done)
    | (have e':=Zj e
       subst e';cases rx;cases ry
       first | exact ⟨rfl,rfl⟩ | exact ⟨rfl,by simp⟩)
theorem qd (h:okD n d=true) (h':okD n e=true):eqD (ja d) (ja e)=eqB d e:=by
 by_cases q:d=e
 · subst q; rw [lY,yq rfl]
 · rw [zx q,vk λ z=>q (qj n _ _ h h' z)]
theorem JN (hu:X.A.units+64 < cLine):OpR X (compareOp .Eq) (rdR X.K oEq):=(He.or (Ee hu)).imp λ x y H Q ⟨Hs,dx,dy,d,sm,rx,ry,e,k⟩=>by
 obtain ⟨b,e',rfl⟩:=Zm (e);have e:=e';unfold eqO at e;split at e
 ·rename_i b' q
  have e':=Zj e;subst e';obtain ⟨h1,h2⟩:=zw rx ry q;refine .inl ⟨h1,?_⟩;rw [h2];exact k _ Hs H (.refl sm) (.bl _)
 ·split at e
  ·rename_i h
   have e':=Zj e;subst e';refine .inr ⟨ja dx,ja dy,(rx.same sm).rdD 9 h.1,(ry.same sm).rdD 9 h.2,jH 9 _ h.1,jH 9 _ h.2,?_⟩;rw [qd h.1 h.2];exact k _ Hs H (.refl sm) (.bl _)
  · cases e
theorem JM (hu:X.A.units+64 < cLine):OpR X (compareOp .NotEq) (rdR X.K oNe):=(G9.or (Ec hu)).imp λ x y H Q ⟨Hs,dx,dy,d,sm,rx,ry,e,k⟩=>by
 obtain ⟨b,e',rfl⟩:=Zm (e);have e:=e';unfold eqO at e;split at e
 ·rename_i b' q
  have e':=Zj e;subst e';obtain ⟨h1,h2⟩:=zw rx ry q;refine .inl ⟨h1,?_⟩;rw [h2];exact k _ Hs H (.refl sm) (.bl _)
 ·split at e
  ·rename_i h
   have e':=Zj e;subst e';refine .inr ⟨ja dx,ja dy,(rx.same sm).rdD 9 h.1,(ry.same sm).rdD 9 h.2,jH 9 _ h.1,jH 9 _ h.2,?_⟩;rw [qd h.1 h.2];exact k _ Hs H (.refl sm) (.bl _)
  · cases e
end
def oIx:D->D->Option D
 | .tup ds,.int i=>atI ds i
 | .lst ds,.int i=>atI ds i
 | .fz ds,.int i=>atI ds i
 | .str z,.int i=>if z.length<=100000 then (atI z.cps.toList i).map λ c=>.str ⟨#[c]⟩ else none
 | _,_=>none
def DO:=List Sl->Option (Option Int)
def Ju:DO:=λ _=>some none
def dP (f:DE):DO:=λ τ=>(f τ).bind λ x=>match x with | .int i=>some (some i) | _=>none
def cutD (xs:List D) (lo hi:Option Int):List D:=(xs.drop (HT.sIx xs.length 0 lo)).take (HT.sIx xs.length xs.length hi - HT.sIx xs.length 0 lo)
def oSl:D->Option Int->Option Int->Option D
 | .lst ds,lo,hi=>some (.lst (cutD ds lo hi))
 | .fz ds,lo,hi=>some (.lst (cutD ds lo hi))
 | _,_,_=>none
def dSl (f:DE) (lo hi:DO):DE:=λ τ=>(f τ).bind λ x=>(lo τ).bind λ l=>(hi τ).bind λ u=>oSl x l u
def sk:List D->Option D
 | [.str z]=>if z.length<=100000 then some (.int z.length) else none
 | [.tup ds]=>some (.int ds.length)
 | [.lst ds]=>some (.int ds.length)
 | [.fz ds]=>some (.int ds.length)
 | _=>none
def xQ:List D->Option D
 | [.tup ds]=>some (.lst ds)
 | [.lst ds]=>some (.lst ds)
 | [.fz ds]=>some (.lst ds)
 | _=>none
def tyN:D->Option String
 | .non=>some "NoneType" | .bl _=>some "bool" | .int _=>some "int" | .str _=>some "str" | .tup _=>some "tuple" | .lst _=>some "list" | .dct _=>some "dict" | _=>none
def Jc (t n:String):Bool:=t == n||(t == "bool"&&n == "int")
def kinds:List String:=["int","bool","str","list","tuple","dict"]
def Ht:List D->Option D
 | [d,.ty n]=>(tyN d).bind λ t=>if n ∈ kinds then some (.bl (Jc t n)) else none
 | _=>none
theorem pb {K:W.Frag} {H:Hp} {xs:List V} {ds:List D} {i:Int} {d:D} (r:Rps K H xs ds) (e:atI ds i=some d):∃ v,atI xs i=some v/\Rp K H v d:=by
 unfold atI at *;obtain ⟨j,e1,e2⟩:=bind_some e;obtain ⟨v,h1,h2⟩:=r.get e2;exact ⟨v,by rw [r.length,e1]; exact h1,h2⟩
theorem vE {K:W.Frag} {H:Hp} {xs:List V} {ds:List D} (lo hi:Option Int) (r:Rps K H xs ds):Rps K H (CH xs lo hi) (cutD ds lo hi):=by
 unfold CH cutD;rw [r.length];exact (r.drop _).take _
theorem uS {K:W.Frag} {t n:String} (ht:t ∈ ["NoneType","bool","int","str","tuple","list","dict"]) (hn:n ∈ kinds):PySem.W.kitOne K (.type t) (.type n)=some (Jc t n):=by
 simp only [kinds,Zh,Xh,or_false] at ht hn;rcases ht with rfl | rfl | rfl | rfl | rfl | rfl | rfl <;> rcases hn with rfl | rfl | rfl | rfl | rfl | rfl <;> kernel_rfl
section
variable {X:Cx} {a b c e:Expr} {es:List Expr} {pos:Pos} {f g h:DE}
theorem IxR.imp {r r':R2} (h:IxR X r) (hi:∀ x y H Q,r' x y H Q->r x y H Q):IxR X r':=λ value slice pins s σ H x y v u Q I rx ry q=>h value slice pins s σ H x y v u Q I rx ry (hi _ _ _ _ q)
theorem ixd:IxR X (rdR X.K oIx):=((BU.or EH).or EI).imp λ x y H Q ⟨Hs,dx,dy,d,sm,rx,ry,e,k⟩=>by
 obtain ⟨i,rfl⟩:∃ i,dy=.int i:=by
  unfold oIx at e;split at e <;> first | exact ⟨_,rfl⟩ | cases e
 cases ry
 cases rx with
 | tup h r =>
  obtain ⟨v,h1,h2⟩:=pb r (e);exact .inl (.inr ⟨_,_,i,v,rfl,rfl,sm.tup h,h1,k v Hs H (.refl sm) h2⟩)
 | lst h r =>
  obtain ⟨v,h1,h2⟩:=pb r (show atI _ i=some d from e);exact .inl (.inl ⟨_,_,i,v,rfl,rfl,SqL.of (sm _ _ h),h1,k v Hs H (.refl sm) h2⟩)
 | fz h r =>
  obtain ⟨v,h1,h2⟩:=pb r (show atI _ i=some d from e);exact .inl (.inl ⟨_,_,i,v,rfl,rfl,sm.seq h,h1,k v Hs H (.refl sm) h2⟩)
 | str z =>
  by_cases hl:z.length<=100000
  ·have e0:(atI z.cps.toList i).map (λ c=>D.str ⟨#[c]⟩)=some d:=by simpa only [oIx,hl,if_true] using e
   obtain ⟨c,e1,rfl⟩:=Zm e0;exact .inr ⟨z,i,c,rfl,rfl,rq hl,e1,k _ Hs H (.refl sm) (.str _)⟩
  · simp [oIx,hl] at e
 | _=>exact nn e
theorem G6 (ha:PEd X a f) (hb:PEd X b g) (hs:pj b):PEd X (.Subscript a b pos) (dOp oIx f g):=(G2 ixd ha hb hs).imp λ σ H Q h=>kN X.K h
def rdP (K:W.Frag) (f:DO):TO:=λ σ H Q=>∃ H0 Hs τ fp d,StR K H0 Hs H σ τ fp/\bz Hs H/\f τ=some d/\∀ Hs' H',Ext Hs H Hs' H'->Q d H'
def POd (X:Cx) (e:Option Expr) (f:DO):Prop:=PO X e (rdP X.K f)
theorem PO.imp {e:Option Expr} {t t':TO} (h:PO X e t) (hi:∀ σ H Q,t' σ H Q->t σ H Q):PO X e t':=λ pins s σ H Q I q=>h pins s σ H Q I (hi _ _ _ q)
theorem xr:POd X none Ju:=AL.imp λ σ H Q ⟨H0,Hs,τ,fp,d,st,sm,e,k⟩=>by
 have e':=Zj e;subst e';exact k Hs H (.refl sm)
theorem xq (h:PEd X e f):POd X (some e) (dP f):=(AK h).imp λ σ H Q ⟨H0,Hs,τ,fp,d,st,sm,e,k⟩=>by
 obtain ⟨x,e1,e⟩:=bind_some e;refine ⟨H0,Hs,τ,fp,x,st,sm,e1,λ v Hs' H' g r=>?_⟩
 cases r with
 | int i =>
  have e':=Zj e;subst e';exact ⟨i,rfl,k Hs' H' g⟩
 | _=>exact nn e
theorem GY {lo hi:Option Expr} {p2:Pos} {l u:DO} (ha:PEd X a f) (hl:POd X lo l) (hh:POd X hi u):PEo X (.Subscript a (.Slice lo hi none p2) pos) (dSl f l u) :=
 (xB zY ha hl hh).imp λ σ H Q ⟨H0,Hs,τ,fp,d,st,sm,e,k⟩=>by
   obtain ⟨x,e1,e⟩:=bind_some e;obtain ⟨l',e2,e⟩:=bind_some e;obtain ⟨u',e3,e⟩:=bind_some e;refine ⟨H0,Hs,τ,fp,x,st,sm,e1,λ v Hs1 H1 g1 r1=>?_⟩;refine ⟨H0,Hs1,τ,fp,l',st.ext g1,g1.sh,e2,λ Hs2 H2 g2=>?_⟩;refine ⟨H0,Hs2,τ,fp,u',(st.ext g1).ext g2,g2.sh,e3,λ Hs3 H3 g3=>?_⟩;have g13:=(g1.trans g2).trans g3;have r3:=(r1.same g2.ss).same g3.ss
   have fin:∀ (p:Addr) (ys:List V) (ds:List D),H3 p=none->Rps X.K Hs3 ys ds->d=.lst ds->Q (.ref p) (upd H3 p (.lst ys)):=λ p ys ds hp r ed=>by
    subst ed;exact k p Hs3 _ ⟨g13.ss,g13.sh.trans (aw hp _),g13.hh.trans (aw hp _),g13.fr⟩ (.lst ao (g13.sh.free hp) r) (g13.hh.free hp)
   cases r3 with
   | @lst a xs ds h r =>
    have e':=Zj e;exact ⟨a,xs,rfl,SqL.of (g3.sh _ _ h),λ p hp=>fin p _ _ hp (vE l' u' r) e'.symm⟩
   | @fz a xs ds h r =>
    have e':D.lst (cutD ds l' u')=d:=Zj e;exact ⟨a,xs,rfl,g3.sh.seq h,λ p hp=>fin p _ _ hp (vE l' u' r) e'.symm⟩
   | _=>exact nn e
theorem fF.imp {fn:Value} {r r':List V->Hp->VK->Prop} (h:fF X fn r) (hi:∀ x H Q,r' x H Q->r x H Q):fF X fn r':=λ pins s σ H x u Q I rx q=>h pins s σ H x u Q I rx (hi _ _ _ q)
theorem call_of {o:List D->Option D} {g:DA} {σ:St} {H:Hp} {Q:VK} (K:W.Frag) (hh:rdE K (gA o g) σ H Q):tCB (rdL K o) (rdA K g) σ H Q:=by
 obtain ⟨H0,Hs,τ,fp,d,st,sm,e,k⟩:=hh;obtain ⟨xs,e1,e⟩:=bind_some e;exact ⟨H0,Hs,τ,fp,xs,st,sm,e1,λ v Hs1 H1 g1 r1=>⟨Hs1,xs,d,g1.sh,r1,e,λ w Hs2 H2 g2 r2=>k w Hs2 H2 (g1.trans g2) r2⟩⟩
theorem xG {x:Str} {id:String} {p:Pos} {o:List D->Option D} {g:DA} (hc:fF X (.builtin id) (rdL X.K o)) (hg:Gl X x) (hm:X.mg x=none) (hv:bootBuiltins x=some (.builtin id)) (ha:PAd X (e::es) g) (hn:x≠"__name__":=by decide) (hdb:(x == ("__debug__":Str))=false:=by decide)
  (he:starEach (e::es) X.env=(false,eval e X.env)::starEach es X.env:=by rfl) (hpl:(backTo pos (starEach es X.env)).any (·.1)=false:=by rfl):PEd X (.Call (.Name x p) (e::es) [] pos) (gA o g) :=
 (pM hc hg hm hv ha hn hdb he hpl).imp λ σ H Q h=>call_of X.K h
theorem fb:fF X (.builtin "len") (rdL X.K sk):=qq.imp λ xs H Q ⟨Hs,ds,d,sm,r,e,k⟩=>by
 match ds,r,e with
 | [x],.cons hx .nil,e =>
  cases hx with
  | str z =>
   by_cases hl:z.length<=100000
   ·have e':D.int z.length=d:=by simpa [sk,hl] using e
    subst e';exact ⟨_,_,rfl,⟨rq hl,rfl⟩,k _ Hs H (.refl sm) (.int _)⟩
   · simp [sk,hl] at e
  | @tup a ys ds h r =>
   have e':=Zj e;subst e';exact ⟨_,_,rfl,.inr ⟨_,sm.tup h,rfl⟩,by rw [r.length]; exact k _ Hs H (.refl sm) (.int _)⟩
  | @lst a ys ds h r =>
   have e':D.int ds.length=d:=Zj e;subst e';exact ⟨_,_,rfl,.inl ⟨_,SqL.of (sm _ _ h),rfl⟩,by rw [r.length]; exact k _ Hs H (.refl sm) (.int _)⟩
  | @fz a ys ds h r =>
   have e':D.int ds.length=d:=Zj e;subst e';exact ⟨_,_,rfl,.inl ⟨_,sm.seq h,rfl⟩,by rw [r.length]; exact k _ Hs H (.refl sm) (.int _)⟩
  | _=>exact nn e
 | [],_,e=>simp [sk] at e
 | _::_::_,_,e=>simp [sk] at e
theorem rP:fF X (.builtin "isinstance") (rdL X.K Ht):=by
 intro pins s σ H xs us Q I rv ⟨Hs,ds,d,sm,r,e,k⟩
 have sh:∃ x n,ds=[x,.ty n]:=by
   unfold Ht at e;split at e
   · exact ⟨_,_,rfl⟩
   · cases e
 obtain ⟨x,n,rfl⟩:=sh
 cases r with
 | cons hx rr=>cases rr with
  | cons hy rr=>cases rr with
   | nil =>
   cases hy;obtain ⟨t,e1,e2⟩:=bind_some (e)
   by_cases hn:n ∈ kinds
   ·rw [if_pos hn] at e2
    have e':=Zj e2;subst e';obtain ⟨u,w',rfl,ru,rw'⟩:=vals2 rv;have e2:=rw';subst e2;have fin:∀ tk,EP X pins σ Q (.bool (Jc t n)) { s with toks:=tk }:=λ tk=>⟨.bl _,H,I.tok tk,rfl,k _ Hs H (.refl sm) (.bl _)⟩
    have low:∀ {v:V} {T:String},se X.K H v (.type T)->RelV v u->T ∈ ["NoneType","bool","int","str","tuple","list","dict"]->some T=some t->wpAny (model X.prog X.w) X.A (call (.builtin "isinstance") [u,.type n]) (EP X pins σ Q) X.xe s:=λ ty ru hm et=>by
     have et':=Zj et;subst et';exact uZ I ru ty (uS hm hn) fin
    cases hx with
    | non=>exact low (.non) ru (by simp) e1
    | bl b=>exact low (.bl b) ru (by simp) e1
    | int i=>exact low (.int i) ru (by simp) e1
    | str z=>exact low (.str z) ru (by simp) e1
    | lst h _=>exact low (.lst (sm _ _ h)) ru (by simp) e1
    | dct h _=>exact low (.dK (sm _ _ h)) ru (by simp) e1
    | @tup p ys ds h _ =>
     have et':=Zj e1;subst et';cases (ru);obtain ⟨its,_,⟨o,h1,h2,_⟩,_⟩:=I.tuple (sm.tup h);exact Yh PySem.W.kitx_tuple I.kIn ⟨o,h1,h2⟩ (uS (by simp) hn) (λ z=>nomatch z) fin
    | ty m=>simp [tyN] at e1
    | cls m=>simp [tyN] at e1
    | dfz _ _=>simp [tyN] at e1
    | fz _ _=>simp [tyN] at e1
    | obj _ _=>simp [tyN] at e1
   · rw [if_neg hn] at e2; cases e2
theorem AM {x:Str} {p:Pos} {g:DA} (hg:Gl X x) (hm:X.mg x=none) (hv:bootBuiltins x=some (.type "list")) (ha:PAd X (e::es) g) (hn:x≠"__name__":=by decide) (hdb:(x == ("__debug__":Str))=false:=by decide)
   (he:starEach (e::es) X.env=(false,eval e X.env)::starEach es X.env:=by rfl) (hpl:(backTo pos (starEach es X.env)).any (·.1)=false:=by rfl):PEo X (.Call (.Name x p) (e::es) [] pos) (gA xQ g) :=
 (mG nv hg hm hv ha hn hdb he hpl).imp λ σ H Q ⟨H0,Hs,τ,fp,d,st,sm,e,k⟩=>by
   obtain ⟨xs,e1,e⟩:=bind_some e;refine ⟨H0,Hs,τ,fp,xs,st,sm,e1,λ v Hs1 H1 g1 r1=>?_⟩
   have fin:∀ (p:Addr) (ys:List V) (ds:List D),H1 p=none->Rps X.K Hs1 ys ds->d=.lst ds->Q (.ref p) (upd H1 p (.lst ys)):=λ p ys ds hp r ed=>by
    subst ed;exact k p Hs1 _ ⟨g1.ss,g1.sh.trans (aw hp _),g1.hh.trans (aw hp _),g1.fr⟩ (.lst ao (g1.sh.free hp) r) (g1.hh.free hp)
   match xs,r1,e with
   | [x],.cons hx .nil,e =>
    cases hx with
    | @tup a ys ds h r=>exact ⟨_,_,rfl,.inr (g1.sh.tup h),λ l hl=>fin l ys ds hl r (Zj e).symm⟩
    | @lst a ys ds h r=>exact ⟨_,_,rfl,.inl (SqL.of (g1.sh _ _ h)),λ l hl=>fin l ys ds hl r (Zj e).symm⟩
    | @fz a ys ds h r=>exact ⟨_,_,rfl,.inl (g1.sh.seq h),λ l hl=>fin l ys ds hl r (Zj e).symm⟩
    | _=>exact nn e
   | [],_,e=>simp [xQ] at e
   | _::_::_,_,e=>simp [xQ] at e
end
def u9 (a:Addr) (H:Hp):Hp:=λ b=>if b=a then none else H b
def Cy (i:Nat) (f:DT):DT:=λ τ=>match τ[i]? with
 | some (.own d0)=>f (τ.set i (.shr d0))
 | _=>f τ
theorem Ext.Gv (n:Hs a=none) (ha:H a=some o) (g:Ext (upd Hs a o) H Hs' H'):Ext Hs H (u9 a Hs') H':=by
 refine ⟨λ b u q=>?_,λ b u q=>?_,g.hh,λ b h1 h2=>?_⟩
 ·have ne:b≠a:=λ z=>by subst z; rw [n] at q; cases q
  unfold u9;rw [if_neg ne];exact g.ss b u (by rw [ai ne]; exact q)
 ·unfold u9 at q
  split at q
  · cases q
  · exact g.sh b u q
 ·unfold u9
  by_cases z:b=a
  · rw [if_pos z]
  ·rw [if_neg z]
   exact g.fr b (by rw [ai z]; exact h1) h2
theorem bz.frz (sm:bz Hs H) (ha:H a=some o):bz (upd Hs a o) H:=λ b u q=>by
 by_cases z:b=a
 · subst z; rw [ao] at q; rw [ha]; exact q
 · rw [ai z] at q; exact sm b u q
section
variable {X:Cx} {e:Expr} {f:DE}
theorem Aq (i:Nat) {f:DT} (h:PTd X e f):PTd X e (Cy i f):=PT.imp h λ σ H Q ⟨H0,Hs,τ,fp,d,st,sm,e,k⟩=>by
 unfold Cy at e;split at e
 ·rename_i d0 q
  obtain ⟨a,o,fp',h1,h2,h3,h4,h5,h6,h7,h8⟩:=st.frz q;exact ⟨H0,upd Hs a o,_,fp',d,h4,sm.frz h1,e,λ Hs' H' g=>k (u9 a Hs') H' (g.Gv h2 h1)⟩
 · exact ⟨H0,Hs,τ,fp,d,st,sm,e,k⟩
end
def jh (f g:DS):DS:=λ τ=>match f τ with
 | some (.next τ')=>g τ'
 | r=>r
def mC:DS:=λ τ=>some (.next τ)
def sIf (c:DT) (f g:DS):DS:=λ τ=>(c τ).bind λ b=>if b=true then f τ else g τ
def si (i:Nat) (f:DE):DS:=λ τ=>(f τ).map λ d=>.next (τ.set i (.shr d))
def sR (i:Nat) (f:DE):DS:=λ τ=>if i < τ.length then (f τ).map λ d=>.next (τ.set i (.own d)) else none
def Dn (f:DE):DS:=λ τ=>(f τ).map λ d=>.ret (.shr d)
def wA (f:DE):DS:=λ τ=>(f τ).map λ d=>.ret (.own d)
def sS (i:Nat):DS:=λ τ=>match τ[i]? with
 | some (.own d)=>some (.ret (.own d))
 | some (.shr d)=>some (.ret (.shr d))
 | _=>none
def sX (f:DE):DS:=λ τ=>(f τ).map λ _=>.next τ
def yQ:DS:=λ _=>none
def yR (i:Nat) (f:DE):DS:=λ τ=>(f τ).bind λ d=>match τ[i]? with
 | some (.own (.lst ds))=>if ds.length < 100000 then some (.next (τ.set i (.own (.lst (ds++[d]))))) else none
 | _=>none
section
variable {X:Cx} {a b c e:Expr} {es:List Expr} {pos:Pos} {st:Stmt} {rest:List Stmt} {f g:DS}
theorem Rep.same {K:W.Frag} {Hs0 H0 Hs H:Hp} {σ:St} {τ:List Sl} (r:Rep K Hs0 H0 Hs H σ τ):bz Hs H:=r.ext.sh
theorem Rep.ext' {K:W.Frag} {Hs0 H0 Hs H Hs' H':Hp} {σ:St} {τ:List Sl} (r:Rep K Hs0 H0 Hs H σ τ) (g:Ext Hs H Hs' H'):Rep K Hs0 H0 Hs' H' σ τ:=⟨r.ext.trans g,let ⟨fp,h⟩:=r.st; ⟨fp,h.ext g⟩⟩
theorem wV:mf X [] mC:=iC.imp λ E σ H ⟨Hs0,H0,Hs,τ,o,r,e,k⟩=>by
 have e':=Zj e;subst e';exact k σ Hs H r
theorem wU (h:PSd X st f):mf X [st] f:=aR h
theorem tP (h1:PSd X st f) (h2:mf X rest g):mf X (st::rest) (jh f g):=(bg h1 h2).imp λ E σ H ⟨Hs0,H0,Hs,τ,o,r,e,k⟩=>by
 unfold jh at e
 cases q:f τ with
 | none=>rw [q] at e; cases e
 | some o1 =>
  rw [q] at e;refine ⟨Hs0,H0,Hs,τ,o1,r,q,?_⟩
  cases o1 with
  | next τ'=>exact λ σ' Hs' H' r'=>⟨Hs0,H0,Hs',τ',o,r',e,k⟩
  | ret s=>cases e; exact k
  | brk τ'=>cases e; exact k
  | cnt τ'=>cases e; exact k
theorem tX:PSd X st yQ:=λ _ _ _ _ _ _ ⟨_,_,_,_,_,_,e,_⟩=>by cases e
theorem DD {t:DT} {x y:List Stmt} (hc:PTd X c t) (ha:mf X x f) (hb:mf X y g):PSd X (.If c x y pos) (sIf t f g):=(mF hc ha hb).imp λ E σ H ⟨Hs0,H0,Hs,τ,o,r,e,k⟩=>by
 obtain ⟨bb,e1,e2⟩:=bind_some e;obtain ⟨fp,h⟩:=r.st;refine ⟨H0,Hs,τ,fp,bb,h,r.same,e1,λ Hs' H' g1=>?_⟩
 cases bb with
 | true=>exact ⟨Hs0,H0,Hs',τ,o,r.ext' g1,by simpa using e2,k⟩
 | false=>exact ⟨Hs0,H0,Hs',τ,o,r.ext' g1,by simpa using e2,k⟩
theorem AD {f:DE} (h:PEd X e f):PSd X (.Return (some e) pos) (Dn f):=(fX h).imp λ E σ H ⟨Hs0,H0,Hs,τ,o,r,e,k⟩=>by
 obtain ⟨d,e1,rfl⟩:=Zm e;obtain ⟨fp,h⟩:=r.st;exact ⟨H0,Hs,τ,fp,d,h,r.same,e1,λ v Hs' H' g1 rv=>k v Hs' H' (r.ext.trans g1) rv⟩
theorem Rep.old {K:W.Frag} {Hs0 H0 Hs H:Hp} {σ:St} {τ:List Sl} (r:Rep K Hs0 H0 Hs H σ τ) {p:Addr} (h:H p=none):H0 p=none:=r.ext.hh.free h
theorem xc {f:DE} (h:PEo X e f):PSd X (.Return (some e) pos) (wA f):=(fX h).imp λ E σ H ⟨Hs0,H0,Hs,τ,o,r,e,k⟩=>by
 obtain ⟨d,e1,rfl⟩:=Zm e;obtain ⟨fp,h⟩:=r.st;exact ⟨H0,Hs,τ,fp,d,h,r.same,e1,λ v Hs' H' g1 rv z=>k _ Hs' H' (r.ext.trans g1) ⟨v,rfl,rv,r.old z⟩⟩
theorem xb (i:Nat) (hN:X.N[i]?=some x:=by rfl) (hv:Vis X.env.scope x:=by first | exact Or.inl rfl | exact Or.inr (Or.inl rfl) | exact Or.inr (Or.inr rfl)) (hd:(x == ("__debug__":Str))=false:=by decide)
  (hcd:(x == ("__classdict__":Str))=false:=by decide):PSd X (.Return (some (.Name x p)) pos) (sS i):=(fX (cI hN hv hd hcd)).imp λ E σ H ⟨Hs0,H0,Hs,τ,o,r,e,k⟩=>by
 obtain ⟨fp,h⟩:=r.st;unfold sS at e;split at e
 ·rename_i d q
  cases e;obtain ⟨a,h1,h2,h3,h4⟩:=h.zt q;exact ⟨_,h1,k _ Hs H r.ext ⟨a,rfl,h2,h3⟩⟩
 ·rename_i d q
  cases e;obtain ⟨v,h1,h2⟩:=h.get q;exact ⟨_,h1,k _ Hs H r.ext h2⟩
 · cases e
theorem AB {i:Nat} {x:Str} {f:DE} {pos':Pos} (hN:X.N.Nodup) (hi:X.N[i]?=some x) (hx:Loc X.env.scope x) (he:PEd X e f) (hs:swapsWith e (some (.Name x pos')) pos.line X.env=pure false:=by rfl) (hf:X.fn x=true\/X.env.scope.names.lookup x=some .local:=by first | exact .inl rfl | exact .inr rfl | assumption) :
  PSd X (.Assign [.Name x pos'] e pos) (si i f):=(eG hN hi hx he hs hf).imp λ E σ H ⟨Hs0,H0,Hs,τ,o,r,e,k⟩=>by
 obtain ⟨d,e1,rfl⟩:=Zm e;obtain ⟨fp,h⟩:=r.st;refine ⟨H0,Hs,τ,fp,d,h,r.same,e1,λ v Hs' H' g1 rv=>?_⟩;obtain ⟨fp',_,h'⟩:=(h.ext g1).qI rv;exact k _ Hs' H' ⟨r.ext.trans g1,fp',h'⟩
theorem um {K:W.Frag} {H0 Hs H:Hp} {σ:St} {τ:List Sl} {fp:List Addr} (h:StR K H0 Hs H σ τ fp) {p:Addr} (hp:H p=none):p ∉ fp:=λ q=>(h.B5 p q).2.2 hp
theorem xa {i:Nat} {x:Str} {f:DE} {pos':Pos} (hN:X.N.Nodup) (hi:X.N[i]?=some x) (hx:Loc X.env.scope x) (he:PEo X e f) (hs:swapsWith e (some (.Name x pos')) pos.line X.env=pure false:=by rfl) (hf:X.fn x=true\/X.env.scope.names.lookup x=some .local:=by first | exact .inl rfl | exact .inr rfl | assumption) :
  PSd X (.Assign [.Name x pos'] e pos) (sR i f):=(eG hN hi hx he hs hf).imp λ E σ H ⟨Hs0,H0,Hs,τ,o,r,e,k⟩=>by
 unfold sR at e;split at e
 ·rename_i hl
  obtain ⟨d,e1,rfl⟩:=Zm e;obtain ⟨fp,h⟩:=r.st;refine ⟨H0,Hs,τ,fp,d,h,r.same,e1,λ v Hs' H' g1 rv z=>?_⟩;obtain ⟨fp',_,h'⟩:=(h.ext g1).KL rv (r.old z) (um h z) hl;exact k _ Hs' H' ⟨r.ext.trans g1,fp',h'⟩
 · cases e
theorem xh {f:DE} (he:PEd X e f) (hs:swapsWith e none pos.line X.env=pure false:=by rfl):PSd X (.Expr e pos) (sX f):=(bG he hs).imp λ E σ H ⟨Hs0,H0,Hs,τ,o,r,e,k⟩=>by
 obtain ⟨d,e1,rfl⟩:=Zm e;obtain ⟨fp,h⟩:=r.st;exact ⟨H0,Hs,τ,fp,d,h,r.same,e1,λ v Hs' H' g1 rv=>k _ Hs' H' (r.ext' g1)⟩
theorem AH (i:Nat) {x:Str} {f:DE} {p apos cpos:Pos} (hN:X.N[i]?=some x) (hv:Vis X.env.scope x) (he:PEd X e f) (hd:(x == ("__debug__":Str))=false:=by decide) (hcd:(x == ("__classdict__":Str))=false:=by decide)
   (hbase:attributeBase (.Name x p) "append" X.env (eval (.Name x p) X.env)=eval (.Name x p) X.env:=by rfl)
   (hfew:((backTo cpos (starEach [e] X.env)).all (λ x=>!x.1)&&(backToKw cpos (keywordEach [] X.env)).all (λ x=>x.1.isSome)
     && decide ([e].length+([]:List Keyword).length+(if ([]:List Keyword).isEmpty then 0 else 1) < 30))=true:=by rfl)
   (hline:(apos.endLine == cpos.line)=true:=by rfl) (hst:starEach [e] X.env=(false,eval e X.env)::starEach [] X.env:=by rfl) (hplain:(backTo cpos (starEach [] X.env)).any (·.1)=false:=by rfl)
   (hs:swapsWith (.Call (.Attribute (.Name x p) "append" apos) [e] [] cpos) none pos.line X.env=pure false:=by rfl) :
   PSd X (.Expr (.Call (.Attribute (.Name x p) "append" apos) [e] [] cpos) pos) (yR i f) :=
 (bG (oa Ym PySem.F.slot_list_append PySem.F.type_list_append mQ (cI hN hv hd hcd) (aJ he bc hst) hbase hfew hline hst hplain) hs).imp λ E σ H ⟨Hs0,H0,Hs,τ,o,r,e,k⟩=>by
   obtain ⟨d,e1,e2⟩:=bind_some e;obtain ⟨fp,h⟩:=r.st;split at e2
   · rename_i ds q
     split at e2
     ·rename_i hl
      cases e2;obtain ⟨a,h1,h2,h3,h4⟩:=h.zt q
      cases h2 with
      | @lst xs _ hH hn hr =>
       refine ⟨_,h1,.inl ⟨rfl,_,SqL.of hH⟩,?_⟩;refine ⟨H0,Hs,τ,fp,d,h,r.same,e1,λ v Hs' H' g1 rv=>?_⟩;have hH':=g1.hh _ _ hH;have h':=h.ext g1;have n':=g1.fr a hn (eu hH);refine ⟨a,xs,v,rfl,rfl,hH',by rw [hr.length]; exact le5 (Yw hl),?_⟩;refine k σ Hs' _ ⟨⟨r.ext.ss.trans g1.ss,λ b u z=>?_,λ b u z=>?_,λ b k1 k2=>?_⟩,fp,h'.mut q h1 (.lst ao n' ((hr.same g1.ss).append (.cons rv .nil)))⟩
       ·have ne:b≠a:=λ y=>by subst y; rw [n'] at z; cases z
        rw [ai ne]; exact g1.sh b u z
       ·have ne:b≠a:=λ y=>by subst y; rw [h3] at z; cases z
        rw [ai ne]; exact g1.hh b u (r.ext.hh b u z)
       · exact g1.fr b (r.ext.fr b k1 k2) (r.ext.hh.live k2)
     · cases e2
   · cases e2
end
abbrev DI:=List Sl->Option (List D)
def ItR (K:W.Frag) (J:It) (Hs:Hp) (ds:List D):Prop:=∀ Hs1 H,bz Hs Hs1->bz Hs1 H ->
 (∀ i d,ds[i]?=some d->J.go i H/\∀ x H',J.yld i H x H'->∃ Hs2,Ext Hs1 H Hs2 H'/\Rp K Hs2 x d)/\∀ i,ds.length<=i->J.stop i H
def rdI (K:W.Frag) (f:DI):TI:=λ σ H R=>∃ H0 Hs τ fp ds,StR K H0 Hs H σ τ fp/\bz Hs H/\f τ=some ds/\∀ J Hs' H',Ext Hs H Hs' H'->ItR K J Hs' ds->R J H'
def PId (X:Cx) (tg iter:Expr) (f:DI):Prop:=PI X tg iter (rdI X.K f)
def Gi (f:DE):DI:=λ τ=>(f τ).bind λ d=>match d with | .lst ds=>some ds | .fz ds=>some ds | _=>none
def sj (lo:Int) (n:Nat):List D:=(List.range n).map λ (i:Nat)=>D.int (lo+(i:Int))
def mZ (f:DA):DI:=λ τ=>(f τ).bind λ ds=>match ds with | [.int j]=>if -(2 ^ 62)<=j/\j < 2 ^ 62 then some (sj 0 j.toNat) else none | _=>none
theorem lR {K:W.Frag} {a:Addr} {xs:List V} {Hs:Hp} {ds:List D} (h:SqL K Hs a xs) (r:Rps K Hs xs ds):ItR K (Itl K a) Hs ds:=λ Hs1 H g1 g2=>by
 have hq:=g2.seq (g1.seq h);refine ⟨λ i d e=>?_,λ i hi=>⟨xs,hq,by rw [r.length]; exact hi⟩⟩;obtain ⟨x,h1,h2⟩:=r.get e;refine ⟨⟨xs,x,hq,h1⟩,λ x' H' ⟨e1,e2⟩=>?_⟩;subst e1;have e3:=e2 xs hq;rw [h1] at e3;cases e3;exact ⟨Hs1,.refl g2,h2.same g1⟩
theorem uX {K:W.Frag} {Hs:Hp} (lo:Int) (n:Nat):ItR K (Itr lo n) Hs (sj lo n):=λ Hs1 H g1 g2=>by
 refine ⟨λ i d e=>?_,λ i hi=>show n<=i by simpa [sj] using hi⟩;unfold sj at e;rw [List.getElem?_map] at e
 by_cases hi:i < n
 ·rw [List.getElem?_range hi] at e
  have e':D.int (lo+i)=d:=by simpa using e
  subst e';refine ⟨hi,λ x H' ⟨e1,e2⟩=>?_⟩;subst e1 e2;exact ⟨Hs1,.refl g2,.int _⟩
 ·rw [List.getElem?_eq_none (by simpa using hi)] at e
  cases e
theorem PI.imp (h:PI X tg iter t) (hi:∀ σ H R,t' σ H R->t σ H R):PI X tg iter t':=λ pins s σ H R I q=>h pins s σ H R I (hi _ _ _ q)
section
variable {X:Cx} {tg l e:Expr} {es:List Expr} {pos:Pos}
theorem AW (h:PEd X l f):PId X tg l (Gi f):=(nY h).imp λ σ H R ⟨H0,Hs,τ,fp,ds,st,sm,e,k⟩=>by
 obtain ⟨x,e1,e2⟩:=bind_some e;refine ⟨H0,Hs,τ,fp,x,st,sm,e1,λ v Hs' H' g r=>?_⟩
 cases r with
 | @lst a xs ds' h r =>
  have e':=Zj e2;subst e';exact ⟨a,rfl,⟨xs,SqL.of (g.sh _ _ h)⟩,k _ Hs' H' g (lR (SqL.of h) r)⟩
 | @fz a xs ds' h r =>
  have e':ds'=ds:=Zj e2;subst e';exact ⟨a,rfl,⟨xs,g.sh.seq h⟩,k _ Hs' H' g (lR h r)⟩
 | _=>exact nn e2
theorem qP (hg:Gl X "range") (hm:X.mg "range"=none) (ha:PAd X [a] f) (hs:starEach [a] X.env=[(false,eval a X.env)]:=by rfl):PId X tg (.Call (.Name "range" p) [a] [] pos) (mZ f) :=
 (ua hg hm ha hs).imp λ σ H R ⟨H0,Hs,τ,fp,ds,st,sm,e,k⟩=>by
   obtain ⟨x,e1,e2⟩:=bind_some e;refine ⟨H0,Hs,τ,fp,x,st,sm,e1,λ v Hs' H' g r=>?_⟩
   match x,r,e2 with
   | [y],.cons hy .nil,e2 =>
    cases hy with
    | int j =>
     simp only at e2;split at e2
     ·rename_i hj
      have e':=Zj e2;subst e';exact ⟨j,rfl,hj.1,hj.2,k _ Hs' H' g (uX _ _)⟩
     · cases e2
    | _=>exact nn e2
   | [],_,e2=>simp at e2
   | _::_::_,_,e2=>simp at e2
end
abbrev DG:=D->List Sl->Option (List Sl)
def rdG (K:W.Frag) (g:DG):TG:=λ v σ H Q=>∃ Hs0 H0 Hs τ τ' d,Rep K Hs0 H0 Hs H σ τ/\Rp K Hs v d/\g d τ=some τ'/\∀ σ',Rep K Hs0 H0 Hs H σ' τ'->Q σ' H
def PGd (X:Cx) (tg:Expr) (g:DG):Prop:=PG X tg (rdG X.K g)
theorem PG.imp (h:PG X tg t) (hi:∀ v σ H Q,t' v σ H Q->t v σ H Q):PG X tg t':=λ pins s σ H v u Q I r q=>h pins s σ H v u Q I r (hi _ _ _ _ q)
theorem PGs.imp (h:PGs X tg t) (hi:∀ v σ H Q,t' v σ H Q->t v σ H Q):PGs X tg t':=λ pins s σ H v u Q I r q=>h pins s σ H v u Q I r (hi _ _ _ _ q)
def gN (i:Nat):DG:=λ d τ=>some (τ.set i (.shr d))
section
variable {X:Cx} {pos:Pos} {e:Expr} {es:List Expr}
theorem xA (hN:X.N.Nodup) (hi:X.N[i]?=some x) (hx:Loc X.env.scope x) (hf:X.fn x=true\/X.env.scope.names.lookup x=some .local:=by first | exact .inl rfl | exact .inr rfl | assumption):PGd X (.Name x pos) (gN i) :=
 (gr hN hi hx hf).imp λ v σ H Q ⟨Hs0,H0,Hs,τ,τ',d,r,rv,e,k⟩=>by
   have e':=Zj e;subst e';obtain ⟨fp,h⟩:=r.st;obtain ⟨fp',_,h'⟩:=h.qI rv;exact k _ ⟨r.ext,fp',h'⟩
end
def wk (b:D->DS):List D->DS
 | [],τ=>some (.next τ)
 | d::ds,τ=>match b d τ with
  | some (.next τ')=>wk b ds τ'
  | some (.cnt τ')=>wk b ds τ'
  | some (.brk τ')=>some (.next τ')
  | r=>r
def Dp (it:DI) (g:DG) (b:DS):DS:=λ τ=>(it τ).bind λ ds=>wk (λ d τ=>(g d τ).bind b) ds τ
def bD (c:DT) (b:DS):Nat->DS
 | 0,_=>none
 | n+1,τ=>match c τ with
  | none=>none
  | some false=>some (.next τ)
  | some true=>match b τ with
   | some (.next τ')=>bD c b n τ'
   | some (.cnt τ')=>bD c b n τ'
   | some (.brk τ')=>some (.next τ')
   | r=>r
open Classical in
noncomputable def kQ (c:DT) (b:DS):DS:=λ τ=>if h:∃ n o,bD c b n τ=some o then some (Classical.choose (Yz h)) else none
theorem dR:∀ {n m:Nat} {τ:List Sl} {o:Out},bD c b n τ=some o->n<=m->bD c b m τ=some o
 | 0,_,_,_,h,_=>by simp [bD] at h
 | n+1,0,_,_,_,l=>by omega
 | n + 1,m+1,τ,o,h,l=>by
  have l':n<=m:=by omega
  unfold bD at h ⊢
  cases q:c τ with
  | none=>rw [q] at h; cases h
  | some x =>
   rw [q] at h
   cases x with
   | false=>exact h
   | true =>
    simp only at h ⊢
    cases q2:b τ with
    | none=>rw [q2] at h; exact h
    | some o' =>
     rw [q2] at h
     cases o' with
     | next τ'=>exact dR h l'
     | cnt τ'=>exact dR h l'
     | brk τ'=>exact h
     | ret s=>exact h
theorem gL (h:bD c b n τ=some o):kQ c b τ=some o:=by
 have hx:∃ n o,bD c b n τ=some o:=⟨n,o,h⟩
 unfold kQ;rw [dif_pos hx];have h2:=Yz (Yz hx);have h3:=dR h2 (Nat.le_max_left _ n);have h4:=dR h (Nat.le_max_right (Classical.choose hx) n);rw [h3] at h4;exact h4
theorem sQ (h:kQ c b τ=some o):∃ n,bD c b n τ=some o:=by
 unfold kQ at h;split at h
 ·rename_i hx
  have e:=Zj h;subst e;exact ⟨_,Yz (Yz hx)⟩
 · cases h
theorem Ext.sub (a:Ext Hs0 H0 Hs1 H1) (b:Ext Hs1 H0 Hs H):Ext Hs0 H0 Hs H:=⟨a.ss.trans b.ss,b.sh,b.hh,λ c h1 h2=>b.fr c (a.fr c h1 h2) h2⟩
theorem Rep.rebase {K:W.Frag} {Hs0 H0 Hs H:Hp} {σ:St} {τ:List Sl} (r:Rep K Hs0 H0 Hs H σ τ):Rep K Hs H0 Hs H σ τ:=⟨⟨.refl _,r.same,r.ext.hh,λ _ h _=>h⟩,r.st⟩
theorem Rep.iU {K:W.Frag} {Hs0 H0 Hs1 H1 Hs H:Hp} {σ:St} {τ:List Sl} (a:Ext Hs0 H0 Hs1 H1) (r:Rep K Hs1 H0 Hs H σ τ):Rep K Hs0 H0 Hs H σ τ:=⟨a.sub r.ext,r.st⟩
theorem Fin.rebase {K:W.Frag} {Hs0 H0 Hs1 H1:Hp} {E:Ends} {o:Out} (a:Ext Hs0 H0 Hs1 H1) (h:Fin K Hs0 H0 E o):Fin K Hs1 H0 E o:=by
 cases o with
 | next τ=>exact λ σ Hs H r=>h σ Hs H (r.iU a)
 | brk τ=>exact λ σ Hs H r=>h σ Hs H (r.iU a)
 | cnt τ=>exact λ σ Hs H r=>h σ Hs H (r.iU a)
 | ret s=>exact λ v Hs H g r=>h v Hs H (a.sub g) r
section
variable {X:Cx} {tg iter:Expr} {body:List Stmt} {pos:Pos}
theorem AF {it:DI} {g:DG} {b:DS} (hp:PassesOwn (model X.prog X.w) X.A X.env X.xe) (hc:X.calm=true) (hi:PId X tg iter it) (hg:PGd X tg g) (hb:mf X body b) (hs:∀ x,foldedSetIterable iter X.env x=pure x:=by intro _; rfl) :
  PSd X (.For tg iter body [] pos) (Dp it g b):=(jG hp hc hi hg hb hs).imp λ E σ H ⟨Hs0,H0,Hs,τ,o,r,e,k⟩=>by
 obtain ⟨ds,e1,e2⟩:=bind_some e;obtain ⟨fp,hst⟩:=r.st;refine ⟨H0,Hs,τ,fp,ds,hst,r.same,e1,λ J Hs1 H1 g1 hJ=>?_⟩;have r1:=r.ext' g1;have kk:=k.rebase r1.ext;refine ⟨λ i m σ H=>m=ds.length - i/\i<=ds.length/\∃ Hs2 τ2,Rep X.K Hs1 H0 Hs2 H σ τ2/\wk (λ d τ=>(g d τ).bind b) (ds.drop i) τ2=some o,⟨ds.length,by simp,Z3 _,Hs1,τ,r1.rebase,by simpa using e2⟩,?_⟩
 rintro i m σ2 H2 ⟨rfl,hi,Hs2,τ2,r2,e3⟩
 obtain ⟨hgo,hstop⟩:=hJ Hs2 H2 r2.ext.ss r2.same
 by_cases hlt:i < ds.length
 ·have ed:=Z7 hlt
  rw [ed] at e3;obtain ⟨go,yl⟩:=hgo i ds[i] (List.getElem?_eq_getElem hlt);refine .inr ⟨go,λ σ' H'=>∃ Hs' τ',Rep X.K Hs1 H0 Hs' H' σ' τ'/\wk (λ d τ=>(g d τ).bind b) (ds.drop (i+1)) τ'=some o,?_,?_⟩
  ·rintro σ' H' ⟨Hs',τ',r',e'⟩
   exact ⟨ds.length - (i+1),by omega,rfl,hlt,Hs',τ',r',e'⟩
  ·intro x H' y
   obtain ⟨Hs3,g3,rx⟩:=yl x H' y;have r3:=r2.ext' g3;unfold wk at e3
   cases q:(g ds[i] τ2).bind b with
   | none=>simp only [q] at e3; cases e3
   | some o1 =>
    simp only [q] at e3;obtain ⟨τ3,q1,q2⟩:=bind_some q;refine ⟨Hs1,H0,Hs3,τ2,τ3,ds[i],r3,rx,q1,λ σ' r'=>?_⟩;refine ⟨Hs1,H0,Hs3,τ3,o1,r',q2,?_⟩
    cases o1 with
    | next τ'=>exact λ σ4 Hs4 H4 r4=>⟨Hs4,τ',r4,e3⟩
    | cnt τ'=>exact λ σ4 Hs4 H4 r4=>⟨Hs4,τ',r4,e3⟩
    | brk τ'=>cases e3; exact kk
    | ret s=>cases e3; exact kk
 ·have e0:i=ds.length:=by omega
  subst e0;rw [Yv] at e3;have e':Out.next τ2=o:=by simpa [wk] using e3
  subst e';exact .inl ⟨hstop _ (Zl _),kk σ2 Hs2 H2 r2⟩
theorem tW (hp:PassesOwn (model X.prog X.w) X.A X.env X.xe) (hc:PTd X c t) (hb:mf X body b):PSd X (.While c body [] pos) (kQ t b):=(xi hp hc hb).imp λ E σ H ⟨Hs0,H0,Hs,τ,o,r,e,k⟩=>by
 obtain ⟨n,e⟩:=sQ e;refine ⟨λ m σ H=>∃ Hs2 τ2,Rep X.K Hs0 H0 Hs2 H σ τ2/\bD t b m τ2=some o,⟨n,Hs,τ,r,e⟩,?_⟩
 rintro m σ2 H2 ⟨Hs2,τ2,r2,e2⟩
 obtain ⟨fp,hst⟩:=r2.st
 cases m with
 | zero=>simp [bD] at e2
 | succ m =>
  unfold bD at e2
  cases q:t τ2 with
  | none=>rw [q] at e2; cases e2
  | some bb =>
   rw [q] at e2;refine ⟨H0,Hs2,τ2,fp,bb,hst,r2.same,q,λ Hs3 H3 g3=>?_⟩;have r3:=r2.ext' g3
   cases bb with
   | false =>
    have e':Out.next τ2=o:=by simpa using e2
    subst e';exact EK (k σ2 Hs3 H3 r3)
   | true =>
    refine ye ?_
    refine ⟨λ σ' H'=>∃ Hs' τ',Rep X.K Hs0 H0 Hs' H' σ' τ'/\bD t b m τ'=some o,?_,?_⟩
    ·rintro σ' H' ⟨Hs',τ',r',e'⟩
     exact ⟨m,by omega,Hs',τ',r',e'⟩
    ·cases q2:b τ2 with
     | none=>rw [q2] at e2; cases e2
     | some o1 =>
      rw [q2] at e2;refine ⟨Hs0,H0,Hs3,τ2,o1,r3,q2,?_⟩
      cases o1 with
      | next τ'=>exact λ σ4 Hs4 H4 r4=>⟨Hs4,τ',r4,e2⟩
      | cnt τ'=>exact λ σ4 Hs4 H4 r4=>⟨Hs4,τ',r4,e2⟩
      | brk τ'=>cases e2; exact k
      | ret s=>cases e2; exact k
end
def kO (n:Nat) (ds:List D):List Sl:=ds.map .shr++List.replicate (n - ds.length) .no
def gj (n m:Nat) (b:DS) (ds:List D):Option Sl:=if ds.length=m then (match b (kO n ds) with | some (.ret s)=>some s | some (.next _)=>some (.shr .non) | _=>none) else none
def spF (F:List D->Option Sl) (K:W.Frag):Sp:=λ vs H Q _=>∃ Hs ds s,bz Hs H/\Rps K Hs vs ds/\F ds=some s/\∀ v Hs' H',Ext Hs H Hs' H'->SlV K H Hs' H' v s->Q v H'
theorem jy {K:W.Frag} {H0 Hs H:Hp}:∀ {vs:List V} {ds:List D} (k:Nat),Rps K Hs vs ds->StR K H0 Hs H (vs.map some++List.replicate k none) (ds.map .shr++List.replicate k .no) []
 | _,_,0,.nil=>.nil
 | _,_,k+1,.nil=>by
  rw [Y3,Y3];exact .no (jy k .nil)
 | _,_,k,.cons h r=>.shr h (jy k r)
section
variable {P:Program} {w:World} {K:W.Frag} {mg:Str->Option Value} {base:Heap}
theorem Fun.okD {x qual:Str} {st:Stmt} {f:Addr} {fd:FuncData} {N ps:List Str} {k:Nat} {b:DS} (F:Fun K x qual st f fd) (S:cU N ps (aC st))
  (hbody:∀ (cdv:Value) (A:Around) (outer:List Env) (s:Shared) (H:Hp) (E:XK),c6 k (A.deeper (envOfC qual (aC st) s.heap.objs.size f cdv)) ->
    mf (qk CX0 P w K mg base N qual (aC st) f cdv A outer s H E).nox (bw st) b):fW P w K mg base CX0 (k+1) f fd ps (spF (gj N.length ps.length b) K):=by
 refine F.ok S (λ vs H Q E h=>?_) (λ cdv A outer s H vs Q E hr h=>?_)
 ·obtain ⟨Hs,ds,s,sm,r,e,_⟩:=h
  unfold gj at e;split at e
  · rename_i hl
    rw [r.length]; exact hl
  · cases e
 obtain ⟨Hs,ds,sl,sm,r,e,q⟩:=h;refine ⟨_,hbody cdv A outer s H E hr,?_⟩;unfold gj at e;split at e
 ·have h0:Rep K Hs H Hs H (start N vs) (kO N.length ds):=⟨.refl sm,[],by unfold start kO; rw [r.length]; exact jy _ r⟩
  cases q2:b (kO N.length ds) with
  | none=>rw [q2] at e; cases e
  | some o =>
    rw [q2] at e;refine ⟨Hs,H,Hs,_,o,h0,q2,?_⟩
    cases o with
    | next τ =>
     have e':=Zj e;subst e';exact λ σ Hs' H' r'=>q .non Hs' H' r'.ext .non
    | ret s =>
     have e':=Zj e;subst e';exact λ v Hs' H' g rv=>q v Hs' H' g rv
    | brk τ=>cases e
    | cnt τ=>cases e
 · cases e
end
def slD:Sl->Option D
 | .shr d=>some d
 | .own d=>some d
 | .no=>none
def slO:Sl->Option D
 | .own d=>some d
 | _=>none
def dFn (F:List D->Option Sl) (f:DA):DE:=λ τ=>(f τ).bind λ ds=>(F ds).bind slD
def CG (F:List D->Option Sl) (f:DA):DE:=λ τ=>(f τ).bind λ ds=>(F ds).bind slO
theorem SlV.shr {K:W.Frag} {H0 Hs H Hs0:Hp} {v:V} {s:Sl} {d:D} (g:Ext Hs0 H0 Hs H) (h:SlV K H0 Hs H v s) (e:slD s=some d):∃ Hs',Ext Hs0 H0 Hs' H/\Rp K Hs' v d:=by
 cases s with
 | no=>cases h
 | shr d' =>
  have e':=Zj e;subst e';exact ⟨Hs,g,h⟩
 | own d' =>
  have e':d'=d:=Zj e;subst e';obtain ⟨a,rfl,o,z⟩:=h;obtain ⟨ob,h1,h2⟩:=o.rp;refine ⟨upd Hs a ob,⟨g.ss.trans (aw o.hid ob),g.sh.frz h1,g.hh,λ b h3 h4=>?_⟩,h2⟩;have ne:b≠a:=λ y=>by subst y; exact h4 z
  rw [ai ne];exact g.fr b h3 h4
section
variable {X:Cx} {e:Expr} {es:List Expr} {x:Str} {p pos:Pos} {k:Nat} {f:Addr} {fd:FuncData} {ps:List Str} {F:List D->Option Sl} {g:DA}
theorem B9 {σ:St} {H:Hp} {Q:VK} (K:W.Frag) (h:rdE K (dFn F g) σ H Q):zU (spF F K) [] E0 (rdA K g) σ H Q:=by
 obtain ⟨H0,Hs,τ,fp,d,st,sm,e,q⟩:=h;obtain ⟨ds,e1,e2⟩:=bind_some e;obtain ⟨s,e2,e3⟩:=bind_some e2;refine ⟨H0,Hs,τ,fp,ds,st,sm,e1,λ vs Hs1 H1 g1 r1=>?_⟩;refine ⟨Hs1,ds,s,g1.sh,by rw [Zw]; exact r1,e2,λ v Hs2 H2 g2 rv=>?_⟩;obtain ⟨Hs3,g3,r3⟩:=rv.shr g2 e3;exact q v Hs3 H2 (g1.trans g3) r3
theorem B7 (K:W.Frag) (h:rdO K (CG F g) σ H Q):zU (spF F K) [] E0 (rdA K g) σ H Q:=by
 obtain ⟨H0,Hs,τ,fp,d,st,sm,e,q⟩:=h;obtain ⟨ds,e1,e2⟩:=bind_some e;obtain ⟨s,e2,e3⟩:=bind_some e2;refine ⟨H0,Hs,τ,fp,ds,st,sm,e1,λ vs Hs1 H1 g1 r1=>?_⟩;refine ⟨Hs1,ds,s,g1.sh,by rw [Zw]; exact r1,e2,λ v Hs2 H2 g2 rv=>?_⟩
 cases s with
 | own d' =>
  have e':=Zj e3;subst e';obtain ⟨a,rfl,o,z⟩:=rv;exact q a Hs2 H2 (g1.trans g2) o (g1.hh.free z)
 | shr _=>cases e3
 | no=>cases e3
theorem Bc (Fo:fW X.prog X.w X.K X.mg X.base CX0 k f fd ps (spF F X.K)) (hr:c6 k X.A) (hg:Gl X x) (hm:X.mg x=some (.ref f)) (hk:W.keepIn X.K (.ref f)=true) (hb:Binds X.K fd ps [])
 (ha:PAd X (e::es) g) (hdb:(x == ("__debug__":Str))=false:=by decide) (he:starEach (e::es) X.env=(false,eval e X.env)::starEach es X.env:=by rfl) (hpl:(backTo pos (starEach es X.env)).any (·.1)=false:=by rfl) :
 PEd X (.Call (.Name x p) (e::es) [] pos) (dFn F g):=(nZ Fo hr hg hm hk hb .nil qQ ha hdb he hpl).imp λ σ H Q h=>B9 X.K h
theorem AO (Fo:fW X.prog X.w X.K X.mg X.base CX0 k f fd ps (spF F X.K)) (hr:c6 k X.A) (hg:Gl X x) (hm:X.mg x=some (.ref f)) (hk:W.keepIn X.K (.ref f)=true) (hb:Binds X.K fd ps [])
 (ha:PAd X (e::es) g) (hdb:(x == ("__debug__":Str))=false:=by decide) (he:starEach (e::es) X.env=(false,eval e X.env)::starEach es X.env:=by rfl) (hpl:(backTo pos (starEach es X.env)).any (·.1)=false:=by rfl) :
 PEo X (.Call (.Name x p) (e::es) [] pos) (CG F g):=(nZ Fo hr hg hm hk hb .nil qQ ha hdb he hpl).imp λ σ H Q h=>B7 X.K h
end
def wg (g:D->Option D):List D->Option (List D)
 | []=>some []
 | d::ds=>(g d).bind λ x=>(wg g ds).bind λ xs=>some (x::xs)
def Di:Option Sl->Sl
 | some (.shr d)=>.shr d
 | _=>.no
def dD (τ:List Sl) (cs:List (Str×Nat)):List Sl:=cs.map λ p=>Di τ[p.2]?
def vD (it:DI) (g:DE) (cs:List (Str×Nat)):DE:=λ τ=>(it τ).bind λ ds=>if ds.length<=100000 then (wg (λ d=>g (.shr d::dD τ cs)) ds).map .lst else none
theorem iw {K:W.Frag} {H0 Hs H:Hp} {σ:St} {τ:List Sl} {fp:List Addr} (st:StR K H0 Hs H σ τ fp):∀ cs:List (Str×Nat),StR K H0 Hs H (aH σ cs) (dD τ cs) []
 | []=>.nil
 | p :: cs=>by
  have ih:=iw st cs;show StR K H0 Hs H ((σ[p.2]?).join::aH σ cs) (Di τ[p.2]?::dD τ cs) []
  cases q:τ[p.2]? with
  | none=>exact .no ih
  | some sl =>
   cases sl with
   | no=>exact .no ih
   | own d=>exact .no ih
   | shr d =>
    obtain ⟨v,h1,h2⟩:=st.get q;rw [h1];exact .shr h2 ih
section
variable {X:Cx} {e:Expr} {es:List Expr} {pos:Pos}
theorem Ce {K:W.Frag} {it:DI} {g:DE} {cs:List (Str×Nat)} {σ:St} {H:Hp} {Q:VK} (h:rdO K (vD it g cs) σ H Q):C8 (rdI K it) (rdE K g) cs σ H Q:=by
 obtain ⟨H0,Hs,τ,fp,d,st,sm,e,k⟩:=h;obtain ⟨ds,e1,e2⟩:=bind_some e;split at e2
 ·rename_i hl
  obtain ⟨full,e3,rfl⟩:=Zm e2;refine ⟨H0,Hs,τ,fp,ds,st,sm,e1,λ J Hs1 H1 g1 hJ=>?_⟩;refine ⟨λ i m ys H'=>m=ds.length - i/\i<=ds.length/\∃ Hs2 es rest,Ext Hs1 H1 Hs2 H'/\Rps K Hs2 ys es/\es.length=i/\wg (λ d=>g (.shr d::dD τ cs)) (ds.drop i)=some rest/\es++rest=full,⟨ds.length,by simp,Z3 _,Hs1,[],full,.refl g1.sh,.nil,rfl,by simpa using e3,rfl⟩,?_⟩
  rintro i m ys H2 ⟨rfl,hi,Hs2,es,rest,g2,ry,ley,e4,e5⟩
  obtain ⟨hgo,hstop⟩:=hJ Hs2 H2 g2.ss g2.sh;have ly:ys.length=i:=by rw [ry.length,ley]
  by_cases hlt:i < ds.length
  ·have ed:=Z7 hlt
   rw [ed] at e4;obtain ⟨x,q1,q2⟩:=bind_some e4;obtain ⟨xs,q3,q4⟩:=bind_some q2;have eq:=Zj q4;subst eq;obtain ⟨go,yl⟩:=hgo i ds[i] (List.getElem?_eq_getElem hlt);refine .inr ⟨go,by rw [ly]; exact le5 (by omega),λ v H3 y=>?_⟩;obtain ⟨Hs3,g3,rv⟩:=yl v H3 y;have g13:=(g1.trans g2).trans g3;refine ⟨H0,Hs3,.shr ds[i]::dD τ cs,[],x,.shr rv (iw (st.ext g13) cs),g3.sh,q1,λ v4 Hs4 H4 g4 r4=>?_⟩;exact ⟨ds.length - (i+1),by omega,rfl,hlt,Hs4,es++[x],xs,(g2.trans g3).trans g4,((ry.same g3.ss).same g4.ss).append (.cons r4 .nil),by simp [ley],q3,by rw [<- e5]; simp⟩
  ·have e0:i=ds.length:=by omega
   subst e0;rw [Yv] at e4;have er:=Zj e4;subst er;rw [Zw] at e5;subst e5;refine .inl ⟨hstop _ (Zl _),by rw [ly]; exact rq hl,λ p hp=>?_⟩;have g12:=g1.trans g2;exact k p Hs2 _ ⟨g12.ss,g12.sh.trans (aw hp _),g12.hh.trans (aw hp _),g12.fr⟩ (.lst ao (g12.sh.free hp) ry) (g12.hh.free hp)
 · cases e2
theorem AN (hc:X.calm=true) (O:cC X scope cl x cs) (hi:PId X (.Name x px) iter it)
 (he:∀ s H fp C,PEd (bp X scope cl (x::cs.map (·.1)) s H fp C) elt g) (hs:∀ x,foldedSetIterable iter X.env x=pure x:=by intro _; rfl) :
 PEo X (.ListComp elt [⟨.Name x px,iter,[],0⟩] scope pos) (vD it g cs):=(A4 (te:=rdE X.K g) hc O hi he hs).imp λ σ H Q h=>Ce h
end
theorem p6 {b:D->DS} {o:Out} (P:Nat->List Sl->Prop):∀ {ds:List D} {τ:List Sl} (i:Nat),P i τ->(∀ j d τ,ds[j]?=some d->P (i+j) τ->∃ τ',b d τ=some (.next τ')/\P (i+j+1) τ')->∃ τ',wk b ds τ=some (.next τ')/\P (i+ds.length) τ'
 | [],τ,i,h,_=>⟨τ,rfl,h⟩
 | d::ds,τ,i,h,hs=>by
  obtain ⟨τ1,e1,p1⟩:=hs 0 d τ rfl h
  obtain ⟨τ2,e2,p2⟩:=p6 (o:=o) P (ds:=ds) (τ:=τ1) (i+1) p1 λ j d' τ' hj p=>by
   have:=hs (j+1) d' τ' (by simpa using hj) (by rw [show i+(j+1)=i+1+j by omega]; exact p);rw [show i+(j+1)+1=i+1+j+1 by omega] at this;exact this
  refine ⟨τ2,?_,?_⟩
  · simp only [wk,e1]; exact e2
  · rw [Zx,show i+(ds.length+1)=i+1+ds.length by omega]; exact p2
def xR (C:Addr) (f:Str):D->Option D
 | .obj C' fs=>if C'=C then fs.lookup f else none
 | _=>none
theorem RpF.look {K:W.Frag} {H:Hp} {f:Str} {d:D}:∀ {fs:List (Str×V)} {ds:List (Str×D)},RpF K H fs ds->ds.lookup f=some d->∃ v,fs.lookup f=some v/\Rp K H v d
 | _,_,.nil,e=>by simp at e
 | _,_,@RpF.cons _ _ k x d' xs ds h r,e=>by
  rw [List.lookup_cons] at e ⊢
  by_cases q:f == k
  ·simp only [q] at e ⊢
   cases e;exact ⟨x,rfl,h⟩
  ·simp only [Bool.not_eq_true] at q
   simp only [q] at e ⊢;exact RpF.look r e
theorem RpF.BM {K:W.Frag} {H:Hp} {f:Str}:∀ {fs:List (Str×V)} {ds:List (Str×D)},RpF K H fs ds->ds.lookup f=none->fs.lookup f=none
 | _,_,.nil,e=>rfl
 | _,_,@RpF.cons _ _ k x d' xs ds h r,e=>by
  rw [List.lookup_cons] at e ⊢
  by_cases q:f == k
  · simp only [q] at e; cases e
  ·simp only [Bool.not_eq_true] at q
   simp only [q] at e ⊢;exact RpF.BM r e
section
variable {X:Cx} {e o:Expr} {es:List Expr} {x m f:Str} {p pos apos:Pos} {k:Nat} {C fa:Addr} {fd:FuncData} {ps:List Str} {F:List D->Option Sl} {g:DE} {ga:DA}
theorem D6 (c:Cls X.K C) (n:cu X.K C f) (he:PEd X e g) (hb:attributeBase e f X.env (eval e X.env)=eval e X.env:=by rfl):PEd X (.Attribute e f pos) (dUn (xR C f) g) :=
 (ui he hb).imp λ σ H Q ⟨H0,Hs,τ,fp,d,st,sm,e,k⟩=>by
   obtain ⟨x,e1,e2⟩:=bind_some e;refine ⟨H0,Hs,τ,fp,x,st,sm,e1,λ v Hs' H' g' r=>?_⟩
   cases r with
   | @obj a C' dx fs ds h r =>
    simp only [xR] at e2;split at e2
    ·rename_i hc
     subst hc;obtain ⟨v,h1,h2⟩:=r.look e2;exact ⟨a,C',dx,fs,v,rfl,g'.sh _ _ h,c,n,h1,k v Hs' H' g' h2⟩
    · cases e2
   | _=>exact nn e2
def j8 (C:Addr) (m:Str) (F:List D->Option Sl) (o:DE) (g:DA):DE:=λ τ=>(o τ).bind λ x=>(g τ).bind λ ds=>match x with
 | .obj C' fs=>if C'=C/\fs.lookup m=none then (F (x::ds)).bind slD else none
 | _=>none
theorem BK (K:W.Frag) (h:rdE K (j8 C m F g ga) σ H Q):C4 C m (spF F K) [] E0 (rdE K g) (rdA K ga) σ H Q:=by
 obtain ⟨H0,Hs,τ,fp,d,st,sm,e,q⟩:=h;obtain ⟨x,e1,e2⟩:=bind_some e;obtain ⟨ds,e3,e4⟩:=bind_some e2;refine ⟨H0,Hs,τ,fp,x,st,sm,e1,λ v Hs1 H1 g1 r1=>?_⟩
 cases r1 with
 | @obj a C' dx fs dd h r =>
  simp only at e4;split at e4
  ·rename_i hc
   obtain ⟨hc1,hc2⟩:=hc;subst hc1;obtain ⟨s,e5,e6⟩:=bind_some e4;refine ⟨a,dx,fs,rfl,g1.sh _ _ h,r.BM hc2,?_⟩;refine ⟨H0,Hs1,τ,fp,ds,st.ext g1,g1.sh,e3,λ vs Hs2 H2 g2 r2=>?_⟩;refine ⟨Hs2,_,s,g2.sh,.cons ((Rp.obj h r).same g2.ss) (by rw [Zw]; exact r2),e5,λ v Hs3 H3 g3 rv=>?_⟩;obtain ⟨Hs4,g4,r4⟩:=rv.shr g3 e6;exact q v Hs4 H3 ((g1.trans g2).trans g4) r4
  · cases e4
 | _=>exact nn e4
theorem A8 (he:PEd X o g) (c:Cls X.K C) (hm:zG X.K C m fa) (Fo:fW X.prog X.w X.K X.mg X.base CX0 k fa fd ps (spF F X.K)) (hr:c6 k X.A) (hb:Binds X.K fd ps []) (ha:PAd X (e::es) ga)
 (hst:starEach (e::es) X.env=(false,eval e X.env)::starEach es X.env:=by rfl) (hpl:(backTo pos (starEach es X.env)).any (·.1)=false:=by rfl)
 (ht:eval (.Call (.Attribute o m apos) (e::es) [] pos) X.env=(do
   let ov <- eval o X.env
   standAt apos.atName
   let (f,first) <- holding [ov] (getMethod ov m pl)
   callWith pos f first (backTo pos (starEach (e::es) X.env)) (backToKw pos (keywordEach [] X.env))):=by rfl) :
 PEd X (.Call (.Attribute o m apos) (e::es) [] pos) (j8 C m F g ga):=(ug he c hm Fo hr hb .nil qQ ha hst hpl ht).imp λ σ H Q h=>BK X.K h
end
def cL:List D->Option (List Int)
 | []=>some []
 | .int i::ds=>(cL ds).map (i::·)
 | _=>none
theorem gX:∀ {ds:List D} {ns:List Int},cL ds=some ns->ds=ns.map .int
 | [],ns,h=>by simp [cL] at h; subst h; rfl
 | .int i::ds,ns,h=>by
  obtain ⟨m,h1,rfl⟩:=Zm (show Option.map _ (cL ds)=some ns from h);rw [gX h1];rfl
 | .non::_,_,h=>by simp [cL] at h
 | .bl _::_,_,h=>by simp [cL] at h
 | .str _::_,_,h=>by simp [cL] at h
 | .ty _::_,_,h=>by simp [cL] at h
 | .tup _::_,_,h=>by simp [cL] at h
 | .lst _::_,_,h=>by simp [cL] at h
 | .fz _::_,_,h=>by simp [cL] at h
 | .dct _::_,_,h=>by simp [cL] at h
 | .obj _ _::_,_,h=>by simp [cL] at h
 | .cls _::_,_,h=>by simp [cL] at h
 | .dfz _::_,_,h=>by simp [cL] at h
theorem lT (ns:List Int):cL (ns.map .int)=some ns:=by
 induction ns with
 | nil=>rfl
 | cons n ns ih=>rw [Zg]; show Option.map _ (cL (ns.map .int))=_; rw [ih]; rfl
theorem Rps.eY {K:W.Frag} {H:Hp}:∀ {xs:List V} {ns:List Int},Rps K H xs (ns.map .int)->xs=ns.map V.int
 | _,[],.nil=>rfl
 | _,n::ns,.cons h r=>by
  cases h;rw [Rps.eY r];rfl
theorem eY:∀ {ns:List Int} {us:List Value},be (ns.map V.int) us->∀ (i:Nat) (v:Value),us[i]?=some v->∃ t,v=.int ((ns[i]?).getD 0) t
 | [],_,.nil,i,v,e=>by simp at e
 | b::bs,_,.cons r t,0,v,e=>by
  simp at e;subst e;obtain ⟨tk,rfl⟩:=r;exact ⟨tk,by simp⟩
 | b::bs,_,.cons r t,i+1,v,e=>by
  obtain ⟨c,h1⟩:=eY t i v (by simpa using e);exact ⟨c,by simpa using h1⟩
section
variable {prog:Program} {w:World} {A:Around} {R:Result->Shared->Prop} {s:Shared}
theorem l4 (I:Nat->Shared->Prop)
  (turn:∀ n s,I n s->wpAny (model prog w) A (pyNext it) (λ r s₁=>match r with
    | none=>R (.ok .next) s₁
    | some v=>wpAny (model prog w) A (letOwnedTupleGo target it v) (λ _ s₁'=>wpAny (model prog w) A (assign target env v) (λ _ s₂=>wpAny (model prog w) A (isTrue cnd env (eval cnd env)) (λ ok s₂'=>if ok=true then wpAny (model prog w) A (eval elt env) (λ x s₃ =>
     wpAny (model prog w) A (call (.builtin "list.append") [acc,x]) (λ _ s₄=>∃ m,m < n/\I m s₄) (λ _ _=>False) s₃) (λ _ _=>False) s₂' else ∃ m,m < n/\I m s₂') (λ _ _=>False) s₂) (λ _ _=>False) s₁') (λ _ _=>False) s₁) (λ _ _=>False) s)
  (n:Nat) (h:I n s) :
  codeAny (model prog w) A (.compLoop (.ListComp elt [⟨target,iter,[cnd],0⟩] scope pos) 0 it acc env) R s:=by
 refine codeAny_loop rfl I (λ n s hI=>?_) n h;refine wpAny_noted ?_
 rw [compTurn_list];refine Zv (wpAny_standAt (Zv (Yc (turn n s hI) (λ r s₁ h₁=>?_) λ _ _ h'=>h'.elim)))
 cases r with
 | none=>exact Z6 h₁
 | some v =>
  refine Zv (Yc h₁ (λ _ s₁' h₁'=>?_) λ _ _ h'=>h'.elim);refine Zv (Yc h₁' (λ _ s₂ h₂=>?_) λ _ _ h'=>h'.elim);refine Zv (Yc (wpAny_tests_one h₂) (λ ok s₃ h₃=>?_) λ _ _ h'=>h'.elim)
  cases ok with
  | false =>
    rw [if_neg Zf] at h₃
    rw [if_neg Zf];exact Zv (Z6 (Z6 ⟨rfl,h₃⟩))
  | true =>
    rw [if_pos rfl] at h₃
    rw [if_pos rfl];exact Zv (Zv (Yc h₃ (λ x s₄ h₄=>Zv (Yc h₄ (λ _ s₅ h₅=>Z6 (Z6 ⟨rfl,h₅⟩)) λ _ _ h'=>h'.elim)) λ _ _ h'=>h'.elim))
end
def zT (J:It) (tt:TT) (te:TE) (cs:List (Str×Nat)) (σ:St) (Q:VK) (H1:Hp):Prop:=∃ W:Nat->Nat->List V->Hp->Prop,(∃ m,W 0 m [] H1)/\∀ i m ys H',W i m ys H' ->
 (J.stop i H'/\ys.length<=sizeLine/\∀ p,H' p=none->Q (.ref p) (upd H' p (.lst ys))) \/
 (J.go i H'/\ys.length < sizeLine/\∀ v H2,J.yld i H' v H2->tt (some v::aH σ cs) H2 λ b H3=>if b=true then te (some v::aH σ cs) H3 λ y H4=>∃ m',m' < m/\W (i+1) m' (ys++[y]) H4 else ∃ m',m' < m/\W (i+1) m' ys H3)
def yL (wi:TI) (tt:TT) (te:TE) (cs:List (Str×Nat)):TE:=λ σ H Q=>wi σ H λ J H1=>zT J tt te cs σ Q H1
section
variable {X:Cx}
theorem oT {elt iter:Expr} {x:Str} {px pos:Pos} {scope:Scope} {cl:List (Str×Addr)} {cs:List (Str×Nat)} {te:TE} {tt:TT} {cnd:Expr} {pins:List (Addr×Obj)} {σ:St} {H:Hp} {s:Shared} {Q:VK} {it:Addr} {fp:List Addr} {tn:Nat->Heap->Prop} {J:It}
  {RR:Value->Addr->Result->Shared->Prop} {E:Value->Shared->Prop} (hc:X.calm=true) (O:cC X scope cl x cs) (hcd:∀ s H fp C,PT (bp X scope cl (x::cs.map (·.1)) s H fp C) cnd tt) (he:∀ s H fp C,PE (bp X scope cl (x::cs.map (·.1)) s H fp C) elt te)
  (I:Inv X pins σ H s) (T:Turn X.prog X.w X.K (.Name x px) J fp it tn) (st:tn 0 s.heap) (f2:∀ b ∈ fp,sg X pins H b)
  (h : ∃ W:Nat->Nat->List V->Hp->Prop,(∃ m,W 0 m [] H)/\∀ i m ys H',W i m ys H' ->
    (J.stop i H'/\ys.length<=sizeLine/\∀ p,H' p=none->Q (.ref p) (upd H' p (.lst ys))) \/
    (J.go i H'/\ys.length < sizeLine/\∀ v H2,J.yld i H' v H2->tt (some v::aH σ cs) H2 λ b H3=>if b=true then te (some v::aH σ cs) H3 λ y H4=>∃ m',m' < m/\W (i+1) m' (ys++[y]) H4 else ∃ m',m' < m/\W (i+1) m' ys H3))
  (hRR:∀ D C s' H' ys,s.heap.objs.size<=D->s.heap.objs.size<=C->D≠C->(∃ m,s'.heap.Ns C m)->Inv X pins σ (upd H' D (.lst ys)) s'->H' C=none->Q (.ref D) (upd H' D (.lst ys))->RR (.ref D) C (.ok .next) s') :
  wpAny (model X.prog X.w) X.A (newList []) (λ acc s₃=>wpAny (model X.prog X.w) X.A (newFunctionEnv scope X.env.globals cl [] X.env.qual none .none (some X.env)) (λ cenv s₄ =>
    codeAny (model X.prog X.w) X.A (.compStart (.ListComp elt [⟨.Name x px,iter,[cnd],0⟩] scope pos) 0 (.ref it) acc { cenv with scope:=relabel scope X.env }) (RR acc cenv.locals) s₄) E s₃) E s:=by
 obtain ⟨W,⟨m0,w0⟩,turn⟩:=h;refine wpAny_newObj_type (wpAny_newFunctionEnv O.pQ (by intro y hy; simp at hy) (λ h₁ hns₁ hsb₁=>?_) O.kind);generalize hH2:s.heap.push { cls:=.type "list",dict:=none,data:=.seq ([]:List Value).toArray }=H2 at hns₁ hsb₁ ⊢
 have hC:H2.objs.size=s.heap.objs.size+1:=by rw [<- hH2,Xe]
 have hDC:s.heap.objs.size≠H2.objs.size:=by rw [hC]; exact Zz (Y4 _)
 have hCle:s.heap.objs.size<=H2.objs.size:=by rw [hC]; exact Nat.le_succ _
 have neC:∀ b,b < s.heap.objs.size->b≠H2.objs.size:=λ b hb=>by rw [hC]; exact Zz (Nat.lt_succ_of_lt hb)
 have old:∀ b o,s.heap.get? b=some o->h₁.get? b=some o:=λ b o e=>hsb₁.extBut b o (neC b (Zr e)) (Heap.get?_push_of_some _ (hH2 ▸ Heap.get?_push_of_some _ e))
 have hacc:=hsb₁.extBut _ _ hDC (Heap.get?_push_of_some _ (hH2 ▸ Heap.get?_push_size _ rfl))
 have there:∀ b ∈ fp,b < s.heap.objs.size:=λ b hb=>by
  obtain ⟨o,e,_⟩:=T.obj _ _ st b hb;exact Zr e
 have hns:h₁.Ns H2.objs.size λ _=>none:=by
  have e:(λ x=>List.lookup x ([]:List (Str×Value)).reverse)=λ _=>none:=by funext y; rfl
  rw [e] at hns₁
  exact hns₁
 generalize hD:s.heap.objs.size=D at hDC hCle hacc;generalize hCC:H2.objs.size=C at hDC hCle hns ⊢;have FD:=I.wj (b:=D) (by rw [<- hD]; exact Zl _) (I.hok.fresh (by rw [<- hD]; exact Zl _));have nfpD:∀ b ∈ fp,b≠D:=λ b hb=>by rw [<- hD]; exact Zz (there b hb)
 have nfpC:∀ b ∈ fp,b≠C:=λ b hb=>Zz (Zu (there b hb) (by rw [hD]; exact hCle))
 have st1:=T.keep _ _ _ st λ b _ o e=>old b o e
 have I1:Inv (bp X scope cl (x::cs.map (·.1)) s H fp C) [] (none::aH σ cs) H { s with heap:=h₁,toks:=s.toks+([]:List (Str×Value)).length } :=
  lg O I f2 there (by rw [hD]; exact hCle) old hns
 generalize hY:bp X scope cl (x::cs.map (·.1)) s H fp C=Y at I1
 have pgx:PG Y (.Name x px) (m6 0):=by
  subst hY;exact gr O.nd rfl (.inl (Xf O.own)) (.inr (Xf O.own))
 have peY:PE Y elt te:=by subst hY; exact he _ _ _ _
 have ptY:PT Y cnd tt:=by subst hY; exact hcd _ _ _ _
 have Yx:Y.prog=X.prog/\Y.w=X.w/\Y.K=X.K/\Y.A=X.A/\Y.env=compEnvC scope cl C X.env/\Y.calm=X.calm/\Y.xe=(λ _ _=>False)/\Y.pn=[]/\Y.ex=fp/\Y.fs=frs X.stack/\Y.s₀=s/\Y.H₀=H:=by subst hY; exact ⟨rfl,rfl,rfl,rfl,rfl,rfl,rfl,rfl,rfl,rfl,rfl,rfl⟩
 obtain ⟨y1,y2,y3,y4,y5,y6,y7,y8,y9,y10,y11,y12⟩:=Yx;have nstk:∀ b,b≠X.env.locals->b ∉ X.fs->b ∉ Y.fs:=λ b h1 h2 z=>by rw [y10] at z; exact (Zh.mp (I.dF b z)).elim h1 h2
 have yl:Y.env.locals=C:=by rw [y5]; rfl
 have yc:∀ z c,Y.env.cells.lookup z=some c->X.env.cells.lookup z=some c:=λ z c e=>by rw [y5] at e; exact O.sub z c e
 have stat:∀ {ps:List (Addr×Obj)} {H':Hp},(∀ b ∈ fp,H' b=none)->(∀ p ∈ ps,p.1=D)->∀ b ∈ fp,sg Y ps H' b:=λ {ps H'} hn hp b hb =>
  ⟨hn b hb,by rw [yl]; exact nfpC b hb,nstk b (f2 b hb).2.1 (f2 b hb).2.2.1,.inl (by rw [y9]; exact hb),λ z c e=>(f2 b hb).2.2.2.2.1 z c (yc z c e),λ p hq=>by
    rw [y8,List.nil_append] at hq;rw [hp p hq]
    exact Ne.symm (nfpD b hb)⟩
 have pinD:∀ {σ':St} {H':Hp} {s':Shared} {ob:Obj},Inv Y [] σ' H' s'->H' D=none->s'.heap.get? D=some ob->(∀ v,ob.data≠.cell v)->Inv Y [(D,ob)] σ' H' s':=λ {σ' H' s' ob} I' hn e hd =>
  I'.gq λ p hp=>by
    have e1:p=(D,ob):=by simpa using hp
    subst e1;exact ⟨e,hn,by rw [yl]; exact hDC,nstk D FD.2.1 FD.2.2.1,hd⟩
 have loop:∀ s₃:Shared,s₃={ s with heap:=h₁,toks:=s.toks+([]:List (Str×Value)).length } ->
    codeAny (model X.prog X.w) X.A (.compLoop (.ListComp elt [⟨.Name x px,iter,[cnd],0⟩] scope pos) 0 (.ref it) (.ref D) (compEnvC scope cl C X.env)) (RR (.ref D) C) s₃:=by
  rintro s₃ rfl
  refine l4 (λ n s'=>∃ i o H' ys its k,Inv Y [] (o::aH σ cs) H' s'/\tn i s'.heap/\(∀ b ∈ fp,H' b=none)/\H' D=none/\s'.heap.get? D=some { cls:=.type "list",data:=.seq (its:List Value).toArray k }/\be ys its/\W i n ys H') ?_ m0
    ⟨0,none,H,[],[],0,I1,st1,λ b hb=>(f2 b hb).1,FD.1,hacc,.nil,w0⟩
  rintro n s3 ⟨i,o,H3,ys,its,k,I3,st3,fr3,frD,e3,vs3,w3⟩
  have I3p:=pinD I3 frD e3 (by intro v z; cases z)
  have onlyD:∀ p ∈ [(D,({ cls:=.type "list",data:=.seq its.toArray k }:Obj))],p.1=D:=λ p hp=>by
    have e1:=Zn.mp hp;rw [e1]
  rcases turn i n ys H3 w3 with ⟨stop,hz,q⟩ | ⟨go,hz,step⟩
  · have dn:=T.done Y y1 y2 y3 (by rw [y6]; exact hc) i _ s3 (o::aH σ cs) H3 (λ _ _=>False) I3p (stat fr3 onlyD) st3 stop
    rw [y4] at dn;refine thn dn λ r s4 ⟨hr,I4⟩=>?_
    subst hr;obtain ⟨e4,_⟩:=I4.pin (D,_) (Zd _ (Zn.mpr rfl));have b4:=I4.base;rw [y9,y10,y11,y12] at b4;have hk4:=I4.hok;rw [y1,y2] at hk4;have hCn:H3 C=none:=by have:=I4.free; rw [yl] at this; exact this
    refine hRR D C s4 H3 ys (by rw [<- hD]; exact Zl _) (by rw [hD]; exact hCle) hDC (by obtain ⟨m,hm,_⟩:=I4.loc; rw [yl] at hm; exact ⟨m,hm⟩) ?_ hCn (q D frD);have neD:∀ b o,s.heap.get? b=some o->b≠D:=λ b o e=>by rw [<- hD]; exact Zz (Zr e)
    have neDH:∀ b u,H b=some u->b≠D:=λ b u e=>by rw [<- hD]; exact Zz (I.hok.lt e)
    refine I.Cj (by have:=I4.os; rw [y11] at this; exact this) ⟨b4.keep,b4.slot,λ b o e n hx=>?_,b4.there,λ b xs e=>?_,λ b o u e=>?_,λ b ps e=>?_⟩ (λ b u e=>?_) I4.bare λ b hb=>?_
    · rw [ai (neD b o e)]; exact b4.free b o e n hx
    · rw [ai (neDH b _ e)]; exact b4.nQ b xs e
    · rw [ai (neDH b _ e)]; exact b4.nM b o u e
    · rw [ai (neDH b _ e)]; exact b4.nS b ps e
    ·have t1:∀ c u,H3 c=some u->upd H3 D (.lst ys) c=some u:=λ c u z=>by
      rw [ai (λ zz=>by rw [zz,frD] at z; cases z)];exact z
     by_cases hb:b=D
     ·subst hb
      rw [ao] at e;cases e;exact ⟨hz,its,k,vs3,e4⟩
     ·rw [ai hb] at e
      exact (hk4 b u e).sM (λ _ _ _ z=>z) (λ c z=>t1 c _ z) λ c xs z=>t1 c _ z
    · exact ⟨(f2 b hb).2.2.2.1,(f2 b hb).2.1,(f2 b hb).2.2.2.2.1,(f2 b hb).2.2.2.2.2⟩
  · have im:=T.item Y y1 y2 y3 (by rw [y6]; exact hc) i _ s3 (o::aH σ cs) H3 (λ _ _=>False) I3p (stat fr3 onlyD) st3 go
    rw [y4] at im;refine thn im λ r s4 ⟨u,hr,h4⟩=>?_
    subst hr;refine thn h4 λ _ s5 ⟨v,H5,I5,r5,y5',st5,fr5⟩=>?_
    have I5':=I5.pinned (stat fr5 onlyD) (T.obj _ _ st5);have as:=pgx _ s5 (o::aH σ cs) H5 v u _ I5' r5 (show m6 0 v (o::aH σ cs) H5 (λ σ' H'=>σ'=some v::aH σ cs/\H'=H5) from ⟨rfl,rfl⟩);rw [y1,y2,y4,y5,y7] at as;refine thn as λ _ s6 ⟨σ6,H6,I6,e6,e6'⟩=>?_
    subst e6 e6';have ts:=ptY _ s6 _ H6 _ I6 (step v H6 y5');rw [y1,y2,y4,y5,y7] at ts;refine thn ts λ bb s7 ⟨H7,I7,q7⟩=>?_
    have fpk:∀ b ∈ fp,∀ o,s5.heap.get? b=some o->s7.heap.get? b=some o/\H7 b=none:=λ b hb o e=>by
     obtain ⟨z1,z2,_⟩:=I7.pin (b,o) (Zd _ (Zd _ (dI hb e)));exact ⟨z1,z2⟩
    cases bb with
    | false =>
     obtain ⟨m',hm',w7⟩:=(by rw [if_neg Zf] at q7; exact q7)
     rw [if_neg Zf];obtain ⟨e7,n7,_⟩:=I7.pin (D,_) (Zd _ (Zk _ (Zn.mpr rfl)));have I7n:Inv Y [] (some v::aH σ cs) H7 s7:=I7.gq λ p hp=>absurd hp (by simp)
     refine ⟨m',hm',i+1,some v,H7,ys,its,k,I7n,T.keep _ _ _ st5 λ b hb o e=>(fpk b hb o e).1,λ b hb=>?_,n7,e7,vs3,w7⟩;obtain ⟨o',e',_⟩:=T.obj _ _ st5 b hb;exact (fpk b hb o' e').2
    | true =>
    rw [if_pos rfl];have q7':=q7;rw [if_pos rfl] at q7';have el:=peY _ s7 _ H7 _ I7 q7';rw [y1,y2,y4,y5,y7] at el;refine thn el λ u8 s8 ⟨y8',H8,I8,r8,m',hm',w8⟩=>?_
    obtain ⟨e8,n8,_⟩:=I8.pin (D,_) (Zd _ (Zk _ (Zn.mpr rfl)));have hl3:=vs3.length;refine Xo F.slot_list_append ⟨_,e8,rfl⟩ F.entry_list_append (F.args_list_append_2 _ _) (PySem.list_append D its.toArray k u8 (by rw [Zp]; omega)) ⟨e8,?_⟩;obtain ⟨k',up⟩:∃ k',(s8.heap.update D (Obj.mapSeq (·.push u8))).get? D=some { cls:=.type "list",data:=.seq (its.toArray.push u8) k' }:=⟨_,PySem.IsL.update e8 (·.push u8)⟩
    have fpk8:∀ b ∈ fp,∀ o,s5.heap.get? b=some o->s8.heap.get? b=some o/\H8 b=none:=λ b hb o e=>by
     obtain ⟨z1,z2,_⟩:=I8.pin (b,o) (Zd _ (Zd _ (dI hb e)));exact ⟨z1,z2⟩
    have I8n:Inv Y [] (some v::aH σ cs) H8 s8:=I8.gq λ p hp=>absurd hp (by simp)
    refine ⟨m',hm',i+1,some v,H8,ys++[y8'],its++[u8],k',?_,?_,?_,n8,?_,vs3.append (.cons r8 .nil),w8⟩
    ·refine I8n.turned (λ b o hb e=>(Heap.get?_update_other s8.heap (Obj.mapSeq (·.push u8)) (Ne.symm hb)).trans e) n8 (by rw [yl]; exact hDC) (.inr (by rw [y11,<- hD]; exact Zl _)) (λ z c e=>FD.2.2.2.2.1 z c (yc z c e)) λ p hp=>?_
     rw [y8] at hp;exact absurd hp (by simp)
    ·refine T.keep _ _ _ st5 λ b hb o e=>?_
     exact (Heap.get?_update_other s8.heap (Obj.mapSeq (·.push u8)) (Ne.symm (nfpD b hb))).trans (fpk8 b hb o e).1
    ·intro b hb
     obtain ⟨o',e',_⟩:=T.obj _ _ st5 b hb;exact (fpk8 b hb o' e').2
    ·rw [List.push_toArray] at up
     exact up
 exact codeAny_compStart_list (loop _ rfl) (T.self _ 0 _ _ _ st1 (loop _ rfl))
theorem lN {elt iter:Expr} {x y:Str} {px py pos spos:Pos} {i:Nat} {scope:Scope} {cl:List (Str×Addr)} {cs:List (Str×Nat)} {wi:TI} {te:TE} {tt:TT} {cnd:Expr} (hN:X.N.Nodup) (hy:X.N[i]?=some y) (hx:Loc X.env.scope y)
  (hc:X.calm=true) (O:cC X scope cl x cs) (hi:PI X (.Name x px) iter wi)
  (hcd:∀ s H fp C,PT (bp X scope cl (x::cs.map (·.1)) s H fp C) cnd tt) (he:∀ s H fp C,PE (bp X scope cl (x::cs.map (·.1)) s H fp C) elt te) (hs:∀ x,foldedSetIterable iter X.env x=pure x:=by intro _; rfl)
  (hsw:swapsWith (.ListComp elt [⟨.Name x px,iter,[cnd],0⟩] scope pos) (some (.Name y py)) spos.line X.env=pure true:=by rfl)
  (hf:X.fn y=true\/X.env.scope.names.lookup y=some .local:=by first | exact .inl rfl | exact .inr rfl | assumption) :
  PS X (.Assign [.Name y py] (.ListComp elt [⟨.Name x px,iter,[cnd],0⟩] scope pos) spos) (JH (yL wi tt te cs) (m6 i)):=by
 intro pins s σ H Dd I h;rw [exec_Assign_Name_used _ _ _ _ hsw];refine Zv (wpAny_standAt (Zv ?_))
 refine Zv (Yc (wpAny_comprehension_free rfl hs O.Gm O.kind O.names (thn (hi pins s σ H _ I h) λ v s1 h1=>thn h1 λ itv s2 h2=>?_))
  (λ _ s' hq=>Z6 (Z6 hq)) λ _ _ e=>e)
 obtain ⟨it,fp,tn,J,H2,rfl,I2,T,st2,f2,hw⟩:=h2;refine oT (Q:=λ v H1=>m6 i v σ H1 Dd.nx) hc O hcd he I2 T st2 f2 hw λ D C s' H' ys hD hC hDC ⟨m,hm⟩ I' hn q=>?_
 have hn':upd H' D (.lst ys) C=none:=by rw [ai (Ne.symm hDC)]; exact hn
 have FC:=I2.wj hC hn';refine wpAny_assign_Name (mz I' hN hy hx (v:=.ref D) rfl (λ s'' I'' ⟨a,hsb,ha⟩=>?_) hf)
 have na:C≠a:=by
  rcases ha with ha | ha
  · rw [ha]; exact FC.2.1
  · exact Ne.symm (FC.2.2.2.2.1 y a ha)
 refine ⟨m,hm.sameBut hsb na,λ h' hs'=>?_⟩;exact ⟨σ.set i (some (.ref D)),upd H' D (.lst ys),I''.turned (λ b o hb e=>(hs'.2 b hb).trans e) hn' FC.2.1 FC.2.2.2.1 FC.2.2.2.2.1 FC.2.2.2.2.2,q⟩
end
def oA (c:D->Option Bool) (g:D->Option D):List D->Option (List D)
 | []=>some []
 | d::ds=>(c d).bind λ b=>if b=true then (g d).bind λ x=>(oA c g ds).bind λ xs=>some (x::xs) else oA c g ds
def j9 (it:DI) (c:DT) (g:DE) (cs:List (Str×Nat)):DE:=λ τ=>(it τ).bind λ ds=>if ds.length<=100000 then (oA (λ d=>c (.shr d::dD τ cs)) (λ d=>g (.shr d::dD τ cs)) ds).map .lst else none
section
variable {X:Cx} {e:Expr} {es:List Expr} {pos:Pos}
theorem qm {K:W.Frag} {it:DI} {c:DT} {g:DE} {cs:List (Str×Nat)} {σ:St} {H:Hp} {Q:VK} (h:rdO K (j9 it c g cs) σ H Q):yL (rdI K it) (rdT K c) (rdE K g) cs σ H Q:=by
 obtain ⟨H0,Hs,τ,fp,d,st,sm,e,k⟩:=h;obtain ⟨ds,e1,e2⟩:=bind_some e;split at e2
 ·rename_i hl
  obtain ⟨full,e3,rfl⟩:=Zm e2;refine ⟨H0,Hs,τ,fp,ds,st,sm,e1,λ J Hs1 H1 g1 hJ=>?_⟩;refine ⟨λ i m ys H'=>m=ds.length - i/\i<=ds.length/\∃ Hs2 es rest,Ext Hs1 H1 Hs2 H'/\Rps K Hs2 ys es/\es.length<=i/\oA (λ d=>c (.shr d::dD τ cs)) (λ d=>g (.shr d::dD τ cs)) (ds.drop i)=some rest/\es++rest=full,⟨ds.length,by simp,Z3 _,Hs1,[],full,.refl g1.sh,.nil,Zl _,by simpa using e3,rfl⟩,?_⟩
  rintro i m ys H2 ⟨rfl,hi,Hs2,es,rest,g2,ry,ley,e4,e5⟩
  obtain ⟨hgo,hstop⟩:=hJ Hs2 H2 g2.ss g2.sh;have ly:ys.length<=i:=by rw [ry.length]; exact ley
  by_cases hlt:i < ds.length
  ·have ed:=Z7 hlt
   rw [ed] at e4;obtain ⟨b,q0,q0'⟩:=bind_some e4;obtain ⟨go,yl⟩:=hgo i ds[i] (List.getElem?_eq_getElem hlt);refine .inr ⟨go,le5 (by omega),λ v H3 y=>?_⟩;obtain ⟨Hs3,g3,rv⟩:=yl v H3 y;have g13:=(g1.trans g2).trans g3;refine ⟨H0,Hs3,.shr ds[i]::dD τ cs,[],b,.shr rv (iw (st.ext g13) cs),g3.sh,q0,λ Hs4 H4 g4=>?_⟩;have g14:=g13.trans g4
   cases b with
   | true =>
    refine ye ?_
    obtain ⟨x,q1,q2⟩:=bind_some (q0');obtain ⟨xs,q3,q4⟩:=bind_some q2;have eq:=Zj q4;subst eq;refine ⟨H0,Hs4,.shr ds[i]::dD τ cs,[],x,.shr (rv.same g4.ss) (iw (st.ext g14) cs),g4.sh,q1,λ v5 Hs5 H5 g5 r5=>?_⟩;exact ⟨ds.length - (i+1),by omega,rfl,hlt,Hs5,es++[x],xs,((g2.trans g3).trans g4).trans g5,(((ry.same g3.ss).same g4.ss).same g5.ss).append (.cons r5 .nil),by simp; omega,q3,by rw [<- e5]; simp⟩
   | false =>
    refine EK ?_
    have q1:=q0';exact ⟨ds.length - (i+1),by omega,rfl,hlt,Hs4,es,rest,(g2.trans g3).trans g4,(ry.same g3.ss).same g4.ss,by omega,q1,e5⟩
  ·have e0:i=ds.length:=by omega
   subst e0;rw [Yv] at e4;have er:=Zj e4;subst er;rw [Zw] at e5;subst e5;refine .inl ⟨hstop _ (Zl _),rq (by omega),λ p hp=>?_⟩;have g12:=g1.trans g2;exact k p Hs2 _ ⟨g12.ss,g12.sh.trans (aw hp _),g12.hh.trans (aw hp _),g12.fr⟩ (.lst ao (g12.sh.free hp) ry) (g12.hh.free hp)
 · cases e2
end
def dQ:D->Option Key
 | .int i=>some (.inl i)
 | .str x=>some (.inr x)
 | _=>none
def jf (kvs:List (Key×D)) (k:Key):Option D:=(kvs.find? λ kv=>decide (kv.1=k)).map (·.2)
theorem gW {K:W.Frag} {H:Hp} {v:V} {d:D} {k:Key} (r:Rp K H v d) (e:dQ d=some k):v=kV k:=by
 cases r <;> simp [dQ] at e <;> subst e <;> rfl
theorem RpK.val {K:W.Frag} {H:Hp} {k:Key}:∀ {kvs:List (Key×V)} {ds:List (Key×D)},RpK K H kvs ds->(∀ d,jf ds k=some d->∃ v,b7 kvs k=some v/\Rp K H v d)/\(jf ds k=none->b7 kvs k=none)
 | _,_,.nil=>⟨λ d e=>by simp [jf] at e,λ _=>rfl⟩
 | _,_,@RpK.cons _ _ j x d xs ds h r=>by
  obtain ⟨i1,i2⟩:=RpK.val (k:=k) r
  by_cases q:j=k
  ·subst q
   refine ⟨λ d' e=>?_,λ e=>?_⟩
   ·have:d=d':=by simpa [jf] using e
    subst this;exact ⟨x,by simp [b7],h⟩
   · simp [jf] at e
  ·have e1:jf ((j,d)::ds) k=jf ds k:=by simp [jf,q]
   have e2:b7 ((j,x)::xs) k=b7 xs k:=by simp [b7,q]
   rw [e1,e2];exact ⟨i1,i2⟩
theorem RpK.length {K:W.Frag} {H:Hp}:∀ {kvs:List (Key×V)} {ds:List (Key×D)},RpK K H kvs ds->kvs.length=ds.length
 | _,_,.nil=>rfl
 | _,_,.cons _ r=>Yo (·+1) r.length
def bW:D->D->Option D
 | .dct kvs,y=>(dQ y).bind λ k=>jf kvs k
 | .dfz kvs,y=>(dQ y).bind λ k=>jf kvs k
 | _,_=>none
def Hv:D->D->Option D
 | y,.dct kvs=>(dQ y).map λ k=>.bl (jf kvs k).isSome
 | _,_=>none
def iF:D->D->Option D
 | y,.dct kvs=>(dQ y).map λ k=>.bl (!(jf kvs k).isSome)
 | _,_=>none
section
variable {X:Cx} {o i e value:Expr} {pos pos' apos cpos:Pos} {f g h:DE}
theorem Bb (hu:X.A.units+64 < cLine) (ho:PEd X o f) (hi:PEd X i g) (hs:CK i):PEd X (.Subscript o i pos) (dOp bW f g) :=
 (uj (by omega) ho hi hs).imp λ σ H Q h=>by
   have h':=kN X.K h;obtain ⟨H0,Hs,τ,fp,x,st,sm,e1,kk⟩:=h';refine ⟨H0,Hs,τ,fp,x,st,sm,e1,λ v Hs1 H1 g1 r1=>?_⟩;obtain ⟨H0',Hs',τ',fp',y,st',sm',e2,kk2⟩:=kk v Hs1 H1 g1 r1;refine ⟨H0',Hs',τ',fp',y,st',sm',e2,λ u Hs2 H2 g2 r2=>?_⟩;obtain ⟨Hs3,dx,dy,d,sm3,rx,ry,eo,k⟩:=kk2 u Hs2 H2 g2 r2
   cases rx with
   | @dct a kvs ds hH rk =>
    obtain ⟨key,ek,ev⟩:=bind_some (eo);obtain ⟨w,hw,rw'⟩:=(rk.val).1 d ev;have:=gW ry ek;subst this;exact ⟨a,w,rfl,by rw [<- hw]; exact so.k (sm3 _ _ hH),k w Hs3 H2 (.refl sm3) rw'⟩
   | @dfz a kvs ds hH rk =>
    obtain ⟨key,ek,ev⟩:=bind_some (show (dQ dy).bind _=some d from eo);obtain ⟨w,hw,rw'⟩:=(rk.val (k:=key)).1 d ev;have:=gW ry ek;subst this;refine ⟨a,w,rfl,.inl ⟨_,key,hH.elim (λ z=>.inl (sm3 _ _ z)) (λ ⟨o,z⟩=>.inr ⟨o,sm3 _ _ z⟩),rfl,hw.symm⟩,k w Hs3 H2 (.refl sm3) rw'⟩
   | _=>simp [bW] at eo
theorem Cc {neg:Bool} {σ:St} {H:Hp} {Q:VK} (K:W.Frag) (h:rdE K (dOp (if neg then iF else Hv) f g) σ H Q):rdE K f σ H λ y H1=>rdE K g σ H1 λ x H2=>∃ a o,x=.ref a/\so H2 a y o/\Q (.bl (if neg then !o.isSome else o.isSome)) H2:=by
 have h':=kN K h;obtain ⟨H0,Hs,τ,fp,x,st,sm,e1,kk⟩:=h';refine ⟨H0,Hs,τ,fp,x,st,sm,e1,λ v Hs1 H1 g1 r1=>?_⟩;obtain ⟨H0',Hs',τ',fp',y,st',sm',e2,kk2⟩:=kk v Hs1 H1 g1 r1;refine ⟨H0',Hs',τ',fp',y,st',sm',e2,λ u Hs2 H2 g2 r2=>?_⟩;obtain ⟨Hs3,dx,dy,d,sm3,rx,ry,eo,k⟩:=kk2 u Hs2 H2 g2 r2
 obtain ⟨ds,key,rfl,ek,ev⟩:∃ ds key,dy=.dct ds/\dQ dx=some key/\D.bl (if neg then !(jf ds key).isSome else (jf ds key).isSome)=d:=by
  cases neg with
  | true =>
   have eo:iF dx dy=some d:=eo;unfold iF at eo;split at eo
   ·obtain ⟨key,a1,a2⟩:=Zm eo
    exact ⟨_,key,rfl,a1,a2⟩
   · cases eo
  | false =>
   have eo:Hv dx dy=some d:=eo;unfold Hv at eo;split at eo
   ·obtain ⟨key,a1,a2⟩:=Zm eo
    exact ⟨_,key,rfl,a1,a2⟩
   · cases eo
 cases ry with
 | @dct a kvs _ hH rk =>
  have:=gW rx ek;subst this;subst ev
  have is:(b7 kvs key).isSome=(jf ds key).isSome:=by
   cases q:jf ds key with
   | none=>rw [(rk.val).2 q]; rfl
   | some d'=>obtain ⟨w,hw,_⟩:=(rk.val (k:=key)).1 d' q; rw [hw]; rfl
  refine ⟨a,b7 kvs key,rfl,so.k (sm3 _ _ hH),?_⟩;rw [is];exact k _ Hs3 H2 (.refl sm3) (.bl _)
theorem CW (K:W.Frag) (h:rdT K (dT f) σ H Q):rdE K f σ H λ x H1=>∃ c,x=.bl c/\Q c H1:=by
 obtain ⟨H0,Hs,τ,fp,d,st,sm,e,k⟩:=h;obtain ⟨x,e1,e⟩:=bind_some e;have hx:x=.bl d:=by cases x <;> simp at e <;> subst e <;> rfl
 subst hx;refine ⟨H0,Hs,τ,fp,_,st,sm,e1,λ v Hs' H' g r=>?_⟩;cases r;exact ⟨d,rfl,k Hs' H' g⟩
theorem qM (hu:X.A.units+64 < cLine) (hi:PEd X i f) (ho:PEd X o g) (hm:behindInMarks .NotIn o=false):PTd X (.Compare i [.NotIn] [o] pos) (dT (dOp iF f g)):=(mE (mH (by omega) hi ho) hm).imp λ σ H Q h=>Cc (neg:=true) X.K (CW X.K h)
end
def scD:D->Option V
 | .int i=>some (.int i)
 | .str x=>some (.str x)
 | .non=>some .non
 | _=>none
def Cz:List D->Option (List V)
 | []=>some []
 | d::ds=>(scD d).bind λ v=>(Cz ds).map (v::·)
def inS (x:D) (ys:List D):Option Bool:=(scD x).bind λ v=>(Cz ys).map λ vs=>inV v vs
def BX:D->Option (List D)
 | .lst ys=>some ys
 | .tup ys=>some ys
 | _=>none
def Fw (x y:D):Option D:=(BX y).bind λ ys=>(inS x ys).map .bl
def jM (x y:D):Option D:=(BX y).bind λ ys=>(inS x ys).map λ b=>.bl !b
theorem Dj {K:W.Frag} {H:Hp} {v w:V} {d:D} (r:Rp K H v d) (e:scD d=some w):v=w/\kJ v=true:=by
 cases r <;> simp [scD] at e <;> subst e <;> exact ⟨rfl,rfl⟩
theorem yN {K:W.Frag} {H:Hp}:∀ {vs ws:List V} {ds:List D},Rps K H vs ds->Cz ds=some ws->vs=ws/\vs.all kJ=true
 | _,_,_,.nil,e=>by simp [Cz] at e; subst e; exact ⟨rfl,rfl⟩
 | _,_,_,.cons h r,e=>by
  obtain ⟨v,e1,e2⟩:=bind_some (show (scD _).bind _=_ from e);obtain ⟨ws,e3,e4⟩:=Zm e2;obtain ⟨q1,q2⟩:=Dj h e1;obtain ⟨q3,q4⟩:=yN r e3;subst q1 q3;exact ⟨e4,by rw [List.all_cons,q2,q4]; rfl⟩
section
variable {X:Cx}
theorem zp {K:W.Frag} {neg:Bool} {x y:V} {H:Hp} {Q:VK} (h:rdR K (if neg then jM else Fw) x y H Q):rIn K neg x y H Q:=by
 obtain ⟨Hs,dx,dy,d,sm,rx,ry,e,k⟩:=h
 obtain ⟨ys,b,e1,e2,e3⟩:∃ ys b,BX dy=some ys/\inS dx ys=some b/\d=.bl (if neg then !b else b):=by
  cases neg with
  | true =>
   obtain ⟨ys,a1,a2⟩:=bind_some (e);obtain ⟨b,a3,a4⟩:=Zm a2;exact ⟨ys,b,a1,a3,a4.symm⟩
  | false =>
   obtain ⟨ys,a1,a2⟩:=bind_some (show (BX dy).bind _=some d from e);obtain ⟨b,a3,a4⟩:=Zm a2;exact ⟨ys,b,a1,a3,a4.symm⟩
 obtain ⟨v,e4,e5⟩:=bind_some e2;obtain ⟨vs,e6,e7⟩:=Zm e5;obtain ⟨q1,q2⟩:=Dj rx e4;subst q1 e3;have ry':=ry.same sm
 obtain ⟨p,xs,ep,hq,rs⟩:∃ p xs,y=.ref p/\(SqL K H p xs\/SqT K H p xs)/\Rps K H xs ys:=by
  cases ry' with
  | tup h r=>simp [BX] at e1; subst e1; exact ⟨_,_,rfl,.inr h,r⟩
  | lst h r=>simp [BX] at e1; subst e1; exact ⟨_,_,rfl,.inl (.of h),r⟩
  | _=>simp [BX] at e1
 obtain ⟨q3,q4⟩:=yN rs e6;subst q3;refine ⟨p,xs,ep,hq,q2,q4,?_⟩;rw [e7];exact k _ Hs H (.refl sm) (.bl _)
theorem Hm:OpR X (compareOp .In) (rdR X.K Fw):=ur.imp λ x y H Q h=>zp h
theorem xN:OpR X (compareOp .NotIn) (rdR X.K jM):=mI.imp λ x y H Q h=>zp h
end
section
variable {X:Cx} {a b c:Expr} {pos:Pos} {f g h:DE}
theorem yz (K:W.Frag) (hh:rdE K (ka (dOp o f g) (dOp o' g h)) σ H Q):sJ (rdR K o) (rdR K o') (rdE K f) (rdE K g) (rdE K h) σ H Q:=by
 obtain ⟨H0,Hs,τ,fp,d,st,sm,e,k⟩:=hh;obtain ⟨r,e0,e⟩:=bind_some e;obtain ⟨x,e1,e0⟩:=bind_some e0;obtain ⟨y,e2,e0⟩:=bind_some e0;refine ⟨H0,Hs,τ,fp,x,st,sm,e1,λ v Hs1 H1 g1 r1=>?_⟩;refine ⟨H0,Hs1,τ,fp,y,st.ext g1,g1.sh,e2,λ u Hs2 H2 g2 r2=>?_⟩;refine ⟨Hs2,x,y,r,g2.sh,r1.same g2.ss,r2,e0,λ w Hs3 H3 g3 r3=>?_⟩
 cases r3 with
 | bl kb =>
  refine ⟨kb,rfl,?_⟩
  cases kb with
  | false =>
   rw [if_neg Zf];have e':D.bl false=d:=by simpa using e
   subst e';exact k _ Hs3 H3 ((g1.trans g2).trans g3) (.bl false)
  | true =>
   rw [if_pos rfl];obtain ⟨y',q1,q2⟩:=bind_some (e);have ey:y'=y:=by rw [e2] at q1; exact (Zj q1).symm
   subst ey;obtain ⟨z,q3,q4⟩:=bind_some q2;refine ⟨H0,Hs3,τ,fp,z,st.ext ((g1.trans g2).trans g3),g3.sh,q3,λ u' Hs4 H4 g4 r4=>?_⟩;exact ⟨Hs4,y',z,d,g4.sh,(r2.same g3.ss).same g4.ss,r4,q4,λ w' Hs5 H5 g5 r5=>k w' Hs5 H5 ((((g1.trans g2).trans g3).trans g4).trans g5) r5⟩
 | _=>exact nn e
theorem tK (ho:OpR X (compareOp op) (rdR X.K o)) (ho':OpR X (compareOp op') (rdR X.K o')) (ha:PEd X a f) (hb:PEd X b g) (hc:PEd X c h)
  (hm:lastMarks [op,op'] [b,c]=false:=by with_unfolding_all rfl):PTd X (.Compare a [op,op'] [b,c] pos) (dT (ka (dOp o f g) (dOp o' g h))) :=
 (wO ho ho' ha hb hc hm).imp λ σ H Q hh=>yz X.K (CW X.K hh)
end
inductive Tg where
 | l | d | o (C:Addr)
inductive Mt where
 | s (d:D)
 | n (t:Tg) (cs:List (Key×Mt))
def strOf:Key->Str
 | .inr x=>x
 | .inl _=>""
mutual
def frz:Mt->D
 | .s d=>d
 | .n .l cs=>.lst (ve cs)
 | .n .d cs=>.dct (yj cs)
 | .n (.o C) cs=>.obj C (E1 cs)
def ve:List (Key×Mt)->List D
 | []=>[]
 | (_,m)::r=>frz m::ve r
def yj:List (Key×Mt)->List (Key×D)
 | []=>[]
 | (k,m)::r=>(k,frz m)::yj r
def E1:List (Key×Mt)->List (Str×D)
 | []=>[]
 | (k,m)::r=>(strOf k,frz m)::E1 r
end
theorem pY:∀ cs:List (Key×Mt),ve cs=cs.map λ c=>frz c.2
 | []=>rfl
 | (_,m)::r=>by rw [ve,pY r]; rfl
theorem lV:∀ cs:List (Key×Mt),yj cs=cs.map λ c=>(c.1,frz c.2)
 | []=>rfl
 | (_,m)::r=>by rw [yj,lV r]; rfl
theorem pZ:∀ cs:List (Key×Mt),E1 cs=cs.map λ c=>(strOf c.1,frz c.2)
 | []=>rfl
 | (_,m)::r=>by rw [E1,pZ r]; rfl
inductive Stp where
 | k (k:Key) | i (n:Nat)
def t5 (t:Tg) (cs:List (Key×Mt)) (st:Stp):Option Nat:=match t,st with
 | .l,.i n=>if n < cs.length then some n else none
 | .d,.k k=>cs.findIdx? λ c=>decide (c.1=k)
 | .o _,.k k=>cs.findIdx? λ c=>decide (c.1=k)
 | _,_=>none
def Mt.get:Mt->List Stp->Option Mt
 | m,[]=>some m
 | .s _,_::_=>none
 | .n t cs,st::p=>match t5 t cs st with
  | none=>none
  | some i=>match cs[i]? with
   | none=>none
   | some c=>Mt.get c.2 p
def Mt.put:Mt->List Stp->Mt->Mt
 | _,[],m2=>m2
 | .s d,_::_,_=>.s d
 | .n t cs,st::p,m2=>match t5 t cs st with
  | none=>.n t cs
  | some i=>match cs[i]? with
   | none=>.n t cs
   | some c=>.n t (cs.set i (c.1,Mt.put c.2 p m2))
inductive Lay:Tg->Addr->List (Key×V)->HO->Prop where
 | l {dx:Addr} (kvs:List (Key×V)):Lay .l dx kvs (.lst (kvs.map (·.2)))
 | d {dx:Addr} (kvs:List (Key×V)):Lay .d dx kvs (.dK kvs)
 | o {C dx:Addr} (fs:List (Str×V)):Lay (.o C) dx (fs.map λ f=>(.inr f.1,f.2)) (.ins C dx fs)
structure Kd where
 k:Key
 v:V
 m:Mt
 fp:List Addr
abbrev Kd.kv (t:Kd):Key×V:=(t.k,t.v)
abbrev Kd.km (t:Kd):Key×Mt:=(t.k,t.m)
def KU:Tg->List Kd->Prop
 | .l,_=>True
 | _,ts=>(ts.map Kd.k).Nodup
inductive Od (K:W.Frag) (Hs H:Hp):List Addr->V->Mt->Prop where
 | s {v:V} {d:D} (r:Rp K Hs v d):Od K Hs H [] v (.s d)
 | n {a dx:Addr} {t:Tg} {ts:List Kd} {u:HO} (h:H a=some u) (hl:Lay t dx (ts.map Kd.kv) u) (nh:Hs a=none) (ku:KU t ts) (nd:(a::ts.flatMap Kd.fp).Nodup) (r:∀ c ∈ ts,Od K Hs H c.fp c.v c.m):Od K Hs H (a::ts.flatMap Kd.fp) (.ref a) (.n t (ts.map Kd.km))
section
variable {K:W.Frag} {Hs H Hs' H':Hp} {fp:List Addr} {v:V} {m:Mt}
theorem Od.inv (h:Od K Hs H fp v (.n t cs)):∃ a dx ts u,v=.ref a/\fp=a::ts.flatMap Kd.fp/\cs=ts.map Kd.km/\H a=some u/\Lay t dx (ts.map Kd.kv) u/\Hs a=none/\KU t ts/\(a::ts.flatMap Kd.fp).Nodup/\∀ c ∈ ts,Od K Hs H c.fp c.v c.m:=by
 cases h with
 | n h hl nh ku nd r=>exact ⟨_,_,_,_,rfl,rfl,rfl,h,hl,nh,ku,nd,r⟩
theorem Od.live (h:Od K Hs H fp v m):∀ b ∈ fp,Hs b=none/\H b≠none:=by
 induction h with
 | s r=>intro b h; cases h
 | n h hl nh ku nd r ih =>
  intro b hb;rcases Zh.mp hb with e | e
  · subst e; exact ⟨nh,eu h⟩
  ·obtain ⟨c,hc,hb⟩:=Yi.mp e
   exact ih c hc b hb
theorem Od.nd (h:Od K Hs H fp v m):fp.Nodup:=by
 cases h with
 | s r=>exact .nil
 | n h hl nh ku nd r=>exact nd
theorem Od.mv (h:Od K Hs H fp v m) (g:bz Hs Hs'):(∀ b ∈ fp,Hs' b=none/\H' b=H b)->Od K Hs' H' fp v m:=by
 induction h with
 | s r=>exact λ _=>.s (r.same g)
 | n h hl nh ku nd r ih =>
  intro q;have qa:=q _ (Ze ..);exact .n (by rw [qa.2]; exact h) hl qa.1 ku nd λ c hc=>ih c hc λ b hb=>q b (Zc _ (Yi.mpr ⟨c,hc,hb⟩))
theorem tf:∀ {ts:List Kd},(∀ c ∈ ts,Rp K H c.v (frz c.m))->Rps K H ((ts.map Kd.kv).map (·.2)) (ve (ts.map Kd.km))
 | [],_=>.nil
 | c::ts,h=>.cons (h c (Ze ..)) (tf λ c hc=>h c (Zc _ hc))
theorem tj:∀ {ts:List Kd},(∀ c ∈ ts,Rp K H c.v (frz c.m))->RpK K H (ts.map Kd.kv) (yj (ts.map Kd.km))
 | [],_=>.nil
 | c::ts,h=>.cons (h c (Ze ..)) (tj λ c hc=>h c (Zc _ hc))
theorem yT:∀ {ts:List Kd} {fs:List (Str×V)},(ts.map Kd.kv=fs.map λ f=>(Sum.inr f.1,f.2))->(∀ c ∈ ts,Rp K H c.v (frz c.m))->RpF K H fs (E1 (ts.map Kd.km))
 | [],[],_,_=>.nil
 | [],_::_,e,_=>by cases e
 | _::_,[],e,_=>by cases e
 | c::ts,f::fs,e,h=>by
  obtain ⟨e1,e2⟩:=List.cons.inj e;obtain ⟨e3,e4⟩:=Prod.mk.inj e1;obtain ⟨x,y⟩:=f;have hc:=h c (Ze ..);show RpF K H ((x,y)::fs) ((strOf c.k,frz c.m)::_);have e3':c.k=Sum.inr x:=e3;have e4':c.v=y:=e4;rw [e3',<- e4'];exact .cons hc (yT e2 λ c hc=>h c (Zc _ hc))
theorem Od.rp (h:Od K Hs H fp v m) (sm:bz Hs H):Rp K H v (frz m):=by
 induction h with
 | s r=>exact r.same sm
 | @n a dx t ts u h hl nh ku nd r ih =>
  have ih':∀ c ∈ ts,Rp K H c.v (frz c.m):=λ c hc=>ih c hc
  generalize ek:ts.map Kd.kv=kvs at hl
  cases hl with
  | l=>exact .lst h (by rw [<- ek]; exact tf ih')
  | d=>exact .dct h (by rw [<- ek]; exact tj ih')
  | o fs=>exact .obj h (yT ek ih')
end
def vAt (H:Hp):V->List Stp->Option V
 | v,[]=>some v
 | .ref a,.k k::p=>match H a with
  | some (.ins _ _ fs)=>(b7 (fs.map λ f=>((Sum.inr f.1:Key),f.2)) k).bind λ v=>vAt H v p
  | some (.dK kvs)=>(b7 kvs k).bind λ v=>vAt H v p
  | _=>none
 | .ref a,.i n::p=>match H a with
  | some (.lst xs)=>(xs[n]?).bind λ v=>vAt H v p
  | _=>none
 | _,_=>none
theorem k8 {α:Type}:∀ {cs:List (Key×α)} {i:Nat},(cs.findIdx? λ c=>decide (c.1=k))=some i->∃ l1 x l2,cs=l1++(k,x)::l2/\l1.length=i/\∀ c ∈ l1,c.1≠k
 | [],_,e=>by simp at e
 | (k',x)::cs,i,e=>by
  rw [List.findIdx?_cons] at e
  by_cases h:k'=k
  ·simp only [h,decide_true] at e
   have e':0=i:=by simpa using e
   subst h e';exact ⟨[],x,cs,rfl,rfl,λ c hc=>by cases hc⟩
  ·simp only [h,decide_false] at e
   obtain ⟨j,e1,rfl⟩:=Zm (by simpa using e);obtain ⟨l1,y,l2,e2,e3,e4⟩:=k8 e1
   exact ⟨(k',x)::l1,y,l2,by rw [e2]; rfl,by rw [Zx,e3],λ c hc=>by
    rcases Zh.mp hc with rfl | hc
    · exact h
    · exact e4 c hc⟩
theorem kL:∀ {l1 l2:List (Key×V)},(∀ c ∈ l1,c.1≠k)->b7 (l1++(k,x)::l2) k=some x
 | [],_,_=>bK rfl
 | c::l1,l2,h=>by
  rw [List.cons_append,bL (h c (Ze ..))];exact kL λ c hc=>h c (Zc _ hc)
theorem uJ:∀ {l1 l2:List (Key×Mt)} {c:Key×Mt},ts.map Kd.km=l1++c::l2->∃ t1 t t2,ts=t1++t::t2/\t1.map Kd.km=l1/\t.km=c/\t2.map Kd.km=l2:=by
 intro l1 l2 c e;obtain ⟨t1,r,rfl,e1,e2⟩:=List.map_eq_append_iff.mp e;obtain ⟨t,t2,rfl,e3,e4⟩:=List.map_eq_cons_iff.mp e2;exact ⟨t1,t,t2,rfl,e1,e3,e4⟩
theorem qo {t:Tg} {dx a:Addr} {ts:List Kd} {u:HO} {st:Stp} {i:Nat} {c:Key×Mt} {H:Hp} (h:H a=some u) (hl:Lay t dx (ts.map Kd.kv) u) (e1:t5 t (ts.map Kd.km) st=some i) (e2:(ts.map Kd.km)[i]?=some c) :
  ∃ t1 k t2,ts=t1++k::t2/\t1.length=i/\k.km=c/\∀ p,vAt H (.ref a) (st::p)=vAt H k.v p:=by
 have key:∀ {kk:Key},((ts.map Kd.km).findIdx? λ c=>decide (c.1=kk))=some i->∃ t1 k t2,ts=t1++k::t2/\t1.length=i/\k.km=c/\b7 (ts.map Kd.kv) kk=some k.v:=λ {kk} e=>by
  obtain ⟨l1,x,l2,h1,h2,h3⟩:=k8 e;obtain ⟨t1,k,t2,rfl,q1,q2,q3⟩:=uJ h1;refine ⟨t1,k,t2,rfl,by rw [<- h2,<- q1,Za],?_,?_⟩
  ·rw [h1,<- h2,List.getElem?_append_right (Zl _),Nat.sub_self] at e2
   rw [q2];exact Zj e2
  ·rw [Zo,Zg]
   have hk:k.k=kk:=(Prod.mk.inj q2).1;rw [show k.kv=(kk,k.v) by rw [<- hk]]
   exact kL λ c hc=>by
    obtain ⟨y,hy,rfl⟩:=Z5.mp hc;exact h3 y.km (by rw [<- q1]; exact Yb hy)
 generalize ek:ts.map Kd.kv=kvs at hl
 cases hl with
 | l kvs' =>
  cases st with
  | k k=>cases e1
  | i n =>
   have lt:n < (ts.map Kd.km).length/\n=i:=by
    have e1':(if n < (ts.map Kd.km).length then some n else none)=some i:=e1;split at e1'
    · rename_i h; exact ⟨h,Zj e1'⟩
    · cases e1'
   obtain ⟨lt,rfl⟩:=lt;rw [Za] at lt;have ets:ts=ts.take n++ts[n]::ts.drop (n+1):=by rw [List.getElem_cons_drop,List.take_append_drop]
   refine ⟨ts.take n,ts[n],ts.drop (n+1),ets,by rw [Y5]; omega,?_,λ p=>?_⟩
   ·rw [List.getElem?_map,List.getElem?_eq_getElem lt] at e2
    exact Zj e2
   ·show (match H a with | some (.lst xs)=>(xs[n]?).bind λ v=>vAt H v p | _=>none)=_
    rw [h];show (((kvs.map (·.2))[n]?).bind λ v=>vAt H v p)=_;rw [<- ek,List.getElem?_map,List.getElem?_map,List.getElem?_eq_getElem lt];rfl
 | d kvs' =>
  cases st with
  | i n=>cases e1
  | k kk =>
   obtain ⟨t1,k,t2,q1,q2,q3,q4⟩:=key e1;refine ⟨t1,k,t2,q1,q2,q3,λ p=>?_⟩;show (match H a with | some (.ins _ _ fs)=>(b7 (fs.map λ (f:Str×V)=>((Sum.inr f.1:Key),f.2)) kk).bind λ v=>vAt H v p | some (.dK kvs)=>(b7 kvs kk).bind λ v=>vAt H v p | _=>none)=_;rw [h];show ((b7 kvs kk).bind λ v=>vAt H v p)=_;rw [<- ek,q4];rfl
 | o fs =>
  cases st with
  | i n=>cases e1
  | k kk =>
   obtain ⟨t1,k,t2,q1,q2,q3,q4⟩:=key e1;refine ⟨t1,k,t2,q1,q2,q3,λ p=>?_⟩;show (match H a with | some (.ins _ _ fs)=>(b7 (fs.map λ (f:Str×V)=>((Sum.inr f.1:Key),f.2)) kk).bind λ v=>vAt H v p | some (.dK kvs)=>(b7 kvs kk).bind λ v=>vAt H v p | _=>none)=_;rw [h];show ((b7 (fs.map λ f=>((Sum.inr f.1:Key),f.2)) kk).bind λ v=>vAt H v p)=_;rw [<- ek,q4];rfl
theorem uD {α:Type} {a:α} {x y z:List α} (h:(a::(x++(y++z))).Nodup):a ∉ x/\a ∉ y/\a ∉ z/\(∀ b ∈ y,b ∉ x/\b ∉ z)/\x.Nodup/\z.Nodup/\(∀ b ∈ x,b ∉ z):=by
 rw [Zt,Ye,Ye] at h;simp only [Zi,not_or] at h;obtain ⟨⟨h1,h2,h3⟩,hx,⟨hy,hz,hyz⟩,hxyz⟩:=h;refine ⟨h1,h2,h3,λ b hb=>⟨λ hx'=>hxyz b hx' b (.inl hb) rfl,λ hz'=>hyz b hb b hz' rfl⟩,hx,hz,λ b hb hz'=>hxyz b hb b (.inr hz') rfl⟩
theorem kW {α:Type} {a:α} {x y z:List α} (h1:a ∉ x) (h2:a ∉ y) (h3:a ∉ z) (hy:y.Nodup) (hd:∀ b ∈ y,b ∉ x/\b ∉ z) (hx:x.Nodup) (hz:z.Nodup) (hxz:∀ b ∈ x,b ∉ z):(a::(x++(y++z))).Nodup:=by
 rw [Zt,Ye,Ye];simp only [Zi,not_or];exact ⟨⟨h1,h2,h3⟩,hx,⟨hy,hz,λ b hb c hc e=>(hd b hb).2 (e ▸ hc)⟩,λ b hb c hc e=>hc.elim (λ q=>(hd c q).1 (e ▸ hb)) λ q=>hxz b hb (e ▸ q)⟩
theorem KU.swap (h:KU t (t1++k::t2)) (e:k'.k=k.k):KU t (t1++k'::t2):=by
 cases t with
 | l=>exact h
 | d =>
  show ((t1++k'::t2).map Kd.k).Nodup;rw [Zo,Zg,e,<- Zg,<- Zo];exact h
 | o C =>
  show ((t1++k'::t2).map Kd.k).Nodup;rw [Zo,Zg,e,<- Zg,<- Zo];exact h
section
variable {K:W.Frag} {Hs H:Hp}
theorem Od.nP:∀ (p:List Stp) {fp:List Addr} {v:V} {m m1:Mt},Od K Hs H fp v m->m.get p=some m1->∃ fp1 v1,vAt H v p=some v1/\Od K Hs H fp1 v1 m1/\(∀ b ∈ fp1,b ∈ fp) /\
  ∀ Hs' H' fp2 m2,bz Hs Hs'->(∀ b ∈ fp,b ∉ fp1->Hs' b=none/\H' b=H b)->Od K Hs' H' fp2 v1 m2->(∀ b ∈ fp2,b ∈ fp1\/b ∉ fp)->∃ fp',Od K Hs' H' fp' v (m.put p m2)/\∀ b,b ∈ fp'↔(b ∈ fp/\b ∉ fp1)\/b ∈ fp2
 | [],fp,v,m,m1,h,e=>by
  have e':m=m1:=by
   cases m <;> exact Zj e
  subst e';have ep:∀ m2,m.put [] m2=m2:=λ m2=>by cases m <;> rfl
  exact ⟨fp,v,by cases v <;> rfl,h,λ _ q=>q,λ Hs' H' fp2 m2 g k h2 j=>⟨fp2,by rw [ep]; exact h2,λ b=>⟨.inr,λ q=>q.elim (λ z=>absurd z.1 z.2) id⟩⟩⟩
 | st::p,fp,v,.s d,m1,h,e=>by cases e
 | st :: p,fp,v,.n t cs,m1,h,e=>by
  obtain ⟨a,dx,ts,u,rfl,rfl,rfl,ha,hl,nh,ku,nd,r⟩:=h.inv;have e':(match t5 t (ts.map Kd.km) st with | none=>none | some i=>match (ts.map Kd.km)[i]? with | none=>none | some c=>Mt.get c.2 p)=some m1:=e
  cases e1:t5 t (ts.map Kd.km) st with
  | none=>rw [e1] at e'; cases e'
  | some i =>
   rw [e1] at e'
   cases e2:(ts.map Kd.km)[i]? with
   | none=>simp only [e2] at e'; cases e'
   | some c =>
    simp only [e2] at e';obtain ⟨t1,k,t2,rfl,q2,q3,q4⟩:=qo ha hl e1 e2;subst q3;obtain ⟨fp1,v1,w1,w2,w3,w4⟩:=Od.nP p (r k (Zd _ (Ze ..))) e';rw [Yk,Z9] at nd;obtain ⟨n1,n2,n3,n4,n5,n6,n7⟩:=uD nd
    have mem:∀ b,b ∈ a::(t1++k::t2).flatMap Kd.fp↔b=a\/b ∈ t1.flatMap Kd.fp\/b ∈ k.fp\/b ∈ t2.flatMap Kd.fp:=λ b=>by
     rw [Yk,Z9,Zh,Zi,Zi]
    refine ⟨fp1,v1,by rw [q4]; exact w1,w2,λ b hb=>(mem b).mpr (.inr (.inr (.inl (w3 b hb)))),λ Hs' H' fp2 m2 g kk h2 j=>?_⟩;have j2:∀ b ∈ fp2,b ∈ fp1\/b ∉ k.fp:=λ b hb=>(j b hb).imp id λ z q=>z ((mem b).mpr (.inr (.inr (.inl q))))
    obtain ⟨fp',o',i'⟩:=w4 Hs' H' fp2 m2 g (λ b hb hn=>kk b ((mem b).mpr (.inr (.inr (.inl hb)))) hn) h2 j2;have a1:a ∉ fp1:=λ z=>n2 (w3 _ z)
    have off:∀ b,b ∈ fp'->b≠a/\b ∉ t1.flatMap Kd.fp/\b ∉ t2.flatMap Kd.fp:=λ b hb=>by
     rcases (i' b).mp hb with ⟨z1,_⟩ | z
     · exact ⟨λ e=>n2 (e ▸ z1),(n4 b z1).1,(n4 b z1).2⟩
     ·rcases j b z with z1 | z1
      ·have z2:=w3 b z1
       exact ⟨λ e=>n2 (e ▸ z2),(n4 b z2).1,(n4 b z2).2⟩
      · exact ⟨λ e=>z1 ((mem b).mpr (.inl e)),λ q=>z1 ((mem b).mpr (.inr (.inl q))),λ q=>z1 ((mem b).mpr (.inr (.inr (.inr q))))⟩
    let k':Kd:=⟨k.k,k.v,k.m.put p m2,fp'⟩
    have eput:(Mt.n t ((t1++k::t2).map Kd.km)).put (st::p) m2=.n t ((t1++k'::t2).map Kd.km):=by
     show (match t5 t ((t1++k::t2).map Kd.km) st with | none=>Mt.n t ((t1++k::t2).map Kd.km) | some i=>match ((t1++k::t2).map Kd.km)[i]? with | none=>Mt.n t ((t1++k::t2).map Kd.km) | some c=>.n t (((t1++k::t2).map Kd.km).set i (c.1,Mt.put c.2 p m2)))=_;simp only [e1,e2];rw [Zo,Zg,<- q2,<- Za (f:=Kd.km),List.set_append_right _ _ (Zl _),Nat.sub_self,Zo,Zg];rfl
    have hkv:(t1++k'::t2).map Kd.kv=(t1++k::t2).map Kd.kv:=by rw [Zo,Zg,Zo,Zg]
    have qa:=kk a ((mem a).mpr (.inl rfl)) a1;refine ⟨a::(t1++k'::t2).flatMap Kd.fp,?_,λ b=>?_⟩
    ·rw [eput]
     refine .n (dx:=dx) (by rw [qa.2]; exact ha) (by rw [hkv]; exact hl) qa.1 (ku.swap rfl) ?_ λ c hc=>?_
     ·rw [Yk,Z9]
      exact kW n1 (λ z=>(off _ z).1 rfl) n3 o'.nd (λ b hb=>(off b hb).2) n5 n6 n7
     ·rcases Zi.mp hc with hc | hc
      · exact (r c (Zk _ hc)).mv g λ b hb=>kk b ((mem b).mpr (.inr (.inl (Yi.mpr ⟨c,hc,hb⟩)))) λ z=>(n4 b (w3 b z)).1 (Yi.mpr ⟨c,hc,hb⟩)
      ·rcases Zh.mp hc with rfl | hc
       · exact o'
       · exact (r c (Zd _ (Zc _ hc))).mv g λ b hb=>kk b ((mem b).mpr (.inr (.inr (.inr (Yi.mpr ⟨c,hc,hb⟩))))) λ z=>(n4 b (w3 b z)).2 (Yi.mpr ⟨c,hc,hb⟩)
    ·rw [Yk,Z9,Zh,Zi,Zi,mem b,i' b]
     constructor
     ·rintro (rfl | z | (⟨z1,z2⟩ | z) | z)
      · exact .inl ⟨.inl rfl,a1⟩
      · exact .inl ⟨.inr (.inl z),λ q=>(n4 b (w3 b q)).1 z⟩
      · exact .inl ⟨.inr (.inr (.inl z1)),z2⟩
      · exact .inr z
      · exact .inl ⟨.inr (.inr (.inr z)),λ q=>(n4 b (w3 b q)).2 z⟩
     ·rintro (⟨rfl | z | z | z,z2⟩ | z)
      · exact .inl rfl
      · exact .inr (.inl z)
      · exact .inr (.inr (.inl (.inl ⟨z,z2⟩)))
      · exact .inr (.inr (.inr z))
      · exact .inr (.inr (.inl (.inr z)))
end
inductive Sm where
 | no | shr (d:D) | mu (b:Bool) (m:Mt)
def De:Sm->Sl
 | .no=>.no
 | .shr d=>.shr d
 | .mu _ m=>.shr (frz m)
def er1:Sm->Sl
 | .shr d=>.shr d
 | _=>.no
abbrev aL (τ:List Sm):List Sl:=τ.map De
abbrev er (τ:List Sm):List Sl:=τ.map er1
inductive StM (K:W.Frag) (H0 Hs H:Hp):List (Option Addr)->List (Option V)->List Sm->List Addr->Prop where
 | nil:StM K H0 Hs H [] [] [] []
 | no {p:Option Addr} {o:Option V} {ρ:List (Option Addr)} {σ:List (Option V)} {τ:List Sm} {fp:List Addr} (r:StM K H0 Hs H ρ σ τ fp):StM K H0 Hs H (p::ρ) (o::σ) (.no::τ) fp
 | shr {p:Option Addr} {v:V} {d:D} {ρ:List (Option Addr)} {σ:List (Option V)} {τ:List Sm} {fp:List Addr} (h:Rp K Hs v d) (r:StM K H0 Hs H ρ σ τ fp):StM K H0 Hs H (p::ρ) (some v::σ) (.shr d::τ) fp
 | mu {p:Option Addr} {v:V} {b:Bool} {m:Mt} {ρ:List (Option Addr)} {σ:List (Option V)} {τ:List Sm} {fq fp:List Addr} (h:Od K Hs H fq v m) (hp:b=true->∃ a,p=some a/\v=.ref a) (z:∀ c ∈ fq,H0 c=none) (j:∀ c ∈ fq,c ∉ fp) (r:StM K H0 Hs H ρ σ τ fp):StM K H0 Hs H (p::ρ) (some v::σ) (.mu b m::τ) (fq++fp)
section
variable {K:W.Frag} {H0 Hs H Hs' H':Hp} {ρ:List (Option Addr)} {σ:List (Option V)} {τ:List Sm} {fp:List Addr}
theorem StM.mv (h:StM K H0 Hs H ρ σ τ fp) (g:bz Hs Hs'):(∀ b ∈ fp,Hs' b=none/\H' b=H b)->StM K H0 Hs' H' ρ σ τ fp:=by
 induction h with
 | nil=>exact λ _=>.nil
 | no _ ih=>exact λ q=>.no (ih q)
 | shr h _ ih=>exact λ q=>.shr (h.same g) (ih q)
 | mu h hp z j _ ih=>exact λ q=>.mu (h.mv g λ b hb=>q b (Zk _ hb)) hp z j (ih λ b hb=>q b (Zd _ hb))
theorem StM.live (h:StM K H0 Hs H ρ σ τ fp):∀ b ∈ fp,Hs b=none/\H b≠none/\H0 b=none:=by
 induction h with
 | nil=>intro b h; cases h
 | no _ ih=>exact ih
 | shr _ _ ih=>exact ih
 | mu h hp z j _ ih =>
  intro b hb;rcases Zi.mp hb with q | q
  · exact ⟨(h.live b q).1,(h.live b q).2,z b q⟩
  · exact ih b q
theorem StM.ext (g:Ext Hs H Hs' H') (h:StM K H0 Hs H ρ σ τ fp):StM K H0 Hs' H' ρ σ τ fp:=h.mv g.ss λ b hb=>by
 obtain ⟨h1,h2,_⟩:=h.live b hb;refine ⟨g.fr b h1 h2,?_⟩
 cases q:H b with
 | none=>exact absurd q h2
 | some u=>exact g.hh _ _ q
theorem StM.len (h:StM K H0 Hs H ρ σ τ fp):σ.length=τ.length:=by
 induction h with
 | nil=>rfl
 | no _ ih=>exact Yo (·+1) ih
 | shr _ _ ih=>exact Yo (·+1) ih
 | mu _ _ _ _ _ ih=>exact Yo (·+1) ih
theorem StM.aL (h:StM K H0 Hs H ρ σ τ fp) (sm:bz Hs H):StR K H H H σ (aL τ) []:=by
 induction h with
 | nil=>exact .nil
 | no _ ih=>exact .no ih
 | shr h _ ih=>exact .shr (h.same sm) ih
 | mu h _ _ _ _ ih=>exact .shr (h.rp sm) ih
theorem StM.er (h:StM K H0 Hs H ρ σ τ fp):StR K H0 Hs H σ (er τ) []:=by
 induction h with
 | nil=>exact .nil
 | no _ ih=>exact .no ih
 | shr h _ ih=>exact .shr h ih
 | mu h _ _ _ _ ih=>exact .no ih
theorem StM.nP (h:StM K H0 Hs H ρ σ τ fp):τ[i]?=some (.mu b m)->m.get q=some m1->∃ v fp1 v1,σ[i]?=some (some v)/\vAt H v q=some v1/\Od K Hs H fp1 v1 m1/\(∀ c ∈ fp1,c ∈ fp) /\
  ∀ Hs' H' fp2 m2,bz Hs Hs'->(∀ c ∈ fp,c ∉ fp1->Hs' c=none/\H' c=H c)->Od K Hs' H' fp2 v1 m2->(∀ c ∈ fp2,c ∈ fp1\/(c ∉ fp/\H0 c=none))->∃ fp',StM K H0 Hs' H' ρ σ (τ.set i (.mu b (m.put q m2))) fp'/\∀ c,c ∈ fp'↔(c ∈ fp/\c ∉ fp1)\/c ∈ fp2:=by
 induction h generalizing i with
 | nil=>intro e; simp at e
 | no r ih =>
  intro e eg
  cases i with
  | zero=>simp at e
  | succ i =>
   obtain ⟨v,fp1,v1,h1,h2,h3,h4,h5⟩:=ih (i:=i) (by simpa using e) eg
   exact ⟨v,fp1,v1,by simpa using h1,h2,h3,h4,λ Hs' H' fp2 m2 g k o j=>by
    obtain ⟨fp',s,mem⟩:=h5 Hs' H' fp2 m2 g k o j
    exact ⟨fp',.no s,mem⟩⟩
 | shr hr r ih =>
  intro e eg
  cases i with
  | zero=>simp at e
  | succ i =>
   obtain ⟨v,fp1,v1,h1,h2,h3,h4,h5⟩:=ih (i:=i) (by simpa using e) eg
   exact ⟨v,fp1,v1,by simpa using h1,h2,h3,h4,λ Hs' H' fp2 m2 g k o j=>by
    obtain ⟨fp',s,mem⟩:=h5 Hs' H' fp2 m2 g k o j
    exact ⟨fp',.shr (hr.same g) s,mem⟩⟩
 | @mu p v b' m' ρ σ τ fq fp ho hp z j r ih =>
  intro e eg
  cases i with
  | zero =>
   have e':Sm.mu b' m'=.mu b m:=by simpa using e
   injection e' with e1 e2
   subst e1 e2;obtain ⟨fp1,v1,w1,w2,w3,w4⟩:=ho.nP q eg;refine ⟨v,fp1,v1,rfl,w1,w2,λ c hc=>Zk _ (w3 c hc),λ Hs' H' fp2 m2 g k o jj=>?_⟩;obtain ⟨fp',o',i'⟩:=w4 Hs' H' fp2 m2 g (λ c hc hn=>k c (Zk _ hc) hn) o λ c hc=>(jj c hc).imp id λ y q=>y.1 (Zk _ q)
   refine ⟨fp'++fp,.mu o' hp (λ c hc=>?_) (λ c hc=>?_) (r.mv g λ c hc=>k c (Zd _ hc) λ y=>j c (w3 c y) hc),λ c=>?_⟩
   ·rcases (i' c).mp hc with y | y
    · exact z c y.1
    ·rcases jj c y with y | y
     · exact z c (w3 c y)
     · exact y.2
   ·rcases (i' c).mp hc with y | y
    · exact j c y.1
    ·rcases jj c y with y | y
     · exact j c (w3 c y)
     · exact λ q=>y.1 (Zd _ q)
   ·rw [Zi,Zi,i' c]
    constructor
    ·rintro ((y | y) | y)
     · exact .inl ⟨.inl y.1,y.2⟩
     · exact .inr y
     · exact .inl ⟨.inr y,λ q=>j c (w3 c q) y⟩
    ·rintro (⟨y | y,y2⟩ | y)
     · exact .inl (.inl ⟨y,y2⟩)
     · exact .inr y
     · exact .inl (.inr y)
  | succ i =>
   obtain ⟨v',fp1,v1,h1,h2,h3,h4,h5⟩:=ih (i:=i) (by simpa using e) eg;refine ⟨v',fp1,v1,by simpa using h1,h2,h3,λ c hc=>Zd _ (h4 c hc),λ Hs' H' fp2 m2 g k o jj=>?_⟩;obtain ⟨fp',s,mem⟩:=h5 Hs' H' fp2 m2 g (λ c hc hn=>k c (Zd _ hc) hn) o λ c hc=>(jj c hc).imp id λ y=>⟨λ q=>y.1 (Zd _ q),y.2⟩
   have nf:∀ c ∈ fq,c ∉ fp1:=λ c hc q=>j c hc (h4 c q)
   refine ⟨fq++fp',.mu (ho.mv g λ c hc=>k c (Zk _ hc) (nf c hc)) hp z (λ c hc q=>?_) s,λ c=>?_⟩
   ·rcases (mem c).mp q with y | y
    · exact j c hc y.1
    ·rcases jj c y with y | y
     · exact nf c hc y
     · exact y.1 (Zk _ hc)
   ·rw [Zi,Zi,mem c]
    constructor
    ·rintro (y | y | y)
     · exact .inl ⟨.inl y,nf c y⟩
     · exact .inl ⟨.inr y.1,y.2⟩
     · exact .inr y
    ·rintro (⟨y | y,y2⟩ | y)
     · exact .inl y
     · exact .inr (.inl ⟨y,y2⟩)
     · exact .inr (.inr y)
theorem StM.LQ (i:Nat) (h:StM K H0 Hs H ρ σ τ fp):∃ fp',StM K H0 Hs H ρ σ (τ.set i .no) fp'/\∀ c ∈ fp',c ∈ fp:=by
 induction h generalizing i with
 | nil=>exact ⟨[],.nil,λ _ h=>h⟩
 | no r ih =>
  cases i with
  | zero=>exact ⟨_,.no r,λ _ h=>h⟩
  | succ i=>obtain ⟨fp',h1,h2⟩:=ih i; exact ⟨fp',.no h1,h2⟩
 | shr h r ih =>
  cases i with
  | zero=>exact ⟨_,.no r,λ _ h=>h⟩
  | succ i=>obtain ⟨fp',h1,h2⟩:=ih i; exact ⟨fp',.shr h h1,h2⟩
 | mu h hp z j r ih =>
  cases i with
  | zero=>exact ⟨_,.no r,λ _ h=>Zd _ h⟩
  | succ i =>
   obtain ⟨fp',h1,h2⟩:=ih i;exact ⟨_,.mu h hp z (λ c hc q=>j c hc (h2 c q)) h1,λ c hc=>(Zi.mp hc).elim (Zk _) λ q=>Zd _ (h2 c q)⟩
theorem StM.out (h:StM K H0 Hs H ρ σ τ fp):τ[i]?=some (.mu b m)->∃ v fq fp',σ[i]?=some (some v)/\Od K Hs H fq v m/\StM K H0 Hs H ρ σ (τ.set i .no) fp'/\(∀ c ∈ fq,c ∉ fp'/\c ∈ fp)/\(∀ c,c ∈ fp↔c ∈ fq\/c ∈ fp'):=by
 induction h generalizing i with
 | nil=>intro e; simp at e
 | no r ih =>
  intro e
  cases i with
  | zero=>simp at e
  | succ i =>
   obtain ⟨v,fq,fp',h1,h2,h3,h4,h5⟩:=ih (i:=i) (by simpa using e);exact ⟨v,fq,fp',by simpa using h1,h2,.no h3,h4,h5⟩
 | shr hr r ih =>
  intro e
  cases i with
  | zero=>simp at e
  | succ i =>
   obtain ⟨v,fq,fp',h1,h2,h3,h4,h5⟩:=ih (i:=i) (by simpa using e);exact ⟨v,fq,fp',by simpa using h1,h2,.shr hr h3,h4,h5⟩
 | @mu p v b' m' ρ σ τ fq fp ho hp z j r ih =>
  intro e
  cases i with
  | zero =>
   have e':Sm.mu b' m'=.mu b m:=by simpa using e
   injection e' with e1 e2
   subst e1 e2;exact ⟨v,fq,fp,rfl,ho,.no r,λ c hc=>⟨j c hc,Zk _ hc⟩,λ c=>Zi⟩
  | succ i =>
   obtain ⟨v',fq',fp',h1,h2,h3,h4,h5⟩:=ih (i:=i) (by simpa using e);refine ⟨v',fq',fq++fp',by simpa using h1,h2,.mu ho hp z (λ c hc q=>j c hc ((h5 c).mpr (.inr q))) h3,λ c hc=>⟨λ q=>?_,Zd _ (h4 c hc).2⟩,λ c=>?_⟩
   ·rcases Zi.mp q with q | q
    · exact j c q (h4 c hc).2
    · exact (h4 c hc).1 q
   ·rw [Zi,Zi,h5 c]
    constructor
    ·rintro (y | y | y)
     · exact .inr (.inl y)
     · exact .inl y
     · exact .inr (.inr y)
    ·rintro (y | y | y)
     · exact .inr (.inl y)
     · exact .inl y
     · exact .inr (.inr y)
theorem StM.qI (h:StM K H0 Hs H ρ σ τ fp) (hv:Rp K Hs v d):∃ fp',StM K H0 Hs H ρ (σ.set i (some v)) (τ.set i (.shr d)) fp'/\∀ c ∈ fp',c ∈ fp:=by
 induction h generalizing i with
 | nil=>exact ⟨[],.nil,λ _ h=>h⟩
 | no r ih =>
  cases i with
  | zero=>exact ⟨_,.shr hv r,λ _ h=>h⟩
  | succ i=>obtain ⟨fp',h1,h2⟩:=ih (i:=i); exact ⟨fp',.no h1,h2⟩
 | shr h r ih =>
  cases i with
  | zero=>exact ⟨_,.shr hv r,λ _ h=>h⟩
  | succ i=>obtain ⟨fp',h1,h2⟩:=ih (i:=i); exact ⟨fp',.shr h h1,h2⟩
 | mu h hp z j r ih =>
  cases i with
  | zero=>exact ⟨_,.shr hv r,λ _ h=>Zd _ h⟩
  | succ i =>
   obtain ⟨fp',h1,h2⟩:=ih (i:=i);exact ⟨_,.mu h hp z (λ c hc q=>j c hc (h2 c q)) h1,λ c hc=>(Zi.mp hc).elim (Zk _) λ q=>Zd _ (h2 c q)⟩
theorem StM.setM (h:StM K H0 Hs H ρ σ τ fp) (hv:Od K Hs H fq v m) (z:∀ c ∈ fq,H0 c=none/\c ∉ fp) (hi:i < τ.length):∃ fp',StM K H0 Hs H ρ (σ.set i (some v)) (τ.set i (.mu false m)) fp'/\∀ c ∈ fp',c ∈ fq\/c ∈ fp:=by
 induction h generalizing i with
 | nil=>exact absurd hi (by simp)
 | no r ih =>
  cases i with
  | zero=>exact ⟨_,.mu hv (λ e=>by cases e) (λ c hc=>(z c hc).1) (λ c hc=>(z c hc).2) r,λ c h=>Zi.mp h⟩
  | succ i=>obtain ⟨fp',h1,h2⟩:=ih (i:=i) z (by simpa using hi); exact ⟨fp',.no h1,h2⟩
 | shr h r ih =>
  cases i with
  | zero=>exact ⟨_,.mu hv (λ e=>by cases e) (λ c hc=>(z c hc).1) (λ c hc=>(z c hc).2) r,λ c h=>Zi.mp h⟩
  | succ i=>obtain ⟨fp',h1,h2⟩:=ih (i:=i) z (by simpa using hi); exact ⟨fp',.shr h h1,h2⟩
 | @mu p v' b' m' ρ σ τ fq' fp h hp z' j r ih =>
  have zr:∀ c ∈ fq,H0 c=none/\c ∉ fp:=λ c hc=>⟨(z c hc).1,λ q=>(z c hc).2 (Zd _ q)⟩
  cases i with
  | zero=>exact ⟨_,.mu hv (λ e=>by cases e) (λ c hc=>(z c hc).1) (λ c hc=>(zr c hc).2) r,λ c h=>(Zi.mp h).imp id λ q=>Zd _ q⟩
  | succ i =>
   obtain ⟨fp',h1,h2⟩:=ih (i:=i) zr (by simpa using hi);refine ⟨_,.mu h hp z' (λ c hc q=>?_) h1,λ c hc=>?_⟩
   ·rcases h2 c q with y | y
    · exact (z c y).2 (Zk _ hc)
    · exact j c hc y
   ·rcases Zi.mp hc with y | y
    · exact .inr (Zk _ y)
    · exact (h2 c y).imp id λ q=>Zd _ q
end
structure aT (K:W.Frag) (Hs0 H0:Hp) (ρ:List (Option Addr)) (Hs H:Hp) (σ:St) (τ:List Sm):Prop where
 ext:Ext Hs0 H0 Hs H
 st:∃ fp,StM K H0 Hs H ρ σ τ fp
section
variable {K:W.Frag} {Hs0 H0 Hs H Hs' H':Hp} {ρ:List (Option Addr)} {σ:St} {τ:List Sm}
theorem aT.ext' (r:aT K Hs0 H0 ρ Hs H σ τ) (g:Ext Hs H Hs' H'):aT K Hs0 H0 ρ Hs' H' σ τ:=by
 obtain ⟨fp,h⟩:=r.st;refine ⟨⟨r.ext.ss.trans g.ss,g.sh,r.ext.hh.trans g.hh,λ b h1 h2=>g.fr b (r.ext.fr b h1 h2) (r.ext.hh.live h2)⟩,fp,h.ext g⟩
theorem aT.grow (r:aT K Hs0 H0 ρ Hs H σ τ) (g:bz H H'):aT K Hs0 H0 ρ Hs H' σ τ:=r.ext' ⟨.refl _,r.ext.sh.trans g,g,λ _ h _=>h⟩
theorem aT.sm (r:aT K Hs0 H0 ρ Hs H σ τ):bz Hs H:=r.ext.sh
end
def Nf (N H0:Hp):Prop:=∀ d o u,N d=some (.frz o u)->H0 d≠none
theorem Nf.upd (h:Nf N H0):Nf N (upd H0 p u):=λ d o w e=>by
 by_cases z:d=p
 · rw [z,ao]; simp
 · rw [ai z]; exact h d o w e
inductive qy where
 | next (τ:List Sm) | ret (s:Sm) (τ:List Sm) | brk (τ:List Sm) | cnt (τ:List Sm)
abbrev DSm:=List Sm->Option qy
abbrev DEm:=List Sm->Option (Sm×List Sm)
abbrev DTm:=List Sm->Option (Bool×List Sm)
abbrev DPx:=List Sm->Option (Nat×List Stp)
def zH (K:W.Frag) (Hs0 H0:Hp) (ρ:List (Option Addr)) (E:Ends):qy->Prop
 | .next τ=>∀ σ Hs H,aT K Hs0 H0 ρ Hs H σ τ->E.nx σ H
 | .brk τ=>∀ σ Hs H,aT K Hs0 H0 ρ Hs H σ τ->E.bk σ H
 | .cnt τ=>∀ σ Hs H,aT K Hs0 H0 ρ Hs H σ τ->E.ct σ H
 | .ret s τ=>∀ v σ Hs H,aT K Hs0 H0 (none::ρ) Hs H (some v::σ) (s::τ)->E.rt v H
def JI (N:Hp) (K:W.Frag) (f:DSm):TS:=λ E σ H=>∃ (Hs0 H0:Hp),∃ (_:Nf N H0),∃ ρ Hs τ o,aT K Hs0 H0 ρ Hs H σ τ/\f τ=some o/\zH K Hs0 H0 ρ E o
def KZ (N:Hp) (K:W.Frag) (f:DEm):TE:=λ σ H Q=>∃ (Hs0 H0:Hp),∃ (_:Nf N H0),∃ ρ Hs τ s τ',aT K Hs0 H0 ρ Hs H σ τ/\f τ=some (s,τ')/\∀ v Hs' H',aT K Hs0 H0 (none::ρ) Hs' H' (some v::σ) (s::τ')->Q v H'
def KR (N:Hp) (K:W.Frag) (f:DTm):TT:=λ σ H Q=>∃ (Hs0 H0:Hp),∃ (_:Nf N H0),∃ ρ Hs τ b τ',aT K Hs0 H0 ρ Hs H σ τ/\f τ=some (b,τ')/\∀ Hs' H',aT K Hs0 H0 ρ Hs' H' σ τ'->Q b H'
def PSm (X:Cx) (s:Stmt) (f:DSm):Prop:=PS X s (JI X.H₀ X.K f)
def jg (X:Cx) (s:List Stmt) (f:DSm):Prop:=PSs X s (JI X.H₀ X.K f)
def PEm (X:Cx) (e:Expr) (f:DEm):Prop:=PE X e (KZ X.H₀ X.K f)
def PTm (X:Cx) (e:Expr) (f:DTm):Prop:=PT X e (KR X.H₀ X.K f)
def aP (τ:List Sm) (i:Nat) (q:List Stp):Option Mt:=match τ[i]? with
 | some (.mu _ m)=>m.get q
 | _=>none
def b9 (τ:List Sm) (i:Nat) (q:List Stp) (m2:Mt):List Sm:=match τ[i]? with
 | some (.mu b m)=>τ.set i (.mu b (m.put q m2))
 | _=>τ
def rdX (N:Hp) (K:W.Frag) (f:DPx):TE:=λ σ H Q=>∃ (Hs0 H0:Hp),∃ (_:Nf N H0),∃ ρ Hs τ i q m,aT K Hs0 H0 ρ Hs H σ τ/\f τ=some (i,q)/\aP τ i q=some m/\∀ v v1 H',bz H H'->σ[i]?=some (some v)->vAt H' v q=some v1->Q v1 H'
def PXm (X:Cx) (e:Expr) (f:DPx):Prop:=PE X e (rdX X.H₀ X.K f)
section
variable {X:Cx} {pins:List (Addr×Obj)} {σ:St} {H:Hp} {s:Shared} {h':Heap}
theorem Inv.zO {t':Nat} {wr:List Addr} {T:Addr} {xs:List V} (I:Inv X pins σ H s) (hw:∀ b ∈ wr,sg X pins H b) (k:∀ b o,b ∉ wr->s.heap.get? b=some o->h'.get? b=some o)
  (hT:s.heap.objs.size<=T) (new:cq X.prog X.w (upd H T (.tup xs)) h' T (.tup xs)):Inv X pins σ (upd H T (.tup xs)) { s with heap:=h',toks:=t' }:=by
 have hn:=I.hok.fresh hT;have neT:∀ b u,H b=some u->b≠T:=λ b u e z=>by rw [z,hn] at e; cases e
 have neS:∀ b o,s.heap.get? b=some o->b≠T:=λ b o e z=>by
  have:=Zr e;rw [z] at this;exact absurd (Zu this hT) (Yn _)
 have nw:∀ b u,H b=some u->b ∉ wr:=λ b u e z=>by rw [(hw b z).1] at e; cases e
 refine I.step (λ b hb=>?_) (λ b o _ _ hc e _=>k b o hc e) (λ b o _ _ hc e _=>⟨o.slots,k b o hc e⟩) (λ b o _ e n=>by rw [ai (neS b o e)]; exact n)
  (λ b o hc e=>⟨o,k b o hc e⟩) (λ b ys e=>by rw [ai (neT b _ e)]; exact e) (λ b o u e=>by rw [ai (neT b _ e)]; exact e) (λ b ps e=>⟨#[],by rw [ai (neT b _ e),e]; simp⟩) (λ m hm=>?_) (λ b u e=>?_) I.bare
 ·obtain ⟨f0,f1,f2,f3,f4,f5⟩:=hw b hb
  exact ⟨f3,f1,f4,f5⟩
 ·obtain ⟨o,es,ep,ho,r⟩:=hm
  exact ⟨o,es,ep,k _ o (λ z=>(hw _ z).2.1 rfl) ho,r⟩
 ·by_cases hb:b=T
  ·subst hb
   rw [ao] at e;cases e;exact new
  ·rw [ai hb] at e
   refine (I.hok b u e).sM (λ c v hc q=>k c v ?_ q) (λ c q=>by rw [ai (neT c _ q)]; exact q) λ c ys q=>by rw [ai (neT c _ q)]; exact q
   rcases hc with z | z
   · rw [z]; exact nw b u e
   · exact nw c _ z
end
structure Bx (p:Prop):Prop where
 out:p
def Ite (K:W.Frag) (l:Addr):It where
 go:=λ i H=>∃ xs x,SqL K H l xs/\xs[i]?=some x
 yld:=λ i H v H'=>∃ T x,v=.ref T/\H T=none/\H'=upd H T (.tup [.int (i:Int),x])/\∀ xs,SqL K H l xs->xs[i]?=some x
 stop:=λ i H=>∃ xs,SqL K H l xs/\xs.length<=i
def ESt (e it l:Addr) (i:Nat) (h:Heap):Prop:=(∃ old,IsEnum h e it ((i:Nat):Int) old)/\h.IsListIter it l i
theorem sE {P:Program} {w:World} {K:W.Frag} {elts:List Expr} {k:Nat} {pos:Pos} {e it l:Addr} (ne:e≠it) :
  Turn P w K (.Tuple elts k pos) (Ite K l) [e,it] e (ESt e it l) where
 mem:=by simp
 obj:=λ i h st b hb=>by
  obtain ⟨⟨old,s1⟩,⟨o4,e4,c4,d4⟩⟩:=st;simp only [Zh,Xh,or_false] at hb;rcases hb with rfl | rfl
  · exact ⟨_,s1,λ v z=>by cases z⟩
  · exact ⟨o4,e4,λ v z=>by rw [d4] at z; cases z⟩
 keep:=λ i h h' st k=>by
  obtain ⟨⟨old,s1⟩,s4⟩:=st;exact ⟨⟨old,k _ (by simp) _ s1⟩,s4.at λ o e=>k _ (by simp) o e⟩
 item:=by
  intro X hP hw hK hc i pins s σ H E I hf st hg;subst hP hw hK;obtain ⟨xs,x,hq,hx⟩:=hg;obtain ⟨its,rv,p,hz⟩:=I.list hq;obtain ⟨u,hu,ru⟩:=rv.get hx;obtain ⟨⟨old,s1⟩,s4⟩:=st;refine wpAny_pyNext_enum_item s1 s4 p.isList (by simpa using hu) ne λ h' a1 a2 a3 a4 hk=>?_
  have hk':∀ b o,b ∉ [e,it]->s.heap.get? b=some o->h'.get? b=some o:=λ b o hb e'=>hk b o (λ q=>hb (by simp [q])) (λ q=>hb (by simp [q])) e'
  have I1:Inv X pins σ (upd H s.heap.objs.size (.tup [.int (i:Int),x])) { s with heap:=h',toks:=s.toks+1 }:=I.zO hf hk' (Zl _) ⟨by show 2<=sizeLine; decide,[.int i s.toks,u],.cons ⟨_,rfl⟩ (.cons ru .nil),_,a3,rfl,_,rfl⟩;have hn:=I.hok.fresh (Zl _);refine ⟨.ref s.heap.objs.size,rfl,wpAny_letOwnedTupleGo_enum a1 λ h2 hz2 sb=>?_⟩
  have neT:∀ b ∈ [e,it],b≠s.heap.objs.size:=λ b hb q=>by
   have lt:∃ o,s.heap.get? b=some o:=by
    obtain ⟨o4,e4,_⟩:=s4;simp only [Zh,Xh,or_false] at hb;rcases hb with rfl | rfl
    · exact ⟨_,s1⟩
    · exact ⟨_,e4⟩
   obtain ⟨o,e'⟩:=lt;rw [q] at e';exact absurd (Zr e') (Yn _)
  obtain ⟨f0,f1,f2,f3,f4,f5⟩:=hf e (by simp);have I2:=I1.turned (t':=s.toks+1) (λ b o hb e'=>(sb.2 b hb).trans e') (by rw [ai (neT e (by simp))]; exact f0) f1 f3 f4 f5;refine ⟨.ref s.heap.objs.size,_,I2,rfl,⟨s.heap.objs.size,x,rfl,hn,rfl,λ zs hz=>by rw [I.pR hz hq]; exact hx⟩,?_,λ b hb=>by rw [ai (neT b hb)]; exact (hf b hb).1⟩;exact ⟨⟨_,hz2⟩,a2.extBut sb.extBut (Ne.symm ne)⟩
 done:=by
  intro X hP hw hK hc i pins s σ H E I hf st hg;subst hP hw hK;obtain ⟨xs,hq,hx⟩:=hg;obtain ⟨its,rv,p,hz⟩:=I.list hq;obtain ⟨⟨old,s1⟩,s4⟩:=st;have l1:=rv.length;refine wpAny_pyNext_enum_end (I.ok.hd hc) s1 s4 p.isList (by simp; omega) λ h' eb=>⟨rfl,?_⟩
  obtain ⟨f0,f1,f2,f3,f4,f5⟩:=hf it (by simp);exact I.turned (λ b o hb e=>eb b o hb e) f0 f1 f3 f4 f5
 self:=λ _ _ _ _ _ st h=>by
  obtain ⟨⟨old,s1⟩,s4⟩:=st;exact wpAny_pyIter_enum s1 h
theorem v7:bootBuiltins "enumerate"=some (.type "enumerate"):=by rfl
def Jh (K:W.Frag) (ta:TA):TI:=λ σ H R=>ta σ H λ vs H1=>∃ l xs,vs=[.ref l]/\SqL K H1 l xs/\R (Ite K l) H1
theorem AX {X:Cx} {a:Expr} {ta:TA} {elts:List Expr} {k:Nat} {pt p pos:Pos} (hg:Gl X "enumerate") (hm:X.mg "enumerate"=none) (ha:PA X [a] ta) (hs:starEach [a] X.env=[(false,eval a X.env)]:=by rfl) :
  PI X (.Tuple elts k pt) (.Call (.Name "enumerate" p) [a] [] pos) (Jh X.K ta):=by
 intro pins s σ H R I h;refine Call_ (jU I hg hm v7 (Yt (thn (ha pos pins s σ H _ I h) λ us s1 ⟨vs,H1,I1,r1,q1⟩=>?_) (by rw [hs]; rfl) (by rfl)));obtain ⟨l,xs,e,q1,q⟩:=q1;subst e
 cases r1 with
 | cons r rr =>
  cases rr;cases r;obtain ⟨its1,rv1,p1,hz1⟩:=I1.list q1;refine call_enumerate_list p1.isList λ h' hE hI hsz hk=>?_
  refine wpAny_pyIter_enum hE ?_
  refine ⟨_,[s1.heap.objs.size+1,s1.heap.objs.size],_,_,H1,rfl,I1.kept hk,sE (Nat.succ_ne_self _),⟨⟨_,hE⟩,hI⟩,λ b hb=>?_,q⟩
  have hb':s1.heap.objs.size<=b:=by
   simp only [Zh,Xh,or_false] at hb;rcases hb with rfl | rfl
   · exact Nat.le_add_right _ 1
   · exact Zl _
  exact I1.wj hb' (I1.hok.fresh hb')
def hG (ds:List D):List D:=ds.mapIdx λ i d=>D.tup [.int (i:Int),d]
theorem pT {K:W.Frag} {a:Addr} {xs:List V} {Hs:Hp} {as:List D} (h1:SqL K Hs a xs) (r1:Rps K Hs xs as):ItR K (Ite K a) Hs (hG as):=λ Hs1 H g1 g2=>by
 have hq1:=g2.seq (g1.seq h1);have l1:=r1.length;refine ⟨λ i d e=>?_,λ i hi=>⟨xs,hq1,?_⟩⟩
 ·unfold hG at e
  rw [List.getElem?_mapIdx] at e;obtain ⟨p,ea,ed⟩:=Zm e;obtain ⟨x,hx,rx⟩:=r1.get ea;subst ed;refine ⟨⟨xs,x,hq1,hx⟩,λ v H' ⟨T,vx,e1,hn,e2,f1⟩=>?_⟩;subst e1 e2;have ex:=f1 xs hq1;rw [hx] at ex;cases ex;have g:=Ext.new g2 hn (.tup [.int (i:Int),x]);exact ⟨_,g,.tup (SqT.of ao) (.cons (.int _) (.cons ((rx.same g1).same g.ss) .nil))⟩
 ·have hl:(hG as).length=as.length:=by simp [hG]
  omega
def pW (f:DA):DI:=λ τ=>(f τ).bind λ ds=>match ds with | [.lst as]=>some (hG as) | [.fz as]=>some (hG as) | _=>none
theorem xu (hg:Gl X "enumerate") (hm:X.mg "enumerate"=none) (ha:PAd X [a] f) (hs:starEach [a] X.env=[(false,eval a X.env)]:=by rfl) :
   PId X (.Tuple elts k pt) (.Call (.Name "enumerate" p) [a] [] pos) (pW f) :=
 (AX hg hm ha hs).imp λ σ H R ⟨H0,Hs,τ,fp,ds,st,sm,e,k⟩=>by
   obtain ⟨x,e1,e2⟩:=bind_some e;refine ⟨H0,Hs,τ,fp,x,st,sm,e1,λ v Hs' H' g r=>?_⟩
   match x,r,e2 with
   | [y],.cons hy .nil,e2 =>
    cases hy with
    | @lst a1 xs1 ds1 h1 r1 =>
     have e':=Zj e2;subst e';exact ⟨a1,xs1,rfl,SqL.of (g.sh _ _ h1),k _ Hs' H' g (pT (SqL.of h1) r1)⟩
    | @fz a1 xs1 ds1 h1 r1 =>
     have e':hG ds1=ds:=Zj e2;subst e';exact ⟨a1,xs1,rfl,g.sh.seq h1,k _ Hs' H' g (pT h1 r1)⟩
    | _=>exact nn e2
   | [],_,e2=>simp at e2
   | _::_::_,_,e2=>simp at e2
section
variable {X:Cx} {a b e o:Expr} {es:List Expr} {pos apos cpos:Pos} {f g:DE}
def qG:List D->Option (List Str)
 | []=>some []
 | .str x::ds=>(qG ds).map (x::·)
 | _::_=>none
theorem my:∀ {ds:List D} {ts:List Str},qG ds=some ts->ds=ts.map .str
 | [],ts,h=>by cases h; rfl
 | .str x::ds,ts,h=>by
  obtain ⟨us,e,rfl⟩:=Zm h;rw [my e]; rfl
theorem Rps.jw {K:W.Frag} {H:Hp}:∀ {ts:List Str} {xs:List V},Rps K H xs (ts.map D.str)->xs=ts.map V.str
 | [],_,.nil=>rfl
 | x::ts,_,.cons h r=>by
  cases h;rw [Rps.jw r]; rfl
def yw (f g:DE):DE:=λ τ=>(f τ).bind λ x=>(g τ).bind λ y=>match x,y with
 | .str z,.lst ds=>(qG ds).bind λ ts=>if (ts.map (·.length)).sum+ts.length * z.length<=100000 then some (.str (Txt.join z ts)) else none
 | _,_=>none
theorem A9 (ho:PEd X o f) (he:PEd X e g) (hbase:attributeBase o "join" X.env (eval o X.env)=eval o X.env:=by rfl)
   (hfew:((backTo cpos (starEach [e] X.env)).all (λ x=>!x.1)&&(backToKw cpos (keywordEach [] X.env)).all (λ x=>x.1.isSome)
     && decide ([e].length+([]:List Keyword).length+(if ([]:List Keyword).isEmpty then 0 else 1) < 30))=true:=by rfl)
   (hline:(apos.endLine == cpos.line)=true:=by rfl) (hst:starEach [e] X.env=(false,eval e X.env)::starEach [] X.env:=by rfl) (hplain:(backTo cpos (starEach [] X.env)).any (·.1)=false:=by rfl) :
   PEd X (.Call (.Attribute o "join" apos) [e] [] cpos) (yw f g) :=
 (oa PySem.F.plainAttrs_str PySem.F.slot_str_join PySem.F.type_str_join BF ho (aJ he bc hst) hbase hfew hline hst hplain).imp λ σ H Q ⟨H0,Hs,τ,fp,d,st,sm,e,k⟩=>by
   obtain ⟨x,e1,e⟩:=bind_some e;obtain ⟨y,e2,e⟩:=bind_some e;refine ⟨H0,Hs,τ,fp,x,st,sm,e1,λ v Hs1 H1 g1 r1=>?_⟩
   cases r1 with
   | str z =>
     refine ⟨rfl,H0,Hs1,τ,fp,y,st.ext g1,g1.sh,e2,λ u Hs2 H2 g2 r2=>?_⟩
     cases r2 with
     | @lst p xs ds h r =>
      obtain ⟨ts,e3,e4⟩:=bind_some (e);have ed:=my e3;subst ed;have ex:=r.jw;subst ex;split at e4
      ·rename_i hs
       have e':=Zj e4;subst e';exact ⟨z,p,ts,rfl,rfl,SqL.of (g2.sh _ _ h),Z8 hs (by decide),k _ Hs2 H2 (g1.trans g2) (.str _)⟩
      · cases e4
     | _=>exact nn e
   | _=>cases y <;> exact nn e
end
end L2
end
section
namespace PySem
section
variable {prog:Program} {w:World} {A:Around} {E:Value->Shared->Prop} {s:Shared}
theorem uM:typeLookup (.type "list_reverseiterator") "__len__"=pure none:=by rfl
theorem x6:typeLookup (.type "list_reverseiterator") "__length_hint__"=pure (some (.builtin "list_reverseiterator.__length_hint__")):=by rfl
theorem rl (hit:s.heap.IsRevIter it l i) (h:Q false s):wpAny (model prog w) A (Builtin.List.listLengthHint (.ref it)) Q E s:=by
 refine Zv (wpAny_specialOf hit.typeIs uM ?_);refine Zv (wpAny_specialOf hit.typeIs x6 ?_);generalize hid:("list_reverseiterator.__length_hint__":String)=id0
 wp_delta
 rw [show splitId id0=some ("list_reverseiterator","__length_hint__") from by subst hid; decide +kernel];subst hid;refine Zv (wpAny_isInstance (b:=true) hit.typeIs (by rw [isSubtype_type]; kernel_rfl) ?_);exact Z6 h
theorem ro (hh:A.handled=none) (hit:s.heap.IsRevIter it l ((items.size:Int) - 1)) (hl:s.heap.IsList l items)
  (hlen:items.size<=sizeLine) (hne:l≠it) (S:Addr) (res:Value) (c₀:Nat) (hS:s.heap.get? S=some { cls:=.type "list",data:=.seq #[] c₀ }) (hSl:S≠l) (hSi:S≠it)
  (hR:∀ h' tk acc' c',(∀ b o,b≠S->b≠it->s.heap.get? b=some o->h'.get? b=some o)->h'.get? S=some { cls:=.type "list",dict:=none,data:=.seq acc' c',slots:=#[] } ->
    ItemsOf (λ i v=>items[items.size - 1 - i]?=some v) acc' items.size->R (.ok (.ret res)) { s with heap:=h',toks:=tk }) :
  wpAny (model prog w) A.in1 (Builtin.List.listExtendWith (.ref S) (.ref it) res)
    (λ fin s'=>match fin with | .done f=>R (.ok f) s' | .again c'=>c'.quiet=true/\codeAny (model prog w) A c' R s') (λ e s'=>R (.error e) s') s:=by
 have W:=(Walks.listRev (prog:=prog) (w:=w) (A:=A.in1) hh it l hne items).toS
 have hSf:S ∉ [it,l]:=λ hm=>by
  rcases Zh.mp hm with e | hm
  · exact hSi e
  · exact hSl (Zn.mp hm)
 refine Zv (wpAny_typeOf hit.typeIs ?_);have h1:Builtin.List.listSameRef (.ref S) (.ref it)=false:=by simp [Builtin.List.listSameRef,hSi]
 have h2:(Value.type "list_reverseiterator" == Value.type "list")=false:=by decide
 have h3:(Value.type "list_reverseiterator" == Value.type "tuple")=false:=by decide
 simp only [h1,h2,h3,Bool.or_false,Bool.false_eq_true,if_false];refine Zv (wpAny_pyIter_revIter hit ?_);refine Zv (wpAny_holding (rl hit ?_));refine wpAny_ite_split (λ hab=>absurd hab (by decide)) (λ _=>?_);refine Z6 ⟨plainId_quiet F.plain_extend_loop _,?_⟩
 have hit0:s.heap.IsRevIter it l ((items.size:Int) - 1 - ((0:Nat):Int)):=by
  simpa using hit
 refine codeAny_extend_loopS W hlen S hSf res items.size 0 _ #[] c₀ rfl (Z3 _) ⟨Z3 _,hit0,hl⟩ hS (ItemsOf.nil _) λ s' acc' c' hm hS' hacc=>?_
 rw [Moved.eq_with hm];refine hR s'.heap s'.toks acc' c' (λ b o hb hb2 e=>hm.heap b o (λ hmem=>?_) e) hS' hacc;rcases Zh.mp hmem with e' | hmem
 · exact hb e'
 · exact hb2 (Zn.mp hmem)
theorem x5 (hh:A.handled=none) (hit:s.heap.IsRevIter it l ((items.size:Int) - 1)) (hl:s.heap.IsList l items)
  (hlen:items.size<=sizeLine) (hne:l≠it) (S:Addr) (hS:s.heap.get? S=some { cls:=.type "list",data:=.seq #[] }) (hSl:S≠l) (hSi:S≠it)
  (hR:∀ h' tk acc' c',(∀ b o,b≠S->b≠it->s.heap.get? b=some o->h'.get? b=some o)->h'.get? S=some { cls:=.type "list",dict:=none,data:=.seq acc' c',slots:=#[] } ->
    ItemsOf (λ i v=>items[items.size - 1 - i]?=some v) acc' items.size->R (.ok (.ret .none)) { s with heap:=h',toks:=tk }) :
  wpAny (model prog w) A.in1 (Builtin.«list.__init__» ⟨[.ref S,.ref it],[]⟩)
    (λ fin s'=>match fin with | .done f=>R (.ok f) s' | .again c'=>c'.quiet=true/\codeAny (model prog w) A c' R s') (λ e s'=>R (.error e) s') s:=by
 refine Zv ?_
 refine Zv (wpAny_seqItems hS rfl (Z6 ?_));refine Zv (wpAny_updateSeq hS rfl ?_);have hS₂:=Heap.get?_update_self (Obj.mapSeq (λ _=>(#[]:Array Value))) hS rfl
 have oth:∀ b o,b≠S->s.heap.get? b=some o->(s.heap.update S (Obj.mapSeq (λ _=>(#[]:Array Value)))).get? b=some o :=
  λ b o hb e=>(Heap.get?_update_other _ _ (Ne.symm hb)).trans e
 refine Zv (wpAny_letGo ?_);refine ro hh (hit.at λ o e=>oth it o (Ne.symm hSi) e) (hl.at λ o e=>oth l o (Ne.symm hSl) e) hlen hne S .none _ hS₂ hSl hSi λ h' tk acc' c' hk hS' hacc=>?_
 exact hR h' tk acc' c' (λ b o hb hb2 e=>hk b o hb hb2 (oth b o hb e)) hS' hacc
theorem l5 (hh:A.handled=none) (hit:s.heap.IsRevIter it l ((items.size:Int) - 1)) (hl:s.heap.IsList l items)
  (hlen:items.size<=sizeLine) (hne:l≠it)
  (hQ:∀ h' tk acc' c',(∀ b o,b≠it->s.heap.get? b=some o->h'.get? b=some o) ->
    h'.get? s.heap.objs.size=some { cls:=.type "list",dict:=none,data:=.seq acc' c',slots:=#[] }->ItemsOf (λ i v=>items[items.size - 1 - i]?=some v) acc' items.size->Q (.ref s.heap.objs.size) { s with heap:=h',toks:=tk }) :
  wpAny (model prog w) A (call (.type "list") [.ref it]) Q E s:=by
 refine callType_codes (Q₁:=λ obj s₁=>obj=.ref s.heap.objs.size/\s₁={ s with heap:=s.heap.push { cls:=.type "list",data:=.seq #[] } }) F.called_list (F.typeCall_list_1 _) F.entry_list_init
  (code_list_new _ ⟨rfl,rfl⟩) λ obj s₁ h₁=>?_
 obtain ⟨rfl,rfl⟩:=h₁;have hS:(s.heap.push { cls:=.type "list",data:=.seq #[] }).get? s.heap.objs.size=some { cls:=.type "list",data:=.seq #[] }:=Heap.get?_push_size _ rfl
 have hSl:s.heap.objs.size≠l:=λ e=>by
  obtain ⟨o,ho,_⟩:=hl;exact Yn _ (Nat.lt_of_lt_of_eq (Zr ho) e)
 have hSi:s.heap.objs.size≠it:=λ e=>by
  obtain ⟨o,ho,_⟩:=hit;exact Yn _ (Nat.lt_of_lt_of_eq (Zr ho) e)
 refine ⟨⟨_,hS,rfl⟩,F.args_list_init_2 _ _,x5 (A:=A.in1) hh (hit.at λ o e=>Heap.get?_push_of_some _ e) (hl.at λ o e=>Heap.get?_push_of_some _ e) hlen hne _ hS hSl hSi λ h' tk acc' c' hk hS' hacc=>?_⟩;exact ⟨rfl,hQ h' tk acc' c' (λ b o hb e=>hk b o (Zz (Zr e)) hb (Heap.get?_push_of_some _ e)) hS' hacc⟩
end
end PySem
namespace L2
open PySem PySem.Spec PyProof.Rows
section
variable {X:Cx} {a:Expr} {p p2 pos pos2:Pos}
def Ks (K:W.Frag) (ta:TE):TE:=λ σ H Q=>ta σ H λ x H1=>∃ q ys,x=.ref q/\SqL K H1 q ys/\∀ l,H1 l=none->Q (.ref l) (upd H1 l (.lst ys.reverse))
theorem uY {its:List Value} {acc:Array Value} (h:ItemsOf (λ i v=>its.toArray[its.toArray.size - 1 - i]?=some v) acc its.toArray.size):acc=its.reverse.toArray:=by
 obtain ⟨hs,hv⟩:=h;refine Array.ext (by simpa using hs) λ i h1 h2=>?_
 have h3:=hv i acc[i] (Array.getElem?_eq_getElem h1);have h4:i < its.length:=by simpa using h2
 have h5:its[its.length - 1 - i]?=some acc[i]:=by simpa using h3
 rw [<- List.getElem?_reverse h4] at h5;have h6:its.reverse[i]?=some (its.reverse[i]'(by simpa using h4)):=List.getElem?_eq_getElem _;rw [h6] at h5
 simpa using (Zj h5).symm
theorem yY {ta:TE} {x y:Str} (hc:X.calm=true) (hg:Gl X x) (hm:X.mg x=none) (hv:bootBuiltins x=some (.type "list")) (hg2:Gl X y) (hm2:X.mg y=none) (hv2:bootBuiltins y=some (.type "reversed")) (ha:PE X a ta)
  (hn:x≠"__name__":=by decide) (hdb:(x == ("__debug__":Str))=false:=by decide) (hn2:y≠"__name__":=by decide) (hdb2:(y == ("__debug__":Str))=false:=by decide)
  (he:starEach [.Call (.Name y p2) [a] [] pos2] X.env=(false,eval (.Call (.Name y p2) [a] [] pos2) X.env)::starEach [] X.env:=by rfl) (hpl:(backTo pos (starEach [] X.env)).any (·.1)=false:=by rfl)
  (he2:starEach [a] X.env=(false,eval a X.env)::starEach [] X.env:=by rfl) (hpl2:(backTo pos2 (starEach [] X.env)).any (·.1)=false:=by rfl) :
  PE X (.Call (.Name x p) [.Call (.Name y p2) [a] [] pos2] [] pos) (Ks X.K ta):=by
 intro pins s σ H Q I h;refine Yu (jU I hg hm hv ?_ hn hdb);refine Yt ?_ he hpl;rw [he];refine Calls.spliced_cons ?_
 refine Yu (jU I hg2 hm2 hv2 ?_ hn2 hdb2);refine Yt (thn (aJ ha bc he2 pos2 pins s σ H (λ vs H1=>match vs with | [x]=>(∃ q ys,x=V.ref q/\SqL X.K H1 q ys/\∀ l,H1 l=none->Q (.ref l) (upd H1 l (.lst ys.reverse))) | _=>False) I h) λ us s1 ⟨vs,H1,I1,r1,q1⟩=>?_) he2 hpl2
 match vs,r1,q1 with
 | [],_,q1=>exact q1.elim
 | _::_::_,_,q1=>exact q1.elim
 | [v],.cons r .nil,q1 =>
  obtain ⟨q,ys,ev,hq,k⟩:=q1;subst ev;cases r;obtain ⟨its,r',pl,hz⟩:=I1.list hq;have hlen:=r'.length
  have hql:q < s1.heap.objs.size:=by
   obtain ⟨o,ho,_⟩:=pl.isList;exact Zr ho
  refine call_reversed_list pl.isList ?_
  refine Calls.spliced_nil ?_
  refine l5 (I1.ok.hd hc) ⟨_,Heap.get?_push_size _ rfl,rfl,rfl⟩ (pl.isList.at λ o e=>Heap.get?_push_of_some _ e) (by simp only [Zp]; omega) (Zz hql) λ h' tk acc' c' kp e hacc=>?_
  have ea:=uY hacc;subst ea;have hS:s1.heap.objs.size<=(s1.heap.push (revObj q ((its.toArray.size:Int) - 1))).objs.size:=Yw (Nat.lt_of_lt_of_eq (Y4 _) (Xe _ _).symm)
  exact ⟨.ref _,_,I1.laid (λ b o eb=>kp b o (Zz (Zr eb)) (Heap.get?_push_of_some _ eb)) hS
   (show cq X.prog X.w _ h' _ (.lst ys.reverse) from ⟨by rw [List.length_reverse]; exact hz,its.reverse,c',r'.reverse,e⟩),rfl,k _ (I1.hok.fresh hS)⟩
def CF (f:DE):DE:=λ τ=>(f τ).bind λ x=>match x with
 | .lst ds=>some (.lst ds.reverse)
 | .fz ds=>some (.lst ds.reverse)
 | _=>none
theorem Rps.reverse {K:W.Frag} {H:Hp} {xs:List V} {ds:List D} (h:Rps K H xs ds):Rps K H xs.reverse ds.reverse:=by
 match xs,ds,h with
 | _,_,.nil=>exact .nil
 | _,_,.cons r t =>
  rw [Xc,Xc];exact (Rps.reverse t).append (.cons r .nil)
theorem DJ (hc:X.calm=true) (hg:Gl X x) (hm:X.mg x=none) (hv:bootBuiltins x=some (.type "list")) (hg2:Gl X y) (hm2:X.mg y=none) (hv2:bootBuiltins y=some (.type "reversed")) (ha:PEd X a f)
  (hn:x≠"__name__":=by decide) (hdb:(x == ("__debug__":Str))=false:=by decide) (hn2:y≠"__name__":=by decide) (hdb2:(y == ("__debug__":Str))=false:=by decide)
  (he:starEach [.Call (.Name y p2) [a] [] pos2] X.env=(false,eval (.Call (.Name y p2) [a] [] pos2) X.env)::starEach [] X.env:=by rfl) (hpl:(backTo pos (starEach [] X.env)).any (·.1)=false:=by rfl)
  (he2:starEach [a] X.env=(false,eval a X.env)::starEach [] X.env:=by rfl) (hpl2:(backTo pos2 (starEach [] X.env)).any (·.1)=false:=by rfl) :
  PEo X (.Call (.Name x p) [.Call (.Name y p2) [a] [] pos2] [] pos) (CF f):=(yY hc hg hm hv hg2 hm2 hv2 ha hn hdb hn2 hdb2 he hpl he2 hpl2).imp λ σ H Q ⟨H0,Hs,τ,fp,d,st,sm,e,k⟩=>by
 obtain ⟨x,e1,e⟩:=bind_some e;refine ⟨H0,Hs,τ,fp,x,st,sm,e1,λ v Hs1 H1 g1 r1=>?_⟩
 have fin:∀ (p:Addr) (ys:List V) (ds:List D),H1 p=none->Rps X.K Hs1 ys ds->d=.lst ds->Q (.ref p) (upd H1 p (.lst ys)):=λ p ys ds hp r ed=>by
  subst ed;exact k p Hs1 _ ⟨g1.ss,g1.sh.trans (aw hp _),g1.hh.trans (aw hp _),g1.fr⟩ (.lst ao (g1.sh.free hp) r) (g1.hh.free hp)
 cases r1 with
 | @lst a ys ds h r=>exact ⟨_,_,rfl,SqL.of (g1.sh _ _ h),λ l hl=>fin l _ _ hl r.reverse (Zj e).symm⟩
 | @fz a ys ds h r=>exact ⟨_,_,rfl,g1.sh.seq h,λ l hl=>fin l _ _ hl r.reverse (Zj e).symm⟩
 | _=>exact nn e
end
end L2
end
section
namespace L2
open PySem PySem.Spec PyProof.Rows
def yx (f g:DE):DE:=λ τ=>(f τ).bind λ x=>(g τ).bind λ y=>match x,y with
 | .lst a,.lst b=>if a.length+b.length<=100000 then some (.lst (a++b)) else none
 | _,_=>none
theorem AQ (ha:PEd X a f) (hb:PEd X b g):PEo X (.BinOp a .Add b pos) (yx f g):=(DQ za ha hb).imp λ σ H Q ⟨H0,Hs,τ,fp,d,st,sm,e,k⟩=>by
 obtain ⟨x,e1,e⟩:=bind_some e;obtain ⟨y,e2,e⟩:=bind_some e;refine ⟨H0,Hs,τ,fp,x,st,sm,e1,λ v Hs1 H1 g1 r1=>?_⟩;refine ⟨H0,Hs1,τ,fp,y,st.ext g1,g1.sh,e2,λ u Hs2 H2 g2 r2=>?_⟩
 cases r1 with
 | @lst p xs ds h r=>cases r2 with
  | @lst p' ys es h' r' =>
   simp only at e;split at e
   ·rename_i hh
    have e':=Zj e;subst e';have g12:=g1.trans g2;refine ⟨p,p',xs,ys,rfl,rfl,g2.sh _ _ (g2.ss _ _ h),g2.sh _ _ h',by rw [r.length,r'.length]; exact rq hh,λ q hq=>?_⟩;exact k q Hs2 _ ⟨g12.ss,g12.sh.trans (aw hq _),g12.hh.trans (aw hq _),g12.fr⟩ (.lst ao (g12.sh.free hq) ((r.same g2.ss).append r')) (g12.hh.free hq)
   · cases e
  | _=>exact nn e
 | _=>cases y <;> exact nn e
section
variable {X:Cx} {pins:List (Addr×Obj)} {σ:St} {H:Hp}
def oo:List D->Option D
 | [.dct kvs]=>some (.int kvs.length)
 | _=>none
theorem vF:fF X (.builtin "len") (rdL X.K oo):=by
 intro pins s σ H xs us Q I rr h;obtain ⟨Hs,ds,d,sm,r,e,k⟩:=h
 match ds,r,e with
 | [x],.cons hx .nil,e =>
  obtain ⟨u,rfl,ru⟩:=vals1 rr
  cases hx with
  | @dct a kvs ds hH rk =>
   have e':=Zj e;subst e';cases (ru);exact Jt I (.inl (sm _ _ hH)) λ t s' I'=>⟨.int kvs.length,H,I',⟨t,rfl⟩,by rw [rk.length]; exact k _ Hs H (.refl sm) (.int _)⟩
  | _=>exact nn e
 | [],_,e=>simp [oo] at e
 | _::_::_,_,e=>simp [oo] at e
end
section
variable {X:Cx} {tg a e:Expr} {p p2 pos pos2:Pos}
def z9 (i:Nat) (f:DE):DS:=λ τ=>(f τ).bind λ d=>match d,τ[i]? with
 | .lst es,some (.own (.lst ds))=>if ds.length+es.length<=100000 then some (.next (τ.set i (.own (.lst (ds++es))))) else none
 | _,_=>none
theorem E6 (h:z9 i f τ=some o):∃ es ds,f τ=some (.lst es)/\τ[i]?=some (.own (.lst ds))/\ds.length+es.length<=100000/\o=.next (τ.set i (.own (.lst (ds++es)))):=by
 obtain ⟨d,e1,e⟩:=bind_some h
 cases d with
 | lst es =>
  cases q:τ[i]? with
  | none=>rw [q] at e; cases e
  | some s =>
   rw [q] at e
   cases s with
   | own d=>cases d with
    | lst ds =>
     simp only at e;split at e
     ·rename_i hl
      cases e;exact ⟨es,ds,e1,rfl,hl,rfl⟩
     · cases e
    | _=>simp at e
   | _=>simp at e
 | _=>simp at e
theorem AG (i:Nat) (hN:X.N[i]?=some x) (hv:Vis X.env.scope x) (he:PEd X e f) (hd:(x == ("__debug__":Str))=false:=by decide) (hcd:(x == ("__classdict__":Str))=false:=by decide)
   (hbase:attributeBase (.Name x p) "extend" X.env (eval (.Name x p) X.env)=eval (.Name x p) X.env:=by rfl)
   (hfew:((backTo cpos (starEach [e] X.env)).all (λ x=>!x.1)&&(backToKw cpos (keywordEach [] X.env)).all (λ x=>x.1.isSome)
     && decide ([e].length+([]:List Keyword).length+(if ([]:List Keyword).isEmpty then 0 else 1) < 30))=true:=by rfl)
   (hline:(apos.endLine == cpos.line)=true:=by rfl) (hst:starEach [e] X.env=(false,eval e X.env)::starEach [] X.env:=by rfl) (hplain:(backTo cpos (starEach [] X.env)).any (·.1)=false:=by rfl)
   (hs:swapsWith (.Call (.Attribute (.Name x p) "extend" apos) [e] [] cpos) none pos.line X.env=pure false:=by rfl) :
   PSd X (.Expr (.Call (.Attribute (.Name x p) "extend" apos) [e] [] cpos) pos) (z9 i f) :=
 (bG (oa Ym PySem.F.slot_list_extend PySem.F.type_list_extend uI (cI hN hv hd hcd) (aJ he bc hst) hbase hfew hline hst hplain) hs).imp λ E σ H ⟨Hs0,H0,Hs,τ,o,r,e,k⟩=>by
   obtain ⟨es,ds,e1,q,hl,rfl⟩:=E6 e;obtain ⟨fp,h⟩:=r.st;obtain ⟨a,h1,h2,h3,h4⟩:=h.zt q
   cases h2 with
   | @lst xs _ hH hn hr =>
     refine ⟨_,h1,.inl ⟨rfl,_,SqL.of hH⟩,?_⟩;refine ⟨H0,Hs,τ,fp,_,h,r.same,e1,λ v Hs' H' g1 rv=>?_⟩;have hH':=g1.hh _ _ hH;have h':=h.ext g1;have n':=g1.fr a hn (eu hH)
     cases rv with
     | @lst b ys _ hB rb =>
      refine ⟨a,b,xs,ys,rfl,rfl,hH',g1.sh _ _ hB,by rw [hr.length,rb.length]; exact rq hl,?_⟩;refine k σ Hs' _ ⟨⟨r.ext.ss.trans g1.ss,λ b u z=>?_,λ b u z=>?_,λ b k1 k2=>?_⟩,fp,h'.mut q h1 (.lst ao n' ((hr.same g1.ss).append rb))⟩
      ·have ne:b≠a:=λ y=>by subst y; rw [n'] at z; cases z
       rw [ai ne]; exact g1.sh b u z
      ·have ne:b≠a:=λ y=>by subst y; rw [h3] at z; cases z
       rw [ai ne]; exact g1.hh b u (r.ext.hh b u z)
      · exact g1.fr b (r.ext.fr b k1 k2) (r.ext.hh.live k2)
end
def chD (z:Str):List D:=z.cps.toList.map λ c=>D.str ⟨#[c]⟩
def yf (f:DE):DI:=λ τ=>(f τ).bind λ d=>match d with | .str z=>some (chD z) | _=>none
theorem BY {K:W.Frag} {z:Str} {Hs:Hp}:ItR K (Its z) Hs (chD z):=λ Hs1 H g1 g2=>by
 refine ⟨λ i d e=>?_,λ i hi=>?_⟩
 ·unfold chD at e
  rw [List.getElem?_map] at e
  cases q:z.cps.toList[i]? with
  | none=>rw [q] at e; cases e
  | some c =>
   rw [q] at e;have ed:=Zj e;subst ed
   have hi:i < z.cps.size:=by
    have:=(List.getElem?_eq_some_iff.mp q).1
    simpa using this
   have q':z.cps[i]?=some c:=by rw [<- Array.getElem?_toList]; exact q
   refine ⟨hi,?_⟩
   rintro x H' ⟨rfl,c',hc,rfl⟩
   rw [q'] at hc;cases hc;exact ⟨Hs1,.refl g2,.str _⟩
 ·show z.cps.size<=i
  unfold chD at hi;rw [Za] at hi
  simpa using hi
section
variable {X:Cx} {tg l:Expr} {f g:DE}
theorem AV (h:PEd X l f):PId X tg l (yf f):=(DM h).imp λ σ H R ⟨H0,Hs,τ,fp,ds,st,sm,e,k⟩=>by
 obtain ⟨x,e1,e2⟩:=bind_some e;refine ⟨H0,Hs,τ,fp,x,st,sm,e1,λ v Hs' H' g r=>?_⟩
 cases r with
 | str z =>
  have e':=Zj e2;subst e';exact ⟨z,rfl,k _ Hs' H' g BY⟩
 | _=>exact nn e2
def Hr:D->D->Option D
 | .str i,.str j=>some (.bl (!decide (j.cps.toList < i.cps.toList)))
 | _,_=>none
theorem Eh:OpR X (compareOp .LtE) (rdR X.K Hr):=uq.imp λ x y H Q ⟨Hs,dx,dy,d,sm,rx,ry,e,k⟩=>by
 unfold Hr at e;split at e
 ·cases rx
  cases ry;have e':=Zj e;subst e';exact ⟨_,_,rfl,rfl,k _ Hs H (.refl sm) (.bl _)⟩
 · cases e
def Co:List D->Option (List Bool)
 | []=>some []
 | .bl b::ds=>(Co ds).map (b::·)
 | _::_=>none
theorem iq:∀ {ds:List D} {bs:List Bool},Co ds=some bs->ds=bs.map .bl
 | [],_,e=>by cases e; rfl
 | .bl b::ds,_,e=>by
  obtain ⟨bs,e1,rfl⟩:=Zm (show (Co ds).map _=_ from e);rw [iq e1]; rfl
theorem Rps.zC {K:W.Frag} {H:Hp}:∀ {bs:List Bool} {xs:List V},Rps K H xs (bs.map D.bl)->xs=bs.map V.bl
 | [],_,.nil=>rfl
 | b::bs,_,.cons h r=>by
  cases h;rw [Rps.zC r]; rfl
def Lj:List D->Option D
 | [.lst ds]=>(Co ds).map λ bs=>.bl (bs.all id)
 | _=>none
theorem Jw (hc:X.calm=true):fF X (.builtin "all") (rdL X.K Lj):=(yA hc).imp λ xs H Q ⟨Hs,ds,d,sm,r,e,k⟩=>by
 match ds,r,e with
 | [x],.cons hx .nil,e =>
  cases hx with
  | @lst a ys ds h r =>
   obtain ⟨bs,e1,e2⟩:=Zm (e);have ed:=iq e1;subst ed;have ey:=r.zC;subst ey;subst e2;exact ⟨a,bs,rfl,SqL.of (sm _ _ h),k _ Hs H (.refl sm) (.bl _)⟩
  | _=>exact nn e
 | [],_,e=>exact nn e
 | x::y::_,_,e=>cases x <;> exact nn e
end
theorem oy {κ:Type}:∀ {kvs:List (κ×V)} {vs:List (κ×Value)},KV kvs vs->vs.map (·.1)=kvs.map (·.1)
 | _,_,.nil=>rfl
 | _,_,.cons h r=>by rw [Zg,Zg,oy r,h.1]
def tz:V->List V->Hp->VK->Prop:=λ x vs H Q=>∃ l xs i y,x=.ref l/\vs=[.int i,y]/\H l=some (.lst xs)/\0<=i/\i<=xs.length/\xs.length < sizeLine/\i < 2 ^ 62/\Q .non (upd H l (.lst (xs.take i.toNat++y::xs.drop i.toNat)))
section
variable {X:Cx}
theorem uH:MtM X "list.insert" tz:=by
 intro pins s σ H x vs v us Q I rx rv h;obtain ⟨l,xs,i,y,rfl,rfl,hH,h0,h1,hz,h62,q⟩:=h;cases rx
 cases rv with
 | cons ri rv=>cases rv with
  | cons ry rv =>
 cases rv;obtain ⟨t,rfl⟩:=ri;rename_i u;obtain ⟨z,its,n,r,hl,e⟩:=I.zj hH;refine Xo F.slot_list_insert ⟨_,e,rfl⟩ F.entry_list_insert (F.args_list_insert_3 _ _ _) (PySem.AutoSeq1.list_insert_list_int_val_1 l its.toArray n i t u (by rw [fitsIndex_both (by omega) (by omega)]; simp) (by rw [Zp]; omega)) ⟨e,?_⟩;refine ⟨.non,_,I.Ex (its':=its.take i.toNat++u::its.drop i.toNat) hH e ?_ ((r.take _).append (.cons ry (r.drop _))) ?_,rfl,q⟩
 · have hk:(if i < 0 then (i+(its.toArray.size:Int)).toNat else min i.toNat its.toArray.size)=i.toNat:=by
    rw [if_neg (by omega),Zp];omega
   show (its.toArray.extract 0 (if i < 0 then (i+(its.toArray.size:Int)).toNat else min i.toNat its.toArray.size)).push u++its.toArray.extract (if i < 0 then (i+(its.toArray.size:Int)).toNat else min i.toNat its.toArray.size)=_;rw [hk];exact PySem.W.kl_ins_eq its i.toNat u
 · rw [Z1,Zx,Y5,List.length_drop]; omega
theorem yZ {KK:W.Frag} (hK:X.K=KK) {o i e:Expr} {apos cpos:Pos} {to ti te:TE} (ho:PE X o to) (hi:PE X i ti) (he:PE X e te)
  (hbase:attributeBase o "insert" X.env (eval o X.env)=eval o X.env:=by rfl)
  (hfew:((backTo cpos (starEach [i,e] X.env)).all (λ x=>!x.1)&&(backToKw cpos (keywordEach [] X.env)).all (λ x=>x.1.isSome)
    && decide ([i,e].length+([]:List Keyword).length+(if ([]:List Keyword).isEmpty then 0 else 1) < 30))=true:=by rfl)
  (hline:(apos.endLine == cpos.line)=true:=by rfl) (hst:starEach [i,e] X.env=(false,eval i X.env)::starEach [e] X.env:=by rfl) (hst2:starEach [e] X.env=(false,eval e X.env)::starEach [] X.env:=by rfl) (hplain:(backTo cpos (starEach [e] X.env)).any (·.1)=false:=by rfl) :
  PE X (.Call (.Attribute o "insert" apos) [i,e] [] cpos) (tBM KK "list" tz to (zS ti (zS te JF))):=by
 subst hK;exact oa Ym PySem.F.slot_list_insert PySem.F.type_list_insert uH ho (aJ hi (aJ he bc hst2) hst) hbase hfew hline hst hplain
end
def ItK (d:Addr) (o:Obj) (kvs:List (Key×V)):It where
 go:=λ i H=>H d=some (.frz o (.dK kvs))/\i < kvs.length
 yld:=λ i H v H'=>H'=H/\∃ k w,kvs[i]?=some (k,w)/\v=kV k
 stop:=λ i H=>H d=some (.frz o (.dK kvs))/\kvs.length<=i
section
variable {X:Cx} {pins:List (Addr×Obj)} {σ:St} {H:Hp} {s:Shared}
theorem Inv.freeze (I:Inv X pins σ H s) (hd:H d=some (.dK kvs)) (ho:s.heap.get? d=some o):Inv X pins σ (upd H d (.frz o (.dK kvs))) s:=by
 have ne:∀ b u,H b=some u->(∀ k,u≠.dK k)->b≠d:=λ b u e n z=>by rw [z,hd] at e; cases e; exact n _ rfl
 have n0:∀ b,H b=none->b≠d:=λ b e z=>by rw [z,hd] at e; cases e
 refine I.un (h':=s.heap) (t':=s.toks) ⟨λ b o e _ _ _=>e,λ b o e _ _ _=>⟨o.slots,e⟩,λ b o _ z _=>by rw [ai (n0 b z)]; exact z,λ b o e _=>⟨o,e⟩,λ b xs e=>by rw [ai (ne b _ e λ _ y=>nomatch y)]; exact e,λ b o xs e=>by rw [ai (ne b _ e λ _ y=>nomatch y)]; exact e,λ b ps e=>⟨#[],by rw [ai (ne b _ e λ _ y=>nomatch y),e]; simp⟩⟩ λ b u e=>?_
 by_cases z:b=d
 ·subst z
  rw [ao] at e;cases e;exact ⟨ho,I.hok b _ hd⟩
 ·rw [ai z] at e
  exact (I.hok b u e).sM (λ _ _ _ q=>q) (λ c q=>by rw [ai (ne c _ q λ _ y=>nomatch y)]; exact q) λ c xs q=>by rw [ai (ne c _ q λ _ y=>nomatch y)]; exact q
theorem Inv.Ko (I:Inv X pins σ H s) (hd:H d=some (.frz o (.dK kvs))) (h0:∀ o' u',X.H₀ d≠some (.frz o' u')):Inv X pins σ (upd H d (.dK kvs)) s:=by
 have ne:∀ b u,H b=some u->(∀ o k,u≠.frz o k)->b≠d:=λ b u e n z=>by rw [z,hd] at e; cases e; exact n _ _ rfl
 have n0:∀ b,H b=none->upd H d (.dK kvs) b=none:=λ b e=>by rw [ai (λ z=>by rw [z,hd] at e; cases e)]; exact e
 refine ⟨I.ok,I.os,I.bare,⟨I.base.keep,I.base.slot,λ b ob e z hx=>n0 b (I.base.free b ob e z hx),I.base.there,λ b xs e=>?_,λ b ob xs e=>?_,λ b ps e=>?_⟩,I.loc,I.cell,n0 _ I.free,λ x c e=>n0 _ (I.gw x c e),λ p hp=>⟨(I.pin p hp).1,n0 _ (I.pin p hp).2.1,(I.pin p hp).2.2⟩,λ b u e=>?_,I.len⟩
 ·have q:=I.base.nQ b xs e
  rw [ai (ne b _ q λ _ _ y=>nomatch y)]; exact q
 ·have q:=I.base.nM b ob xs e
  rw [ai (λ z=>h0 _ _ (by rw [<- z]; exact e))]; exact q
 ·obtain ⟨more,q⟩:=I.base.nS b ps e
  exact ⟨more,by rw [ai (ne b _ q λ _ _ y=>nomatch y)]; exact q⟩
 ·by_cases z:b=d
  ·subst z
   rw [ao] at e;cases e;exact (I.hok b _ hd).2
  ·rw [ai z] at e
   exact (I.hok b u e).sM (λ _ _ _ q=>q) (λ c q=>by rw [ai (ne c _ q λ _ _ y=>nomatch y)]; exact q) λ c xs q=>by rw [ai (ne c _ q λ _ _ y=>nomatch y)]; exact q
end
theorem sF {P:Program} {w:World} {K:W.Frag} {tg:Expr} (d it:Addr) (o:Obj) (kvs:List (Key×V)) (es:Array DictEntry) (ep:Nat) (hdat:o.data=.dict es ep):Turn P w K tg (ItK d o kvs) [it] it (λ i h=>h.IsKeyIter it d i kvs.length ep) where
 mem:=by simp
 obj:=λ i h st b hb=>by
  have e:b=it:=by simpa using hb
  subst e;obtain ⟨o,e,c,d⟩:=st;exact ⟨o,e,λ v z=>by rw [d] at z; cases z⟩
 keep:=λ i h h' st k=>by
  obtain ⟨o,e,r⟩:=st;exact ⟨o,k it (by simp) o e,r⟩
 item:=by
  intro X hP hw hK hc i pins s σ H E I hf st hg;subst hP hw hK;obtain ⟨hd,hi⟩:=hg;obtain ⟨g,ok⟩:=I.hok d _ hd;obtain ⟨sz,lo,vs,kv,o',es',ep',h1,h2,h3,h4⟩:=ok;rw [g] at h1;cases h1;rw [hdat] at h3;cases h3;have lv:vs.length=kvs.length:=kv.length.symm;have dat:s.heap.DictAt (bh X.prog X.w) d vs ep:=⟨o,es,g,h2,hdat,h4⟩
  obtain ⟨f0,f1,f2,f3,f4,f5⟩:=hf it (by simp);have hx:vs[i]?=some (vs[i]'(by omega)):=List.getElem?_eq_getElem (by omega)
  have hk:(kvs[i]'hi).1=(vs[i]'(by omega)).1:=by
   have e1:(vs.map (·.1))[i]?=(kvs.map (·.1))[i]?:=by rw [oy kv]
   rw [List.getElem?_map,List.getElem?_map,hx,List.getElem?_eq_getElem hi] at e1;exact (Zj e1).symm
  refine wpAny_pyNext_dict_item (k:=(vs[i]'(by omega)).1) (v:=(vs[i]'(by omega)).2) (by rw [lv]; exact st) dat hx λ key h' ik st' sb=>?_
  have I1:Inv X pins σ H { s with heap:=h' }:=I.turned (t':=s.toks) (λ b o hb e=>(sb.2 b hb).trans e) f0 f1 f3 f4 f5;obtain ⟨o2,e2,c2,d2⟩:=id st';rw [lv] at st';refine ⟨key,rfl,rE (s:={ s with heap:=h' }) e2 c2 d2 (by decide) ⟨kV (kvs[i]'hi).1,H,I1,?_,⟨rfl,_,_,List.getElem?_eq_getElem hi,rfl⟩,st',λ b hb=>(hf b hb).1⟩⟩;rw [hk];rcases aY (show mX _ key=true from ik) with ⟨j,t,e4,e5⟩ | ⟨y,t,e4,e5⟩
  · rw [e4,e5]; exact ⟨t,rfl⟩
  · rw [e4,e5]; exact ⟨t,rfl⟩
 done:=by
  intro X hP hw hK hc i pins s σ H E I hf st hg;subst hP hw hK;obtain ⟨hd,hi⟩:=hg;obtain ⟨g,ok⟩:=I.hok d _ hd;obtain ⟨sz,lo,vs,kv,o',es',ep',h1,h2,h3,h4⟩:=ok;rw [g] at h1;cases h1;rw [hdat] at h3;cases h3;have lv:vs.length=kvs.length:=kv.length.symm;have dat:s.heap.DictAt (bh X.prog X.w) d vs ep:=⟨o,es,g,h2,hdat,h4⟩
  obtain ⟨f0,f1,f2,f3,f4,f5⟩:=hf it (by simp);exact wpAny_pyNext_dict_end (I.ok.hd hc) (by rw [lv]; exact st) dat (List.getElem?_eq_none (by omega)) λ h' eb=>⟨rfl,I.turned (t':=s.toks) (λ b o hb e=>eb b o hb e) f0 f1 f3 f4 f5⟩
 self:=λ _ _ _ _ _ st h=>wpAny_pyIter_keyiter st h
def Ji (td:TE):TI:=λ σ H R=>td σ H λ v H1=>∃ d kvs,v=.ref d/\H1 d=some (.dK kvs)/\∀ o,R (ItK d o kvs) (upd H1 d (.frz o (.dK kvs)))
theorem ub {X:Cx} {tg l:Expr} {tl:TE} (hl:PE X l tl):PI X tg l (Ji tl):=by
 intro pins s σ H R I h;refine thn (hl pins s σ H _ I h) λ v s1 ⟨x,H1,I1,r1,q1⟩=>?_
 obtain ⟨d,kvs,e,hd,q⟩:=q1;subst e;cases r1;obtain ⟨sz,lo,vs,kv,o,es,ep,h1,h2,h3,h4⟩:=vt I1.hok hd;have lv:vs.length=kvs.length:=kv.length.symm;refine wpAny_pyIter_dict lo ⟨o,es,h1,h2,h3,h4⟩ ?_
 have I2:=(I1.freeze hd h1).kept (t':=s1.toks) (h':=s1.heap.push { cls:=.type "dict_keyiterator",data:=.fields #[.ref d,.int 0 0,.int vs.length 0,.int ep 0] }) λ b o e=>Heap.get?_push_of_some _ e
 refine ⟨s1.heap.objs.size,[s1.heap.objs.size],_,_,_,rfl,I2,sF d _ o kvs es ep h3,⟨_,Heap.get?_push_size _ rfl,rfl,by rw [lv]; rfl⟩,λ b hb=>?_,q o⟩;have e:b=s1.heap.objs.size:=by simpa using hb
 subst e;exact (I1.freeze hd h1).wj (Zl _) ((I1.freeze hd h1).hok.fresh (Zl _))
def GA (H0:Hp) (t:TS):TS:=λ D σ H=>t { D with nx:=λ σ1 H1=>∃ d o kvs,H1 d=some (.frz o (.dK kvs))/\(∀ o' u',H0 d≠some (.frz o' u'))/\D.nx σ1 (upd H1 d (.dK kvs)) } σ H
theorem tY {X:Cx} {st:Stmt} {t:TS} (h:PS X st t):PS X st (GA X.H₀ t):=by
 intro pins s σ H D I hh;refine Yc (h pins s σ H _ I hh) (λ f s1 q=>?_) λ _ _ z=>z
 cases f with
 | next =>
  obtain ⟨σ',H',I',d,o,kvs,hd,h0,q⟩:=q;exact ⟨σ',_,I'.Ko hd h0,q⟩
 | ret v=>exact q
 | brk=>exact q
 | cont=>exact q
def sca:D->Bool
 | .non=>true | .bl _=>true | .int _=>true | .str _=>true | .ty _=>true | _=>false
theorem kP {K:W.Frag} {H H':Hp} {v:V} {d:D} (h:Rp K H v d) (e:sca d=true):Rp K H' v d:=by
 cases h <;> first | exact .non | exact .bl _ | exact .int _ | exact .str _ | exact .ty _ | (simp [sca] at e)
theorem iA {K:W.Frag} {H H':Hp} {vs:List V} {ds:List D} (h:Rps K H vs ds):ds.all sca=true->Rps K H' vs ds:=by
 induction ds generalizing vs with
 | nil=>intro _; cases h; exact .nil
 | cons d ds ih =>
  intro e
  cases h with
  | cons h r =>
   rw [List.all_cons,Yr] at e;exact .cons (kP h e.1) (ih r e.2)
def toM:Sm->Option Mt
 | .shr d=>some (.s d)
 | .mu false m=>some m
 | _=>none
def KQ (N:Hp) (K:W.Frag) (f:DEm):TE:=λ σ H Q=>∃ (Hs0 H0:Hp),∃ (_:Nf N H0),∃ ρ Hs τ s τ',aT K Hs0 H0 ρ Hs H σ τ/\f τ=some (s,τ')/\∀ v Hs' H',bz H H'->aT K Hs0 H0 (none::ρ) Hs' H' (some v::σ) (s::τ')->Q v H'
def PVm (X:Cx) (e:Expr) (f:DEm):Prop:=PE X e (KQ X.H₀ X.K f)
def eS (g:DE):DEm:=λ τ=>(g (aL τ)).bind λ d=>if sca d=true then some (.shr d,τ) else none
def eN (g:DE):DEm:=λ τ=>(g (er τ)).map λ d=>(.shr d,τ)
def lM (ds:List D):Mt:=.n .l (ds.map λ d=>(.inl 0,.s d))
def eO (g:DE):DEm:=λ τ=>(g (aL τ)).bind λ d=>match d with
 | .lst ds=>if ds.all sca=true then some (.mu false (lM ds),τ) else none
 | _=>none
def eV (i:Nat):DEm:=λ τ=>match τ[i]? with
 | some (.mu false m)=>some (.mu false m,τ.set i .no)
 | some (.shr d)=>some (.shr d,τ)
 | _=>none
section
variable {K:W.Frag} {Hs0 H0 Hs H Hs' H':Hp} {ρ:List (Option Addr)} {σ:St} {τ:List Sm}
theorem aT.push (r:aT K Hs0 H0 ρ Hs H σ τ) (h:Rp K Hs v d):aT K Hs0 H0 (none::ρ) Hs H (some v::σ) (.shr d::τ):=⟨r.ext,let ⟨fp,s⟩:=r.st; ⟨fp,.shr h s⟩⟩
theorem aT.pop (r:aT K Hs0 H0 (p::ρ) Hs H (v::σ) (s::τ)):aT K Hs0 H0 ρ Hs H σ τ:=⟨r.ext,by
 obtain ⟨fp,s⟩:=r.st
 cases s with
 | no r=>exact ⟨_,r⟩
 | shr h r=>exact ⟨_,r⟩
 | mu h hp z j r=>exact ⟨_,r⟩⟩
theorem aT.old (r:aT K Hs0 H0 ρ Hs H σ τ) (h:H p=none):H0 p=none:=r.ext.hh.free h
theorem StM.new (h:StM K H0 Hs H ρ σ τ fp) (hp:H p=none):p ∉ fp:=λ q=>(h.live p q).2.1 hp
theorem LM {i:Nat} {d:D} {fp:List Addr} (h:StM K H0 Hs H ρ σ τ fp) (e:τ[i]?=some (.shr d)):∃ v,σ[i]?=some (some v)/\Rp K Hs v d:=h.er.get (by rw [List.getElem?_map,e]; rfl)
theorem Jb (h:Rps K Hs vs ds):∃ ts:List Kd,(ts.map Kd.kv).map (·.2)=vs/\ts.map Kd.km=ds.map (λ d=>((.inl 0:Key),Mt.s d))/\ts.flatMap Kd.fp=[]/\∀ H,∀ c ∈ ts,Od K Hs H c.fp c.v c.m:=by
 induction ds generalizing vs with
 | nil=>cases h; exact ⟨[],rfl,rfl,rfl,λ _ c hc=>by cases hc⟩
 | cons d ds ih =>
  cases h with
  | @cons x _ _ _ h r =>
   obtain ⟨ts,h1,h2,h3,h4⟩:=ih r;refine ⟨⟨.inl 0,x,.s d,[]⟩::ts,by rw [Zg,Zg,h1],by rw [Zg,Zg,h2],by rw [Z9,h3]; rfl,λ H c hc=>?_⟩;rcases Zh.mp hc with rfl | hc
   · exact .s h
   · exact h4 H c hc
theorem Od.lst (h:H a=some (.lst vs)) (n:Hs a=none) (r:Rps K Hs vs ds):Od K Hs H [a] (.ref a) (lM ds):=by
 obtain ⟨ts,h1,h2,h3,h4⟩:=Jb r;have:=Od.n (K:=K) (Hs:=Hs) (H:=H) (a:=a) (dx:=0) (t:=.l) (ts:=ts) (u:=.lst vs) h (by rw [<- h1]; exact .l _) n trivial (by rw [h3]; simp) (h4 H);rw [h2,h3] at this;exact this
theorem aT.Aj (r:aT K Hs0 H0 ρ Hs H σ τ) (g:bz H H') (h:Od K Hs H' fq v m) (z:∀ c ∈ fq,H c=none):aT K Hs0 H0 (none::ρ) Hs H' (some v::σ) (.mu false m::τ):=by
 obtain ⟨fp,s⟩:=r.st;exact ⟨(r.grow g).ext,fq++fp,.mu h (λ e=>by cases e) (λ c hc=>r.old (z c hc)) (λ c hc=>s.new (z c hc)) (s.ext ⟨.refl _,r.ext.sh.trans g,g,λ _ h _=>h⟩)⟩
theorem aT.into (r:aT K Hs0 H0 (none::ρ) Hs H (some v::σ) (s::τ)) (hf:i < τ.length) (hs:(toM s).isSome=true):aT K Hs0 H0 ρ Hs H (σ.set i (some v)) (τ.set i s):=⟨r.ext,by
 obtain ⟨fp,st⟩:=r.st
 cases st with
 | no r=>cases hs
 | shr h s=>obtain ⟨fp',h1,_⟩:=s.qI (i:=i) h; exact ⟨fp',h1⟩
 | @mu p v b m ρ σ τ fq fp h hp z j s =>
  cases b with
  | true=>cases hs
  | false=>obtain ⟨fp',h1,_⟩:=s.setM (i:=i) h (λ c hc=>⟨z c hc,j c hc⟩) hf; exact ⟨fp',h1⟩⟩
theorem lI {ts' ts:List Kd} (h:ts'.Sublist ts):(ts'.flatMap Kd.fp).Sublist (ts.flatMap Kd.fp):=by
 induction h with
 | slnil=>exact .slnil
 | cons a _ ih=>rw [Z9]; exact ih.trans (List.sublist_append_right _ _)
 | cons_cons a _ ih=>rw [Z9,Z9]; exact (List.Sublist.refl _).append ih
theorem StM.node {i:Nat} {q:List Stp} {t:Tg} {cs:List (Key×Mt)} {rt v1:V} {fp:List Addr} (rx:Ext Hs0 H0 Hs H) (st:StM K H0 Hs H ρ σ τ fp) (hg:aP τ i q=some (.n t cs)) (hi:σ[i]?=some (some rt)) (hv:vAt H rt q=some v1) :
  ∃ a dx ts u,v1=.ref a/\cs=ts.map Kd.km/\H a=some u/\Lay t dx (ts.map Kd.kv) u/\KU t ts/\Hs a=none/\H0 a=none /\
  (∀ fq l1 (k:Kd) l2 u',(l1++l2).Sublist ts->k.fp=fq->Od K Hs H fq k.v k.m->(∀ c ∈ fq,H0 c=none/\c ∉ fp)->Lay t dx ((l1++k::l2).map Kd.kv) u'->KU t (l1++k::l2)->aT K Hs0 H0 ρ Hs (upd H a u') σ (b9 τ i q (.n t ((l1++k::l2).map Kd.km)))) /\
  (∀ ts' u',ts'.Sublist ts->Lay t dx (ts'.map Kd.kv) u'->KU t ts'->aT K Hs0 H0 ρ Hs (upd H a u') σ (b9 τ i q (.n t (ts'.map Kd.km)))):=by
 unfold aP at hg;split at hg
 ·rename_i b m em
  obtain ⟨v,fp1,v1',w1,w2,w3,w4,w5⟩:=st.nP em hg;rw [hi] at w1;cases w1;rw [hv] at w2;cases w2;obtain ⟨a,dx,ts,u,rfl,rfl,rfl,ha,hl,nh,ku,nd,rr⟩:=w3.inv;have afp:a ∈ fp:=w4 a (Ze ..);have h0:=(st.live a afp).2.2;have ep:∀ m2,b9 τ i q m2=τ.set i (.mu b (m.put q m2)):=λ m2=>by unfold b9; rw [em]
  have ex:∀ u',Ext Hs0 H0 Hs (upd H a u'):=λ u'=>by
   refine ⟨rx.ss,λ c o e=>?_,λ c o e=>?_,rx.fr⟩
   · rw [ai (λ z=>by rw [z,nh] at e; cases e)]; exact rx.sh c o e
   · rw [ai (λ z=>by rw [z,h0] at e; cases e)]; exact rx.hh c o e
  have nd1:=Zt.mp nd;refine ⟨a,dx,ts,u,rfl,rfl,ha,hl,ku,nh,h0,λ fq l1 k l2 u' hsub hk hod hz hl' ku'=>?_,λ ts' u' hsub hl' ku'=>?_⟩
  ·subst hk
   have zz:=hz;have sf:=lI hsub;rw [Yk] at sf;have nd2:=nd1.2.sublist sf;rw [Ye] at nd2;have inl:∀ c,c ∈ l1.flatMap Kd.fp\/c ∈ l2.flatMap Kd.fp->c ∈ fp:=λ c hc=>w4 c (Zc _ (sf.subset (Zi.mpr hc)))
   have nda:(a::(l1.flatMap Kd.fp++(k.fp++l2.flatMap Kd.fp))).Nodup:=kW (λ z=>nd1.1 (sf.subset (Zk _ z))) (λ z=>(zz a z).2 afp) (λ z=>nd1.1 (sf.subset (Zd _ z))) hod.nd (λ c hc=>⟨λ z=>(zz c hc).2 (inl c (.inl z)),λ z=>(zz c hc).2 (inl c (.inr z))⟩) nd2.1 nd2.2.1 λ c hc z=>nd2.2.2 c hc c z rfl
   have nda':(a::(l1++k::l2).flatMap Kd.fp).Nodup:=by rw [Yk,Z9]; exact nda
   have od:Od K Hs (upd H a u') (a::(l1++k::l2).flatMap Kd.fp) (.ref a) (.n t ((l1++k::l2).map Kd.km)):=by
    refine .n ao hl' nh ku' nda' λ c hc=>?_
    have off:∀ fp',Od K Hs H fp' c.v c.m->a ∉ fp'->Od K Hs (upd H a u') fp' c.v c.m:=λ fp' o n=>o.mv (.refl _) λ x hx=>⟨(o.live x hx).1,ai λ z=>n (z ▸ hx)⟩
    have na:a ∉ c.fp:=λ z=>(Zt.mp nda').1 (Yi.mpr ⟨c,hc,z⟩)
    rcases Zi.mp hc with hc | hc
    · exact off _ (rr c (hsub.subset (Zk _ hc))) na
    ·rcases Zh.mp hc with rfl | hc
     · exact off _ hod na
     · exact off _ (rr c (hsub.subset (Zd _ hc))) na
   obtain ⟨fp',s',_⟩:=w5 Hs (upd H a u') _ _ (.refl _) (λ c hc hn=>⟨(st.live c hc).1,ai λ z=>hn (by rw [z]; exact Ze ..)⟩) od λ c hc=>by
    rcases Zh.mp hc with rfl | hc
    · exact .inl (Ze ..)
    ·rw [Yk,Z9,Zi,Zi] at hc
     rcases hc with hc | hc | hc
     · exact .inl (Zc _ (sf.subset (Zk _ hc)))
     · exact .inr ⟨(zz c hc).2,(zz c hc).1⟩
     · exact .inl (Zc _ (sf.subset (Zd _ hc)))
   exact ⟨ex u',fp',by rw [ep]; exact s'⟩
  ·have sf:=lI hsub
   have nda':(a::ts'.flatMap Kd.fp).Nodup:=Zt.mpr ⟨λ z=>nd1.1 (sf.subset z),nd1.2.sublist sf⟩
   have od:Od K Hs (upd H a u') (a::ts'.flatMap Kd.fp) (.ref a) (.n t (ts'.map Kd.km)):=by
    refine .n ao hl' nh ku' nda' λ c hc=>?_
    have o:=rr c (hsub.subset hc);exact o.mv (.refl _) λ x hx=>⟨(o.live x hx).1,ai λ z=>(Zt.mp nda').1 (Yi.mpr ⟨c,hc,z ▸ hx⟩)⟩
   obtain ⟨fp',s',_⟩:=w5 Hs (upd H a u') _ _ (.refl _) (λ c hc hn=>⟨(st.live c hc).1,ai λ z=>hn (by rw [z]; exact Ze ..)⟩) od λ c hc=>by
    rcases Zh.mp hc with rfl | hc
    · exact .inl (Ze ..)
    · exact .inl (Zc _ (sf.subset hc))
   exact ⟨ex u',fp',by rw [ep]; exact s'⟩
 · cases hg
theorem aT.uE (r:aT K Hs0 H0 (none::ρ) Hs H (some v::σ) (s::τ)) (hs:toM s=some mv) (hg:aP τ i q=some (.n t cs)) (hi:σ[i]?=some (some rt)) (hv:vAt H rt q=some v1) :
  ∃ a dx ts u fv,v1=.ref a/\cs=ts.map Kd.km/\H a=some u/\Lay t dx (ts.map Kd.kv) u/\KU t ts /\
  ∀ l1 kk l2 u',(l1++l2).Sublist ts->Lay t dx ((l1++⟨kk,v,mv,fv⟩::l2).map Kd.kv) u'->KU t (l1++⟨kk,v,mv,fv⟩::l2)->aT K Hs0 H0 ρ Hs (upd H a u') σ (b9 τ i q (.n t ((l1++⟨kk,v,mv,fv⟩::l2).map Kd.km))):=by
 obtain ⟨fp0,st⟩:=r.st
 cases st with
 | no st=>cases hs
 | shr h st =>
  cases hs;obtain ⟨a,dx,ts,u,h1,h2,h3,h4,h5,h6,h7,h8,_⟩:=StM.node r.ext st hg hi hv;exact ⟨a,dx,ts,u,[],h1,h2,h3,h4,h5,λ l1 kk l2 u' e1 e2 e3=>h8 [] l1 ⟨kk,v,_,[]⟩ l2 u' e1 rfl (.s h) (λ c hc=>by cases hc) e2 e3⟩
 | @mu p v b m ρ σ τ fq fp h hp z j st =>
  cases b with
  | true=>cases hs
  | false =>
   cases hs;obtain ⟨a,dx,ts,u,h1,h2,h3,h4,h5,h6,h7,h8,_⟩:=StM.node r.ext st hg hi hv;exact ⟨a,dx,ts,u,fq,h1,h2,h3,h4,h5,λ l1 kk l2 u' e1 e2 e3=>h8 fq l1 ⟨kk,v,_,fq⟩ l2 u' e1 rfl h (λ c hc=>⟨z c hc,j c hc⟩) e2 e3⟩
end
theorem cD (h:aP τ i q=some m1):∃ b m,τ[i]?=some (.mu b m)/\m.get q=some m1:=by
 unfold aP at h;split at h
 · exact ⟨_,_,‹_›,h⟩
 · cases h
theorem vc {st:Stp}:∀ (q:List Stp) {m m2:Mt},m.get (q++[st])=some m2->∃ m1,m.get q=some m1/\m1.get [st]=some m2
 | [],m,m2,h=>⟨m,by cases m <;> rfl,h⟩
 | s::q,.s d,m2,h=>by cases h
 | s :: q,.n t cs,m2,h=>by
  have h':(match t5 t cs s with | none=>none | some i=>match cs[i]? with | none=>none | some c=>Mt.get c.2 (q++[st]))=some m2:=h
  cases e1:t5 t cs s with
  | none=>rw [e1] at h'; cases h'
  | some i =>
   rw [e1] at h'
   cases e2:cs[i]? with
   | none=>simp only [e2] at h'; cases h'
   | some c =>
    simp only [e2] at h';obtain ⟨m1,h1,h2⟩:=vc q h';refine ⟨m1,?_,h2⟩;show (match t5 t cs s with | none=>none | some i=>match cs[i]? with | none=>none | some c=>Mt.get c.2 q)=some m1;simp only [e1,e2];exact h1
theorem lG {H:Hp} {st:Stp}:∀ (q:List Stp) {v v1:V},vAt H v q=some v1->vAt H v (q++[st])=vAt H v1 [st]
 | [],v,v1,h=>by
  have e:v=v1:=by cases v <;> exact Zj h
  rw [e]; rfl
 | .k k::q,v,v1,h=>by
  cases v with
  | ref a =>
   have h':(match H a with | some (.ins _ _ fs)=>(b7 (fs.map λ (f:Str×V)=>((Sum.inr f.1:Key),f.2)) k).bind λ v=>vAt H v q | some (.dK kvs)=>(b7 kvs k).bind λ v=>vAt H v q | _=>none)=some v1:=h;show (match H a with | some (.ins _ _ fs)=>(b7 (fs.map λ (f:Str×V)=>((Sum.inr f.1:Key),f.2)) k).bind λ v=>vAt H v (q++[st]) | some (.dK kvs)=>(b7 kvs k).bind λ v=>vAt H v (q++[st]) | _=>none)=_;split at h'
   ·obtain ⟨w,h1,h2⟩:=bind_some h'
    rw [h1]; exact lG q h2
   ·obtain ⟨w,h1,h2⟩:=bind_some h'
    rw [h1]; exact lG q h2
   · cases h'
  | _=>cases h
 | .i n::q,v,v1,h=>by
  cases v with
  | ref a =>
   have h':(match H a with | some (.lst xs)=>(xs[n]?).bind λ v=>vAt H v q | _=>none)=some v1:=h;show (match H a with | some (.lst xs)=>(xs[n]?).bind λ v=>vAt H v (q++[st]) | _=>none)=_;split at h'
   ·obtain ⟨w,h1,h2⟩:=bind_some h'
    rw [h1]; exact lG q h2
   · cases h'
  | _=>cases h
theorem bf (g:bz H H'):∀ (q:List Stp) {v v1:V},vAt H v q=some v1->vAt H' v q=some v1
 | [],v,v1,h=>by cases v <;> exact h
 | .k k::q,v,v1,h=>by
  cases v with
  | ref a =>
   have h':(match H a with | some (.ins _ _ fs)=>(b7 (fs.map λ (f:Str×V)=>((Sum.inr f.1:Key),f.2)) k).bind λ v=>vAt H v q | some (.dK kvs)=>(b7 kvs k).bind λ v=>vAt H v q | _=>none)=some v1:=h;show (match H' a with | some (.ins _ _ fs)=>(b7 (fs.map λ (f:Str×V)=>((Sum.inr f.1:Key),f.2)) k).bind λ v=>vAt H' v q | some (.dK kvs)=>(b7 kvs k).bind λ v=>vAt H' v q | _=>none)=_;split at h'
   ·rename_i e
    obtain ⟨w,h1,h2⟩:=bind_some h';simp only [g _ _ e];rw [h1]; exact bf g q h2
   ·rename_i e
    obtain ⟨w,h1,h2⟩:=bind_some h';simp only [g _ _ e];rw [h1]; exact bf g q h2
   · cases h'
  | _=>cases h
 | .i n::q,v,v1,h=>by
  cases v with
  | ref a =>
   have h':(match H a with | some (.lst xs)=>(xs[n]?).bind λ v=>vAt H v q | _=>none)=some v1:=h;show (match H' a with | some (.lst xs)=>(xs[n]?).bind λ v=>vAt H' v q | _=>none)=_;split at h'
   ·rename_i e
    obtain ⟨w,h1,h2⟩:=bind_some h';simp only [g _ _ e];rw [h1]; exact bf g q h2
   · cases h'
  | _=>cases h
theorem lF:∀ (fs:List (Str×V)),b7 (fs.map λ f=>((Sum.inr f.1:Key),f.2)) (.inr x)=fs.lookup x
 | []=>rfl
 | (y,v)::fs=>by
  rw [Zg,List.lookup_cons]
  by_cases h:y=x
  · rw [bK (by rw [h]),h]; simp
  ·rw [bL (λ z=>h (by injection z)),lF fs]
   have:(x == y)=false:=by simpa using λ z=>h z.symm
   rw [this]
def bS (i:Nat):DPx:=λ _=>some (i,[])
def gm (C:Addr) (x:Str) (f:DPx):DPx:=λ τ=>(f τ).bind λ p=>match aP τ p.1 p.2 with
 | some (.n (.o C') _)=>if C'=C then some (p.1,p.2++[.k (.inr x)]) else none
 | _=>none
def qL (f:DPx) (g:DE):DPx:=λ τ=>(f τ).bind λ p=>(g (aL τ)).bind λ d=>(dQ d).bind λ k=>match aP τ p.1 p.2 with
 | some (.n .d _)=>some (p.1,p.2++[.k k])
 | _=>none
section
variable {K:W.Frag} {Hs0 H0 Hs H Hs' H':Hp} {ρ:List (Option Addr)} {σ:St} {τ:List Sm}
theorem aT.child {i:Nat} {q:List Stp} {st:Stp} {t:Tg} {cs:List (Key×Mt)} {m2:Mt} {rt v1:V} (r:aT K Hs0 H0 ρ Hs H σ τ) (hg:aP τ i q=some (.n t cs)) (hg2:aP τ i (q++[st])=some m2) (hi:σ[i]?=some (some rt)) (hv:vAt H rt q=some v1) :
  ∃ (a dx:Addr) (ts:List Kd) (u:HO) (w:V),v1=.ref a/\cs=ts.map Kd.km/\H a=some u/\Lay t dx (ts.map Kd.kv) u/\vAt H rt (q++[st])=some w/\vAt H (.ref a) [st]=some w:=by
 obtain ⟨fp,s⟩:=r.st;obtain ⟨a,dx,ts,u,rfl,rfl,ha,hl,_⟩:=StM.node r.ext s hg hi hv;obtain ⟨b,m,e1,e2⟩:=cD hg2;obtain ⟨m1,e3,e4⟩:=vc q e2;have e5:aP τ i q=m.get q:=by unfold aP; rw [e1]
 rw [e5,e3] at hg;cases hg;have e':(match t5 t (ts.map Kd.km) st with | none=>none | some i=>match (ts.map Kd.km)[i]? with | none=>none | some c=>Mt.get c.2 [])=some m2:=e4
 cases e6:t5 t (ts.map Kd.km) st with
 | none=>rw [e6] at e'; cases e'
 | some j =>
  rw [e6] at e'
  cases e7:(ts.map Kd.km)[j]? with
  | none=>simp only [e7] at e'; cases e'
  | some c =>
   obtain ⟨t1,k,t2,_,_,_,q4⟩:=qo ha hl e6 e7;have w:vAt H (.ref a) [st]=some k.v:=by rw [q4]; cases k.v <;> rfl
   exact ⟨a,dx,ts,u,k.v,rfl,rfl,ha,hl,by rw [lG q hv]; exact w,w⟩
end
section
variable {X:Cx} {a b c e o:Expr} {es:List Expr} {pos apos cpos pos':Pos} {x:Str}
theorem PVm.em (h:PVm X e f):PEm X e f:=PE.imp h λ σ H Q ⟨Hs0,H0,nf,ρ,Hs,τ,s,τ',r,e,k⟩=>⟨Hs0,H0,nf,ρ,Hs,τ,s,τ',r,e,λ v Hs' H' _ r'=>k v Hs' H' r'⟩
theorem Lg (h:PEd X e g):PVm X e (eS g):=PE.imp h λ σ H Q ⟨Hs0,H0,nf,ρ,Hs,τ,s,τ',r,e,k⟩=>by
 obtain ⟨d,e1,e2⟩:=bind_some e;split at e2
 ·rename_i hs
  cases e2;obtain ⟨fp,st⟩:=r.st;exact ⟨H,H,aL τ,[],d,st.aL r.sm,.refl H,e1,λ v Hs' H' g1 rv=>k v Hs H' g1.hh ((r.grow g1.hh).push (kP rv hs))⟩
 · cases e2
theorem Le (h:PEd X e g):PVm X e (eN g):=PE.imp h λ σ H Q ⟨Hs0,H0,nf,ρ,Hs,τ,s,τ',r,e,k⟩=>by
 obtain ⟨d,e1,e2⟩:=Zm e;cases e2;obtain ⟨fp,st⟩:=r.st;exact ⟨H0,Hs,er τ,[],d,st.er,r.sm,e1,λ v Hs' H' g1 rv=>k v Hs' H' g1.hh ((r.ext' g1).push rv)⟩
theorem Ld (h:PEo X e g):PVm X e (eO g):=PE.imp h λ σ H Q ⟨Hs0,H0,nf,ρ,Hs,τ,s,τ',r,e,k⟩=>by
 obtain ⟨d,e1,e2⟩:=bind_some e;split at e2
 ·split at e2
  ·rename_i hs
   cases e2;obtain ⟨fp,st⟩:=r.st;refine ⟨H,H,aL τ,[],_,st.aL r.sm,.refl H,e1,λ a Hs' H' g1 ow hn=>?_⟩
   cases ow with
   | lst h n rr=>exact k _ Hs H' g1.hh (r.Aj g1.hh (Od.lst h (r.sm.free hn) (iA rr hs)) λ c hc=>by rw [Zn.mp hc]; exact hn)
  · cases e2
 · cases e2
theorem Lb (i:Nat) (hN:X.N[i]?=some x:=by rfl) (hv:Vis X.env.scope x:=by first | exact Or.inl rfl | exact Or.inr (Or.inl rfl) | exact Or.inr (Or.inr rfl)) (hd:(x == ("__debug__":Str))=false:=by decide) (hcd:(x == ("__classdict__":Str))=false:=by decide):PVm X (.Name x p) (eV i) :=
 (cI hN hv hd hcd).imp λ σ H Q ⟨Hs0,H0,nf,ρ,Hs,τ,s,τ',r,e,k⟩=>by
   obtain ⟨fp,st⟩:=r.st;unfold eV at e;split at e
   ·rename_i m em
    cases e;obtain ⟨v,fq,fp',h1,h2,h3,h4,h5⟩:=st.out em;exact ⟨v,h1,k v Hs H (.refl H) ⟨r.ext,fq++fp',.mu h2 (λ e=>by cases e) (λ c hc=>(st.live c (h4 c hc).2).2.2) (λ c hc=>(h4 c hc).1) h3⟩⟩
   ·rename_i d ed
    cases e;obtain ⟨v,h1,h2⟩:=LM st ed;exact ⟨v,h1,k v Hs H (.refl H) (r.push h2)⟩
   · cases e
theorem Dv (i:Nat) (hN:X.N[i]?=some x:=by rfl) (hv:Vis X.env.scope x:=by first | exact Or.inl rfl | exact Or.inr (Or.inl rfl) | exact Or.inr (Or.inr rfl)) (hd:(x == ("__debug__":Str))=false:=by decide) (hcd:(x == ("__classdict__":Str))=false:=by decide):PXm X (.Name x p) (bS i) :=
 (cI hN hv hd hcd).imp λ σ H Q ⟨Hs0,H0,nf,ρ,Hs,τ,i',q,m,r,e,eg,k⟩=>by
   cases e;obtain ⟨b,m',e3,e4⟩:=cD eg;obtain ⟨fp,st⟩:=r.st;obtain ⟨v,fp1,v1,w1,w2,_⟩:=st.nP e3 e4;exact ⟨v,w1,k v v H (.refl H) w1 (by cases v <;> rfl)⟩
theorem Dx {C:Addr} {f:DPx} (cl:Cls X.K C) (n:cu X.K C x) (he:PXm X e f) (hb:attributeBase e x X.env (eval e X.env)=eval e X.env:=by rfl):PXm X (.Attribute e x pos) (gm C x f) :=
 (ui he hb).imp λ σ H Q ⟨Hs0,H0,nf,ρ,Hs,τ,i',q',m,r,e,eg,k⟩=>by
   obtain ⟨⟨i,q⟩,e1,e2⟩:=bind_some e;split at e2
   ·rename_i C' cs en
    split at e2
    ·rename_i hc
     subst hc;cases e2;refine ⟨Hs0,H0,nf,ρ,Hs,τ,i,q,_,r,e1,en,λ v v1 H' g hv hq=>?_⟩;obtain ⟨a,dx,ts,u,w,rfl,rfl,ha,hl,w1,w2⟩:=(r.grow g).child en eg hv hq;generalize ek:ts.map Kd.kv=kvs at hl
     cases hl with
     | o fs =>
      have w3:((b7 (fs.map λ f=>((Sum.inr f.1:Key),f.2)) (.inr x)).bind λ v=>vAt H' v [])=some w:=by
       have:=w2;simp only [vAt,ha] at this;exact this
      obtain ⟨y,h1,h2⟩:=bind_some w3;have ey:y=w:=by cases y <;> exact Zj h2
      subst ey;rw [lF] at h1;exact ⟨a,C',dx,fs,y,rfl,ha,cl,n,h1,k v y H' g hv w1⟩
    · cases e2
   · cases e2
theorem Dw {f:DPx} {g:DE} (hu:X.A.units+1 < cLine) (he:PXm X a f) (hk:PEd X b g) (hs:CK b):PXm X (.Subscript a b pos) (qL f g) :=
 (uj hu he hk hs).imp λ σ H Q ⟨Hs0,H0,nf,ρ,Hs,τ,i',q',m,r,e,eg,k⟩=>by
   obtain ⟨⟨i,q⟩,e1,e2⟩:=bind_some e;obtain ⟨d,e3,e4⟩:=bind_some e2;obtain ⟨ky,e5,e6⟩:=bind_some e4;split at e6
   ·rename_i cs en
    cases e6;refine ⟨Hs0,H0,nf,ρ,Hs,τ,i,q,_,r,e1,en,λ v v1 H1 g1 hv hq=>?_⟩;have r1:=r.grow g1;obtain ⟨fp,st⟩:=r1.st;refine ⟨H1,H1,aL τ,[],d,st.aL r1.sm,.refl H1,e3,λ y Hs2 H2 g2 ry=>?_⟩;have hy:=gW ry e5;subst hy;obtain ⟨a,dx,ts,u,w,rfl,rfl,ha,hl,w1,w2⟩:=(r1.grow g2.hh).child en eg hv (bf g2.hh q hq);generalize ek:ts.map Kd.kv=kvs at hl
    cases hl with
    | d _ =>
     have w3:((b7 kvs ky).bind λ v=>vAt H2 v [])=some w:=by
      have:=w2;simp only [vAt,ha] at this;exact this
     obtain ⟨y,h1,h2⟩:=bind_some w3;have ey:y=w:=by cases y <;> exact Zj h2
     subst ey;exact ⟨a,y,rfl,by rw [<- h1]; exact so.k ha,k v y H2 (g1.trans g2.hh) hv w1⟩
   · cases e6
end
section
variable {X:Cx}
theorem lS:∀ {ns:List Int} {us:List Value},be (ns.map V.int) us->IntsAre us ns
 | [],_,.nil=>.nil
 | n::ns,_,.cons r t=>by
  obtain ⟨tk,rfl⟩:=r;exact .cons n tk (lS t)
theorem xV:MtR X "list.index" (λ x xs H Q=>∃ (p:Addr) (ns:List Int) (k:Int),x=.ref p/\xs=[.int k]/\SqL X.K H p (ns.map V.int)/\ns.length<=1000/\k ∈ ns/\Q (.int (ns.idxOf k:Nat)) H):=by
 intro pins s σ H x xs v us Q I rx rv h;obtain ⟨p,ns,k,rfl,rfl,hL,hz,hk,q⟩:=h;obtain ⟨u,rfl,tu,rfl⟩:=vals1 rv;cases (show v=Value.ref p from rx);obtain ⟨its,rw,pl,_⟩:=I.list hL;have hi:=lS rw;have hl:=hi.length;have hj:ns.idxOf k < ns.length:=List.idxOf_lt_length_iff.mpr hk;obtain ⟨⟨c,d,da,sl⟩,ho,hc,n,hd⟩:=pl.isList;cases hc;cases hd
 refine Xo PySem.F.slot_list_index ⟨_,ho,rfl⟩ PySem.F.entry_list_index (PySem.F.args_list_index_2 _ _) (PySem.SeqAt.list_indexAt p its.toArray n d sl (.int k tu) (isInt k) (ns.idxOf k) (by simpa [hl] using hj) (by omega) ?_ λ j h1 h2=>?_)
  ⟨ho,λ y hy=>(eq_isInt k tu hi y (by simpa using hy)).at _ _,.int _,H,I.kept (t':=s.toks+1) (λ _ _ e=>e),⟨_,rfl⟩,q⟩
 ·show isInt k its[ns.idxOf k]=true
  rw [isInt_at k hi _ (by omega) hj]
  simpa using List.getElem_idxOf hj
 ·have h1':j < its.length:=by simpa using h1
  show isInt k its[j]=false;rw [isInt_at k hi j h1' (by omega)];exact ne_of_lt_idxOf h2 _
def Hu:D->D->Option D
 | .lst ds,.int k=>(cL ds).bind λ ns=>if ns.length<=1000/\k ∈ ns then some (.int (ns.idxOf k:Nat)) else none
 | _,_=>none
variable {o e:Expr} {f g:DE} {apos cpos:Pos}
theorem D5 (ho:PEd X o f) (he:PEd X e g) (hbase:attributeBase o "index" X.env (eval o X.env)=eval o X.env:=by rfl)
   (hfew:((backTo cpos (starEach [e] X.env)).all (λ x=>!x.1)&&(backToKw cpos (keywordEach [] X.env)).all (λ x=>x.1.isSome)
     && decide ([e].length+([]:List Keyword).length+(if ([]:List Keyword).isEmpty then 0 else 1) < 30))=true:=by rfl)
   (hline:(apos.endLine == cpos.line)=true:=by rfl) (hst:starEach [e] X.env=(false,eval e X.env)::starEach [] X.env:=by rfl) (hplain:(backTo cpos (starEach [] X.env)).any (·.1)=false:=by rfl) :
   PEd X (.Call (.Attribute o "index" apos) [e] [] cpos) (dOp Hu f g) :=
 (oa Ym PySem.F.slot_list_index PySem.F.type_list_index xV ho (aJ he bc hst) hbase hfew hline hst hplain).imp λ σ H Q ⟨H0,Hs,τ,fp,d,st,sm,e,k⟩=>by
   obtain ⟨x,e1,e⟩:=bind_some e;obtain ⟨y,e2,e⟩:=bind_some e;refine ⟨H0,Hs,τ,fp,x,st,sm,e1,λ v Hs1 H1 g1 r1=>?_⟩
   cases r1 with
   | @lst a xs ds h r =>
     refine ⟨.inl ⟨rfl,_,.inl (.inl (g1.sh _ _ h))⟩,H0,Hs1,τ,fp,y,st.ext g1,g1.sh,e2,λ u Hs2 H2 g2 r2=>?_⟩
     cases r2 with
     | int j =>
      obtain ⟨ns,en,ei⟩:=bind_some (show (cL ds).bind _=some d from e);have ed:=gX en;subst ed;have ex:=r.eY;subst ex;split at ei
      ·rename_i hc
       have e':=Zj ei;subst e';exact ⟨a,ns,j,rfl,rfl,SqL.of (g2.sh _ _ (g2.ss _ _ h)),hc.1,hc.2,k _ Hs2 H2 (g1.trans g2) (.int _)⟩
      · cases ei
     | _=>exact nn e
   | _=>cases y <;> exact nn e
end
def Ab:V->List V->Hp->VK->Prop:=λ x vs H Q=>∃ l ns k,x=.ref l/\vs=[.int k]/\H l=some (.lst (List.map V.int ns))/\ns.length<=1000/\k ∈ ns/\Q .non (upd H l (.lst ((ns.eraseIdx (ns.idxOf k)).map V.int)))
section
variable {X:Cx}
theorem be.del:∀ {xs:List V} {us:List Value} (j:Nat),be xs us->be (xs.eraseIdx j) (us.eraseIdx j)
 | _,_,_,.nil=>.nil
 | _,_,0,.cons _ r=>r
 | _,_,j+1,.cons h r=>.cons h (be.del j r)
theorem jP {α β:Type} (f:α->β):∀ (l:List α) (j:Nat),(l.eraseIdx j).map f=(l.map f).eraseIdx j
 | [],_=>rfl
 | _::_,0=>rfl
 | x::l,j+1=>Yo (f x::·) (jP f l j)
theorem uG:MtM X "list.remove" Ab:=by
 intro pins s σ H x vs v us Q I rx rv h;obtain ⟨l,ns,k,rfl,rfl,hH,hz,hk,q⟩:=h;cases rx;obtain ⟨u,rfl,tu,rfl⟩:=vals1 rv;obtain ⟨z,its,n,r,hl,e⟩:=I.zj hH;have hi:=lS r;have hln:=hi.length;have hj:ns.idxOf k < ns.length:=List.idxOf_lt_length_iff.mpr hk
 refine Xo PySem.F.slot_list_remove ⟨_,e,rfl⟩ PySem.F.entry_list_remove (PySem.F.args_list_remove_2 _ _)
  (MeetsSeq.list_remove l its.toArray n (.int k tu) (isInt k) (λ y hy=>eq_isInt k tu hi y (by simpa using hy)) (ns.idxOf k) (by rw [Zp,hln]; exact hj) ?_ (λ m h1 h2=>?_) (by rw [Zp,hln]; exact Z8 hz (by decide))) ⟨e,?_⟩
 ·show isInt k its[ns.idxOf k]=true
  rw [isInt_at k hi _ (by omega) hj]
  simpa using List.getElem_idxOf hj
 ·have h1':m < its.length:=by simpa using h1
  show isInt k its[m]=false;rw [isInt_at k hi m h1' (by omega)];exact ne_of_lt_idxOf h2 _
 ·refine ⟨.non,_,I.Ex (its':=its.eraseIdx (ns.idxOf k)) hH e ?_ (by rw [jP]; exact be.del _ r) ?_,rfl,q⟩
  ·show its.toArray.eraseIdxIfInBounds (ns.idxOf k)=(its.eraseIdx (ns.idxOf k)).toArray
   rw [List.eraseIdxIfInBounds_toArray]
  · rw [Za]; exact Z8 (List.length_eraseIdx_le ..) (by rw [Za] at z; exact z)
end
def iV:DSm:=λ τ=>some (.next τ)
def sV:DSm:=λ _=>none
def dz (f g:DSm):DSm:=λ τ=>match f τ with
 | some (.next τ')=>g τ'
 | r=>r
def pD (t:DTm) (f g:DSm):DSm:=λ τ=>(t τ).bind λ x=>if x.1=true then f x.2 else g x.2
def gf (i:Nat) (f:DEm):DSm:=λ τ=>(f τ).bind λ x=>if i < x.2.length/\(toM x.1).isSome=true then some (.next (x.2.set i x.1)) else none
def jB (f:DEm):DSm:=λ τ=>(f τ).map λ x=>.ret x.1 x.2
def mD (f:DEm):DSm:=λ τ=>(f τ).map λ x=>.next x.2
def tS (g:DT):DTm:=λ τ=>(g (aL τ)).map λ b=>(b,τ)
def tE (f:DEm):DTm:=λ τ=>(f τ).bind λ x=>match x.1 with
 | .shr (.bl b)=>some (b,x.2)
 | _=>none
def tNt (f:DTm):DTm:=λ τ=>(f τ).map λ x=>(!x.1,x.2)
section
variable {X:Cx} {a b c e o:Expr} {es:List Expr} {pos apos cpos pos':Pos} {x:Str} {st:Stmt} {rest:List Stmt} {f g:DSm}
theorem wR:jg X [] iV:=iC.imp λ E σ H ⟨Hs0,H0,nf,ρ,Hs,τ,o,r,e,k⟩=>by
 cases e;exact k σ Hs H r
theorem wQ (h:PSm X st f):jg X [st] f:=aR h
theorem tO (h1:PSm X st f) (h2:jg X rest g):jg X (st::rest) (dz f g):=(bg h1 h2).imp λ E σ H ⟨Hs0,H0,nf,ρ,Hs,τ,o,r,e,k⟩=>by
 unfold dz at e
 cases q:f τ with
 | none=>rw [q] at e; cases e
 | some o1 =>
  rw [q] at e;refine ⟨Hs0,H0,nf,ρ,Hs,τ,o1,r,q,?_⟩
  cases o1 with
  | next τ'=>exact λ σ' Hs' H' r'=>⟨Hs0,H0,nf,ρ,Hs',τ',o,r',e,k⟩
  | ret s τ'=>cases e; exact k
  | brk τ'=>cases e; exact k
  | cnt τ'=>cases e; exact k
theorem tR:PSm X st sV:=λ _ _ _ _ _ _ ⟨_,_,_,_,_,_,_,_,e,_⟩=>by cases e
theorem DC {t:DTm} {x y:List Stmt} (hc:PTm X c t) (ha:jg X x f) (hb:jg X y g):PSm X (.If c x y pos) (pD t f g):=(mF hc ha hb).imp λ E σ H ⟨Hs0,H0,nf,ρ,Hs,τ,o,r,e,k⟩=>by
 obtain ⟨⟨bb,τ1⟩,e1,e2⟩:=bind_some e;refine ⟨Hs0,H0,nf,ρ,Hs,τ,bb,τ1,r,e1,λ Hs' H' r'=>?_⟩
 cases bb with
 | true=>exact ⟨Hs0,H0,nf,ρ,Hs',τ1,o,r',by simpa using e2,k⟩
 | false=>exact ⟨Hs0,H0,nf,ρ,Hs',τ1,o,r',by simpa using e2,k⟩
theorem Au {f:DEm} (h:PEm X e f):PSm X (.Return (some e) pos) (jB f):=(fX h).imp λ E σ H ⟨Hs0,H0,nf,ρ,Hs,τ,o,r,e,k⟩=>by
 obtain ⟨⟨s,τ1⟩,e1,rfl⟩:=Zm e;exact ⟨Hs0,H0,nf,ρ,Hs,τ,s,τ1,r,e1,λ v Hs' H' r'=>k v σ Hs' H' r'⟩
theorem As {i:Nat} {f:DEm} (hN:X.N.Nodup) (hi:X.N[i]?=some x) (hx:Loc X.env.scope x) (he:PEm X e f) (hs:swapsWith e (some (.Name x pos')) pos.line X.env=pure false:=by rfl) (hf:X.fn x=true\/X.env.scope.names.lookup x=some .local:=by first | exact .inl rfl | exact .inr rfl | assumption) :
  PSm X (.Assign [.Name x pos'] e pos) (gf i f):=(eG hN hi hx he hs hf).imp λ E σ H ⟨Hs0,H0,nf,ρ,Hs,τ,o,r,e,k⟩=>by
 obtain ⟨⟨s,τ1⟩,e1,e2⟩:=bind_some e;split at e2
 ·rename_i h
  cases e2;exact ⟨Hs0,H0,nf,ρ,Hs,τ,s,τ1,r,e1,λ v Hs' H' r'=>k _ Hs' H' (r'.into h.1 h.2)⟩
 · cases e2
theorem w6 {f:DEm} (he:PEm X e f) (hs:swapsWith e none pos.line X.env=pure false:=by rfl):PSm X (.Expr e pos) (mD f):=(bG he hs).imp λ E σ H ⟨Hs0,H0,nf,ρ,Hs,τ,o,r,e,k⟩=>by
 obtain ⟨⟨s,τ1⟩,e1,rfl⟩:=Zm e;exact ⟨Hs0,H0,nf,ρ,Hs,τ,s,τ1,r,e1,λ v Hs' H' r'=>k σ Hs' H' r'.pop⟩
def pE (g:DE):DSm:=λ τ=>(g (aL τ)).map λ _=>.next τ
theorem tU {g:DE} (he:PEd X e g) (hs:swapsWith e none pos.line X.env=pure false:=by rfl):PSm X (.Expr e pos) (pE g):=(bG he hs).imp λ E σ H ⟨Hs0,H0,nf,ρ,Hs,τ,o,r,e,k⟩=>by
 obtain ⟨d,e1,rfl⟩:=Zm e;obtain ⟨fp,st⟩:=r.st;exact ⟨H,H,aL τ,[],d,st.aL r.sm,.refl H,e1,λ v Hs' H' g1 rv=>k σ Hs H' (r.grow g1.hh)⟩
theorem GX {g:DT} (h:PTd X e g):PTm X e (tS g):=PT.imp h λ σ H Q ⟨Hs0,H0,nf,ρ,Hs,τ,b,τ',r,e,k⟩=>by
 obtain ⟨b',e1,e2⟩:=Zm e;cases e2;obtain ⟨fp,st⟩:=r.st;exact ⟨H,H,aL τ,[],b,st.aL r.sm,.refl H,e1,λ Hs' H' g1=>k Hs H' (r.grow g1.hh)⟩
theorem Ak {f:DEm} (h:PEm X e f) (he:∀ whole,isTrue e X.env whole=(do let v <- whole; standAt e.pos; holding [v] (truthy v)):=by intro _; rfl):PTm X e (tE f):=(yU h he).imp λ σ H Q ⟨Hs0,H0,nf,ρ,Hs,τ,b,τ',r,e,k⟩=>by
 obtain ⟨⟨s,τ1⟩,e1,e2⟩:=bind_some e;split at e2
 ·rename_i b' es
  cases e2;have es':s=.shr (.bl b):=es;subst es';refine ⟨Hs0,H0,nf,ρ,Hs,τ,_,τ1,r,e1,λ v Hs' H' r'=>?_⟩;have:=r'.st;obtain ⟨fp,st⟩:=this
  cases st with
  | shr h _=>cases h; exact ⟨b,rfl,k Hs' H' r'.pop⟩
 · cases e2
theorem Al {f:DTm} (h:PTm X e f):PTm X (.UnaryOp .Not e pos) (tNt f):=(yV h).imp λ σ H Q ⟨Hs0,H0,nf,ρ,Hs,τ,b,τ',r,e,k⟩=>by
 obtain ⟨⟨b',τ1⟩,e1,e2⟩:=Zm e;cases e2;exact ⟨Hs0,H0,nf,ρ,Hs,τ,b',_,r,e1,λ Hs' H' r'=>k Hs' H' r'⟩
def fU (cs:List (Key×Mt)) (k:Key) (m:Mt):List (Key×Mt):=if cs.any (λ c=>decide (c.1=k)) then cs.map (λ c=>if c.1=k then (c.1,m) else c) else cs++[(k,m)]
def dB (cs:List (Key×Mt)) (k:Key):List (Key×Mt):=cs.filter λ c=>decide (c.1≠k)
theorem jD (k:Key) (nd:(ts.map Kd.k).Nodup):∃ l1 l2,(l1++l2).Sublist ts/\∀ n:Kd,n.k=k->(l1++n::l2).map Kd.kv=putK (ts.map Kd.kv) k n.v/\(l1++n::l2).map Kd.km=fU (ts.map Kd.km) k n.m/\((l1++n::l2).map Kd.k).Nodup:=by
 have ea:∀ {α:Type} (g:Kd->α),k ∈ ts.map Kd.k->((ts.map λ t=>(t.k,g t)).any λ c=>decide (c.1=k))=true:=λ g h=>by
  rw [List.any_map,List.any_eq_true];obtain ⟨t,ht,rfl⟩:=Z5.mp h;exact ⟨t,ht,by simp⟩
 have en:∀ {α:Type} (g:Kd->α),k ∉ ts.map Kd.k->((ts.map λ t=>(t.k,g t)).any λ c=>decide (c.1=k))=false:=λ g h=>by
  rw [List.any_map,List.any_eq_false];exact λ t ht z=>h (Z5.mpr ⟨t,ht,by simpa using z⟩)
 by_cases h:k ∈ ts.map Kd.k
 ·obtain ⟨t,ht,et⟩:=Z5.mp h
  obtain ⟨l1,l2,rfl⟩:=List.append_of_mem ht;have nd':=nd;rw [Zo,Zg,Ye,Zt] at nd';have n1:∀ c ∈ l1,c.k≠k:=λ c hc z=>nd'.2.2 c.k (Yb hc) t.k (Ze ..) (by rw [z,et])
  have n2:∀ c ∈ l2,c.k≠k:=λ c hc z=>nd'.2.1.1 (by rw [et,<- z]; exact Yb hc)
  refine ⟨l1,l2,List.Sublist.append (.refl _) (List.sublist_cons_self ..),λ n hn=>⟨?_,?_,?_⟩⟩
  ·unfold putK
   rw [show ((l1++t::l2).map Kd.kv).any (λ kv=>decide (kv.1=k))=_ from ea Kd.v h,if_pos rfl,Zy,Zo,Zo,Zg,Zg];congr 1
   · exact Z0 λ c hc=>(if_neg (n1 c hc)).symm
   ·rw [show ((λ kv=>if kv.1=k then (kv.1,n.v) else kv) ∘ Kd.kv) t=(t.k,n.v) from if_pos et,et,<- hn]
    congr 1;exact Z0 λ c hc=>(if_neg (hn.symm ▸ n2 c hc)).symm
  ·unfold fU
   rw [show ((l1++t::l2).map Kd.km).any (λ kv=>decide (kv.1=k))=_ from ea Kd.m h,if_pos rfl,Zy,Zo,Zo,Zg,Zg];congr 1
   · exact Z0 λ c hc=>(if_neg (n1 c hc)).symm
   ·rw [show ((λ c=>if c.1=k then (c.1,n.m) else c) ∘ Kd.km) t=(t.k,n.m) from if_pos et,et,<- hn]
    congr 1;exact Z0 λ c hc=>(if_neg (hn.symm ▸ n2 c hc)).symm
  ·rw [Zo,Zg,hn,<- et,<- Zg,<- Zo]
   exact nd
 ·refine ⟨ts,[],by rw [Zw]; exact .refl _,λ n hn=>⟨?_,?_,?_⟩⟩
  ·unfold putK
   rw [show (ts.map Kd.kv).any (λ kv=>decide (kv.1=k))=_ from en Kd.v h,if_neg (by simp),Zo,<- hn];rfl
  ·unfold fU
   rw [show (ts.map Kd.km).any (λ kv=>decide (kv.1=k))=_ from en Kd.m h,if_neg (by simp),Zo,<- hn];rfl
  ·rw [Zo,Zg,Ye,hn]
   exact ⟨nd,by simp,λ c hc c' hc' z=>h (by rw [<- Zn.mp hc',<- z]; exact hc)⟩
theorem pI:∀ {fs:List (Str×V)},(fs.map Prod.fst).Nodup->(kF x v fs).map (λ f=>((Sum.inr f.1:Key),f.2))=putK (fs.map λ f=>((Sum.inr f.1:Key),f.2)) (.inr x) v
 | [],_=>rfl
 | (y,w)::fs,nd=>by
  rw [Zg,Zt] at nd
  by_cases h:y=x
  ·subst h
   rw [show kF y v ((y,w)::fs)=(y,v)::fs from if_pos rfl];unfold putK;rw [show ((((y,w)::fs).map λ f=>((Sum.inr f.1:Key),f.2)).any λ kv=>decide (kv.1=Sum.inr y))=true from by simp,if_pos rfl,Zg,Zg,Zg,Zy];congr 1
   · simp
   · exact Z0 λ c hc=>(if_neg (λ z=>nd.1 (by injection z with z; exact Z5.mpr ⟨c,hc,z⟩))).symm
  ·rw [show kF x v ((y,w)::fs)=(y,w)::kF x v fs from if_neg h,Zg,pI nd.2]
   unfold putK;rw [Zg,Xb,show decide ((Sum.inr y:Key)=Sum.inr x)=false from Zq (λ z=>h (by injection z)),Bool.false_or];split
   · rw [Zg,if_neg (λ z=>h (by injection z))]
   · rfl
def cA (px:DPx) (gk:DE) (fv:DEm):DSm:=λ τ=>(fv τ).bind λ x=>(px x.2).bind λ p=>(gk (aL x.2)).bind λ d=>(dQ d).bind λ k=>(toM x.1).bind λ mv=>match aP x.2 p.1 p.2 with
 | some (.n .d cs)=>if cs.length < 100000 then some (.next (b9 x.2 p.1 p.2 (.n .d (fU cs k mv)))) else none
 | _=>none
theorem w9 (hu:X.A.units+1 < cLine) (ho:PXm X o px) (hi:PEd X i gk) (hv:PEm X value fv) (hs:swapsWith value (some (.Subscript o i pos')) pos.line X.env=pure false:=by rfl) :
  PSm X (.Assign [.Subscript o i pos'] value pos) (cA px gk fv):=(nV hu ho hi hv hs).imp λ E σ H ⟨Hs0,H0,nf,ρ,Hs,τ,o,r,e,k⟩=>by
 obtain ⟨⟨s,τ1⟩,e1,e⟩:=bind_some e;obtain ⟨⟨i,q⟩,e2,e⟩:=bind_some e;obtain ⟨d,e3,e⟩:=bind_some e;obtain ⟨ky,e4,e⟩:=bind_some e;obtain ⟨mv,e5,e⟩:=bind_some e;split at e
 ·rename_i cs en
  split at e
  ·rename_i hz
   cases e;refine ⟨Hs0,H0,nf,ρ,Hs,τ,s,τ1,r,e1,λ v Hs1 H1 r1=>?_⟩;refine ⟨Hs0,H0,nf,ρ,Hs1,τ1,i,q,_,r1.pop,e2,en,λ rt v1 H2 g2 hrt hq=>?_⟩;have r2:=r1.grow g2;obtain ⟨fp,st⟩:=r2.pop.st;refine ⟨H2,H2,aL τ1,[],d,st.aL r2.sm,.refl H2,e3,λ y Hs3 H3 g3 ry=>?_⟩;have hy:=gW ry e4;subst hy;obtain ⟨a,dx,ts,u,fv,rfl,rfl,ha,hl,ku,fin⟩:=(r2.grow g3.hh).uE e5 en hrt (bf g3.hh q hq);obtain ⟨l1,l2,hsub,spl⟩:=jD ky ku;obtain ⟨p1,p2,p3⟩:=spl ⟨ky,v,mv,fv⟩ rfl;generalize ek:ts.map Kd.kv=kvs at hl
   cases hl with
   | d _ =>
    refine ⟨a,_,rfl,Cw.k ha (by rw [<- ek,Za,<- Za (f:=Kd.km)]; exact le5 (Yw hz)),?_⟩;have:=fin l1 ky l2 (.dK (putK kvs ky v)) hsub (by rw [p1,ek]; exact .d _) p3;rw [p2] at this;exact k σ Hs1 _ this
  · cases e
 · cases e
def qK (C:Addr) (x:Str) (px:DPx) (fv:DEm):DSm:=λ τ=>(fv τ).bind λ y=>(px y.2).bind λ p=>(toM y.1).bind λ mv=>match aP y.2 p.1 p.2 with
 | some (.n (.o C') cs)=>if C'=C/\cs.length < 1000 then some (.next (b9 y.2 p.1 p.2 (.n (.o C) (fU cs (.inr x) mv)))) else none
 | _=>none
theorem Az (cl:Cls X.K C) (n:cu X.K C x) (ho:PXm X o px) (hv:PEm X value fv) (hs:swapsWith value (some (.Attribute o x pos')) pos.line X.env=pure false:=by rfl) :
  PSm X (.Assign [.Attribute o x pos'] value pos) (qK C x px fv):=(DH ho hv hs).imp λ E σ H ⟨Hs0,H0,nf,ρ,Hs,τ,o,r,e,k⟩=>by
 obtain ⟨⟨s,τ1⟩,e1,e⟩:=bind_some e;obtain ⟨⟨i,q⟩,e2,e⟩:=bind_some e;obtain ⟨mv,e5,e⟩:=bind_some e;split at e
 ·rename_i C' cs en
  split at e
  ·rename_i hz
   obtain ⟨hc,hz⟩:=hz;subst hc;cases e;refine ⟨Hs0,H0,nf,ρ,Hs,τ,s,τ1,r,e1,λ v Hs1 H1 r1=>?_⟩;refine ⟨Hs0,H0,nf,ρ,Hs1,τ1,i,q,_,r1.pop,e2,en,λ rt v1 H2 g2 hrt hq=>?_⟩;obtain ⟨a,dx,ts,u,fv,rfl,rfl,ha,hl,ku,fin⟩:=(r1.grow g2).uE e5 en hrt hq;obtain ⟨l1,l2,hsub,spl⟩:=jD (.inr x) ku;obtain ⟨p1,p2,p3⟩:=spl ⟨.inr x,v,mv,fv⟩ rfl;have ku':(ts.map Kd.k).Nodup:=ku;generalize ek:ts.map Kd.kv=kvs at hl
   cases hl with
   | o fs =>
    have nf:(fs.map Prod.fst).Nodup:=by
     have e0:ts.map Kd.k=(fs.map Prod.fst).map (λ x=>(Sum.inr x:Key)):=by
      rw [Zy,show ts.map Kd.k=(ts.map Kd.kv).map Prod.fst by rw [Zy]; rfl,ek,Zy];rfl
     rw [e0] at ku';exact List.Pairwise.of_map _ (λ a b h e=>h (by rw [e])) ku'
    refine ⟨a,C',dx,fs,rfl,ha,cl,n,?_,?_⟩
    ·have:=Yo List.length ek
     rw [Za,Za] at this;rw [Za] at hz;omega
    ·have:=fin l1 (.inr x) l2 (.ins C' dx (kF x v fs)) hsub (by rw [p1,ek,<- pI nf]; exact .o _) p3
     rw [p2] at this;exact k σ Hs1 _ this
  · cases e
 · cases e
end
section
variable {K:W.Frag} {Hs0 H0 Hs H Hs' H':Hp} {ρ:List (Option Addr)} {σ:St} {τ:List Sm}
theorem rA {dx:Addr} {ts:List Kd} {u:HO} (h:Lay .l dx (ts.map Kd.kv) u):u=.lst (ts.map Kd.v):=by
 generalize ek:ts.map Kd.kv=kvs at h
 cases h with
 | l _=>rw [<- ek,Zy]; rfl
theorem uR {dx:Addr} {ts:List Kd}:Lay .l dx (ts.map Kd.kv) (.lst (ts.map Kd.v)):=by
 have:=Lay.l (dx:=dx) (ts.map Kd.kv);rw [Zy] at this;exact this
theorem mW {dx:Addr} {ts:List Kd} {u:HO} (h:Lay .d dx (ts.map Kd.kv) u):u=.dK (ts.map Kd.kv):=by
 generalize ek:ts.map Kd.kv=kvs at h
 cases h with
 | d _=>rfl
theorem aT.mO (r:aT K Hs0 H0 ρ Hs H σ τ) (hg:aP τ i q=some (.n t cs)) (hi:σ[i]?=some (some rt)) (hv:vAt H rt q=some v1) :
  ∃ (a dx:Addr) (ts:List Kd) (u:HO),v1=.ref a/\cs=ts.map Kd.km/\H a=some u/\Lay t dx (ts.map Kd.kv) u/\KU t ts/\(∀ c ∈ ts,Rp K H c.v (frz c.m)) /\
  ∀ ts' ks u',ts'.Sublist ts->(∀ k ∈ ks,k.fp=[]/\Od K Hs H [] k.v k.m)->Lay t dx ((ts'++ks).map Kd.kv) u'->KU t (ts'++ks)->aT K Hs0 H0 ρ Hs (upd H a u') σ (b9 τ i q (.n t ((ts'++ks).map Kd.km))):=by
 obtain ⟨fp,st⟩:=r.st;obtain ⟨b,m,em,eg⟩:=cD hg;obtain ⟨v,fp1,v1',w1,w2,w3,w4,w5⟩:=st.nP em eg;rw [hi] at w1;cases w1;rw [hv] at w2;cases w2;obtain ⟨a,dx,ts,u,rfl,rfl,rfl,ha,hl,nh,ku,nd,rr⟩:=w3.inv;have afp:a ∈ fp:=w4 a (Ze ..);have h0:=(st.live a afp).2.2;have nd1:=Zt.mp nd;refine ⟨a,dx,ts,u,rfl,rfl,ha,hl,ku,λ c hc=>(rr c hc).rp r.sm,λ ts' ks u' hsub hks hl' ku'=>?_⟩
 have ex:Ext Hs0 H0 Hs (upd H a u'):=by
  refine ⟨r.ext.ss,λ c o e=>?_,λ c o e=>?_,r.ext.fr⟩
  · rw [ai (λ z=>by rw [z,nh] at e; cases e)]; exact r.ext.sh c o e
  · rw [ai (λ z=>by rw [z,h0] at e; cases e)]; exact r.ext.hh c o e
 have kz:ks.flatMap Kd.fp=[]:=by
  rw [List.flatMap_eq_nil_iff];exact λ c hc=>(hks c hc).1
 have sf:=lI hsub
 have nda':(a::(ts'++ks).flatMap Kd.fp).Nodup:=by
  rw [Yk,kz,Zw];exact Zt.mpr ⟨λ z=>nd1.1 (sf.subset z),nd1.2.sublist sf⟩
 have od:Od K Hs (upd H a u') (a::(ts'++ks).flatMap Kd.fp) (.ref a) (.n t ((ts'++ks).map Kd.km)):=by
  refine .n ao hl' nh ku' nda' λ c hc=>?_
  have na:a ∉ c.fp:=λ z=>(Zt.mp nda').1 (Yi.mpr ⟨c,hc,z⟩)
  rcases Zi.mp hc with hc | hc
  ·have o:=rr c (hsub.subset hc)
   exact o.mv (.refl _) λ x hx=>⟨(o.live x hx).1,ai λ z=>na (z ▸ hx)⟩
  ·obtain ⟨k1,k2⟩:=hks c hc
   rw [k1];exact k2.mv (.refl _) λ x hx=>by cases hx
 obtain ⟨fp',s',_⟩:=w5 Hs (upd H a u') _ _ (.refl _) (λ c hc hn=>⟨(st.live c hc).1,ai λ z=>hn (by rw [z]; exact Ze ..)⟩) od λ c hc=>by
  rw [Yk,kz,Zw] at hc;rcases Zh.mp hc with rfl | hc
  · exact .inl (Ze ..)
  · exact .inl (Zc _ (sf.subset hc))
 exact ⟨ex,fp',by unfold b9; rw [em]; exact s'⟩
theorem aT.isList (r:aT K Hs0 H0 ρ Hs H σ τ) (hg:aP τ i q=some (.n .l cs)) (hi:σ[i]?=some (some rt)) (hv:vAt H rt q=some v1):tyV K "list" v1 H:=by
 obtain ⟨a,dx,ts,u,rfl,rfl,ha,hl,_⟩:=r.mO hg hi hv;rw [rA hl] at ha;exact .inl ⟨rfl,_,SqL.of ha⟩
end
def sZ (px:DPx) (fv:DEm):DSm:=λ τ=>(px τ).bind λ p=>match aP τ p.1 p.2 with
 | some (.n .l _)=>(fv τ).bind λ x=>(toM x.1).bind λ mv=>match aP x.2 p.1 p.2 with
  | some (.n .l cs)=>if cs.length < 100000 then some (.next (b9 x.2 p.1 p.2 (.n .l (cs++[(.inl 0,mv)])))) else none
  | _=>none
 | _=>none
def Gh (cs:List (Key×Mt)) (i:Nat) (m:Mt):List (Key×Mt):=cs.take i++(.inl 0,m)::cs.drop i
def wC (px:DPx) (gi:DE) (fv:DEm):DSm:=λ τ=>(px τ).bind λ p=>match aP τ p.1 p.2 with
 | some (.n .l _)=>(gi (aL τ)).bind λ d=>(fv τ).bind λ x=>(toM x.1).bind λ mv=>match d,aP x.2 p.1 p.2 with
  | .int i,some (.n .l cs)=>if 0<=i/\i<=cs.length/\cs.length < 100000 then some (.next (b9 x.2 p.1 p.2 (.n .l (Gh cs i.toNat mv)))) else none
  | _,_=>none
 | _=>none
def qJ (px:DPx) (g:DE):DSm:=λ τ=>(px τ).bind λ p=>(g (aL τ)).bind λ d=>match d,aP τ p.1 p.2 with
 | .int k,some (.n .l cs)=>(cL (ve cs)).bind λ ns=>if ns.length<=1000/\k ∈ ns then some (.next (b9 τ p.1 p.2 (.n .l (cs.eraseIdx (ns.idxOf k))))) else none
 | _,_=>none
def sU (px:DPx) (gk:DE):DSm:=λ τ=>(px τ).bind λ p=>(gk (aL τ)).bind λ d=>(dQ d).bind λ k=>match aP τ p.1 p.2 with
 | some (.n .d cs)=>if (cs.any λ c=>decide (c.1=k))=true then some (.next (b9 τ p.1 p.2 (.n .d (dB cs k)))) else none
 | _=>none
theorem wa {ts:List Kd} {k:Key} (h:((ts.map Kd.km).any λ c=>decide (c.1=k))=true):∃ v,b7 (ts.map Kd.kv) k=some v:=by
 rw [<- Yp,<- fI];rw [List.any_map] at h ⊢;exact h
section
variable {X:Cx} {a b c e o:Expr} {es:List Expr} {pos apos cpos pos':Pos} {x:Str}
theorem AA (ho:PXm X o px) (he:PVm X e fv)
   (hbase:attributeBase o "append" X.env (eval o X.env)=eval o X.env:=by rfl)
   (hfew:((backTo cpos (starEach [e] X.env)).all (λ x=>!x.1)&&(backToKw cpos (keywordEach [] X.env)).all (λ x=>x.1.isSome)
     && decide ([e].length+([]:List Keyword).length+(if ([]:List Keyword).isEmpty then 0 else 1) < 30))=true:=by rfl)
   (hline:(apos.endLine == cpos.line)=true:=by rfl) (hst:starEach [e] X.env=(false,eval e X.env)::starEach [] X.env:=by rfl) (hplain:(backTo cpos (starEach [] X.env)).any (·.1)=false:=by rfl)
   (hs:swapsWith (.Call (.Attribute o "append" apos) [e] [] cpos) none pos.line X.env=pure false:=by rfl) :
   PSm X (.Expr (.Call (.Attribute o "append" apos) [e] [] cpos) pos) (sZ px fv) :=
 (bG (oa Ym PySem.F.slot_list_append PySem.F.type_list_append mQ ho (aJ he bc hst) hbase hfew hline hst hplain) hs).imp λ E σ H ⟨Hs0,H0,nf,ρ,Hs,τ,o,r,e,k⟩=>by
   obtain ⟨⟨i,q⟩,e1,e⟩:=bind_some e;split at e
   · rename_i cs0 en0
     obtain ⟨⟨s,τ1⟩,e2,e⟩:=bind_some e;obtain ⟨mv,e3,e⟩:=bind_some e;split at e
     ·rename_i cs en
      split at e
      ·rename_i hz
       cases e;refine ⟨Hs0,H0,nf,ρ,Hs,τ,i,q,_,r,e1,en0,λ rt v1 H1 g1 hrt hq=>⟨(r.grow g1).isList en0 hrt hq,?_⟩⟩;refine ⟨Hs0,H0,nf,ρ,Hs,τ,s,τ1,r.grow g1,e2,λ v Hs2 H2 g2 r2=>?_⟩;obtain ⟨a,dx,ts,u,fv,rfl,rfl,ha,hl,ku,fin⟩:=r2.uE e3 en hrt (bf g2 q hq);rw [rA hl] at ha;refine ⟨a,_,v,rfl,rfl,ha,by rw [Za]; rw [Za] at hz; exact le5 (Yw hz),?_⟩
       have:=fin ts (.inl 0) [] (.lst (ts.map Kd.v++[v])) (by rw [Zw]; exact .refl _) (by
        have:=uR (dx:=dx) (ts:=ts++[⟨.inl 0,v,mv,fv⟩]);rw [Zo (f:=Kd.v)] at this
        exact this) trivial
       rw [Zo] at this;exact k σ Hs2 _ this
      · cases e
     · cases e
   · cases e
theorem Ax (ho:PXm X o px) (hi:PEd X i gi) (he:PVm X e fv)
   (hbase:attributeBase o "insert" X.env (eval o X.env)=eval o X.env:=by rfl)
   (hfew:((backTo cpos (starEach [i,e] X.env)).all (λ x=>!x.1)&&(backToKw cpos (keywordEach [] X.env)).all (λ x=>x.1.isSome)
     && decide ([i,e].length+([]:List Keyword).length+(if ([]:List Keyword).isEmpty then 0 else 1) < 30))=true:=by rfl)
   (hline:(apos.endLine == cpos.line)=true:=by rfl) (hst:starEach [i,e] X.env=(false,eval i X.env)::starEach [e] X.env:=by rfl) (hst2:starEach [e] X.env=(false,eval e X.env)::starEach [] X.env:=by rfl) (hplain:(backTo cpos (starEach [e] X.env)).any (·.1)=false:=by rfl)
   (hs:swapsWith (.Call (.Attribute o "insert" apos) [i,e] [] cpos) none pos.line X.env=pure false:=by rfl) :
   PSm X (.Expr (.Call (.Attribute o "insert" apos) [i,e] [] cpos) pos) (wC px gi fv) :=
 (bG (yZ (KK:=X.K) rfl ho hi he hbase hfew hline hst hst2 hplain) hs).imp λ E σ H ⟨Hs0,H0,nf,ρ,Hs,τ,o,r,e,k⟩=>by
   obtain ⟨⟨i,q⟩,e1,e⟩:=bind_some e;split at e
   · rename_i cs0 en0
     obtain ⟨d,e4,e5⟩:=bind_some e;obtain ⟨⟨s,τ1⟩,e2,e6⟩:=bind_some e5;obtain ⟨mv,e3,e7⟩:=bind_some e6;clear e e5 e6;split at e7
     ·rename_i j cs en
      split at e7
      ·rename_i hz
       obtain ⟨h0,h1,hz⟩:=hz;cases e7;refine ⟨Hs0,H0,nf,ρ,Hs,τ,i,q,_,r,e1,en0,λ rt v1 H1 g1 hrt hq=>⟨(r.grow g1).isList en0 hrt hq,?_⟩⟩;have r1:=r.grow g1;obtain ⟨fp,st⟩:=r1.st;refine ⟨H1,H1,aL τ,[],_,st.aL r1.sm,.refl H1,e4,λ y Hs2 H2 g2 ry=>?_⟩;cases ry;have r2:=r1.grow g2.hh;refine ⟨Hs0,H0,nf,ρ,Hs,τ,s,τ1,r2,e2,λ v Hs3 H3 g3 r3=>?_⟩;obtain ⟨a,dx,ts,u,fv,rfl,rfl,ha,hl,ku,fin⟩:=r3.uE e3 en hrt (bf g3 q (bf g2.hh q hq));rw [rA hl] at ha;rw [Za] at h1 hz;refine ⟨a,_,j,v,rfl,rfl,ha,h0,by rw [Za]; exact h1,by rw [Za]; exact le5 (Yw hz),by omega,?_⟩
       have:=fin (ts.take j.toNat) (.inl 0) (ts.drop j.toNat) (.lst ((ts.map Kd.v).take j.toNat++v::(ts.map Kd.v).drop j.toNat)) (by rw [List.take_append_drop]; exact .refl _) (by
        have:=uR (dx:=dx) (ts:=ts.take j.toNat++⟨.inl 0,v,mv,fv⟩::ts.drop j.toNat);rw [Zo (f:=Kd.v),Zg,Xj,Xk] at this
        exact this) trivial
       rw [Zo,Zg,Xj,Xk] at this;exact k σ Hs3 _ this
      · cases e7
     · cases e7
   · cases e
theorem Av (ho:PXm X o px) (he:PEd X e g)
   (hbase:attributeBase o "remove" X.env (eval o X.env)=eval o X.env:=by rfl)
   (hfew:((backTo cpos (starEach [e] X.env)).all (λ x=>!x.1)&&(backToKw cpos (keywordEach [] X.env)).all (λ x=>x.1.isSome)
     && decide ([e].length+([]:List Keyword).length+(if ([]:List Keyword).isEmpty then 0 else 1) < 30))=true:=by rfl)
   (hline:(apos.endLine == cpos.line)=true:=by rfl) (hst:starEach [e] X.env=(false,eval e X.env)::starEach [] X.env:=by rfl) (hplain:(backTo cpos (starEach [] X.env)).any (·.1)=false:=by rfl)
   (hs:swapsWith (.Call (.Attribute o "remove" apos) [e] [] cpos) none pos.line X.env=pure false:=by rfl) :
   PSm X (.Expr (.Call (.Attribute o "remove" apos) [e] [] cpos) pos) (qJ px g) :=
 (bG (oa Ym PySem.F.slot_list_remove PySem.F.type_list_remove uG ho (aJ he bc hst) hbase hfew hline hst hplain) hs).imp λ E σ H ⟨Hs0,H0,nf,ρ,Hs,τ,o,r,e,k⟩=>by
   obtain ⟨⟨i,q⟩,e1,e⟩:=bind_some e;obtain ⟨d,e2,e⟩:=bind_some e;split at e
   · rename_i ky cs en
     obtain ⟨ns,e3,e⟩:=bind_some e;split at e
     ·rename_i hz
      cases e;refine ⟨Hs0,H0,nf,ρ,Hs,τ,i,q,_,r,e1,en,λ rt v1 H1 g1 hrt hq=>⟨(r.grow g1).isList en hrt hq,?_⟩⟩;have r1:=r.grow g1;obtain ⟨fp,st⟩:=r1.st;refine ⟨H1,H1,aL τ,[],_,st.aL r1.sm,.refl H1,e2,λ y Hs2 H2 g2 ry=>?_⟩;cases ry;have r2:=r1.grow g2.hh;obtain ⟨a,dx,ts,u,rfl,rfl,ha,hl,ku,hrp,fin⟩:=r2.mO en hrt (bf g2.hh q hq);rw [rA hl] at ha
      have ev:ts.map Kd.v=ns.map V.int:=by
       have h1:=tf hrp;rw [Zy,gX e3] at h1;exact Rps.eY h1
      rw [ev] at ha;refine ⟨a,ns,ky,rfl,rfl,ha,hz.1,hz.2,?_⟩
      have:=fin (ts.eraseIdx (ns.idxOf ky)) [] (.lst ((ns.eraseIdx (ns.idxOf ky)).map V.int)) (List.eraseIdx_sublist ..) (λ k hk=>by cases hk) (by
       have:=uR (dx:=dx) (ts:=ts.eraseIdx (ns.idxOf ky));rw [jP Kd.v,ev,<- jP] at this;rw [Zw]
       exact this) trivial
      rw [Zw,jP Kd.km] at this;exact k σ Hs _ this
     · cases e
   · cases e
theorem Aw (ho:PXm X o px) (he:PEd X e gk) (m:M1 X o "pop" apos e cpos) (hs:swapsWith (.Call (.Attribute o "pop" apos) [e] [] cpos) none pos.line X.env=pure false:=by rfl) :
   PSm X (.Expr (.Call (.Attribute o "pop" apos) [e] [] cpos) pos) (sU px gk) :=
 (bG (pL ho he m) hs).imp λ E σ H ⟨Hs0,H0,nf,ρ,Hs,τ,o,r,e,k⟩=>by
   obtain ⟨⟨i,q⟩,e1,e⟩:=bind_some e;obtain ⟨d,e2,e⟩:=bind_some e;obtain ⟨ky,e3,e⟩:=bind_some e;split at e
   ·rename_i cs en
    split at e
    ·rename_i hz
     cases e;refine ⟨Hs0,H0,nf,ρ,Hs,τ,i,q,_,r,e1,en,λ rt v1 H1 g1 hrt hq=>?_⟩;have r1:=r.grow g1;obtain ⟨a,dx,ts,u,rfl,rfl,ha,hl,ku,hrp,fin⟩:=r1.mO en hrt hq;rw [mW hl] at ha;obtain ⟨fp,st⟩:=r1.st;refine ⟨a,rfl,.inl ⟨_,.inl ha⟩,H1,H1,aL τ,[],_,st.aL r1.sm,.refl H1,e2,λ y Hs2 H2 g2 ry=>?_⟩;have hy:=gW ry e3;subst hy;have r2:=r1.grow g2.hh;obtain ⟨a',dx',ts',u',ea,ec,ha',hl',ku',hrp',fin'⟩:=r2.mO en hrt (bf g2.hh q hq);cases ea;have ha2:=ha';rw [mW hl'] at ha2;have eq:=g2.hh _ _ ha;rw [ha2] at eq;rw [ec] at hz;obtain ⟨w,hw⟩:=wa hz;refine ⟨_,ky,w,ha2,rfl,hw,?_⟩
     have:=fin' (ts'.filter λ c=>decide (c.k≠ky)) [] (.dK (lZ (ts'.map Kd.kv) ky)) Xi (λ k hk=>by cases hk) (by
      rw [Zw];unfold lZ;rw [Xn]
      exact .d _) (by
      rw [Zw];show ((ts'.filter _).map Kd.k).Nodup
      exact List.Nodup.sublist (List.filter_sublist.map _) ku')
     rw [Zw] at this
     have em:(ts'.filter λ c=>decide (c.k≠ky)).map Kd.km=dB (ts.map Kd.km) ky:=by
      rw [ec];unfold dB;rw [Xn];rfl
     rw [em] at this;exact k σ Hs _ this
    · cases e
   · cases e
end
def off (H:Hp) (fp:List Addr):Hp:=λ b=>if b ∈ fp then none else H b
def JK:V->Option Addr
 | .ref a=>some a
 | _=>none
abbrev gM (vs:List V):List (Option Addr):=vs.map JK
def spM (F:List Sm->Option (Sm×List Sm)) (K:W.Frag):Sp:=λ vs H Q _=>∃ Hs fp as s as',bz Hs H/\StM K (off H fp) Hs H (gM vs) (vs.map some) as fp/\F as=some (s,as') /\
 ∀ v Hs' H' fp',Ext Hs (off H fp) Hs' H'->StM K (off H fp) Hs' H' (none::gM vs) (some v::vs.map some) (s::as') fp'->Q v H'
inductive Am where
 | v (d:D) | p (i:Nat) (q:List Stp)
inductive nL (K:W.Frag) (Hs H:Hp) (σ:St):List V->List Am->Prop where
 | nil:nL K Hs H σ [] []
 | v {x:V} {d:D} {vs:List V} {as:List Am} (h:Rp K Hs x d) (r:nL K Hs H σ vs as):nL K Hs H σ (x::vs) (.v d::as)
 | p {x rt:V} {i:Nat} {q:List Stp} {vs:List V} {as:List Am} (h1:σ[i]?=some (some rt)) (h2:vAt H rt q=some x) (r:nL K Hs H σ vs as):nL K Hs H σ (x::vs) (.p i q::as)
theorem nL.ext {K:W.Frag} {Hs H Hs' H':Hp} {σ:St} {vs:List V} {as:List Am} (g1:bz Hs Hs') (g2:bz H H') (h:nL K Hs H σ vs as):nL K Hs' H' σ vs as:=by
 induction h with
 | nil=>exact .nil
 | v h _ ih=>exact .v (h.same g1) ih
 | p h1 h2 _ ih=>exact .p h1 (bf g2 _ h2) ih
def lend:List Sm->List Am->Option (List Sm)
 | _,[]=>some []
 | τ,.v d::r=>(lend τ r).map (.shr d::·)
 | τ,.p i q::r=>match aP τ i q with
  | some (.n t cs)=>(lend (τ.set i .no) r).map (.mu true (.n t cs)::·)
  | _=>none
def back:List Sm->List Am->List Sm->Option (List Sm)
 | τ,[],_=>some τ
 | τ,.v _::r,_::as=>back τ r as
 | τ,.p i q::r,.mu true m2::as=>(back (τ.set i .no) r as).bind λ τ'=>match τ[i]? with
  | some (.mu b m)=>some (τ'.set i (.mu b (m.put q m2)))
  | _=>none
 | _,_,_=>none
section
variable {K:W.Frag} {H0 Hs H Hs' H':Hp} {ρ:List (Option Addr)} {σ:List (Option V)} {τ:List Sm} {fp:List Addr}
theorem StM.rebase (h:StM K H0 Hs H ρ σ τ fp):(∀ c ∈ fp,H1 c=none)->StM K H1 Hs H ρ σ τ fp:=by
 induction h with
 | nil=>exact λ _=>.nil
 | no _ ih=>exact λ q=>.no (ih q)
 | shr h _ ih=>exact λ q=>.shr h (ih q)
 | mu h hp z j _ ih=>exact λ q=>.mu h hp (λ c hc=>q c (Zk _ hc)) j (ih λ c hc=>q c (Zd _ hc))
theorem StM.pin {i:Nat} {b:Bool} {m:Mt} {v:V} (h:StM K H0 Hs H ρ σ τ fp):τ[i]?=some (.mu b m)->σ[i]?=some (some v)->b=true->∃ a,ρ[i]?=some (some a)/\v=.ref a:=by
 induction h generalizing i with
 | nil=>intro e; simp at e
 | no _ ih =>
  intro e e2 hb
  cases i with
  | zero=>simp at e
  | succ i=>simpa using ih (i:=i) (by simpa using e) (by simpa using e2) hb
 | shr h _ ih =>
  intro e e2 hb
  cases i with
  | zero=>simp at e
  | succ i=>simpa using ih (i:=i) (by simpa using e) (by simpa using e2) hb
 | @mu p v' b' m' ρ σ τ fq fp h hp z j _ ih =>
  intro e e2 hb
  cases i with
  | zero =>
   have e':Sm.mu b' m'=.mu b m:=by simpa using e
   injection e' with e1 _
   have e3:v'=v:=by simpa using e2
   subst e3;obtain ⟨a,h1,h2⟩:=hp (e1.trans hb);exact ⟨a,by rw [h1]; rfl,h2⟩
  | succ i=>simpa using ih (i:=i) (by simpa using e) (by simpa using e2) hb
theorem StM.fill (h:StM K H0 Hs H ρ σ τ fp) (hv:Od K Hs H fq v m) (z:∀ c ∈ fq,H0 c=none/\c ∉ fp):i < τ.length->σ[i]?=some (some v)->(b=true->∃ a,ρ[i]?=some (some a)/\v=.ref a)->∃ fp',StM K H0 Hs H ρ σ (τ.set i (.mu b m)) fp'/\∀ c ∈ fp',c ∈ fq\/c ∈ fp:=by
 induction h generalizing i with
 | nil=>intro hi; exact absurd hi (by simp)
 | @no p o ρ σ τ fp r ih =>
  intro hi e hp
  cases i with
  | zero =>
   have e':o=some v:=by simpa using e
   subst e';exact ⟨_,.mu hv (λ hb=>by obtain ⟨a,h1,h2⟩:=hp hb; exact ⟨a,by simpa using h1,h2⟩) (λ c hc=>(z c hc).1) (λ c hc=>(z c hc).2) r,λ c h=>Zi.mp h⟩
  | succ i =>
   obtain ⟨fp',h1,h2⟩:=ih z (i:=i) (by simpa using hi) (by simpa using e) (by simpa using hp);exact ⟨fp',.no h1,h2⟩
 | @shr p v' d ρ σ τ fp h r ih =>
  intro hi e hp
  cases i with
  | zero =>
   have e':v'=v:=by simpa using e
   subst e';exact ⟨_,.mu hv (λ hb=>by obtain ⟨a,h1,h2⟩:=hp hb; exact ⟨a,by simpa using h1,h2⟩) (λ c hc=>(z c hc).1) (λ c hc=>(z c hc).2) r,λ c h=>Zi.mp h⟩
  | succ i =>
   obtain ⟨fp',h1,h2⟩:=ih z (i:=i) (by simpa using hi) (by simpa using e) (by simpa using hp);exact ⟨fp',.shr h h1,h2⟩
 | @mu p v' b' m' ρ σ τ fq' fp h hp' z' j r ih =>
  intro hi e hp;have zr:∀ c ∈ fq,H0 c=none/\c ∉ fp:=λ c hc=>⟨(z c hc).1,λ q=>(z c hc).2 (Zd _ q)⟩
  cases i with
  | zero =>
   have e':v'=v:=by simpa using e
   subst e';exact ⟨_,.mu hv (λ hb=>by obtain ⟨a,h1,h2⟩:=hp hb; exact ⟨a,by simpa using h1,h2⟩) (λ c hc=>(z c hc).1) (λ c hc=>(zr c hc).2) r,λ c h=>(Zi.mp h).imp id λ q=>Zd _ q⟩
  | succ i =>
   obtain ⟨fp',h1,h2⟩:=ih zr (i:=i) (by simpa using hi) (by simpa using e) (by simpa using hp);refine ⟨_,.mu h hp' z' (λ c hc q=>?_) h1,λ c hc=>?_⟩
   ·rcases h2 c q with y | y
    · exact (z c y).2 (Zk _ hc)
    · exact j c hc y
   ·rcases Zi.mp hc with y | y
    · exact .inr (Zk _ y)
    · exact (h2 c y).imp id λ q=>Zd _ q
theorem qv:back τ [] ss=some τ:=by cases ss <;> rw [back]
theorem md:∀ {as:List Am} {τ ss τ':List Sm},back τ as ss=some τ'->τ'.length=τ.length
 | [],τ,ss,τ',e=>by rw [qv] at e; cases e; rfl
 | .v _::r,τ,[],τ',e=>by cases e
 | .v _::r,τ,_::as,τ',e=>md (as:=r) e
 | .p i q::r,τ,[],τ',e=>by cases e
 | .p i q::r,τ,s::as,τ',e=>by
  cases s with
  | no=>cases e
  | shr d=>cases e
  | mu b m2 =>
   cases b with
   | false=>cases e
   | true =>
    obtain ⟨τ1,e1,e2⟩:=bind_some (show (back (τ.set i .no) r as).bind _=_ from e);have l1:=md e1;rw [Y1] at l1;split at e2
    ·cases e2
     rw [Y1,l1]
    · cases e2
abbrev B2:Hp:=λ _=>none
theorem lQ : ∀ {as : List Am} {τ ss:List Sm} {fp:List Addr} {vs:List V},StM K H0 Hs H ρ σ τ fp->nL K Hs H σ vs as->lend τ as=some ss ->
    ∃ fpa,StM K B2 Hs H (gM vs) (vs.map some) ss fpa/\(∀ c ∈ fpa,c ∈ fp) /\
    ∀ Hs' H' ss' fpa' τ',bz Hs Hs'->(∀ c ∈ fp,c ∉ fpa->Hs' c=none/\H' c=H c)->StM K B2 Hs' H' (gM vs) (vs.map some) ss' fpa'->(∀ c ∈ fpa',c ∈ fpa\/(c ∉ fp/\H0 c=none))->back τ as ss'=some τ' ->
      ∃ fp',StM K H0 Hs' H' ρ σ τ' fp'/\∀ c ∈ fp',(c ∈ fp/\c ∉ fpa)\/c ∈ fpa'
  | [],τ,ss,fp,[],st,.nil,e=>by
    cases e;refine ⟨[],.nil,λ c hc=>(nomatch hc),λ Hs' H' ss' fpa' τ' g k sa j eb=>?_⟩;rw [qv] at eb;cases eb;exact ⟨fp,st.mv g λ c hc=>k c hc (by simp),λ c hc=>.inl ⟨hc,by simp⟩⟩
  | .v d :: r,τ,ss,fp,_,st,.v h rr,e=>by
    obtain ⟨ss1,e1,rfl⟩:=Zm (show (lend τ r).map _=_ from e);obtain ⟨fpa,s1,w1,w2⟩:=lQ st rr e1;refine ⟨fpa,.shr h s1,w1,λ Hs' H' ss' fpa' τ' g k sa j eb=>?_⟩
    cases ss' with
    | nil=>cases eb
    | cons s as' =>
      cases sa with
      | no sa=>exact w2 Hs' H' as' _ τ' g k sa j eb
      | shr _ sa=>exact w2 Hs' H' as' _ τ' g k sa j eb
      | mu _ _ _ _ sa =>
        obtain ⟨fp',h1,h2⟩:=w2 Hs' H' as' _ τ' g k sa (λ c hc=>j c (Zd _ hc)) eb;exact ⟨fp',h1,λ c hc=>(h2 c hc).imp id λ y=>Zd _ y⟩
  | .p i q :: r, τ, ss, fp,_,st,@nL.p _ _ _ _ x rt _ _ vs _ h1 h2 rr,e=>by
    have e':(match aP τ i q with | some (.n t cs)=>(lend (τ.set i .no) r).map (.mu true (.n t cs)::·) | _=>none)=some ss:=e;split at e'
    · rename_i t cs eg
      obtain ⟨ss1,e1,rfl⟩:=Zm e';obtain ⟨b,m,em,egm⟩:=cD eg;obtain ⟨v0,fq,fp0,o1,o2,o3,o4,o5⟩:=st.out em;rw [h1] at o1;cases o1;obtain ⟨fp1,v1,w1,w2,w3,w4⟩:=o2.nP q egm;rw [h2] at w1;cases w1;obtain ⟨a,dx,ts,u,rfl,_⟩:=w2.inv;obtain ⟨fpa,s1,a1,a2⟩:=lQ o3 rr e1;have dj:∀ c ∈ fp1,c ∉ fpa:=λ c hc y=>(o4 c (w3 c hc)).1 (a1 c y)
      refine ⟨fp1++fpa,.mu w2 (λ _=>⟨a,rfl,rfl⟩) (λ _ _=>rfl) dj s1,λ c hc=>?_,λ Hs' H' ss' fpa' τ' g k sa j eb=>?_⟩
      · rcases Zi.mp hc with y | y
        · exact (o5 c).mpr (.inl (w3 c y))
        · exact (o5 c).mpr (.inr (a1 c y))
      · cases ss' with
        | nil=>cases eb
        | cons s as' =>
          cases s with
          | no=>cases eb
          | shr d=>cases eb
          | mu b2 m2 =>
            cases b2 with
            | false=>cases eb
            | true =>
              obtain ⟨τ1,eb1,eb2⟩:=bind_some (show (back (τ.set i .no) r as').bind _=_ from eb);simp only [em] at eb2;cases eb2
              cases sa with
              | @mu _ _ _ _ _ _ _ fq2 fpr od2 _ _ jj sr =>
                obtain ⟨fpx,x1,x2⟩:=a2 Hs' H' as' fpr τ1 g (λ c hc hn=>k c ((o5 c).mpr (.inr hc)) λ y=>(Zi.mp y).elim (λ y=>(o4 c (w3 c y)).1 hc) hn) sr (λ c hc=>by
                  rcases j c (Zd _ hc) with y | y
                  · rcases Zi.mp y with y | y
                    · exact .inr ⟨(o4 c (w3 c y)).1,(st.live c (o4 c (w3 c y)).2).2.2⟩
                    · exact .inl y
                  · exact .inr ⟨λ z=>y.1 ((o5 c).mpr (.inr z)),y.2⟩) eb1
                obtain ⟨fpo,y1,y2⟩:=w4 Hs' H' fq2 m2 g (λ c hc hn=>k c ((o5 c).mpr (.inl hc)) λ y=>(Zi.mp y).elim hn λ y=>(o4 c hc).1 (a1 c y)) od2 (λ c hc=>by
                  rcases j c (Zk _ hc) with y | y
                  · rcases Zi.mp y with y | y
                    · exact .inl y
                    · exact .inr λ z=>(o4 c z).1 (a1 c y)
                  · exact .inr λ z=>y.1 ((o5 c).mpr (.inl z)))
                have hlen:i < τ1.length:=by
                  rw [md eb1,Y1];exact (List.getElem?_eq_some_iff.mp em).1
                obtain ⟨fp',z1,z2⟩:=x1.fill (i:=i) (b:=b) y1 (λ c hc=>by
                  rcases (y2 c).mp hc with y | y
                  · refine ⟨(st.live c (o4 c y.1).2).2.2,λ z=>?_⟩
                    rcases x2 c z with z | z
                    · exact (o4 c y.1).1 z.1
                    · rcases j c (Zd _ z) with w | w
                      · rcases Zi.mp w with w | w
                        · exact y.2 w
                        · exact (o4 c y.1).1 (a1 c w)
                      · exact w.1 (o4 c y.1).2
                  · refine ⟨?_,λ z=>?_⟩
                    · rcases j c (Zk _ y) with w | w
                      · rcases Zi.mp w with w | w
                        · exact (st.live c (o4 c (w3 c w)).2).2.2
                        · exact (st.live c ((o5 c).mpr (.inr (a1 c w)))).2.2
                      · exact w.2
                    · rcases x2 c z with z | z
                      · rcases j c (Zk _ y) with w | w
                        · rcases Zi.mp w with w | w
                          · exact (o4 c (w3 c w)).1 z.1
                          · exact z.2 w
                        · exact w.1 ((o5 c).mpr (.inr z.1))
                      · exact jj c y z) hlen h1 (λ hb=>st.pin em h1 hb)
                refine ⟨fp',z1,λ c hc=>?_⟩;rcases z2 c hc with y | y
                · rcases (y2 c).mp y with y | y
                  · exact .inl ⟨(o4 c y.1).2,λ w=>(Zi.mp w).elim y.2 λ w=>(o4 c y.1).1 (a1 c w)⟩
                  · exact .inr (Zk _ y)
                · rcases x2 c y with y | y
                  · exact .inl ⟨(o5 c).mpr (.inr y.1),λ w=>(Zi.mp w).elim (λ w=>(o4 c (w3 c w)).1 y.1) y.2⟩
                  · exact .inr (Zd _ y)
    · cases e'
end
abbrev DAm:=List Sm->Option (List Am)
def K0 (N:Hp) (K:W.Frag) (g:DAm):TA:=λ σ H Q=>∃ (Hs0 H0:Hp),∃ (_:Nf N H0),∃ ρ Hs τ as,aT K Hs0 H0 ρ Hs H σ τ/\g τ=some as/\∀ vs Hs' H',bz H H'->aT K Hs0 H0 ρ Hs' H' σ τ->bz Hs Hs'->nL K Hs' H' σ vs as->Q vs H'
def PAm (X:Cx) (es:List Expr) (g:DAm):Prop:=PA X es (K0 X.H₀ X.K g)
def KS (N:Hp) (K:W.Frag) (g:List Sm->Option Am):TE:=λ σ H Q=>∃ (Hs0 H0:Hp),∃ (_:Nf N H0),∃ ρ Hs τ a,aT K Hs0 H0 ρ Hs H σ τ/\g τ=some a/\∀ v Hs' H',bz H H'->aT K Hs0 H0 ρ Hs' H' σ τ->bz Hs Hs'->nL K Hs' H' σ [v] [a]->Q v H'
def PQm (X:Cx) (e:Expr) (g:List Sm->Option Am):Prop:=PE X e (KS X.H₀ X.K g)
def qN (g:DE):List Sm->Option Am:=λ τ=>(g (er τ)).map .v
def qX (f:DPx):List Sm->Option Am:=λ τ=>(f τ).bind λ p=>match aP τ p.1 p.2 with
 | some (.n _ _)=>some (.p p.1 p.2)
 | some (.s d)=>some (.v d)
 | none=>none
def wb:DAm:=λ _=>some []
def cW (h:List Sm->Option Am) (g:DAm):DAm:=λ τ=>(h τ).bind λ a=>(g τ).map (a::·)
theorem nL.app {K:W.Frag} {Hs H:Hp} {σ:St} {v:V} {a:Am} {vs:List V} {as:List Am} (h:nL K Hs H σ [v] [a]) (r:nL K Hs H σ vs as):nL K Hs H σ (v::vs) (a::as):=by
 cases h with
 | v h _=>exact .v h r
 | p h1 h2 _=>exact .p h1 h2 r
def oU (F:List Sm->Option (Sm×List Sm)) (τ:List Sm) (as:List Am):Option (Sm×List Sm):=(lend τ as).bind λ ss=>(F ss).bind λ x=>(back τ as x.2).map λ τ'=>(x.1,τ')
section
variable {K:W.Frag} {Hs0 H0 Hs H Hs' H':Hp} {ρ:List (Option Addr)} {σ:St} {τ:List Sm}
theorem jI (h:off H fp c=none):c ∈ fp\/H c=none:=by
 unfold off at h;split at h
 · exact .inl ‹_›
 · exact .inr h
theorem xM:bz (off H fp) H:=λ b o e=>by
 unfold off at e;split at e
 · cases e
 · exact e
theorem uy (h:c ∈ fp):off H fp c=none:=if_pos h
theorem iD (h:c ∉ fp):off H fp c=H c:=if_neg h
theorem aT.call (r:aT K Hs0 H0 ρ Hs H σ τ) (ha:nL K Hs H σ vs as) (e:oU F τ as=some (s,τ'))
  (k:∀ v Hs' H',aT K Hs0 H0 (none::ρ) Hs' H' (some v::σ) (s::τ')->Q v H'):spM F K vs H Q E:=by
 obtain ⟨ss,e1,e⟩:=bind_some e;obtain ⟨⟨s0,ss'⟩,e2,e⟩:=bind_some e;obtain ⟨τ0,e3,e4⟩:=Zm e;obtain ⟨e4,e5⟩:=Prod.mk.inj e4;have e4':s0=s:=e4;subst e4' e5;obtain ⟨fp,st⟩:=r.st;obtain ⟨fpa,sA,sub,nP⟩:=lQ st ha e1;refine ⟨Hs,fpa,ss,s0,ss',r.sm,sA.rebase λ c hc=>uy hc,e2,λ v Hs' H' fp2 g s2=>?_⟩
 have far:∀ c ∈ fp,c ∉ fpa->Hs' c=none/\H' c=H c:=λ c hc hn=>by
  obtain ⟨l1,l2,_⟩:=st.live c hc;have ho:off H fpa c=H c:=iD hn;refine ⟨g.fr c l1 (by rw [ho]; exact l2),?_⟩
  cases q:H c with
  | none=>exact absurd q l2
  | some u=>exact g.hh _ _ (ho.trans q)
 have ex:Ext Hs0 H0 Hs' H':=by
  have nf:∀ c,H0 c≠none->c ∉ fpa:=λ c h q=>h (st.live c (sub c q)).2.2
  refine ⟨r.ext.ss.trans g.ss,g.sh,λ c o e=>?_,λ c h1 h2=>?_⟩
  · exact g.hh _ _ ((iD (nf c (eu e))).trans (r.ext.hh _ _ e))
  · exact g.fr c (r.ext.fr c h1 h2) (by rw [iD (nf c h2)]; exact r.ext.hh.live h2)
 have fin:∀ fpr,StM K (off H fpa) Hs' H' (gM vs) (vs.map some) ss' fpr->∃ fp',StM K H0 Hs' H' ρ σ τ0 fp'/\∀ c ∈ fp',(c ∈ fp/\c ∉ fpa)\/c ∈ fpr:=λ fpr sr=>by
  refine nP Hs' H' ss' fpr τ0 g.ss far (sr.rebase λ _ _=>rfl) (λ c hc=>?_) e3;rcases jI (sr.live c hc).2.2 with y | y
  · exact .inl y
  · exact .inr ⟨st.new y,r.old y⟩
 cases s2 with
 | no sr =>
  obtain ⟨fp',h1,_⟩:=fin _ sr;exact k v Hs' H' ⟨ex,_,.no h1⟩
 | shr h sr =>
  obtain ⟨fp',h1,_⟩:=fin _ sr;exact k v Hs' H' ⟨ex,_,.shr h h1⟩
 | @mu _ _ b m _ _ _ fq fpr od hp z j sr =>
  obtain ⟨fp',h1,h2⟩:=fin _ sr;refine k v Hs' H' ⟨ex,_,.mu od (λ hb=>by obtain ⟨a,q,_⟩:=hp hb; cases q) (λ c hc=>?_) (λ c hc y=>?_) h1⟩
  ·rcases jI (z c hc) with y | y
   · exact (st.live c (sub c y)).2.2
   · exact r.old y
  ·rcases h2 c y with w | w
   ·rcases jI (z c hc) with y | y
    · exact w.2 y
    · exact (st.live c w.1).2.1 y
   · exact j c hc w
end
def eC (F:List Sm->Option (Sm×List Sm)) (g:DAm):DEm:=λ τ=>(g τ).bind λ as=>oU F τ as
def eM (C:Addr) (m:Str) (F:List Sm->Option (Sm×List Sm)) (f:DPx) (g:DAm):DEm:=λ τ=>(f τ).bind λ p=>match aP τ p.1 p.2 with
 | some (.n (.o C') cs)=>if C'=C/\(cs.any λ c=>decide (c.1=.inr m))=false then (g τ).bind λ as=>oU F τ (.p p.1 p.2::as) else none
 | _=>none
def eK (C:Addr) (F:List Sm->Option (Sm×List Sm)) (g:DAm):DEm:=λ τ=>(g τ).bind λ as=>(lend τ as).bind λ ss=>(F (.mu true (.n (.o C) [])::ss)).bind λ x=>match x.1,x.2 with
 | .shr .non,.mu true m::r=>(back τ as r).map λ τ'=>(.mu false m,τ')
 | _,_=>none
section
variable {X:Cx} {a b c e o:Expr} {es:List Expr} {pos apos cpos pos' p:Pos} {x m:Str} {k:Nat} {f fa C:Addr} {fd:FuncData} {ps:List Str} {F:List Sm->Option (Sm×List Sm)} {g:DAm}
theorem La {g:DE} (h:PEd X e g):PQm X e (qN g):=PE.imp h λ σ H Q ⟨Hs0,H0,nf,ρ,Hs,τ,a,r,e,k⟩=>by
 obtain ⟨d,e1,e2⟩:=Zm e;cases e2;obtain ⟨fp,st⟩:=r.st;exact ⟨H0,Hs,er τ,[],d,st.er,r.sm,e1,λ v Hs' H' g1 rv=>k v Hs' H' g1.hh (r.ext' g1) g1.ss (.v rv .nil)⟩
theorem K9 {f:DPx} (h:PXm X e f):PQm X e (qX f):=PE.imp h λ σ H Q ⟨Hs0,H0,nf,ρ,Hs,τ,a,r,e,k⟩=>by
 obtain ⟨⟨i,q⟩,e1,e2⟩:=bind_some e;split at e2
 ·rename_i t cs eg
  cases e2;exact ⟨Hs0,H0,nf,ρ,Hs,τ,i,q,_,r,e1,eg,λ v v1 H' g hv hq=>k v1 Hs H' g (r.grow g) (.refl _) (.p hv hq .nil)⟩
 ·rename_i d eg
  cases e2;refine ⟨Hs0,H0,nf,ρ,Hs,τ,i,q,_,r,e1,eg,λ v v1 H' g hv hq=>?_⟩;have r':=r.grow g;obtain ⟨fp,st⟩:=r'.st;obtain ⟨b,m,e3,e4⟩:=cD eg;obtain ⟨v',fp1,v1',w1,w2,w3,_⟩:=st.nP e3 e4;rw [hv] at w1;cases w1;rw [hq] at w2;cases w2
  cases w3 with
  | s rr=>exact k v1 Hs H' g r' (.refl _) (.v rr .nil)
 · cases e2
theorem Be:PAm X [] wb:=bc.imp λ σ H Q ⟨Hs0,H0,nf,ρ,Hs,τ,as,r,e,k⟩=>by
 cases e;exact k [] Hs H (.refl H) r (.refl _) .nil
theorem xI (h1:PQm X e h) (h2:PAm X es g) (hs:starEach (e::es) X.env=(false,eval e X.env)::starEach es X.env:=by rfl):PAm X (e::es) (cW h g) :=
 (aJ h1 h2 hs).imp λ σ H Q ⟨Hs0,H0,nf,ρ,Hs,τ,as,r,e,k⟩=>by
   obtain ⟨a,e1,e2⟩:=bind_some e;obtain ⟨as',e3,e4⟩:=Zm e2;cases e4;refine ⟨Hs0,H0,nf,ρ,Hs,τ,a,r,e1,λ v Hs1 H1 g1 r1 s1 a1=>?_⟩;refine ⟨Hs0,H0,nf,ρ,Hs1,τ,as',r1,e3,λ vs Hs2 H2 g2 r2 s2 a2=>?_⟩;exact k (v::vs) Hs2 H2 (g1.trans g2) r2 (s1.trans s2) ((a1.ext s2 g2).app a2)
theorem AU (Fo:fW X.prog X.w X.K X.mg X.base CX0 k f fd ps (spM F X.K)) (hr:c6 k X.A) (hg:Gl X x) (hm:X.mg x=some (.ref f)) (hk:W.keepIn X.K (.ref f)=true) (hb:Binds X.K fd ps [])
  (ha:PAm X (e::es) g) (hdb:(x == ("__debug__":Str))=false:=by decide) (he:starEach (e::es) X.env=(false,eval e X.env)::starEach es X.env:=by rfl) (hpl:(backTo pos (starEach es X.env)).any (·.1)=false:=by rfl) :
  PEm X (.Call (.Name x p) (e::es) [] pos) (eC F g):=(nZ Fo hr hg hm hk hb .nil qQ ha hdb he hpl).imp λ σ H Q ⟨Hs0,H0,nf,ρ,Hs,τ,s,τ',r,e,k⟩=>by
 obtain ⟨as,e1,e2⟩:=bind_some e;refine ⟨Hs0,H0,nf,ρ,Hs,τ,as,r,e1,λ vs Hs1 H1 g1 r1 s1 a1=>?_⟩;show spM F X.K (vs++[]) H1 Q E0;rw [Zw];exact r1.call a1 e2 k
theorem AR (ho:PXm X o fx) (c:Cls X.K C) (hm:zG X.K C m fa) (Fo:fW X.prog X.w X.K X.mg X.base CX0 k fa fd ps (spM F X.K)) (hr:c6 k X.A) (hb:Binds X.K fd ps []) (ha:PAm X (e::es) g)
  (hst:starEach (e::es) X.env=(false,eval e X.env)::starEach es X.env:=by rfl) (hpl:(backTo pos (starEach es X.env)).any (·.1)=false:=by rfl)
  (ht:eval (.Call (.Attribute o m apos) (e::es) [] pos) X.env=(do
    let ov <- eval o X.env
    standAt apos.atName
    let (f,first) <- holding [ov] (getMethod ov m pl)
    callWith pos f first (backTo pos (starEach (e::es) X.env)) (backToKw pos (keywordEach [] X.env))):=by rfl) :
  PEm X (.Call (.Attribute o m apos) (e::es) [] pos) (eM C m F fx g):=(ug (pl:=pl) ho c hm Fo hr hb .nil qQ ha hst hpl ht).imp λ σ H Q ⟨Hs0,H0,nf,ρ,Hs,τ,s,τ',r,e,k⟩=>by
 obtain ⟨⟨i,q⟩,e1,e2⟩:=bind_some e;split at e2
 ·rename_i C' cs en
  split at e2
  · rename_i hc
    obtain ⟨hc,hn⟩:=hc;subst hc;obtain ⟨as,e3,e4⟩:=bind_some e2;refine ⟨Hs0,H0,nf,ρ,Hs,τ,i,q,_,r,e1,en,λ rt v1 H1 g1 hrt hq=>?_⟩;have r1:=r.grow g1;obtain ⟨a,dx,ts,u,rfl,rfl,hu,hl,_⟩:=r1.mO en hrt hq;generalize ek:ts.map Kd.kv=kvs at hl
    cases hl with
    | o fs =>
     refine ⟨a,dx,fs,rfl,hu,?_,Hs0,H0,nf,ρ,Hs,τ,as,r1,e3,λ vs Hs2 H2 g2 r2 s2 a2=>?_⟩
     ·rw [<- lF,<- ek]
      have:=fI (Sum.inr m) (ts.map Kd.kv);rw [List.any_map] at this hn;have h2:(b7 (ts.map Kd.kv) (Sum.inr m)).isSome=false:=this.symm.trans hn
      cases q:b7 (ts.map Kd.kv) (Sum.inr m) with
      | none=>rfl
      | some y=>rw [q] at h2; cases h2
     ·show spM F X.K (V.ref a::(vs++[])) H2 Q E0
      rw [Zw];exact r2.call (.p hrt (bf g2 q hq) a2) e4 k
  · cases e2
 · cases e2
theorem AS (M:Mk X.K C fa) (Fo:fW X.prog X.w X.K X.mg X.base CX0 k fa fd ps (spM F X.K)) (hr:c6 (k+1) X.A) (hg:Gl X x) (hm:X.mg x=some (.ref C)) (hb:Binds X.K fd ps [])
  (ha:PAm X (e::es) g) (hdb:(x == ("__debug__":Str))=false:=by decide) (he:starEach (e::es) X.env=(false,eval e X.env)::starEach es X.env:=by rfl) (hpl:(backTo pos (starEach es X.env)).any (·.1)=false:=by rfl) :
  PEm X (.Call (.Name x p) (e::es) [] pos) (eK C F g):=(A0 M Fo hr hg hm hb .nil qQ ha hdb he hpl).imp λ σ H Q ⟨Hs0,H0,nf,ρ,Hs,τ,s,τ',r,e,k⟩=>by
 obtain ⟨as,e1,e2⟩:=bind_some e;obtain ⟨ss,e3,e4⟩:=bind_some e2;obtain ⟨⟨s0,ss'⟩,e5,e6⟩:=bind_some e4;refine ⟨Hs0,H0,nf,ρ,Hs,τ,as,r,e1,λ vs Hs1 H1 g1 r1 s1 a1 y dx hy hdx ne=>?_⟩;rw [Zw];split at e6
 ·rename_i m0 r0 q1 q2
  have q1':s0=.shr .non:=q1;have q2':ss'=.mu true m0::r0:=q2;subst q1' q2';obtain ⟨τ0,e7,e8⟩:=Zm e6;cases e8
  let H2:Hp:=upd (upd H1 dx (.own y)) y (.ins C dx [])
  have hy1:upd H1 dx (.own y) y=none:=(ai (Ne.symm ne)).trans hy;have g2:bz H1 H2:=(aw hdx _).trans (aw hy1 _);have r2:=r1.grow g2;obtain ⟨fp,st⟩:=r1.st;have st2:StM X.K H0 Hs1 H2 ρ σ τ fp:=st.ext ⟨.refl _,r1.ext.sh.trans g2,g2,λ _ h _=>h⟩;obtain ⟨fpa,sA,sub,nP⟩:=lQ st2 (a1.ext (.refl _) g2) e3;have yfp:y ∉ fp:=st.new hy;have od:Od X.K Hs1 H2 [y] (.ref y) (.n (.o C) []):=Od.n (ts:=[]) (dx:=dx) (u:=.ins C dx []) ao (.o []) (r1.sm.free hy) (by show ([]:List Key).Nodup; exact .nil) (by simp) (λ c hc=>by cases hc);have sN:StM X.K (off H2 (y::fpa)) Hs1 H2 (gM (.ref y::vs)) ((V.ref y::vs).map some) (.mu true (.n (.o C) [])::ss) ([y]++fpa):=.mu od (λ _=>⟨y,rfl,rfl⟩) (λ c hc=>uy (by rw [Zn.mp hc]; exact Ze ..)) (λ c hc q=>yfp (sub y (by rw [<- Zn.mp hc]; exact q))) (sA.rebase λ c hc=>uy (Zc _ hc));refine ⟨Hs1,y::fpa,_,_,_,r2.sm,sN,e5,λ v Hs' H' fp2 g s2=>⟨?_,?_⟩⟩
  ·cases s2 with
   | shr h _=>cases h; rfl
  ·cases s2 with
   | shr h sr =>
   cases sr with
   | @mu _ _ _ _ _ _ _ fq fpr od2 hp z j sr =>
   have far:∀ c ∈ fp,c ∉ fpa->Hs' c=none/\H' c=H2 c:=λ c hc hn=>by
    obtain ⟨l1,l2,_⟩:=st2.live c hc;have ho:off H2 (y::fpa) c=H2 c:=iD λ q=>(Zh.mp q).elim (λ q=>yfp (q ▸ hc)) hn
    refine ⟨g.fr c l1 (by rw [ho]; exact l2),?_⟩
    cases q:H2 c with
    | none=>exact absurd q l2
    | some u=>exact g.hh _ _ (ho.trans q)
   have h0y:H0 y=none:=r1.old hy
   have ex:Ext Hs0 H0 Hs' H':=by
    have nf:∀ c,H0 c≠none->c ∉ y::fpa:=λ c h q=>(Zh.mp q).elim (λ q=>h (q ▸ h0y)) λ q=>h (st.live c (sub c q)).2.2
    refine ⟨r1.ext.ss.trans g.ss,g.sh,λ c o e=>?_,λ c h1 h2=>?_⟩
    · exact g.hh _ _ ((iD (nf c (eu e))).trans (r2.ext.hh _ _ e))
    · exact g.fr c (r1.ext.fr c h1 h2) (by rw [iD (nf c h2)]; exact r2.ext.hh.live h2)
   obtain ⟨fp',h1,h2⟩:=nP Hs' H' r0 fpr _ g.ss far (sr.rebase λ _ _=>rfl) (λ c hc=>by
    rcases jI (sr.live c hc).2.2 with w | w
    ·rcases Zh.mp w with w | w
     ·subst w
      exact .inr ⟨yfp,h0y⟩
     · exact .inl w
    · exact .inr ⟨st2.new w,r2.old w⟩) e7
   refine k (.ref y) Hs' H' ⟨ex,_,.mu od2 (λ hb=>by cases hb) (λ c hc=>?_) (λ c hc q=>?_) h1⟩
   ·rcases jI (z c hc) with w | w
    ·rcases Zh.mp w with w | w
     · rw [w]; exact h0y
     · exact (st.live c (sub c w)).2.2
    · exact r2.old w
   ·rcases h2 c q with w | w
    ·rcases jI (z c hc) with y' | y'
     ·rcases Zh.mp y' with y' | y'
      · exact yfp (y' ▸ w.1)
      · exact w.2 y'
     · exact (st2.live c w.1).2.1 y'
    · exact j c hc w
 · cases e6
end
def uV:Sm->Sm
 | .mu true m=>.mu true m
 | _=>.no
def jC (n m:Nat) (b:DSm) (as:List Sm):Option (Sm×List Sm):=if as.length=m then (match b (as++List.replicate (n - as.length) .no) with
 | some (.ret s τ)=>some (s,(τ.take m).map uV)
 | some (.next τ)=>some (.shr .non,(τ.take m).map uV)
 | _=>none) else none
section
variable {K:W.Frag} {H0 Hs H:Hp}
theorem StM.startM (k:Nat) (h:StM K H0 Hs H ρ σ τ fp):StM K H0 Hs H (ρ++List.replicate k none) (σ++List.replicate k none) (τ++List.replicate k .no) fp:=by
 induction h with
 | nil =>
  induction k with
  | zero=>exact .nil
  | succ k ih=>rw [Y3,Y3,Y3]; exact .no ih
 | no _ ih=>exact .no ih
 | shr h _ ih=>exact .shr h ih
 | mu h hp z j _ ih=>exact .mu h hp z j ih
theorem StM.ph:∀ {vs:List V} {ρ:List (Option Addr)} {σ:List (Option V)} {τ:List Sm} {fp:List Addr},StM K H0 Hs H (gM vs++ρ) σ τ fp->∃ fp',StM K H0 Hs H (gM vs) (vs.map some) ((τ.take vs.length).map uV) fp'/\∀ c ∈ fp',c ∈ fp
 | [],ρ,σ,τ,fp,h=>⟨[],.nil,λ c hc=>(nomatch hc)⟩
 | v :: vs,ρ,σ,τ,fp,h=>by
  cases h with
  | no r =>
   obtain ⟨fp',h1,h2⟩:=StM.ph r;exact ⟨fp',.no h1,h2⟩
  | shr _ r =>
   obtain ⟨fp',h1,h2⟩:=StM.ph r;exact ⟨fp',.no h1,h2⟩
  | @mu _ w b m _ _ _ fq fr od hp z j r =>
   obtain ⟨fp',h1,h2⟩:=StM.ph r
   cases b with
   | false=>exact ⟨fp',.no h1,λ c hc=>Zd _ (h2 c hc)⟩
   | true =>
    obtain ⟨a,p1,p2⟩:=hp rfl
    have ev:v=.ref a:=by
     cases v <;> simp [JK] at p1
     rw [p1]
    subst p2;subst ev;exact ⟨fq++fp',.mu od (λ _=>⟨a,rfl,rfl⟩) z (λ c hc q=>j c hc (h2 c q)) h1,λ c hc=>(Zi.mp hc).elim (Zk _) λ q=>Zd _ (h2 c q)⟩
theorem Od.Bn (h:Od K Hs H fp v m):∀ c ∈ fp,∀ o u,H c≠some (.frz o u):=by
 induction h with
 | s r=>intro c h; cases h
 | @n a dx t ts u h hl nh ku nd r ih =>
  intro c hc o w;rcases Zh.mp hc with e | e
  ·subst e
   rw [h];generalize ts.map Kd.kv=kvs at hl;cases hl <;> (intro z; cases z)
  ·obtain ⟨k,hk,hb⟩:=Yi.mp e
   exact ih k hk c hb o w
theorem StM.Bn (h:StM K H0 Hs H ρ σ τ fp):∀ c ∈ fp,∀ o u,H c≠some (.frz o u):=by
 induction h with
 | nil=>intro c h; cases h
 | no _ ih=>exact ih
 | shr _ _ ih=>exact ih
 | mu h hp z j _ ih=>exact λ c hc=>(Zi.mp hc).elim (h.Bn c) (ih c)
variable {P:Program} {w:World} {mg:Str->Option Value} {base:Heap}
theorem Fun.okM {x qual:Str} {st:Stmt} {f:Addr} {fd:FuncData} {N ps:List Str} {k:Nat} {b:DSm} (F:Fun K x qual st f fd) (S:cU N ps (aC st))
  (hbody:∀ (cdv:Value) (A:Around) (outer:List Env) (s:Shared) (H:Hp) (E:XK),c6 k (A.deeper (envOfC qual (aC st) s.heap.objs.size f cdv)) ->
    jg (qk CX0 P w K mg base N qual (aC st) f cdv A outer s H E).nox (bw st) b):fW P w K mg base CX0 (k+1) f fd ps (spM (jC N.length ps.length b) K):=by
 refine F.ok S (λ vs H Q E h=>?_) (λ cdv A outer s H vs Q E hr h=>?_)
 ·obtain ⟨Hs,fp,as,s,as',sm,r,e,_⟩:=h
  unfold jC at e;split at e
  · rename_i hl
    have:=r.len;rw [Za] at this;rw [this]; exact hl
  · cases e
 obtain ⟨Hs,fp,as,sl,as',sm,r,e,q⟩:=h;refine ⟨_,hbody cdv A outer s H E hr,?_⟩;have lv:vs.length=as.length:=by have:=r.len; rw [Za] at this; exact this
 unfold jC at e;split at e
 ·rename_i hl
  have h0:aT K Hs (off H fp) (gM vs++List.replicate (N.length - vs.length) none) Hs H (start N vs) (as++List.replicate (N.length - as.length) .no):=⟨⟨.refl _,sm,xM,λ _ h _=>h⟩,fp,by unfold start; rw [lv]; exact r.startM _⟩
  have nf:Nf H (off H fp):=λ d o u e z=>by
    rcases jI z with q | q
    · exact r.Bn d q o u e
    · rw [q] at e; cases e
  cases q2:b (as++List.replicate (N.length - as.length) .no) with
  | none=>rw [q2] at e; cases e
  | some o =>
    rw [q2] at e;refine ⟨Hs,off H fp,nf,_,Hs,_,o,h0,q2,?_⟩
    cases o with
    | next τ =>
     cases e;intro σ Hs' H' r';obtain ⟨fp1,s1⟩:=r'.st;obtain ⟨fp2,s2,_⟩:=s1.ph;rw [lv,hl] at s2;exact q .non Hs' H' fp2 r'.ext (.shr .non s2)
    | ret s τ =>
     cases e;intro v σ Hs' H' r';obtain ⟨fp1,s1⟩:=r'.st
     cases s1 with
     | no s1 =>
      obtain ⟨fp2,s2,_⟩:=s1.ph;rw [lv,hl] at s2;exact q v Hs' H' fp2 r'.ext (.no s2)
     | shr h s1 =>
      obtain ⟨fp2,s2,_⟩:=s1.ph;rw [lv,hl] at s2;exact q v Hs' H' fp2 r'.ext (.shr h s2)
     | mu h hp z j s1 =>
      obtain ⟨fp2,s2,sub⟩:=s1.ph;rw [lv,hl] at s2;exact q v Hs' H' _ r'.ext (.mu h hp z (λ c hc y=>j c hc (sub c y)) s2)
    | brk τ=>cases e
    | cnt τ=>cases e
 · cases e
end
section
variable {K:W.Frag} {Hs0 H0 Hs H Hs' H':Hp} {ρ:List (Option Addr)} {σ:St} {τ:List Sm}
theorem aT.rebase (r:aT K Hs0 H0 ρ Hs H σ τ):aT K Hs H0 ρ Hs H σ τ:=⟨⟨.refl _,r.sm,r.ext.hh,λ _ h _=>h⟩,r.st⟩
theorem aT.iU (a:Ext Hs0 H0 Hs1 H1) (r:aT K Hs1 H0 ρ Hs H σ τ):aT K Hs0 H0 ρ Hs H σ τ:=⟨a.sub r.ext,r.st⟩
theorem zH.rebase (a:Ext Hs0 H0 Hs1 H1) (h:zH K Hs0 H0 ρ E o):zH K Hs1 H0 ρ E o:=by
 cases o with
 | next τ=>exact λ σ Hs H r=>h σ Hs H (r.iU a)
 | brk τ=>exact λ σ Hs H r=>h σ Hs H (r.iU a)
 | cnt τ=>exact λ σ Hs H r=>h σ Hs H (r.iU a)
 | ret s τ=>exact λ v σ Hs H r=>h v σ Hs H (r.iU a)
theorem aT.qI (r:aT K Hs0 H0 ρ Hs H σ τ) (h:Rp K Hs v d):aT K Hs0 H0 ρ Hs H (σ.set i (some v)) (τ.set i (.shr d)):=⟨r.ext,by
 obtain ⟨fp,st⟩:=r.st;obtain ⟨fp',h1,_⟩:=st.qI (i:=i) h
 exact ⟨fp',h1⟩⟩
theorem aT.hold (r:aT K Hs0 H0 ρ Hs H σ τ) (hp:H p=none):aT K Hs0 (upd H0 p u) ρ Hs (upd H p u) σ τ:=by
 obtain ⟨fp,st⟩:=r.st;refine ⟨⟨r.ext.ss,r.sm.trans (aw hp u),λ b o e=>?_,λ b h1 h2=>?_⟩,fp,?_⟩
 ·by_cases z:b=p
  · subst z; rw [ao] at e ⊢; exact e
  · rw [ai z] at e ⊢; exact r.ext.hh b o e
 ·by_cases z:b=p
  · subst z; exact r.sm.free hp
  · rw [ai z] at h2; exact r.ext.fr b h1 h2
 ·refine (st.rebase λ c hc=>?_).ext ⟨.refl _,r.sm.trans (aw hp u),aw hp u,λ _ h _=>h⟩
  rw [ai (show c≠p from λ z=>(st.live c hc).2.1 (by rw [z]; exact hp))];exact (st.live c hc).2.2
theorem aT.CP (r:aT K Hs0 (upd H0 p u) ρ Hs H σ τ) (h0:H0 p=none) (hs:Hs0 p=none):Ext Hs0 H0 Hs H/\Hs p=none/\H p=some u/\∃ fp,p ∉ fp/\StM K H0 Hs H ρ σ τ fp:=by
 obtain ⟨fp,st⟩:=r.st;have np:p ∉ fp:=λ q=>by have:=(st.live p q).2.2; rw [ao] at this; cases this
 refine ⟨⟨r.ext.ss,r.sm,λ b o e=>?_,λ b h1 h2=>?_⟩,r.ext.fr p hs (by rw [ao]; simp),r.ext.hh _ _ ao,fp,np,st.rebase λ c hc=>?_⟩
 · exact r.ext.hh b o (by rw [ai (show b≠p from λ z=>by rw [z,h0] at e; cases e)]; exact e)
 · exact r.ext.fr b h1 (by rw [ai (show b≠p from λ z=>h2 (by rw [z]; exact h0))]; exact h2)
 ·have:=(st.live c hc).2.2
  rw [ai (show c≠p from λ z=>np (by rw [<- z]; exact hc))] at this;exact this
end
def eD0:DEm:=λ τ=>some (.mu false (.n .d []),τ)
def eD1 (kc:Key) (fv:DEm):DEm:=λ τ=>(fv τ).bind λ x=>(toM x.1).map λ mv=>(.mu false (.n .d [(kc,mv)]),x.2)
def eF (g:DE):DEm:=λ τ=>(g (aL τ)).bind λ d=>match d with
 | .lst ds=>if ds.all sca=true then some (.shr (.lst ds),τ) else none
 | _=>none
section
variable {X:Cx} {a b c e o:Expr} {es:List Expr} {pos apos cpos pos' p:Pos} {x m:Str}
theorem G0:PVm X (.Dict [] [] pos) eD0:=xD.imp λ σ H Q ⟨Hs0,H0,nf,ρ,Hs,τ,s,τ',r,e,k⟩=>by
 cases e;intro p hp;exact k (.ref p) Hs _ (aw hp _) (r.Aj (aw hp _) (fq:=[p]) (Od.n (ts:=[]) (dx:=0) (u:=.dK []) ao (.d []) (r.sm.free hp) (by show ([]:List Key).Nodup; exact .nil) (by simp) (λ c hc=>by cases hc)) λ c hc=>by rw [Zn.mp hc]; exact hp)
theorem JJ (h:PEo X e g):PVm X e (eF g):=PE.imp h λ σ H Q ⟨Hs0,H0,nf,ρ,Hs,τ,s,τ',r,e,k⟩=>by
 obtain ⟨d,e1,e2⟩:=bind_some e;split at e2
 ·split at e2
  ·rename_i hs
   cases e2;obtain ⟨fp,st⟩:=r.st;refine ⟨H,H,aL τ,[],_,st.aL r.sm,.refl H,e1,λ a Hs' H' g1 ow hn=>?_⟩
   cases ow with
   | @lst xs ds h n rr =>
    have ha:Hs a=none:=r.sm.free hn
    have ex:Ext Hs H (upd Hs a (.lst xs)) H':=by
     refine ⟨aw ha _,λ b u q=>?_,g1.hh,λ b h1 h2=>?_⟩
     ·by_cases z:b=a
      · subst z; rw [ao] at q; cases q; exact h
      · rw [ai z] at q; exact g1.hh _ _ (r.sm _ _ q)
     · rw [ai (show b≠a from λ z=>h2 (by rw [z]; exact hn))]; exact h1
    exact k _ _ H' g1.hh ((r.ext' ex).push (.lst ao (iA rr hs)))
  · cases e2
 · cases e2
theorem GZ (hk:PE X kx (tC (kV kc))) (hv:PVm X value fv):PVm X (.Dict [some kx] [value] pos) (eD1 kc fv) :=
 (@A3 X pos [some kx] [value] _ (@xk _ _ _ _ _ _ _ _ _ hk hv AI) rfl rfl (by simp) (by simp)).imp λ σ H Q ⟨Hs0,H0,nf,ρ,Hs,τ,s,τ',r,e,k⟩=>by
   obtain ⟨⟨s1,τ1⟩,e1,e2⟩:=bind_some e;obtain ⟨mv,e3,e4⟩:=Zm e2;cases e4;intro p hp;refine ⟨Hs0,upd H0 p (.dK []),nf.upd,ρ,Hs,τ,s1,τ1,r.hold hp,e1,λ v Hs2 H2 g2 r2=>?_⟩;obtain ⟨ex,hsp,hpp,fp,np,st⟩:=r2.CP (r.old hp) (r.ext.ss.free (r.sm.free hp));refine ⟨hpp,[(kc,v)],rfl,Zb rfl,?_⟩
   have sm0:bz H (upd H2 p (.dK [(kc,v)])):=λ b o q=>by
    have nb:b≠p:=λ z=>by rw [z,hp] at q; cases q
    rw [ai nb];exact g2 _ _ (by rw [ai nb]; exact q)
   have ex':Ext Hs0 H0 Hs2 (upd H2 p (.dK [(kc,v)])):=by
    refine ⟨ex.ss,λ b o q=>?_,λ b o q=>?_,ex.fr⟩
    · rw [ai (show b≠p from λ z=>by rw [z,hsp] at q; cases q)]; exact ex.sh b o q
    · rw [ai (show b≠p from λ z=>by rw [z,r.old hp] at q; cases q)]; exact ex.hh b o q
   have fin:∀ {fq fr:List Addr},Od X.K Hs2 H2 fq v mv->p ∉ fq->p ∉ fr->(∀ c ∈ fq,H0 c=none)->(∀ c ∈ fq,c ∉ fr)->StM X.K H0 Hs2 H2 ρ σ τ1 fr->Q (.ref p) (upd H2 p (.dK [(kc,v)])):=λ {fq fr} od n1 n2 z j sr=>by
    refine k (.ref p) Hs2 _ sm0 ⟨ex',(p::fq)++fr,.mu (fq:=p::fq) ?_ (λ e=>by cases e) (λ c hc=>?_) (λ c hc=>?_) (sr.mv (.refl _) λ c hc=>⟨(sr.live c hc).1,ai (show c≠p from λ q=>n2 (by rw [<- q]; exact hc))⟩)⟩
    ·have:=Od.n (K:=X.K) (Hs:=Hs2) (H:=upd H2 p (.dK [(kc,v)])) (a:=p) (dx:=0) (t:=.d) (ts:=[⟨kc,v,mv,fq⟩]) (u:=.dK [(kc,v)]) ao (.d _) hsp (by show [kc].Nodup; simp) (by
      rw [Z9,List.flatMap_nil,Zw]
      exact Zt.mpr ⟨n1,od.nd⟩) (λ c hc=>by
      rw [Zn.mp hc]
      exact od.mv (.refl _) λ x hx=>⟨(od.live x hx).1,ai (show x≠p from λ q=>n1 (by rw [<- q]; exact hx))⟩)
     rw [Z9,List.flatMap_nil,Zw] at this;exact this
    ·rcases Zh.mp hc with q | q
     · rw [q]; exact r.old hp
     · exact z c q
    ·rcases Zh.mp hc with q | q
     · rw [q]; exact n2
     · exact j c q
   cases st with
   | no st=>cases e3
   | shr h st=>cases e3; exact fin (.s h) (by simp) np (λ c hc=>by cases hc) (λ c hc=>by cases hc) st
   | @mu _ _ b _ _ _ _ fq fr od hpn z j st =>
    cases b with
    | true=>cases e3
    | false=>cases e3; exact fin od (λ q=>np (Zk _ q)) (λ q=>np (Zd _ q)) z j st
end
abbrev DGm:=D->List Sm->Option (List Sm)
def KY (N:Hp) (K:W.Frag) (g:DGm):TG:=λ v σ H Q=>∃ (Hs0 H0:Hp),∃ (_:Nf N H0),∃ ρ Hs τ τ' d,aT K Hs0 H0 ρ Hs H σ τ/\Rp K Hs v d/\g d τ=some τ'/\∀ σ',aT K Hs0 H0 ρ Hs H σ' τ'->Q σ' H
def PGm (X:Cx) (tg:Expr) (g:DGm):Prop:=PG X tg (KY X.H₀ X.K g)
abbrev zI:=List D->List Sm->Option (List Sm)
def GS (N:Hp) (K:W.Frag) (g:zI):TGs:=λ v σ H Q=>∃ (Hs0 H0:Hp),∃ (_:Nf N H0),∃ ρ Hs τ τ' d,aT K Hs0 H0 ρ Hs H σ τ/\Rps K Hs v d/\g d τ=some τ'/\∀ σ',aT K Hs0 H0 ρ Hs H σ' τ'->Q σ' H
def zF (X:Cx) (tg:List Expr) (g:zI):Prop:=PGs X tg (GS X.H₀ X.K g)
def gNm (i:Nat):DGm:=λ d τ=>some (τ.set i (.shr d))
def gY:zI:=λ ds τ=>if ds.isEmpty=true then some τ else none
def cS (g:DGm) (h:zI):zI:=λ ds τ=>match ds with | d::r=>(g d τ).bind λ τ'=>h r τ' | []=>none
def gTm (n:Nat) (g:zI):DGm:=λ d τ=>match d with | .tup ds=>if ds.length=n then g ds τ else none | _=>none
def forM (b:D->DSm):List D->DSm
 | [],τ=>some (.next τ)
 | d::ds,τ=>match b d τ with
  | some (.next τ')=>forM b ds τ'
  | some (.cnt τ')=>forM b ds τ'
  | some (.brk τ')=>some (.next τ')
  | r=>r
def z7 (it:DI) (g:DGm) (b:DSm):DSm:=λ τ=>(it (er τ)).bind λ ds=>forM (λ d τ=>(g d τ).bind b) ds τ
section
variable {X:Cx} {a b c e o tg iter:Expr} {es:List Expr} {body:List Stmt} {pos apos cpos pos' p:Pos} {x m:Str}
theorem xy (hN:X.N.Nodup) (hi:X.N[i]?=some x) (hx:Loc X.env.scope x) (hf:X.fn x=true\/X.env.scope.names.lookup x=some .local:=by first | exact .inl rfl | exact .inr rfl | assumption):PGm X (.Name x pos) (gNm i) :=
 (gr hN hi hx hf).imp λ v σ H Q ⟨Hs0,H0,nf,ρ,Hs,τ,τ',d,r,rv,e,k⟩=>by
   cases e;exact k _ (r.qI rv)
theorem xx:zF X [] gY:=ue.imp λ v σ H Q ⟨Hs0,H0,nf,ρ,Hs,τ,τ',d,r,rv,e,k⟩=>by
 cases rv with
 | nil=>cases e; exact ⟨rfl,k σ r⟩
 | cons _ _=>simp [gY] at e
theorem ud (h1:PGm X e g) (h2:zF X es h) (hs:(assignEach (e::es) X.env).map (·.2)=assign e X.env::(assignEach es X.env).map (·.2):=by rfl):zF X (e::es) (cS g h) :=
 (pK h1 h2 hs).imp λ v σ H Q ⟨Hs0,H0,nf,ρ,Hs,τ,τ',d,r,rv,e,k⟩=>by
   cases rv with
   | nil=>simp [cS] at e
   | cons rx rr =>
    obtain ⟨τ1,e1,e2⟩:=bind_some e;exact ⟨_,_,rfl,Hs0,H0,nf,ρ,Hs,τ,τ1,_,r,rx,e1,λ σ' r'=>⟨Hs0,H0,nf,ρ,Hs,τ1,τ',_,r',rr,e2,k⟩⟩
theorem AZ (hc:X.calm=true) (h:zF X es g) (hn:(assignEach es X.env).length=n:=by rfl) (hst:(assignEach es X.env).findIdx? (·.1)=none:=by rfl):PGm X (.Tuple es k' pos) (gTm n g) :=
 (yW hc h hn hst).imp λ v σ H Q ⟨Hs0,H0,nf,ρ,Hs,τ,τ',d,r,rv,e,k⟩=>by
   cases rv with
   | @tup a xs ds h rr =>
    simp only [gTm] at e;split at e
    ·rename_i hl
     exact ⟨a,xs,rfl,r.sm.tup h,by rw [rr.length]; exact hl,Hs0,H0,nf,ρ,Hs,τ,τ',ds,r,rr,e,k⟩
    · cases e
   | _=>simp [gTm] at e
theorem Ay {it:DI} {g:DGm} {b:DSm} (hp:PassesOwn (model X.prog X.w) X.A X.env X.xe) (hc:X.calm=true) (hi:PId X tg iter it) (hg:PGm X tg g) (hb:jg X body b) (hs:∀ x,foldedSetIterable iter X.env x=pure x:=by intro _; rfl) :
  PSm X (.For tg iter body [] pos) (z7 it g b):=(jG hp hc hi hg hb hs).imp λ E σ H ⟨Hs0,H0,nf,ρ,Hs,τ,o,r,e,k⟩=>by
 obtain ⟨ds,e1,e2⟩:=bind_some e;obtain ⟨fp,hst⟩:=r.st;refine ⟨H0,Hs,er τ,[],ds,hst.er,r.sm,e1,λ J Hs1 H1 g1 hJ=>?_⟩;have r1:=r.ext' g1;have kk:=k.rebase r1.ext;refine ⟨λ i m σ H=>m=ds.length - i/\i<=ds.length/\∃ Hs2 τ2,aT X.K Hs1 H0 ρ Hs2 H σ τ2/\forM (λ d τ=>(g d τ).bind b) (ds.drop i) τ2=some o,⟨ds.length,by simp,Z3 _,Hs1,τ,r1.rebase,by simpa using e2⟩,?_⟩
 rintro i m σ2 H2 ⟨rfl,hi,Hs2,τ2,r2,e3⟩
 obtain ⟨hgo,hstop⟩:=hJ Hs2 H2 r2.ext.ss r2.sm
 by_cases hlt:i < ds.length
 ·have ed:ds.drop i=ds[i]::ds.drop (i+1):=Z7 hlt
  rw [ed] at e3;obtain ⟨go,yl⟩:=hgo i ds[i] (List.getElem?_eq_getElem hlt);refine .inr ⟨go,λ σ' H'=>∃ Hs' τ',aT X.K Hs1 H0 ρ Hs' H' σ' τ'/\forM (λ d τ=>(g d τ).bind b) (ds.drop (i+1)) τ'=some o,?_,?_⟩
  ·rintro σ' H' ⟨Hs',τ',r',e'⟩
   exact ⟨ds.length - (i+1),by omega,rfl,hlt,Hs',τ',r',e'⟩
  ·intro x H' y
   obtain ⟨Hs3,g3,rx⟩:=yl x H' y;have r3:=r2.ext' g3;unfold forM at e3
   cases q:(g ds[i] τ2).bind b with
   | none=>simp only [q] at e3; cases e3
   | some o1 =>
    simp only [q] at e3;obtain ⟨τ3,q1,q2⟩:=bind_some q;refine ⟨Hs1,H0,nf,ρ,Hs3,τ2,τ3,ds[i],r3,rx,q1,λ σ' r'=>?_⟩;refine ⟨Hs1,H0,nf,ρ,Hs3,τ3,o1,r',q2,?_⟩
    cases o1 with
    | next τ'=>exact λ σ4 Hs4 H4 r4=>⟨Hs4,τ',r4,e3⟩
    | cnt τ'=>exact λ σ4 Hs4 H4 r4=>⟨Hs4,τ',r4,e3⟩
    | brk τ'=>cases e3; exact kk
    | ret s τ'=>cases e3; exact kk
 ·have e0:i=ds.length:=by omega
  subst e0;rw [Yv] at e3;have e':qy.next τ2=o:=by simpa [forM] using e3
  subst e';exact .inl ⟨hstop _ (Zl _),kk σ2 Hs2 H2 r2⟩
end
def yv (i:Nat):DT:=λ τ=>match τ[i]? with
 | some (.own (.lst ds))=>some (!ds.isEmpty)
 | _=>none
def nT (i j:Nat):DS:=λ τ=>match τ[j]? with
 | some (.own (.lst ds))=>(ds[ds.length - 1]?).map λ d=>.next ((τ.set j (.own (.lst ds.dropLast))).set i (.shr d))
 | _=>none
theorem Rps.dropLast {K:W.Frag} {H:Hp} {xs:List V} {ds:List D} (r:Rps K H xs ds):Rps K H xs.dropLast ds.dropLast:=by
 rw [List.dropLast_eq_take,List.dropLast_eq_take,r.length];exact r.take _
theorem Rps.emp {K:W.Frag} {H:Hp} {xs:List V} {ds:List D} (r:Rps K H xs ds):xs.isEmpty=ds.isEmpty:=by cases r <;> rfl
section
variable {X:Cx} {a b c e o tg iter:Expr} {es:List Expr} {body:List Stmt} {pos apos cpos pos' p:Pos} {x y:Str}
theorem wM (i:Nat) (hN:X.N[i]?=some x:=by rfl) (hv:Vis X.env.scope x:=by first | exact Or.inl rfl | exact Or.inr (Or.inl rfl) | exact Or.inr (Or.inr rfl)) (hd:(x == ("__debug__":Str))=false:=by decide) (hcd:(x == ("__classdict__":Str))=false:=by decide):PTd X (.Name x p) (yv i) :=
 (wN (cI hN hv hd hcd) (λ _=>rfl)).imp λ σ H Q ⟨H0,Hs,τ,fp,d,st,sm,e,k⟩=>by
   unfold yv at e;split at e
   ·rename_i ds q
    cases e;obtain ⟨a,h1,h2,_⟩:=st.zt q
    cases h2 with
    | lst h n r=>exact ⟨_,h1,_,.inl ⟨_,SqL.of h,by rw [r.emp]⟩,k Hs H (.refl sm)⟩
   · cases e
theorem xf (i j:Nat) (hN:X.N.Nodup) (hi:X.N[i]?=some x) (hx:Loc X.env.scope x) (hj:X.N[j]?=some y) (hv:Vis X.env.scope y)
   (hd:(y == ("__debug__":Str))=false:=by decide) (hcd:(y == ("__classdict__":Str))=false:=by decide)
   (hbase:attributeBase (.Name y py) "pop" X.env (eval (.Name y py) X.env)=eval (.Name y py) X.env:=by rfl) (hline:(apos.endLine == cpos.line)=true:=by rfl)
   (hs:swapsWith (.Call (.Attribute (.Name y py) "pop" apos) [] [] cpos) (some (.Name x pos')) pos.line X.env=pure false:=by rfl) (hf:X.fn x=true\/X.env.scope.names.lookup x=some .local:=by first | exact .inl rfl | exact .inr rfl | assumption) :
   PSd X (.Assign [.Name x pos'] (.Call (.Attribute (.Name y py) "pop" apos) [] [] cpos) pos) (nT i j) :=
 (eG hN hi hx (DW Ym PySem.F.slot_list_pop PySem.F.type_list_pop Es (cI hj hv hd hcd) hbase hline) hs hf).imp λ E σ H ⟨Hs0,H0,Hs,τ,o,r,e,k⟩=>by
   unfold nT at e;split at e
   ·rename_i ds q
    obtain ⟨d,e1,rfl⟩:=Zm e;obtain ⟨fp,st⟩:=r.st;obtain ⟨a,h1,h2,h3,h4⟩:=st.zt q
    cases h2 with
    | @lst xs _ hH hn hr =>
     obtain ⟨v,hv1,hv2⟩:=hr.get e1;rw [<- hr.length] at hv1;refine ⟨_,h1,.inl ⟨rfl,_,SqL.of hH⟩,a,xs,v,rfl,rfl,hH,hv1,?_⟩;have s1:=st.mut q h1 (o:=.lst xs.dropLast) (d':=.lst ds.dropLast) (.lst ao hn hr.dropLast);obtain ⟨fp',_,s2⟩:=s1.qI (i:=i) hv2;refine k _ Hs _ ⟨⟨r.ext.ss,λ b u z=>?_,λ b u z=>?_,r.ext.fr⟩,fp',s2⟩
     · rw [ai (show b≠a from λ w=>by rw [w,hn] at z; cases z)]; exact r.ext.sh b u z
     · rw [ai (show b≠a from λ w=>by rw [w,h3] at z; cases z)]; exact r.ext.hh b u z
   · cases e
end
theorem Od.KN {K:W.Frag} {Hs H:Hp} {fp:List Addr} {v:V} {d:D} (h:Od K Hs H fp v (.s d)):Rp K Hs v d:=by
 cases h with
 | s r=>exact r
def jv (j:Nat) (b:Bool) (τ:List Sm):List Sm:=match τ[j]? with
 | some (.mu true m)=>τ.set j (.mu b m)
 | _=>τ
def Fn (j:Nat) (b:Bool):qy->qy
 | .next τ=>.next (jv j b τ)
 | .ret s τ=>.ret s (jv j b τ)
 | .brk τ=>.brk (jv j b τ)
 | .cnt τ=>.cnt (jv j b τ)
def iG (j:Nat) (g:DGm) (b:DSm):Nat->Nat->DSm
 | 0,_,_=>none
 | n + 1,i,τ=>match τ[j]? with
  | some (.mu true (.n .l cs))=>match cs[i]? with
   | none=>some (.next τ)
   | some (_,.s d)=>match (g d τ).bind b with
    | some (.next τ')=>iG j g b n (i+1) τ'
    | some (.cnt τ')=>iG j g b n (i+1) τ'
    | some (.brk τ')=>some (.next τ')
    | r=>r
   | _=>none
  | _=>none
def z8 (j:Nat) (g:DGm) (b:DSm):DSm:=λ τ=>match τ[j]? with
 | some (.mu b0 (.n .l cs))=>(iG j g b (cs.length+1) 0 (τ.set j (.mu true (.n .l cs)))).map (Fn j b0)
 | _=>none
section
variable {K:W.Frag} {Hs0 H0 Hs H:Hp} {a:Addr} {b:Bool}
theorem StM.pinned:∀ {ρ:List (Option Addr)} {σ:List (Option V)} {τ:List Sm} {fp:List Addr},StM K H0 Hs H ρ σ τ fp->τ[j]?=some (.mu b m)->σ[j]?=some (some (.ref a))->StM K H0 Hs H (ρ.set j (some a)) σ (τ.set j (.mu true m)) fp:=by
 induction j with
 | zero =>
  intro ρ σ τ fp h e1 e2
  cases h with
  | nil=>simp at e1
  | no r=>simp at e1
  | shr h r=>simp at e1
  | mu h hp z j r =>
   have q:=Zj (show some (Sm.mu _ _)=some (Sm.mu b m) by simpa using e1);injection q with q1 q2
   subst q2;have q3:=Zj (Zj (show some (some _)=some (some (V.ref a)) by simpa using e2));subst q3;exact .mu h (λ _=>⟨a,rfl,rfl⟩) z j r
 | succ j ih =>
  intro ρ σ τ fp h e1 e2
  cases h with
  | nil=>simp at e1
  | no r=>exact .no (ih r (by simpa using e1) (by simpa using e2))
  | shr h r=>exact .shr h (ih r (by simpa using e1) (by simpa using e2))
  | mu h hp z j' r=>exact .mu h hp z j' (ih r (by simpa using e1) (by simpa using e2))
theorem StM.unp:∀ (j:Nat) {ρ:List (Option Addr)} {σ:List (Option V)} {τ:List Sm} {fp:List Addr},StM K H0 Hs H (ρ.set j (some a)) σ τ fp->(b=true->ρ[j]?=some (some a))->StM K H0 Hs H ρ σ (jv j b τ) fp:=by
 intro j
 induction j with
 | zero =>
  intro ρ σ τ fp h hb
  cases ρ with
  | nil=>cases h; exact .nil
  | cons p ρ =>
   cases h with
   | no r=>exact .no r
   | shr h r=>exact .shr h r
   | @mu _ v b' m _ _ _ fq fp h hp z j r =>
    cases b' with
    | false=>exact .mu h (λ q=>by cases q) z j r
    | true =>
     obtain ⟨a',q1,q2⟩:=hp rfl;cases q1;exact .mu h (λ q=>⟨a,by simpa using hb q,q2⟩) z j r
 | succ j ih =>
  intro ρ σ τ fp h hb
  cases ρ with
  | nil=>cases h; exact .nil
  | cons p ρ =>
   have un:∀ (s:Sm) (τ:List Sm),jv (j+1) b (s::τ)=s::jv j b τ:=λ s τ=>by
    unfold jv;rw [List.getElem?_cons_succ];split <;> rfl
   cases h with
   | no r=>rw [un]; exact .no (ih r (by simpa using hb))
   | shr h r=>rw [un]; exact .shr h (ih r (by simpa using hb))
   | mu h hp z j' r=>rw [un]; exact .mu h hp z j' (ih r (by simpa using hb))
theorem qB (j:Nat) (s:Sm) (τ:List Sm):jv (j+1) b (s::τ)=s::jv j b τ:=by
 unfold jv;rw [List.getElem?_cons_succ];split <;> rfl
theorem zH.unp (hb:b=true->ρ[j]?=some (some a)) (h:zH K Hs0 H0 ρ E (Fn j b o)):zH K Hs0 H0 (ρ.set j (some a)) E o:=by
 cases o with
 | next τ=>exact λ σ Hs H r=>h σ Hs H ⟨r.ext,let ⟨fp,s⟩:=r.st; ⟨fp,s.unp j hb⟩⟩
 | brk τ=>exact λ σ Hs H r=>h σ Hs H ⟨r.ext,let ⟨fp,s⟩:=r.st; ⟨fp,s.unp j hb⟩⟩
 | cnt τ=>exact λ σ Hs H r=>h σ Hs H ⟨r.ext,let ⟨fp,s⟩:=r.st; ⟨fp,s.unp j hb⟩⟩
 | ret s τ=>exact λ v σ Hs H r=>h v σ Hs H ⟨r.ext,by
  obtain ⟨fp,st⟩:=r.st;have:=StM.unp (ρ:=none::ρ) (j+1) (a:=a) (b:=b) st (by simpa using hb);rw [qB] at this
  exact ⟨fp,this⟩⟩
end
section
variable {X:Cx} {tg iter:Expr} {body:List Stmt} {pos p:Pos} {x:Str}
theorem wY (j:Nat) (hp:PassesOwn (model X.prog X.w) X.A X.env X.xe) (hc:X.calm=true) (hN:X.N[j]?=some x) (hv:Vis X.env.scope x) (hg:PGm X tg g) (hb:jg X body b)
  (hd:(x == ("__debug__":Str))=false:=by decide) (hcd:(x == ("__classdict__":Str))=false:=by decide) (hs:∀ y,foldedSetIterable (.Name x p) X.env y=pure y:=by intro _; rfl) :
  PSm X (.For tg (.Name x p) body [] pos) (z8 j g b):=(jG hp hc (nY (cI hN hv hd hcd)) hg hb hs).imp λ E σ H ⟨Hs0,H0,nf,ρ,Hs,τ,o,r,e,k⟩=>by
 unfold z8 at e;split at e
 ·rename_i b0 cs ej
  obtain ⟨o',e1,rfl⟩:=Zm e;obtain ⟨fp,st⟩:=r.st;obtain ⟨v,fp1,v1,w1,w2,w3,_⟩:=st.nP (q:=[]) ej rfl;have ev:v=v1:=by cases v <;> exact Zj w2
  subst ev;obtain ⟨a,dx,ts,u,rfl,rfl,rfl,ha,hl,_⟩:=w3.inv;rw [rA hl] at ha
  have pinb:b0=true->ρ[j]?=some (some a):=λ hb=>by
   obtain ⟨a',q1,q2⟩:=st.pin ej w1 hb;cases q2;exact q1
  have kk:=zH.unp (a:=a) pinb k;refine ⟨_,w1,a,rfl,⟨_,SqL.of ha⟩,λ i n σ H=>∃ Hs2 τ2,aT X.K Hs0 H0 (ρ.set j (some a)) Hs2 H σ τ2/\iG j g b n i τ2=some o',⟨_,Hs,_,⟨r.ext,fp,st.pinned ej w1⟩,e1⟩,?_⟩
  rintro i n σ2 H2 ⟨Hs2,τ2,r2,e2⟩
  cases n with
  | zero=>cases e2
  | succ n =>
   unfold iG at e2;split at e2
   ·rename_i cs2 ej2
    obtain ⟨fp2,st2⟩:=r2.st;obtain ⟨v',fp1',v1',y1,y2,y3,_⟩:=st2.nP (q:=[]) ej2 rfl;have ev:v'=v1':=by cases v' <;> exact Zj y2
    subst ev;obtain ⟨a',q1,q2⟩:=st2.pin ej2 y1 rfl
    have lj:j < ρ.length:=by
     have:=List.getElem?_eq_some_iff.mp q1;have:=this.1;rw [Y1] at this;exact this
    rw [List.getElem?_set_self lj] at q1;cases q1;obtain ⟨a2,dx2,ts2,u2,ea,_,ec,ha2,hl2,_,_,_,rr⟩:=y3.inv;rw [q2] at ea;cases ea;rw [rA hl2] at ha2
    cases q3:cs2[i]? with
    | none =>
     simp only [q3] at e2;cases e2;refine .inl ⟨⟨_,SqL.of ha2,?_⟩,kk σ2 Hs2 H2 r2⟩;rw [Za];rw [ec,List.getElem?_map,Option.map_eq_none_iff] at q3;exact List.getElem?_eq_none_iff.mp q3
    | some c =>
     obtain ⟨kc,mc⟩:=c;simp only [q3] at e2
     cases mc with
     | n t cs=>cases e2
     | s d =>
      simp only at e2;rw [ec,List.getElem?_map] at q3;obtain ⟨kd,q4,q5⟩:=Zm q3;have hkd:=rr kd (List.mem_of_getElem? q4);have q6:kd.m=.s d:=(Prod.mk.inj q5).2;rw [q6] at hkd;have hx:(ts2.map Kd.v)[i]?=some kd.v:=by rw [List.getElem?_map,q4]; rfl
      refine .inr ⟨⟨_,kd.v,SqL.of ha2,hx⟩,λ σ' H'=>∃ Hs' τ',aT X.K Hs0 H0 (ρ.set j (some a)) Hs' H' σ' τ'/\iG j g b n (i+1) τ'=some o',λ σ' H' h=>⟨n,by omega,h⟩,?_⟩
      rintro x H' ⟨rfl,hy⟩
      have ex:=hy _ (SqL.of ha2);rw [hx] at ex;cases ex
      cases q7:(g d τ2).bind b with
      | none=>simp only [q7] at e2; cases e2
      | some o1 =>
       simp only [q7] at e2;obtain ⟨τ3,q8,q9⟩:=bind_some q7;have rpd:Rp X.K Hs2 kd.v d:=hkd.KN;refine ⟨Hs0,H0,nf,ρ.set j (some a),Hs2,τ2,τ3,d,r2,rpd,q8,λ σ' r'=>?_⟩;refine ⟨Hs0,H0,nf,ρ.set j (some a),Hs2,τ3,o1,r',q9,?_⟩
       cases o1 with
       | next τ'=>exact λ σ4 Hs4 H4 r4=>⟨Hs4,τ',r4,e2⟩
       | cnt τ'=>exact λ σ4 Hs4 H4 r4=>⟨Hs4,τ',r4,e2⟩
       | brk τ'=>cases e2; exact kk
       | ret s τ'=>cases e2; exact kk
   · cases e2
 · cases e
end
def vd (f:Str):List Stp:=[.k (.inr f)]
def xp (s:Nat) (gk:DE) (C:Addr) (f:Str) (τ:List Sm):Option (List Sm):=match aP τ s [] with
 | some (.n (.o C') _)=>if C'=C then (gk (aL τ)).bind λ d=>(dQ d).bind λ k=>match aP τ s (vd f) with
  | some (.n .d cs)=>if (cs.any λ c=>decide (c.1=k))=true then some (b9 τ s (vd f) (.n .d (dB cs k))) else none
  | _=>none else none
 | _=>none
def nW (s:Nat) (gk:DE) (C:Addr):List Str->List Sm->Option (List Sm)
 | [],τ=>some τ
 | f::fs,τ=>(xp s gk C f τ).bind (nW s gk C fs)
def sT (i s:Nat) (C:Addr) (fs:List Str) (gk:DE):DSm:=λ τ=>match aP τ s [] with
 | some (.n (.o C') _)=>if C'=C/\(fs.all λ f=>(aP τ s (vd f)).isSome)=true/\fs.length<=50/\i < τ.length then (nW s gk C fs (τ.set i .no)).map .next else none
 | _=>none
def Vs1 (H:Hp) (rt:V) (fs:List Str) (vs:List V):Prop:=vs.length=fs.length/\∀ (j:Nat) (f:Str) (v:V),fs[j]?=some f->vs[j]?=some v->vAt H rt (vd f)=some v
def KP (N:Hp) (K:W.Frag) (s:Nat) (C:Addr) (fs:List Str):TA:=λ σ H Q=>∃ (Hs0 H0:Hp),∃ (_:Nf N H0),∃ ρ Hs τ cs rt,aT K Hs0 H0 ρ Hs H σ τ/\aP τ s []=some (.n (.o C) cs)/\σ[s]?=some (some rt)/\(∀ f ∈ fs,(aP τ s (vd f)).isSome=true)/\∀ vs H',bz H H'->Vs1 H' rt fs vs->Q vs H'
def PXs (X:Cx) (es:List Expr) (s:Nat) (C:Addr) (fs:List Str):Prop:=PA X es (KP X.H₀ X.K s C fs)
theorem Vs1.same (g:bz H H') (h:Vs1 H rt fs vs):Vs1 H' rt fs vs:=⟨h.1,λ j f v e1 e2=>bf g _ (h.2 j f v e1 e2)⟩
section
variable {X:Cx} {e:Expr} {es:List Expr} {s:Nat} {C:Addr} {f:Str} {fs:List Str}
theorem Bd:PXs X [] s C []:=bc.imp λ σ H Q ⟨Hs0,H0,nf,ρ,Hs,τ,cs,rt,r,e1,e2,e3,k⟩=>k [] H (.refl H) ⟨rfl,λ j f v q=>by simp at q⟩
theorem xH (h1:PXm X e (gm C f (bS s))) (h2:PXs X es s C fs) (hs:starEach (e::es) X.env=(false,eval e X.env)::starEach es X.env:=by rfl):PXs X (e::es) s C (f::fs) :=
 (aJ h1 h2 hs).imp λ σ H Q ⟨Hs0,H0,nf,ρ,Hs,τ,cs,rt,r,e1,e2,e3,k⟩=>by
   have hf:=e3 f (Ze ..);obtain ⟨m,em⟩:=Yp.mp hf;refine ⟨Hs0,H0,nf,ρ,Hs,τ,s,vd f,m,r,?_,em,λ v v1 H1 g1 hv hq=>?_⟩
   ·show (some (s,([]:List Stp))).bind _=_
    show (match aP τ s [] with | some (.n (.o C') _)=>if C'=C then some (s,[]++[Stp.k (.inr f)]) else none | _=>none)=_;rw [e1];simp only [if_pos]
    first | done | rfl
   ·rw [e2] at hv
    cases hv;refine ⟨Hs0,H0,nf,ρ,Hs,τ,cs,rt,r.grow g1,e1,e2,λ f' hf'=>e3 f' (Zc _ hf'),λ vs H2 g2 hvs=>k (v1::vs) H2 (g1.trans g2) ⟨Yo (·+1) hvs.1,λ j f' v q1 q2=>?_⟩⟩
    cases j with
    | zero =>
     cases q1;cases q2;exact bf g2 _ hq
    | succ j=>exact hvs.2 j f' v (by simpa using q1) (by simpa using q2)
end
section
variable {K:W.Frag} {Hs0 H0 Hs H:Hp} {ρ:List (Option Addr)} {σ:St} {τ:List Sm}
theorem aT.forget (i:Nat) (v:Option V) (r:aT K Hs0 H0 ρ Hs H σ τ):aT K Hs0 H0 ρ Hs H (σ.set i v) (τ.set i .no):=by
 obtain ⟨fp,st⟩:=r.st;refine ⟨r.ext,?_⟩
 have:∀ {i ρ σ τ fp},StM K H0 Hs H ρ σ τ fp->∃ fp',StM K H0 Hs H ρ (σ.set i v) (τ.set i .no) fp'/\∀ c ∈ fp',c ∈ fp:=λ {i ρ σ τ fp} h=>by
  induction h generalizing i with
  | nil=>exact ⟨[],.nil,λ _ h=>h⟩
  | no r ih =>
   cases i with
   | zero=>exact ⟨_,.no r,λ _ h=>h⟩
   | succ i=>obtain ⟨fp',h1,h2⟩:=ih (i:=i); exact ⟨fp',.no h1,h2⟩
  | shr h r ih =>
   cases i with
   | zero=>exact ⟨_,.no r,λ _ h=>h⟩
   | succ i=>obtain ⟨fp',h1,h2⟩:=ih (i:=i); exact ⟨fp',.shr h h1,h2⟩
  | mu h hp z j r ih =>
   cases i with
   | zero=>exact ⟨_,.no r,λ _ h=>Zd _ h⟩
   | succ i =>
    obtain ⟨fp',h1,h2⟩:=ih (i:=i);exact ⟨_,.mu h hp z (λ c hc q=>j c hc (h2 c q)) h1,λ c hc=>(Zi.mp hc).elim (Zk _) λ q=>Zd _ (h2 c q)⟩
 obtain ⟨fp',h,_⟩:=this (i:=i) st;exact ⟨fp',h⟩
end
theorem zN (h:r≠a):vAt (upd H a u) (.ref r) (vd f)=vAt H (.ref r) (vd f):=by
 simp only [vd,vAt,ai h]
section
variable {X:Cx} {e:Expr} {es:List Expr} {s i:Nat} {C:Addr} {fs:List Str} {gk:DE} {pos p1 p2 p3 apos cpos epos:Pos} {x:Str} {kk:Nat}
theorem wW (hp:PassesOwn (model X.prog X.w) X.A X.env X.xe) (hc:X.calm=true) (hN:X.N.Nodup) (hi:X.N[i]?=some x) (hx:Loc X.env.scope x) (hvis:Vis X.env.scope x) (is:i≠s) (ha:PXs X es s C fs) (he:PEd X e gk) (m:M1 X (.Name x p3) "pop" apos e cpos)
   (hd:(x == ("__debug__":Str))=false:=by decide) (hcd:(x == ("__classdict__":Str))=false:=by decide) (hf:X.fn x=true\/X.env.scope.names.lookup x=some .local:=by first | exact .inl rfl | exact .inr rfl | assumption)
   (hs:∀ y,foldedSetIterable (.Tuple es kk p2) X.env y=pure y:=by intro _; rfl) (hsw:swapsWith (.Call (.Attribute (.Name x p3) "pop" apos) [e] [] cpos) none epos.line X.env=pure false:=by rfl) :
   PSm X (.For (.Name x p1) (.Tuple es kk p2) [.Expr (.Call (.Attribute (.Name x p3) "pop" apos) [e] [] cpos) epos] [] pos) (sT i s C fs gk) :=
 (jG hp hc (DL (uf ha)) (gr hN hi hx hf) (aR (bG (pL (cI hi hvis hd hcd) he m) hsw)) hs).imp λ E σ H ⟨Hs0,H0,nf,ρ,Hs,τ,o,r,e,k⟩=>by
   unfold sT at e;split at e
   ·rename_i C' cs0 e0
    split at e
    ·rename_i hcs
     obtain ⟨hC,hall,h50,hil⟩:=hcs;subst hC;obtain ⟨τF,e1,rfl⟩:=Zm e;obtain ⟨b0,m0,em0,_⟩:=cD e0;obtain ⟨fp,st⟩:=r.st;obtain ⟨rt,_,_,w1,_⟩:=st.nP (q:=[]) em0 rfl;refine ⟨Hs0,H0,nf,ρ,Hs,τ,cs0,rt,r,e0,w1,λ f hf=>Ys.mp hall f hf,λ vs H1 g1 hvs=>?_⟩;refine ⟨by rw [hvs.1]; exact rq (Z8 h50 (by decide)),λ T hT=>?_⟩;have r1:=(r.grow g1).grow (aw hT (.tup vs));have hvs1:=hvs.same (aw hT (.tup vs));have r1':=r1.forget i (σ[i]?.getD none);refine ⟨T,rfl,⟨vs,SqT.of ao⟩,λ j n σ' H'=>n=fs.length - j/\j<=fs.length/\∃ Hs2 τ2,aT X.K Hs0 H0 ρ Hs2 H' σ' τ2/\(τ2.set i .no=τ2/\i < τ2.length)/\nW s gk C' (fs.drop j) τ2=some τF/\H' T=some (.tup vs)/\σ'[s]?=some (some rt)/\∀ (j':Nat) (f:Str) (v:V),j<=j'->fs[j']?=some f->vs[j']?=some v->vAt H' rt (vd f)=some v,⟨_,rfl,Z3 _,Hs,τ.set i .no,?_,⟨List.set_set ..,by rw [Y1]; exact hil⟩,by simpa using e1,ao,w1,λ j' f v _ q1 q2=>hvs1.2 j' f v q1 q2⟩,?_⟩
     ·have es:σ.set i (σ[i]?.getD none)=σ:=by
       apply List.ext_getElem?;intro n
       by_cases hn:i=n
       ·subst hn
        by_cases hl:i < σ.length
        · rw [List.getElem?_set_self hl,List.getElem?_eq_getElem hl]; rfl
        · rw [List.getElem?_eq_none (by rw [Y1]; omega),List.getElem?_eq_none (by omega)]
       · rw [List.getElem?_set_ne hn]
      rw [es] at r1';exact r1'
     ·rintro j n σ2 H2 ⟨rfl,hj,Hs2,τ2,r2,⟨t2,l2⟩,e2,hT2,w2,hat⟩
      by_cases hlt:j < fs.length
      ·have hlv:j < vs.length:=by rw [hvs.1]; exact hlt
       have hv:=List.getElem?_eq_getElem hlv;have hfj:=List.getElem?_eq_getElem hlt;generalize vs[j]=v at hv;generalize fs[j]=f at hfj
       have ed:fs.drop j=f::fs.drop (j+1):=by
        rw [Z7 hlt];rw [List.getElem?_eq_getElem hlt] at hfj;rw [Zj hfj]
       rw [ed] at e2;obtain ⟨τ3,e3,e4⟩:=bind_some (show (xp s gk C' f τ2).bind _=_ from e2);refine .inr ⟨⟨vs,v,SqT.of hT2,hv⟩,λ σ' H'=>j+1<=fs.length/\∃ Hs2 τ2,aT X.K Hs0 H0 ρ Hs2 H' σ' τ2/\(τ2.set i .no=τ2/\i < τ2.length)/\nW s gk C' (fs.drop (j+1)) τ2=some τF/\H' T=some (.tup vs)/\σ'[s]?=some (some rt)/\∀ (j':Nat) (f:Str) (v:V),j+1<=j'->fs[j']?=some f->vs[j']?=some v->vAt H' rt (vd f)=some v,λ σ' H' h=>⟨fs.length - (j+1),by omega,rfl,h.1,h.2⟩,?_⟩
       rintro x H' ⟨rfl,hy⟩
       have hx:=hy vs (SqT.of hT2);rw [hv] at hx;cases hx;have r3:=r2.forget i (some v);rw [t2] at r3;obtain ⟨fp2,st2⟩:=r2.st;have ls:i < σ2.length:=by rw [st2.len]; exact l2
       have w3:(σ2.set i (some v))[s]?=some (some rt):=by rw [List.getElem?_set_ne is]; exact w2
       have hvat:=hat j f v (Zl _) hfj hv;unfold xp at e3;split at e3
       ·rename_i C2 cs2 e5
        split at e3
        ·rename_i hC2
         subst hC2;obtain ⟨d,e6,e7⟩:=bind_some e3;obtain ⟨ky,e8,e9⟩:=bind_some e7;split at e9
         ·rename_i cs en
          split at e9
          ·rename_i hz
           cases e9;obtain ⟨a,dx,ts,u,rfl,rfl,hu,hl,ku,hrp,fin⟩:=r3.mO en w3 hvat;rw [mW hl] at hu;obtain ⟨fp3,st3⟩:=r3.st;refine ⟨.ref a,List.getElem?_set_self ls,a,rfl,.inl ⟨_,.inl hu⟩,_,_,aL τ2,[],_,st3.aL r3.sm,.refl _,e6,λ y Hs4 H4 g4 ry=>?_⟩;have hy:=gW ry e8;subst hy;have r4:=r3.grow g4.hh;obtain ⟨a',dx',ts',u',ea,ec,ha',hl',ku',hrp',fin'⟩:=r4.mO en w3 (bf g4.hh _ hvat);cases ea;rw [mW hl'] at ha';rw [ec] at hz;obtain ⟨w,hw⟩:=wa hz;refine ⟨_,ky,w,ha',rfl,hw,?_⟩
           have r5:=fin' (ts'.filter λ c=>decide (c.k≠ky)) [] (.dK (lZ (ts'.map Kd.kv) ky)) Xi (λ k hk=>by cases hk) (by
            rw [Zw];unfold lZ;rw [Xn]
            exact .d _) (by
            rw [Zw];show ((ts'.filter _).map Kd.k).Nodup
            exact List.Nodup.sublist (List.filter_sublist.map _) ku')
           rw [Zw] at r5
           have em:(ts'.filter λ c=>decide (c.k≠ky)).map Kd.km=dB (ts.map Kd.km) ky:=by
            rw [ec];unfold dB;rw [Xn];rfl
           rw [em] at r5;have rtv:vAt H4 rt []=some rt:=by cases rt <;> rfl
           obtain ⟨r0,dx0,ts0,u0,er0,_,hr0,hl0,_⟩:=r4.mO e5 w3 rtv;subst er0
           have ne:r0≠a:=λ q=>by
            rw [q,ha'] at hr0;cases hr0;generalize ts0.map Kd.kv=kv0 at hl0;cases hl0
           have hT4:=g4.hh _ _ hT2;refine ⟨hlt,Hs2,_,r5,⟨?_,?_⟩,e4,?_,w3,λ j' f' v' q0 q1 q2=>?_⟩
           ·obtain ⟨b,m,eb,_⟩:=cD en
            unfold b9;rw [eb];simp only;rw [List.set_comm _ _ (Ne.symm is),t2]
           ·unfold b9
            split
            · rw [Y1]; exact l2
            · exact l2
           ·rw [ai (show T≠a from λ q=>by rw [q,ha'] at hT4; cases hT4)]
            exact hT4
           ·rw [zN ne]
            exact bf g4.hh _ (hat j' f' v' (by omega) q1 q2)
          · cases e9
         · cases e9
        · cases e3
       · cases e3
      ·have e0:j=fs.length:=by omega
       subst e0;rw [Yv] at e2;cases e2;exact .inl ⟨⟨vs,SqT.of hT2,by rw [hvs.1]; exact Zl _⟩,k σ2 Hs2 H2 r2⟩
    · cases e
   · cases e
end
def kD:Key->D
 | .inl i=>.int i
 | .inr x=>.str x
theorem yd {K:W.Frag} {H:Hp} (k:Key):Rp K H (kV k) (kD k):=by
 cases k with
 | inl i=>exact .int i
 | inr x=>exact .str x
def Du:List V->Hp->VK->Prop:=λ xs H Q=>∃ (a:Addr) (kvs:List (Key×V)),xs=[.ref a]/\H a=some (.dK kvs)/\∀ l,H l=none->Q (.ref l) (upd H l (.lst (kvs.map λ kv=>kV kv.1)))
theorem su:∀ {us:List Value} {ks:List Key},us.length=ks.length->(∀ (j:Nat) (v:Value),us[j]?=some v->∃ k,ks[j]?=some k/\mX k v=true)->be (ks.map kV) us
 | [],[],_,_=>.nil
 | [],_::_,e,_=>by cases e
 | _::_,[],e,_=>by cases e
 | u::us,k::ks,e,h=>by
  obtain ⟨k',e1,e2⟩:=h 0 u rfl;cases e1;refine .cons ?_ (su (Nat.succ.inj e) λ j v ev=>h (j+1) v ev)
  rcases aY e2 with ⟨i,t,rfl,rfl⟩ | ⟨y,t,rfl,rfl⟩
  · exact ⟨t,rfl⟩
  · exact ⟨t,rfl⟩
theorem rQ (hh:X.A.handled=none):fF X (.type "list") Du:=by
 intro pins s σ H xs us Q I r h;obtain ⟨a,kvs,rfl,ha,q⟩:=h;obtain ⟨u,rfl,ru⟩:=vals1 r;cases (show u=Value.ref a from ru);obtain ⟨sz,lo,vs,kv,dd⟩:=vt I.hok ha;obtain ⟨ep,hat⟩:=dd.dictAt;have lv:vs.length=kvs.length:=kv.length.symm;refine PySem.W.kdl_call (PySem.W.kdl_dict (knd:=bh X.prog X.w) (kvs:=vs) (ep:=ep) lo) hh hat (by rw [lv]; exact sz) λ h' tk acc' c' hk hS hacc=>?_
 have hv:be ((kvs.map (·.1)).map kV) acc'.toList:=by
  refine su (by rw [Array.length_toList,hacc.1,Za,lv]) λ j v hj=>?_
  obtain ⟨k,x,e1,e2⟩:=hacc.2 j v (by rw [<- Array.getElem?_toList]; exact hj);exact ⟨k,by rw [<- oy kv,List.getElem?_map,e1]; rfl,e2⟩
 rw [Zy] at hv;exact ⟨.ref s.heap.objs.size,_,I.laid (t':=tk) hk (Zl _) (show cq X.prog X.w _ h' _ (.lst (kvs.map λ kv=>kV kv.1)) from ⟨by rw [Za]; exact sz,acc'.toList,c',hv,by rw [Array.toArray_toList]; exact hS⟩),rfl,q _ (I.hok.fresh (Zl _))⟩
def jb (f:DE):DE:=λ τ=>(f τ).bind λ d=>match d with | .dct ds=>some (.lst (ds.map λ p=>kD p.1)) | _=>none
theorem pF {K:W.Frag} {H H':Hp}:∀ {kvs:List (Key×V)} {ds:List (Key×D)},RpK K H kvs ds->Rps K H' (kvs.map λ kv=>kV kv.1) (ds.map λ p=>kD p.1)
 | _,_,.nil=>.nil
 | _,_,.cons _ r=>.cons (yd _) (pF r)
theorem xt (hh:X.A.handled=none) (hg:Gl X "list") (hm:X.mg "list"=none) (hv:bootBuiltins "list"=some (.type "list")) (he:PEd X e f) (hst:starEach [e] X.env=(false,eval e X.env)::starEach [] X.env:=by rfl) (hpl:(backTo pos (starEach [] X.env)).any (·.1)=false:=by rfl):PEo X (.Call (.Name "list" p) [e] [] pos) (jb f) :=
 (mG (rQ hh) hg hm hv (aJ he bc hst) (by decide) (by decide) hst hpl).imp λ σ H Q ⟨H0,Hs,τ,fp,d,st,sm,e,k⟩=>by
   obtain ⟨x,e1,e2⟩:=bind_some e;refine ⟨H0,Hs,τ,fp,x,st,sm,e1,λ v Hs1 H1 g1 r1=>?_⟩
   cases r1 with
   | @dct a kvs ds h r =>
    cases e2;exact ⟨a,kvs,rfl,g1.sh _ _ h,λ p hp=>k p Hs1 _ ⟨g1.ss,g1.sh.trans (aw hp _),g1.hh.trans (aw hp _),g1.fr⟩ (.lst ao (g1.sh.free hp) (pF r)) (g1.hh.free hp)⟩
   | _=>exact nn e2
def sY (j i:Nat) (c:DT) (g:DE) (cs:List (Str×Nat)):DSm:=λ τ=>match τ[i]? with
 | some (.mu _ (.n .d ks))=>if ks.length<=100000/\j < τ.length then (oA (λ d=>c (.shr d::dD (aL (τ.set i .no)) cs)) (λ d=>g (.shr d::dD (aL (τ.set i .no)) cs)) (ks.map λ p=>kD p.1)).bind λ es=>if es.all sca=true then some (.next (τ.set j (.shr (.lst es)))) else none else none
 | _=>none
section
variable {X:Cx} {pos:Pos}
theorem tV (hN:X.N.Nodup) (hy:X.N[j]?=some y) (hx:Loc X.env.scope y)
   (hz:X.N[i]?=some z) (hv:Vis X.env.scope z) (hc:X.calm=true) (O:cC X scope cl x cs)
   (hcd:∀ s H fp C,PTd (bp X scope cl (x::cs.map (·.1)) s H fp C) cnd c) (he:∀ s H fp C,PEd (bp X scope cl (x::cs.map (·.1)) s H fp C) elt g)
   (hd:(z == ("__debug__":Str))=false:=by decide) (hcl:(z == ("__classdict__":Str))=false:=by decide) (hs:∀ x,foldedSetIterable (.Name z pz) X.env x=pure x:=by intro _; rfl)
   (hsw:swapsWith (.ListComp elt [⟨.Name x px,.Name z pz,[cnd],0⟩] scope pos) (some (.Name y py)) spos.line X.env=pure true:=by rfl)
   (hf:X.fn y=true\/X.env.scope.names.lookup y=some .local:=by first | exact .inl rfl | exact .inr rfl | assumption) :
   PSm X (.Assign [.Name y py] (.ListComp elt [⟨.Name x px,.Name z pz,[cnd],0⟩] scope pos) spos) (sY j i c g cs) :=
 (tY (lN (te:=rdE X.K g) (tt:=rdT X.K c) hN hy hx hc O (ub (cI hz hv hd hcl)) hcd he hs hsw hf)).imp λ E σ H ⟨Hs0,H0,nf,ρ,Hs,τ,o,r,e,k⟩=>by
   unfold sY at e;split at e
   ·rename_i b0 ks ei
    split at e
    ·rename_i hl
     obtain ⟨hl,hj⟩:=hl;obtain ⟨full,e3,e4⟩:=bind_some e;split at e4
     ·rename_i hsc
      cases e4;obtain ⟨fp,st⟩:=r.st;obtain ⟨v,fq,fpr,o1,o2,o3,o4,o5⟩:=st.out ei;obtain ⟨d,dx,ts,u,rfl,rfl,rfl,hdH,hlay,hnd,ku,ndp,rr⟩:=o2.inv;rw [mW hlay] at hdH;have d0:H0 d=none:=(st.live d (o4 d (Ze ..)).2).2.2;refine ⟨_,o1,d,ts.map Kd.kv,rfl,hdH,λ ob=>?_⟩;have dnf:d ∉ fpr:=(o4 d (Ze ..)).1;have s1:StM X.K H0 Hs (upd H d (.frz ob (.dK (ts.map Kd.kv)))) ρ σ (τ.set i .no) fpr:=o3.mv (.refl _) λ c hc=>⟨(o3.live c hc).1,ai (show c≠d from λ q=>dnf (by rw [<- q]; exact hc))⟩
      have sm1:bz Hs (upd H d (.frz ob (.dK (ts.map Kd.kv)))):=λ c w q=>by
       rw [ai (show c≠d from λ y=>by rw [y,hnd] at q; cases q)]; exact r.sm c w q
      have snp:=s1.aL sm1;generalize hH1:upd H d (.frz ob (.dK (ts.map Kd.kv)))=H1 at snp;have h1d:H1 d=some (.frz ob (.dK (ts.map Kd.kv))):=by rw [<- hH1]; exact ao
      let ds:List D:=(ts.map Kd.km).map λ p=>kD p.1
      have ld:ds.length=(ts.map Kd.kv).length:=by simp [ds]
      rw [Za] at hl;have ld2:ds.length=ts.length:=by simp [ds]
      refine ⟨λ n m ys H'=>m=ds.length - n/\n<=ds.length/\bz H1 H'/\∃ es rest,Rps X.K B2 ys es/\es.length<=n/\oA (λ d=>c (.shr d::dD (aL (τ.set i .no)) cs)) (λ d=>g (.shr d::dD (aL (τ.set i .no)) cs)) (ds.drop n)=some rest/\es++rest=full,⟨ds.length,by simp,Z3 _,   .refl _,[],full,.nil,Zl _,by rw [List.drop_zero]; exact e3,rfl⟩,?_⟩
      rintro n m ys H2 ⟨rfl,hn,g2,es,rest,ry,ley,e5,e6⟩
      have ly:ys.length<=n:=by rw [ry.length]; exact ley
      have h2d:=g2 _ _ h1d
      by_cases hlt:n < ds.length
      ·have ed:ds.drop n=ds[n]::ds.drop (n+1):=Z7 hlt
       rw [ed] at e5;obtain ⟨b,q0,q0'⟩:=bind_some e5;refine .inr ⟨⟨h2d,by rw [<- ld]; exact hlt⟩,le5 (by omega),?_⟩
       rintro w H3 ⟨rfl,kk,ww,hk,rfl⟩
       have ekk:ds[n]=kD kk:=by
        have h1:ds[n]?=some (kD kk):=by
         simp only [ds];rw [List.getElem?_map,List.getElem?_map];rw [List.getElem?_map] at hk;obtain ⟨t,ht,et⟩:=Zm hk;rw [ht];have:t.k=kk:=(Prod.mk.inj et).1;show some (kD t.k)=_;rw [this]
        rw [List.getElem?_eq_getElem hlt] at h1;exact Zj h1
       have snp2:StR X.K H3 H3 H3 σ (aL (τ.set i .no)) []:=by
        have s2:=s1;rw [hH1] at s2;exact (s2.ext ⟨.refl _,(hH1 ▸ sm1).trans g2,g2,λ _ h _=>h⟩).aL ((hH1 ▸ sm1).trans g2)
       refine ⟨H3,H3,.shr ds[n]::dD (aL (τ.set i .no)) cs,[],b,.shr (by rw [ekk]; exact yd kk) (iw snp2 cs),.refl _,q0,λ Hs4 H4 g4=>?_⟩
       cases b with
       | true =>
        refine ye ?_
        obtain ⟨x,q1,q2⟩:=bind_some (show (g (.shr ds[n]::dD (aL (τ.set i .no)) cs)).bind _=some rest from q0');obtain ⟨xs,q3,q4⟩:=bind_some q2;have eq:x::xs=rest:=Zj q4;subst eq
        have snp4:StR X.K H4 H4 H4 σ (aL (τ.set i .no)) []:=by
         have s2:=s1;rw [hH1] at s2;exact (s2.ext ⟨.refl _,((hH1 ▸ sm1).trans g2).trans g4.hh,g2.trans g4.hh,λ _ h _=>h⟩).aL (((hH1 ▸ sm1).trans g2).trans g4.hh)
        refine ⟨H4,H4,.shr ds[n]::dD (aL (τ.set i .no)) cs,[],x,.shr (by rw [ekk]; exact yd kk) (iw snp4 cs),.refl _,q1,λ v5 Hs5 H5 g5 r5=>?_⟩
        have sx:sca x=true:=by
         refine Ys.mp hsc x ?_
         rw [<- e6];simp
        exact ⟨ds.length - (n+1),by omega,rfl,hlt,(g2.trans g4.hh).trans g5.hh,es++[x],xs,ry.append (.cons (kP r5 sx) .nil),by simp; omega,q3,by rw [<- e6]; simp⟩
       | false =>
        refine EK ?_
        exact ⟨ds.length - (n+1),by omega,rfl,hlt,g2.trans g4.hh,es,rest,ry,by omega,q0',e6⟩
      ·have e0:n=ds.length:=by omega
       subst e0;rw [Yv] at e5;have er:[]=rest:=Zj e5;subst er;rw [Zw] at e6;subst e6;refine .inl ⟨⟨h2d,by rw [<- ld]; exact Zl _⟩,rq (by omega),λ p hp=>?_⟩;have pd:p≠d:=λ q=>by rw [q,h2d] at hp; cases hp
       refine ⟨d,ob,ts.map Kd.kv,by rw [ai (Ne.symm pd)]; exact h2d,λ o' u' q=>nf d o' u' q d0,?_⟩
       let Hf:Hp:=upd (upd H2 p (.lst ys)) d (.dK (ts.map Kd.kv))
       have hpH:H p=none:=by
        have:H1 p=none:=g2.free hp;rw [<- hH1,ai pd] at this;exact this
       have smf:bz H Hf:=λ c w q=>by
        by_cases cd:c=d
        ·subst cd
         rw [hdH] at q;cases q;exact ao
        ·have c1:H1 c=some w:=by rw [<- hH1,ai cd]; exact q
         have cp:c≠p:=λ y=>by rw [y,hpH] at q; cases q
         show upd (upd H2 p (.lst ys)) d _ c=_;rw [ai cd,ai cp];exact g2 _ _ c1
       have hfp:Hf p=some (.lst ys):=by
        show upd (upd H2 p (.lst ys)) d _ p=_;rw [ai pd,ao]
       have hsp:Hs p=none:=r.sm.free hpH
       have ex:Ext Hs H (upd Hs p (.lst ys)) Hf:=by
        refine ⟨aw hsp _,λ c w q=>?_,smf,λ c h1 h2=>?_⟩
        ·by_cases z:c=p
         · subst z; rw [ao] at q; cases q; exact hfp
         · rw [ai z] at q; exact smf _ _ (r.sm _ _ q)
        · rw [ai (show c≠p from λ z=>h2 (by rw [z]; exact hpH))]; exact h1
       exact k _ _ Hf ((r.ext' ex).qI (.lst ao (iA ry hsc)))
     · cases e4
    · cases e
   · cases e
end
def KW (N:Hp) (K:W.Frag) (g:DGm):TG:=λ v σ H Q=>∃ (Hs0 H0:Hp),∃ (_:Nf N H0),∃ ρ Hs τ τ' d,aT K Hs0 H0 ρ Hs H σ τ/\Rp K H v d/\g d τ=some τ'/\∀ σ',aT K Hs0 H0 ρ Hs H σ' τ'->Q σ' H
def PGz (X:Cx) (tg:Expr) (g:DGm):Prop:=PG X tg (KW X.H₀ X.K g)
def GR (N:Hp) (K:W.Frag) (g:zI):TGs:=λ v σ H Q=>∃ (Hs0 H0:Hp),∃ (_:Nf N H0),∃ ρ Hs τ τ' d,aT K Hs0 H0 ρ Hs H σ τ/\Rps K H v d/\g d τ=some τ'/\∀ σ',aT K Hs0 H0 ρ Hs H σ' τ'->Q σ' H
def zE (X:Cx) (tg:List Expr) (g:zI):Prop:=PGs X tg (GR X.H₀ X.K g)
def gNz (i:Nat):DGm:=λ d τ=>if sca d=true then some (τ.set i (.shr d)) else none
def CC (g:DGm) (t:DT) (c:DE):List D->DSm
 | [],τ=>some (.next τ)
 | d::ds,τ=>(g d τ).bind λ τ1=>(t (aL τ1)).bind λ b=>if b=true then ((c (aL τ1)).bind λ k=>if sca k=true then some (.ret (.shr k) τ1) else none) else CC g t c ds τ1
def z6 (it:DI) (g:DGm) (t:DT) (c:DE):DSm:=λ τ=>(it (aL τ)).bind λ ds=>CC g t c ds τ
section
variable {X:Cx} {a b c e o tg iter:Expr} {es:List Expr} {pos apos cpos pos' ipos rpos:Pos} {x:Str}
theorem xv (hN:X.N.Nodup) (hi:X.N[i]?=some x) (hx:Loc X.env.scope x) (hf:X.fn x=true\/X.env.scope.names.lookup x=some .local:=by first | exact .inl rfl | exact .inr rfl | assumption):PGz X (.Name x pos) (gNz i) :=
 (gr hN hi hx hf).imp λ v σ H Q ⟨Hs0,H0,nf,ρ,Hs,τ,τ',d,r,rv,e,k⟩=>by
   unfold gNz at e;split at e
   ·rename_i hs
    cases e;exact k _ (r.qI (kP rv hs))
   · cases e
theorem xw:zE X [] gY:=ue.imp λ v σ H Q ⟨Hs0,H0,nf,ρ,Hs,τ,τ',d,r,rv,e,k⟩=>by
 cases rv with
 | nil=>cases e; exact ⟨rfl,k σ r⟩
 | cons _ _=>simp [gY] at e
theorem uc (h1:PGz X e g) (h2:zE X es h) (hs:(assignEach (e::es) X.env).map (·.2)=assign e X.env::(assignEach es X.env).map (·.2):=by rfl):zE X (e::es) (cS g h) :=
 (pK h1 h2 hs).imp λ v σ H Q ⟨Hs0,H0,nf,ρ,Hs,τ,τ',d,r,rv,e,k⟩=>by
   cases rv with
   | nil=>simp [cS] at e
   | cons rx rr =>
    obtain ⟨τ1,e1,e2⟩:=bind_some e;exact ⟨_,_,rfl,Hs0,H0,nf,ρ,Hs,τ,τ1,_,r,rx,e1,λ σ' r'=>⟨Hs0,H0,nf,ρ,Hs,τ1,τ',_,r',rr,e2,k⟩⟩
theorem AY (hc:X.calm=true) (h:zE X es g) (hn:(assignEach es X.env).length=n:=by rfl) (hst:(assignEach es X.env).findIdx? (·.1)=none:=by rfl):PGz X (.Tuple es k' pos) (gTm n g) :=
 (yW hc h hn hst).imp λ v σ H Q ⟨Hs0,H0,nf,ρ,Hs,τ,τ',d,r,rv,e,k⟩=>by
   cases rv with
   | @tup a xs ds h rr =>
    simp only [gTm] at e;split at e
    ·rename_i hl
     exact ⟨a,xs,rfl,h,by rw [rr.length]; exact hl,Hs0,H0,nf,ρ,Hs,τ,τ',ds,r,rr,e,k⟩
    · cases e
   | _=>simp [gTm] at e
theorem wX (hp:PassesOwn (model X.prog X.w) X.A X.env X.xe) (hc:X.calm=true) (hi:PId X tg iter it) (hg:PGz X tg g) (ht:PTd X c t) (he:PEd X e cv) (hs:∀ x,foldedSetIterable iter X.env x=pure x:=by intro _; rfl) :
  PSm X (.For tg iter [.If c [.Return (some e) rpos] [] ipos] [] pos) (z6 it g t cv):=(jG hp hc hi hg (aR (mF ht (aR (fX he)) iC)) hs).imp λ E σ H ⟨Hs0,H0,nf,ρ,Hs,τ,o,r,e,k⟩=>by
 obtain ⟨ds,e1,e2⟩:=bind_some e;obtain ⟨fp,hst⟩:=r.st;refine ⟨H,H,aL τ,[],ds,hst.aL r.sm,.refl H,e1,λ J Hs1 H1 g1 hJ=>?_⟩;refine ⟨λ i m σ H'=>m=ds.length - i/\i<=ds.length/\bz H1 H'/\∃ τ2,aT X.K Hs0 H0 ρ Hs H' σ τ2/\CC g t cv (ds.drop i) τ2=some o,⟨ds.length,by simp,Z3 _,.refl _,τ,r.grow g1.hh,by simpa using e2⟩,?_⟩
 rintro i m σ2 H2 ⟨rfl,hi,g2,τ2,r2,e3⟩
 obtain ⟨hgo,hstop⟩:=hJ Hs1 H2 (.refl _) (g1.sh.trans g2)
 by_cases hlt:i < ds.length
 ·have ed:ds.drop i=ds[i]::ds.drop (i+1):=Z7 hlt
  rw [ed] at e3;obtain ⟨go,yl⟩:=hgo i ds[i] (List.getElem?_eq_getElem hlt);refine .inr ⟨go,λ σ' H'=>bz H1 H'/\∃ τ2,aT X.K Hs0 H0 ρ Hs H' σ' τ2/\CC g t cv (ds.drop (i+1)) τ2=some o,λ σ' H' h=>⟨ds.length - (i+1),by omega,rfl,hlt,h⟩,?_⟩;intro x H' y;obtain ⟨Hs3,g3,rx⟩:=yl x H' y;have r3:=r2.grow g3.hh;obtain ⟨τ3,q1,q2⟩:=bind_some (show (g ds[i] τ2).bind _=_ from e3);obtain ⟨bb,q3,q4⟩:=bind_some q2;refine ⟨Hs0,H0,nf,ρ,Hs,τ2,τ3,ds[i],r3,rx.same g3.sh,q1,λ σ' r'=>?_⟩;obtain ⟨fp4,st4⟩:=r'.st;refine ⟨H',H',aL τ3,[],bb,st4.aL r'.sm,.refl _,q3,λ Hs5 H5 g5=>?_⟩;have r5:=r'.grow g5.hh
  cases bb with
  | true =>
   refine ye ?_
   obtain ⟨kk,q5,q6⟩:=bind_some (show (cv (aL τ3)).bind _=_ from q4);split at q6
   ·rename_i hsc
    cases q6;obtain ⟨fp5,st5⟩:=r5.st;exact ⟨H5,H5,aL τ3,[],kk,st5.aL r5.sm,.refl _,q5,λ v Hs6 H6 g6 rv=>k v σ' Hs H6 ((r5.grow g6.hh).push (kP rv hsc))⟩
   · cases q6
  | false=>exact EK ⟨(g2.trans g3.hh).trans g5.hh,τ3,r5,q4⟩
 ·have e0:i=ds.length:=by omega
  subst e0;rw [Yv] at e3;cases e3;exact .inl ⟨hstop _ (Zl _),k σ2 Hs H2 r2⟩
end
end L2
end
section
namespace L2
open PySem
section
variable {τ τ' τ1:List Sm} {f g:DSm} {s:Sm} {o:qy} {b:Bool} {d:D} {i j:Nat} {q:List Stp} {m m2 mv:Mt} {cs:List (Key×Mt)} {k:Key}
theorem aE (h:f τ=some (.next τ')) (h2:g τ'=some o):dz f g τ=some o:=by unfold dz; rw [h]; exact h2
theorem bO {f:DEm} (h:f τ=some (s,τ')) (hi:i < τ'.length) (hs:(toM s).isSome=true):gf i f τ=some (.next (τ'.set i s)):=by unfold gf; rw [h]; exact if_pos ⟨hi,hs⟩
theorem zh {f:DEm} (h:f τ=some (s,τ')):mD f τ=some (.next τ'):=by unfold mD; rw [h]; rfl
theorem eW {g:DE} (h:g (aL τ)=some d):pE g τ=some (.next τ):=by unfold pE; rw [h]; rfl
theorem uL (h:t τ=some (true,τ')) (h2:f τ'=some o):pD t f g τ=some o:=by unfold pD; rw [h]; show (if true=true then f τ' else g τ')=_; rw [if_pos rfl]; exact h2
theorem gU (h:t τ=some (false,τ')) (h2:g τ'=some o):pD t f g τ=some o:=by unfold pD; rw [h]; show (if false=true then f τ' else g τ')=_; rw [if_neg (by simp)]; exact h2
theorem ou {f:DEm} (h:f τ=some (s,τ')):jB f τ=some (.ret s τ'):=by unfold jB; rw [h]; rfl
theorem v_S {g:DE} (h:g (aL τ)=some d) (hs:sca d=true):eS g τ=some (.shr d,τ):=by unfold eS; rw [h]; exact if_pos hs
theorem v_N {g:DE} (h:g (er τ)=some d):eN g τ=some (.shr d,τ):=by unfold eN; rw [h]; rfl
theorem v_O {g:DE} {ds:List D} (h:g (aL τ)=some (.lst ds)) (hs:ds.all sca=true):eO g τ=some (.mu false (lM ds),τ):=by unfold eO; rw [h]; exact if_pos hs
theorem v_F {g:DE} {ds:List D} (h:g (aL τ)=some (.lst ds)) (hs:ds.all sca=true):eF g τ=some (.shr (.lst ds),τ):=by unfold eF; rw [h]; exact if_pos hs
theorem v_V (h:τ[i]?=some (.mu false m)):eV i τ=some (.mu false m,τ.set i .no):=by unfold eV; rw [h]
theorem JD {f:DEm} (h:f τ=some (s,τ')) (hs:toM s=some mv):eD1 k f τ=some (.mu false (.n .d [(k,mv)]),τ'):=by unfold eD1; rw [h]; show (toM s).map _=_; rw [hs]; rfl
theorem t_S {g:DT} (h:g (aL τ)=some b):tS g τ=some (b,τ):=by unfold tS; rw [h]; rfl
theorem t_E {f:DEm} (h:f τ=some (.shr (.bl b),τ')):tE f τ=some (b,τ'):=by unfold tE; rw [h]; rfl
theorem JE {f:DTm} (h:f τ=some (b,τ')):tNt f τ=some (!b,τ'):=by unfold tNt; rw [h]; rfl
theorem kX (h:τ[i]?=some (.mu b m)):aP τ i q=m.get q:=by unfold aP; rw [h]
theorem eU (h:τ[i]?=some (.mu b m)):b9 τ i q m2=τ.set i (.mu b (m.put q m2)):=by unfold b9; rw [h]
theorem bJ:bS i τ=some (i,[]):=rfl
theorem kE {C:Addr} {x:Str} {f:DPx} (h:f τ=some (i,q)) (hm:aP τ i q=some (.n (.o C) cs)):gm C x f τ=some (i,q++[.k (.inr x)]):=by
 unfold gm;rw [h];show (match aP τ i q with | some (.n (.o C') _)=>if C'=C then some (i,q++[Stp.k (.inr x)]) else none | _=>none)=_;rw [hm];exact if_pos rfl
theorem qz {f:DPx} {gk:DE} (h:f τ=some (i,q)) (hk:gk (aL τ)=some d) (he:dQ d=some k) (hm:aP τ i q=some (.n .d cs)):qL f gk τ=some (i,q++[.k k]):=by
 unfold qL;rw [h];show (gk (aL τ)).bind _=_;rw [hk];show (dQ d).bind _=_;rw [he];show (match aP τ i q with | some (.n .d _)=>some (i,q++[Stp.k k]) | _=>none)=_;rw [hm]
theorem eX (h1:fv τ=some (s,τ1)) (h2:px τ1=some (i,q)) (h3:gk (aL τ1)=some d) (h4:dQ d=some k) (h5:toM s=some mv) (h6:aP τ1 i q=some (.n .d cs)) (h7:cs.length < 100000):cA px gk fv τ=some (.next (b9 τ1 i q (.n .d (fU cs k mv)))):=by
 unfold cA;simp only [h1,h2,h3,h4,h5,h6,Z4];exact if_pos h7
theorem Eu (h1:fv τ=some (s,τ1)) (h2:px τ1=some (i,q)) (h5:toM s=some mv) (h6:aP τ1 i q=some (.n (.o C) cs)) (h7:cs.length < 1000):qK C x px fv τ=some (.next (b9 τ1 i q (.n (.o C) (fU cs (.inr x) mv)))):=by
 unfold qK;simp only [h1,h2,h5,h6,Z4];exact if_pos ⟨trivial,h7⟩
theorem xZ {px:DPx} {gi:DE} {fv:DEm} {cs0:List (Key×Mt)} {n:Int} (h1:px τ=some (i,q)) (h2:aP τ i q=some (.n .l cs0)) (h3:gi (aL τ)=some (.int n)) (h4:fv τ=some (s,τ1)) (h5:toM s=some mv) (h6:aP τ1 i q=some (.n .l cs)) (h7:0<=n/\n<=cs.length/\cs.length < 100000):wC px gi fv τ=some (.next (b9 τ1 i q (.n .l (Gh cs n.toNat mv)))):=by
 unfold wC;simp only [h1,h2,h3,h4,h5,h6,Z4];exact if_pos h7
theorem xY (h1:px τ=some (i,q)) (h2:gk (aL τ)=some (.int n)) (h3:aP τ i q=some (.n .l cs)) (h4:cL (ve cs)=some ns) (h5:ns.length<=1000/\n ∈ ns):qJ px gk τ=some (.next (b9 τ i q (.n .l (cs.eraseIdx (ns.idxOf n))))):=by
 unfold qJ;simp only [h1,h2,h3,h4,Z4];exact if_pos h5
theorem IZ (h1:px τ=some (i,q)) (h2:gk (aL τ)=some d) (h3:dQ d=some k) (h4:aP τ i q=some (.n .d cs)) (h5:(cs.any λ c=>decide (c.1=k))=true):sU px gk τ=some (.next (b9 τ i q (.n .d (dB cs k)))):=by
 unfold sU;simp only [h1,h2,h3,h4,Z4];exact if_pos h5
theorem q_N {g:DE} (h:g (er τ)=some d):qN g τ=some (.v d):=by unfold qN; rw [h]; rfl
theorem q_X {f:DPx} {t:Tg} (h:f τ=some (i,q)) (hm:aP τ i q=some (.n t cs)):qX f τ=some (.p i q):=by
 unfold qX;rw [h];show (match aP τ i q with | some (.n _ _)=>some (Am.p i q) | some (.s d)=>some (.v d) | none=>none)=_;rw [hm]
theorem bI {h:List Sm->Option Am} {g:DAm} {a:Am} {as:List Am} (h1:h τ=some a) (h2:g τ=some as):cW h g τ=some (a::as):=by unfold cW; rw [h1]; show (g τ).map _=_; rw [h2]; rfl
theorem v_C {F:List Sm->Option (Sm×List Sm)} {g:DAm} {as:List Am} {ss ss':List Sm} (h1:g τ=some as) (h2:lend τ as=some ss) (h3:F ss=some (s,ss')) (h4:back τ as ss'=some τ'):eC F g τ=some (s,τ'):=by
 unfold eC;rw [h1];show oU F τ as=_;unfold oU;simp only [h2,h3,h4,Z4,Y9]
theorem v_M {C:Addr} {x:Str} {F:List Sm->Option (Sm×List Sm)} {f:DPx} {g:DAm} {as:List Am} {ss ss':List Sm} (h0:f τ=some (i,q)) (hm:aP τ i q=some (.n (.o C) cs)) (hn:(cs.any λ c=>decide (c.1=.inr x))=false) (h1:g τ=some as) (h2:lend τ (.p i q::as)=some ss) (h3:F ss=some (s,ss')) (h4:back τ (.p i q::as) ss'=some τ'):eM C x F f g τ=some (s,τ'):=by
 unfold eM;simp only [h0,hm,Z4];rw [if_pos ⟨trivial,hn⟩,h1];show oU F τ _=_;unfold oU;simp only [h2,h3,h4,Z4,Y9]
theorem v_K {C:Addr} {F:List Sm->Option (Sm×List Sm)} {g:DAm} {as:List Am} {ss r:List Sm} (h1:g τ=some as) (h2:lend τ as=some ss) (h3:F (.mu true (.n (.o C) [])::ss)=some (.shr .non,.mu true m::r)) (h4:back τ as r=some τ'):eK C F g τ=some (.mu false m,τ'):=by
 unfold eK;simp only [h1,h2,h3,Z4];rw [h4];rfl
theorem eD (h:bd (as++List.replicate (n - as.length) .no)=some (.ret s τ)) (hl:as.length=mm:=by rfl):jC n mm bd as=some (s,(τ.take mm).map uV):=by unfold jC; rw [if_pos hl,h]
theorem Dq (h:bd (as++List.replicate (n - as.length) .no)=some (.next τ)) (hl:as.length=mm:=by rfl):jC n mm bd as=some (.shr .non,(τ.take mm).map uV):=by unfold jC; rw [if_pos hl,h]
theorem yu:(Mt.n .d cs).get [.k k]=(cs.find? λ c=>decide (c.1=k)).map (·.2):=by
 show (match cs.findIdx? (λ c=>decide (c.1=k)) with | none=>none | some i=>match cs[i]? with | none=>none | some c=>Mt.get c.2 [])=_;have e:∀ m:Mt,m.get []=some m:=λ m=>by cases m <;> rfl
 rw [List.find?_eq_bind_findIdx?_getElem?]
 cases h:cs.findIdx? (λ c=>decide (c.1=k)) with
 | none=>rfl
 | some i =>
  show (match cs[i]? with | none=>none | some c=>Mt.get c.2 [])=(cs[i]?).map (·.2)
  cases cs[i]? with
  | none=>rfl
  | some c=>exact e c.2
end
end L2
end
section
namespace L2
open PySem PySem.Spec PyProof.Rows
def nuI (ns:List Int) (i:Nat):Int:=(ns[i]?).getD 0
def mxI (ns:List Int):Int:=nuI ns (argBest (λ i j=>decide (nuI ns i > nuI ns j)) (ns.length - 1))
def xP:List D->Option D
 | [.lst ds]=>(cL ds).bind λ ns=>if 0 < ns.length then some (.int (mxI ns)) else none
 | _=>none
theorem BD (h:0 < ns.length):mxI ns ∈ ns:=by
 unfold mxI nuI;have:=(argBest_gt (nuI ns) (ns.length - 1)).1;have hl:argBest (λ i j=>decide (nuI ns i > nuI ns j)) (ns.length - 1) < ns.length:=by omega
 have e:ns[argBest (λ i j=>decide (nuI ns i > nuI ns j)) (ns.length - 1)]?=some (ns[argBest (λ i j=>decide (nuI ns i > nuI ns j)) (ns.length - 1)]):=List.getElem?_eq_getElem hl;unfold nuI at e;rw [e];exact Y6 _
theorem Ep (h:a ∈ ns):a<=mxI ns:=by
 obtain ⟨i,hi,e⟩:=List.mem_iff_getElem.mp h;have:=(argBest_gt (nuI ns) (ns.length - 1)).2 i (by omega)
 have e':nuI ns i=a:=by
  unfold nuI;rw [List.getElem?_eq_getElem hi,e];rfl
 rw [e'] at this;exact this
section
variable {X:Cx}
theorem vG (hc:X.calm=true):fF X (.builtin "max") (λ xs H Q=>∃ (p:Addr) (ns:List Int),xs=[.ref p]/\H p=some (.lst (ns.map V.int))/\0 < ns.length/\Q (.int (mxI ns)) H):=by
 intro pins s σ H xs us Q I r h;obtain ⟨p,ns,rfl,hH,hs,q⟩:=h;obtain ⟨u,rfl,ru⟩:=vals1 r;cases (show u=Value.ref p from ru);obtain ⟨its,rv,pl,hz⟩:=I.list (SqL.of hH);have hl:=pl.isList;have hlen:=rv.length;rw [Za] at hlen;have hlt:p < s.heap.objs.size:=by obtain ⟨_,e,_⟩:=hl; exact Zr e
 refine call_max_walk (wpAny_pyIter_list hl ?_)
 refine ⟨s.heap.objs.size,[s.heap.objs.size,p],[s.heap.objs.size],its.toArray.size,_,_,_,rfl,Walks.list (A:=X.A.in1) (I.ok.hd hc) _ p (Zz hlt) its.toArray,
  ⟨⟨_,Heap.get?_push_size _ rfl,rfl,rfl⟩,hl.push _⟩,λ b hb=>?_,by rw [Zp,<- hlen]; exact hs,CmpOf.ints_gt (nuI ns) (λ i v hP=>eY rv i v (by simpa using hP)),λ v h' tk hP hk=>?_⟩
 ·rw [Xe]
  simp only [Zh,Xh,or_false] at hb;rcases hb with rfl | rfl
  · exact Y4 _
  · exact Nat.lt_succ_of_lt hlt
 ·rw [Zp,<- hlen] at hP
  obtain ⟨t,e⟩:=eY rv _ v (by simpa using hP);refine ⟨.int (mxI ns),H,I.kept (t':=tk) λ b x ex=>hk b x (λ hm=>?_) (Heap.get?_push_of_some _ ex),⟨t,e⟩,q⟩;rw [Zn.mp hm] at ex;exact Yn _ (Zr ex)
theorem zA (hc:X.calm=true):fF X (.builtin "max") (rdL X.K xP):=(vG hc).imp λ xs H Q ⟨Hs,ds,d,sm,r,e,k⟩=>by
 match ds,r,e with
 | [x],.cons hx .nil,e =>
  cases hx with
  | @lst a ys ds h r =>
   obtain ⟨ns,e1,e2⟩:=bind_some (show (cL ds).bind _=some d from e);have ed:=gX e1;subst ed;have ey:=r.eY;subst ey;split at e2
   ·rename_i hs
    have e':D.int (mxI ns)=d:=Zj e2;subst e';exact ⟨a,ns,rfl,sm _ _ h,hs,k _ Hs H (.refl sm) (.int _)⟩
   · cases e2
  | _=>exact nn e
 | [],_,e=>simp [xP] at e
 | _::_::_,_,e=>simp [xP] at e
end
def Fq (k:Nat) (f g:DE):DS:=λ τ=>(f τ).bind λ x=>(g τ).bind λ d=>match x,τ[k]? with
 | .int i,some (.own (.lst ds))=>if 0<=i/\i<=ds.length/\ds.length < 100000 then some (.next (τ.set k (.own (.lst (ds.take i.toNat++d::ds.drop i.toNat))))) else none
 | _,_=>none
section
variable {X:Cx} {i e:Expr} {pos:Pos}
theorem AE (k:Nat) (hN:X.N[k]?=some x) (hv:Vis X.env.scope x) (hi:PEd X i f) (he:PEd X e g) (hd:(x == ("__debug__":Str))=false:=by decide) (hcd:(x == ("__classdict__":Str))=false:=by decide)
   (hbase:attributeBase (.Name x p) "insert" X.env (eval (.Name x p) X.env)=eval (.Name x p) X.env:=by rfl)
   (hfew:((backTo cpos (starEach [i,e] X.env)).all (λ x=>!x.1)&&(backToKw cpos (keywordEach [] X.env)).all (λ x=>x.1.isSome)
     && decide ([i,e].length+([]:List Keyword).length+(if ([]:List Keyword).isEmpty then 0 else 1) < 30))=true:=by rfl)
   (hline:(apos.endLine == cpos.line)=true:=by rfl) (hst:starEach [i,e] X.env=(false,eval i X.env)::starEach [e] X.env:=by rfl) (hst2:starEach [e] X.env=(false,eval e X.env)::starEach [] X.env:=by rfl) (hplain:(backTo cpos (starEach [e] X.env)).any (·.1)=false:=by rfl)
   (hs:swapsWith (.Call (.Attribute (.Name x p) "insert" apos) [i,e] [] cpos) none pos.line X.env=pure false:=by rfl) :
   PSd X (.Expr (.Call (.Attribute (.Name x p) "insert" apos) [i,e] [] cpos) pos) (Fq k f g) :=
 (bG (yZ rfl (cI hN hv hd hcd) hi he hbase hfew hline hst hst2 hplain) hs).imp λ E σ H ⟨Hs0,H0,Hs,τ,o,r,e,k⟩=>by
   obtain ⟨x,e1,e⟩:=bind_some e;obtain ⟨d,e2,e3⟩:=bind_some e;obtain ⟨fp,h⟩:=r.st;split at e3
   · rename_i n ds q
     split at e3
     ·rename_i hl
      obtain ⟨l0,l1,l2⟩:=hl;cases e3;obtain ⟨a,h1,h2,h3,h4⟩:=h.zt q
      cases h2 with
      | @lst xs _ hH hn hr =>
       refine ⟨_,h1,.inl ⟨rfl,_,SqL.of hH⟩,?_⟩;refine ⟨H0,Hs,τ,fp,_,h,r.same,e1,λ v Hs' H' g1 rv=>?_⟩;cases rv;refine ⟨H0,Hs',τ,fp,_,h.ext g1,g1.sh,e2,λ v2 Hs2 H2 g2 rv2=>?_⟩;have g12:=g1.trans g2;have hH':=g12.hh _ _ hH;have h':=h.ext g12;have n':=g12.fr a hn (eu hH);have lx:=hr.length;refine ⟨a,xs,n,v2,rfl,rfl,hH',l0,by rw [lx]; exact l1,by rw [lx]; exact Zu l2 (by decide),by omega,?_⟩;refine k σ Hs2 _ ⟨⟨r.ext.ss.trans g12.ss,λ b u z=>?_,λ b u z=>?_,λ b k1 k2=>?_⟩,fp,h'.mut q h1 (.lst ao n' (((hr.take n.toNat).same g12.ss).append (.cons rv2 ((hr.drop n.toNat).same g12.ss))))⟩
       ·have ne:b≠a:=λ y=>by subst y; rw [n'] at z; cases z
        rw [ai ne]; exact g12.sh b u z
       ·have ne:b≠a:=λ y=>by subst y; rw [h3] at z; cases z
        rw [ai ne]; exact g12.hh b u (r.ext.hh b u z)
       · exact g12.fr b (r.ext.fr b k1 k2) (r.ext.hh.live k2)
     · cases e3
   · cases e3
end
section
variable {X:Cx} {pos:Pos}
theorem tQ (hN:X.N.Nodup) (hy:X.N[i]?=some y) (hx:Loc X.env.scope y)
  (hc:X.calm=true) (O:cC X scope cl x cs) (hi:PId X (.Name x px) iter it)
  (hcd:∀ s H fp C,PTd (bp X scope cl (x::cs.map (·.1)) s H fp C) cnd c) (he:∀ s H fp C,PEd (bp X scope cl (x::cs.map (·.1)) s H fp C) elt g) (hs:∀ x,foldedSetIterable iter X.env x=pure x:=by intro _; rfl)
  (hsw:swapsWith (.ListComp elt [⟨.Name x px,iter,[cnd],0⟩] scope pos) (some (.Name y py)) spos.line X.env=pure true:=by rfl)
  (hf:X.fn y=true\/X.env.scope.names.lookup y=some .local:=by first | exact .inl rfl | exact .inr rfl | assumption) :
  PSm X (.Assign [.Name y py] (.ListComp elt [⟨.Name x px,iter,[cnd],0⟩] scope pos) spos) (gf i (eO (j9 it c g cs))):=(lN (te:=rdE X.K g) (tt:=rdT X.K c) hN hy hx hc O hi hcd he hs hsw hf).imp λ E σ H ⟨Hs0,H0,nf,ρ,Hs,τ,o,r,e,k⟩=>by
 obtain ⟨⟨s,τ1⟩,e1,e2⟩:=bind_some e;split at e2
 ·rename_i h
  cases e2;obtain ⟨d,e3,e4⟩:=bind_some e1;split at e4
  ·split at e4
   ·rename_i hsc
    cases e4;obtain ⟨fp,st⟩:=r.st;refine qm ⟨H,H,aL τ,[],_,st.aL r.sm,.refl H,e3,λ a Hs' H' g1 ow hn=>?_⟩
    cases ow with
    | lst h' n rr=>exact k _ Hs H' ((r.Aj g1.hh (Od.lst h' (r.sm.free hn) (iA rr hsc)) λ c hc=>by rw [Zn.mp hc]; exact hn).into h.1 h.2)
   · cases e4
  · cases e4
 · cases e2
theorem qO (hN:X.N.Nodup) (hy:X.N[i]?=some y) (hx:Loc X.env.scope y)
  (hc:X.calm=true) (O:cC X scope cl x cs) (hi:PId X (.Name x px) iter it)
  (hcd:∀ s H fp C,PTd (bp X scope cl (x::cs.map (·.1)) s H fp C) cnd c) (he:∀ s H fp C,PEd (bp X scope cl (x::cs.map (·.1)) s H fp C) elt g) (hs:∀ x,foldedSetIterable iter X.env x=pure x:=by intro _; rfl)
  (hsw:swapsWith (.ListComp elt [⟨.Name x px,iter,[cnd],0⟩] scope pos) (some (.Name y py)) spos.line X.env=pure true:=by rfl)
  (hf:X.fn y=true\/X.env.scope.names.lookup y=some .local:=by first | exact .inl rfl | exact .inr rfl | assumption) :
  PSm X (.Assign [.Name y py] (.ListComp elt [⟨.Name x px,iter,[cnd],0⟩] scope pos) spos) (gf i (eF (j9 it c g cs))):=(lN (te:=rdE X.K g) (tt:=rdT X.K c) hN hy hx hc O hi hcd he hs hsw hf).imp λ E σ H ⟨Hs0,H0,nf,ρ,Hs,τ,o,r,e,k⟩=>by
 obtain ⟨⟨s,τ1⟩,e1,e2⟩:=bind_some e;split at e2
 ·rename_i hh
  cases e2;obtain ⟨d,e3,e4⟩:=bind_some e1;split at e4
  ·split at e4
   ·rename_i hsc
    cases e4;obtain ⟨fp,st⟩:=r.st;refine qm ⟨H,H,aL τ,[],_,st.aL r.sm,.refl H,e3,λ a Hs' H' g1 ow hn=>?_⟩
    cases ow with
    | @lst xs ds h n rr =>
     have ha:Hs a=none:=r.sm.free hn
     have ex:Ext Hs H (upd Hs a (.lst xs)) H':=by
      refine ⟨aw ha _,λ b u q=>?_,g1.hh,λ b h1 h2=>?_⟩
      ·by_cases z:b=a
       · subst z; rw [ao] at q; cases q; exact h
       · rw [ai z] at q; exact g1.hh _ _ (r.sm _ _ q)
      · rw [ai (show b≠a from λ z=>h2 (by rw [z]; exact hn))]; exact h1
     exact k _ _ H' (((r.ext' ex).push (.lst ao (iA rr hsc))).into hh.1 hh.2)
   · cases e4
  · cases e4
 · cases e2
end
def eT (g:DA):DEm:=λ τ=>(g (aL τ)).bind λ ds=>if ds.all sca=true/\ds.length<=100000 then some (.shr (.tup ds),τ) else none
theorem v_T (h:g (aL τ)=some ds) (hs:ds.all sca=true) (hl:ds.length<=100000):eT g τ=some (.shr (.tup ds),τ):=by unfold eT; rw [h]; exact if_pos ⟨hs,hl⟩
section
variable {X:Cx} {es:List Expr} {pos:Pos}
theorem Lc {x1} (h:PAd X es g):PVm X (.Tuple es x1 pos) (eT g):=(uf h).imp λ σ H Q ⟨Hs0,H0,nf,ρ,Hs,τ,s,τ',r,e,k⟩=>by
 obtain ⟨ds,e1,e2⟩:=bind_some e;split at e2
 ·rename_i hs
  cases e2;obtain ⟨fp,st⟩:=r.st;refine ⟨H,H,aL τ,[],ds,st.aL r.sm,.refl H,e1,λ vs Hs1 H1 g1 r1=>⟨by rw [r1.length]; exact rq hs.2,λ p hp=>?_⟩⟩;have hp1:H p=none:=g1.hh.free hp;have hp0:Hs p=none:=r.sm.free hp1
  have ex:Ext Hs H (upd Hs p (.tup vs)) (upd H1 p (.tup vs)):=by
   refine ⟨aw hp0 _,λ b u q=>?_,g1.hh.trans (aw hp _),λ b h1 h2=>?_⟩
   ·by_cases z:b=p
    · subst z; rw [ao] at q ⊢; exact q
    · rw [ai z] at q ⊢; exact g1.hh _ _ (r.sm _ _ q)
   · rw [ai (show b≠p from λ z=>h2 (by rw [z]; exact hp1))]; exact h1
  exact k _ _ _ (g1.hh.trans (aw hp _)) ((r.ext' ex).push (.tup (SqT.of ao) (iA r1 hs.1)))
 · cases e2
end
def qx (i j:Nat) (gk1:DE) (i2:Nat) (gk2:DE) (g2:DA) (g3:DE):DSm:=λ τ=>match τ[j]? with
 | some (.mu false m)=>match cA (bS i) gk1 (eV j) τ with
  | some (.next τ1)=>match cA (bS i2) gk2 (eT g2) τ1 with
   | some (.next τ2)=>(g3 ((aL τ2).set j (.shr (frz m)))).bind λ d=>if sca d=true/\i≠i2 then some (.ret (.shr d) τ2) else none
   | _=>none
  | _=>none
 | _=>none
theorem jO (h:aP τ i []=some m):∃ b,τ[i]?=some (.mu b m):=by
 unfold aP at h;split at h
 ·rename_i b m' e
  have:m'=m:=by cases m' <;> exact Zj h
  subst this;exact ⟨b,e⟩
 · cases h
theorem Ai (cs:List (Key×Mt)) (k:Key) (m:Mt):(k,m) ∈ fU cs k m:=by
 unfold fU;split
 ·rename_i h
  obtain ⟨c,hc,e⟩:=List.any_eq_true.mp h;have e':c.1=k:=of_decide_eq_true e;exact Z5.mpr ⟨c,hc,by rw [if_pos e',e']⟩
 · exact Zd _ (Zn.mpr rfl)
theorem CN {kvs:List (Key×V)} {k:Key} {v:V} (h:b7 kvs k=some v):(k,v) ∈ kvs:=by
 unfold b7 at h;obtain ⟨c,hc,rfl⟩:=Zm h;have e:c.1=k:=by simpa using List.find?_some hc
 rw [<- e];exact List.mem_of_find?_eq_some hc
theorem DB (h:τ[i]?=some (.mu b m)):(b9 τ i [] m2)[i]?=some (.mu b m2):=by
 unfold b9;rw [h];have e:m.put [] m2=m2:=by cases m <;> rfl
 show (τ.set i (.mu b (m.put [] m2)))[i]?=_;rw [e,List.getElem?_set_self (List.getElem?_eq_some_iff.mp h).1]
theorem Ag (h:τ[i]?=some (.mu b m)) (ne:i≠k):(b9 τ i [] m2)[k]?=τ[k]?:=by
 unfold b9;rw [h];show (τ.set i (.mu b (m.put [] m2)))[k]?=_;rw [List.getElem?_set_ne ne]
theorem set_same {α:Type} {l:List α} {x:α} (h:l[j]?=some x):l.set j x=l:=by
 apply List.ext_getElem?;intro n;rw [List.getElem?_set];split
 ·rename_i e
  subst e;split
  · exact h.symm
  ·rename_i hn
   rw [List.getElem?_eq_none (by omega)] at h;cases h
 · rfl
section
variable {K:W.Frag} {Hs0 H0 Hs H:Hp} {ρ:List (Option Addr)} {σ:St} {τ:List Sm} {i:Nat} {s:Sm} {v:V} {mv m:Mt} {cs:List (Key×Mt)} {b:Bool} {a:Addr} {kvs:List (Key×V)} {ky:Key}
theorem jm (r:aT K Hs0 H0 (none::ρ) Hs H (some v::σ) (s::τ)) (hs:toM s=some mv) (hg:aP τ i []=some (.n .d cs)):∃ a kvs,σ[i]?=some (some (.ref a))/\H a=some (.dK kvs)/\kvs.length=cs.length/\∀ ky,aT K Hs0 H0 ρ Hs (upd H a (.dK (putK kvs ky v))) σ (b9 τ i [] (.n .d (fU cs ky mv))):=by
 obtain ⟨b,eb⟩:=jO hg;obtain ⟨fp,st⟩:=r.pop.st;obtain ⟨rt,fq,fp',h1,_⟩:=st.out eb;obtain ⟨a,dx,ts,u,fv,rfl,rfl,ha,hl,ku,fin⟩:=r.uE hs hg h1 rfl;rw [mW hl] at ha;refine ⟨a,_,h1,ha,by rw [Za,Za],λ ky=>?_⟩;obtain ⟨l1,l2,hsub,spl⟩:=jD ky ku;obtain ⟨p1,p2,p3⟩:=spl ⟨ky,v,mv,fv⟩ rfl;generalize ek:ts.map Kd.kv=kvs at hl
 cases hl with
 | d _ =>
  have:=fin l1 ky l2 (.dK (putK kvs ky v)) hsub (by rw [p1,ek]; exact .d _) p3;rw [p2] at this;exact this
theorem JC {cs0:List (Key×Mt)} (r:aT K Hs0 H0 ρ Hs H σ τ) (hi:τ[i]?=some (.mu b (.n .d (fU cs0 ky m)))) (ha:σ[i]?=some (some (.ref a))) (hH:H a=some (.dK kvs)) (hv:b7 kvs ky=some v):Rp K H v (frz m):=by
 obtain ⟨fp,st⟩:=r.st;obtain ⟨rt,fq,fp',h1,h2,_⟩:=st.out hi;rw [ha] at h1;cases h1;obtain ⟨a',dx,ts,u,e1,_,e2,hu,hl,_,ku,_,rr⟩:=h2.inv;cases e1;rw [hH] at hu;cases hu;have e3:=mW hl;injection e3 with e3
 have i1:=CN hv;rw [e3] at i1;obtain ⟨c,hc,ec⟩:=Z5.mp i1;have i2:=Ai cs0 ky m;rw [e2] at i2;obtain ⟨c',hc',ec'⟩:=Z5.mp i2;have k1:c.k=ky/\c.v=v:=by injection ec with z1 z2; exact ⟨z1,z2⟩
 have k2:c'.k=ky/\c'.m=m:=by injection ec' with z1 z2; exact ⟨z1,z2⟩
 have ecc:c=c':=by
  have ku':(ts.map Kd.k).Nodup:=ku
  have:∀ {l:List Kd},(l.map Kd.k).Nodup->c ∈ l->c' ∈ l->c.k=c'.k->c=c':=λ {l}=>by
   induction l with
   | nil=>intro _ h; cases h
   | cons z l ih =>
    intro nd h h' e;rw [Zg,Zt] at nd;rcases Zh.mp h with e1 | g
    ·rcases Zh.mp h' with e2 | g'
     · rw [e1,e2]
     · exact absurd (Z5.mpr ⟨c',g',by rw [<- e,e1]⟩) nd.1
    ·rcases Zh.mp h' with e2 | g'
     · exact absurd (Z5.mpr ⟨c,g,by rw [e,e2]⟩) nd.1
     · exact ih nd.2 g g' e
  exact this ku' hc hc' (by rw [k1.1,k2.1])
 have o:=(rr c hc).rp r.sm;rw [k1.2,ecc,k2.2] at o;exact o
theorem sy (r:aT K Hs0 H0 ρ Hs H σ τ) (hi:τ[i]?=some (.mu b (.n t cs))) (hi2:τ[i2]?=some (.mu b2 (.n t2 cs2))) (ne:i≠i2) (ha:σ[i]?=some (some (.ref a))) (ha2:σ[i2]?=some (some (.ref a2))):a≠a2:=by
 obtain ⟨fp,st⟩:=r.st;obtain ⟨v,fq,fp',h1,h2,h3,h4,_⟩:=st.out hi;rw [ha] at h1;cases h1;obtain ⟨v2,fq2,fp2,k1,k2,_,k4,_⟩:=h3.out (i:=i2) (b:=b2) (m:=.n t2 cs2) (by rw [List.getElem?_set_ne ne]; exact hi2);rw [ha2] at k1;cases k1;obtain ⟨_,_,_,_,e1,e2,_⟩:=h2.inv;obtain ⟨_,_,_,_,e3,e4,_⟩:=k2.inv;cases e1;cases e3;intro z;subst z;exact (h4 a (by rw [e2]; exact Ze ..)).1 (k4 a (by rw [e4]; exact Ze ..)).2
end
section
variable {X:Cx} {posA posB posC pd pf px ps1 ps2 pt:Pos} {k1 k2 e3:Expr} {es:List Expr} {d f x:Str} {i j i2:Nat} {gk1 gk2 g3:DE} {g2:DA}
theorem tM {x1} (hu:X.A.units+1 < cLine) (hd:PE X (.Name d pd) (yK i)) (hk1:PEd X k1 gk1) (hx:PE X (.Name x px) (yK j)) (hf:PE X (.Name f pf) (yK i2)) (hk2:PEd X k2 gk2) (h2:PAd X es g2) (h3:PEd X e3 g3)
  (hsA:swapsWith (.Name x px) (some (.Subscript (.Name d pd) k1 ps1)) posA.line X.env=pure false:=by rfl) (hsB:swapsWith (.Tuple es x1 pt) (some (.Subscript (.Name f pf) k2 ps2)) posB.line X.env=pure false:=by rfl) :
  jg X [.Assign [.Subscript (.Name d pd) k1 ps1] (.Name x px) posA,.Assign [.Subscript (.Name f pf) k2 ps2] (.Tuple es x1 pt) posB,.Return (some e3) posC] (qx i j gk1 i2 gk2 g2 g3) :=
 PSs.imp (bg (nV hu hd hk1 hx hsA) (bg (nV hu hf hk2 (Lc h2) hsB) (aR (fX h3)))) λ E σ H ⟨Hs0,H0,nf,ρ,Hs,τ,o,r,e,k⟩=>by
  unfold qx at e;split at e
  ·rename_i m ej
   split at e
   ·rename_i τ1 eA
    split at e
    ·rename_i τ2 eB
     obtain ⟨d3,e3,e4⟩:=bind_some e;split at e4
     ·rename_i hs
      obtain ⟨hs,hne⟩:=hs;cases e4;obtain ⟨⟨s,τa⟩,a1,eA⟩:=bind_some eA;obtain ⟨⟨ia,qa⟩,a2,eA⟩:=bind_some eA;obtain ⟨da,a3,eA⟩:=bind_some eA;obtain ⟨ky,a4,eA⟩:=bind_some eA;obtain ⟨mv,a5,eA⟩:=bind_some eA;have a1':eV j τ=some (.mu false m,τ.set j .no):=by unfold eV; rw [ej]
      rw [a1'] at a1;cases a1;cases a2;cases a5;split at eA
      ·rename_i cs en
       split at eA
       ·rename_i hz
        have eA':=Zj eA;injection eA' with eA'
        obtain ⟨fp,st⟩:=r.st;obtain ⟨v,fq,fp',h1,h2',h3',h4,h5⟩:=st.out ej;have r1:aT X.K Hs0 H0 (none::ρ) Hs H (some v::σ) (.mu false m::τ.set j .no):=⟨r.ext,fq++fp',.mu h2' (λ e=>by cases e) (λ c hc=>(st.live c (h4 c hc).2).2.2) (λ c hc=>(h4 c hc).1) h3'⟩
        refine ⟨v,h1,?_⟩;obtain ⟨a,kvs,g1,g2',g3',fin⟩:=jm r1 rfl en;refine ⟨.ref a,g1,?_⟩;refine ⟨H,H,aL (τ.set j .no),[],da,h3'.aL r.sm,.refl H,a3,λ y Hs3 H3 gg ry=>?_⟩;have hy:=gW ry a4;subst hy;obtain ⟨a',kvs',g1',g2'',g3'',fin'⟩:=jm (r1.grow gg.hh) rfl en;rw [g1] at g1';cases g1';refine ⟨a,_,rfl,Cw.k g2'' (by rw [g3'']; exact le5 (Yw hz)),?_⟩;have r4:=fin' ky;rw [eA'] at r4;obtain ⟨⟨s5,τ5⟩,b1,eB1⟩:=bind_some eB;obtain ⟨⟨ib,qb⟩,b2,eB2⟩:=bind_some eB1;obtain ⟨db,b3,eB3⟩:=bind_some eB2;obtain ⟨ky2,b4,eB4⟩:=bind_some eB3;obtain ⟨mv2,b5,eB5⟩:=bind_some eB4;clear eB eB1 eB2 eB3 eB4;cases b2
        have e5:τ5=τ1:=by
         unfold eT at b1;obtain ⟨ds,_,b1⟩:=bind_some b1;split at b1
         · cases b1; rfl
         · cases b1
        subst e5;split at eB5
        ·rename_i cs2 en2
         split at eB5
         ·rename_i hz2
          have eB':=Zj eB5;injection eB' with eB'
          refine ⟨Hs0,H0,nf,ρ,Hs,_,s5,_,r4,b1,λ v5 Hs5 H5 s5' r5=>?_⟩;obtain ⟨a2,kvs2,q1,q2,q3,fin2⟩:=jm r5 b5 en2;refine ⟨.ref a2,q1,?_⟩;obtain ⟨fp5,st5⟩:=r5.pop.st;refine ⟨H5,H5,aL _,[],db,st5.aL r5.sm,.refl H5,b3,λ y2 Hs6 H6 gg6 ry2=>?_⟩;have hy2:=gW ry2 b4;subst hy2;obtain ⟨a2',kvs2',q1',q2',q3',fin2'⟩:=jm (r5.grow gg6.hh) b5 en2;rw [q1] at q1';cases q1';refine ⟨a2,_,rfl,Cw.k q2' (by rw [q3']; exact le5 (Yw hz2)),?_⟩;have r8:=fin2' ky2;rw [eB'] at r8;obtain ⟨b0,t0⟩:=jO en
          have t1:τ5[i]?=some (.mu b0 (.n .d (fU cs ky m))):=by
           rw [<- eA'];exact DB t0
          obtain ⟨b2,t2⟩:=jO en2;have nea:=sy r5.pop t1 t2 hne g1 q1
          have hA:upd H6 a2 (.dK (putK kvs2' ky2 v5)) a=some (.dK (putK kvs' ky v)):=by
           rw [ai nea];exact gg6.hh _ _ (s5' _ _ ao)
          have t3:τ2[i]?=some (.mu b0 (.n .d (fU cs ky m))):=by
           rw [<- eB'];exact (Ag t2 (Ne.symm hne)).trans t1
          have rp:=JC r8 t3 g1 hA (by rw [wt,if_pos rfl]);obtain ⟨fp8,st8⟩:=r8.st;obtain ⟨fp9,n9,st9⟩:=StR.qI (i:=j) rp (st8.aL r8.sm);have e9:fp9=[]:=List.eq_nil_iff_forall_not_mem.mpr λ c hc=>nomatch n9 c hc
          subst e9;rw [set_same h1] at st9;exact ⟨_,_,_,[],d3,st9,.refl _,e3,λ v9 Hs9 H9 g9 r9=>k v9 σ Hs5 H9 ((r8.grow g9.hh).push (kP r9 hs))⟩
         · cases eB5
        · cases eB5
       · cases eA
      · cases eA
     · cases e4
    · cases e
   · cases e
  · cases e
end

def Cp (i jx:Nat) (τ:List Sm):List Sl:=aL ((τ.set i .no).set jx .no)
def wD (it:DE) (g:DGm) (b:DSm):DSm:=λ τ=>(it (aL τ)).bind λ d=>match d with
 | .lst ds=>if ds.all sca=true then forM (λ d τ=>(g d τ).bind b) ds τ else none
 | _=>none
section
variable {X:Cx} {tg iter:Expr} {body:List Stmt} {pos:Pos}
theorem wZ {it:DE} {g:DGm} {b:DSm} (hp:PassesOwn (model X.prog X.w) X.A X.env X.xe) (hc:X.calm=true) (hi:PEo X iter it) (hg:PGm X tg g) (hb:jg X body b) (hs:∀ x,foldedSetIterable iter X.env x=pure x:=by intro _; rfl) :
  PSm X (.For tg iter body [] pos) (wD it g b):=(jG hp hc (nY (JJ hi)) hg hb hs).imp λ E σ H ⟨Hs0,H0,nf,ρ,Hs,τ,o,r,e,k⟩=>by
 obtain ⟨d,e1,e⟩:=bind_some e;split at e
 ·rename_i ds
  split at e
  ·rename_i hsc
   refine ⟨Hs0,H0,nf,ρ,Hs,τ,.shr (.lst ds),τ,r,by unfold eF; rw [e1]; exact if_pos hsc,λ v Hs1 H1 _ rr=>?_⟩;have r1:=rr.pop;obtain ⟨fp,st⟩:=rr.st
   cases st with
   | shr h st =>
   cases h with
   | @lst a xs _ ha rx =>
   have kk:=k.rebase r1.ext;refine ⟨a,rfl,⟨xs,SqL.of (r1.sm _ _ ha)⟩,?_⟩;have hJ:=lR (K:=X.K) (SqL.of ha) rx;refine ⟨λ i m σ H=>m=ds.length - i/\i<=ds.length/\∃ Hs2 τ2,aT X.K Hs1 H0 ρ Hs2 H σ τ2/\forM (λ d τ=>(g d τ).bind b) (ds.drop i) τ2=some o,⟨ds.length,by simp,Z3 _,Hs1,τ,r1.rebase,by simpa using e⟩,?_⟩
   rintro i m σ2 H2 ⟨rfl,hi,Hs2,τ2,r2,e3⟩
   obtain ⟨hgo,hstop⟩:=hJ Hs2 H2 r2.ext.ss r2.sm
   by_cases hlt:i < ds.length
   ·have ed:ds.drop i=ds[i]::ds.drop (i+1):=Z7 hlt
    rw [ed] at e3;obtain ⟨go,yl⟩:=hgo i ds[i] (List.getElem?_eq_getElem hlt);refine .inr ⟨go,λ σ' H'=>∃ Hs' τ',aT X.K Hs1 H0 ρ Hs' H' σ' τ'/\forM (λ d τ=>(g d τ).bind b) (ds.drop (i+1)) τ'=some o,?_,?_⟩
    ·rintro σ' H' ⟨Hs',τ',r',e'⟩
     exact ⟨ds.length - (i+1),by omega,rfl,hlt,Hs',τ',r',e'⟩
    ·intro x H' y
     obtain ⟨Hs3,g3,rx⟩:=yl x H' y;have r3:=r2.ext' g3;unfold forM at e3
     cases q:(g ds[i] τ2).bind b with
     | none=>simp only [q] at e3; cases e3
     | some o1 =>
      simp only [q] at e3;obtain ⟨τ3,q1,q2⟩:=bind_some q;refine ⟨Hs1,H0,nf,ρ,Hs3,τ2,τ3,ds[i],r3,rx,q1,λ σ' r'=>?_⟩;refine ⟨Hs1,H0,nf,ρ,Hs3,τ3,o1,r',q2,?_⟩
      cases o1 with
      | next τ'=>exact λ σ4 Hs4 H4 r4=>⟨Hs4,τ',r4,e3⟩
      | cnt τ'=>exact λ σ4 Hs4 H4 r4=>⟨Hs4,τ',r4,e3⟩
      | brk τ'=>cases e3; exact kk
      | ret s τ'=>cases e3; exact kk
   ·have e0:i=ds.length:=by omega
    subst e0;rw [Yv] at e3;have e':qy.next τ2=o:=by simpa [forM] using e3
    subst e';exact .inl ⟨hstop _ (Zl _),kk σ2 Hs2 H2 r2⟩
  · cases e
 · cases e
end
open Classical in
noncomputable def sW (i jx:Nat) (c:DT):DSm:=λ τ=>match τ[i]? with
 | some (.mu _ (.n .d ks))=>if ks.length<=100000/\∀ p ∈ ks,c (((Cp i jx τ).set i (.shr (.dfz (yj ks)))).set jx (.shr (kD p.1)))=some false then some (.next (τ.set jx .no)) else none
 | _=>none
theorem wz {α:Type} {l:List α} {i:Nat} {x:α} (h:l[i]?=some x):l.set i x=l:=by
 obtain ⟨h1,h2⟩:=List.getElem?_eq_some_iff.mp h;rw [<- h2,List.set_getElem_self]
section
variable {X:Cx} {c k:Expr} {pos px pz ipos rpos:Pos} {x z:Str} {i jx:Nat} {t:DT} {g:DE}
theorem tT (hp:PassesOwn (model X.prog X.w) X.A X.env X.xe) (hc:X.calm=true) (hz:X.N[i]?=some z) (hv:Vis X.env.scope z) (hN:X.N.Nodup) (hx:X.N[jx]?=some x) (lx:Loc X.env.scope x) (n2:jx≠i)
  (ht:PTd X c t) (hk:PEd X k g)
  (hd:(z == ("__debug__":Str))=false:=by decide) (hcl:(z == ("__classdict__":Str))=false:=by decide) (hs:∀ x,foldedSetIterable (.Name z pz) X.env x=pure x:=by intro _; rfl)
  (hfx:X.fn x=true\/X.env.scope.names.lookup x=some .local:=by first | exact .inl rfl | exact .inr rfl | assumption) :
  PSm X (.For (.Name x px) (.Name z pz) [.If c [.Return (some k) rpos] [] ipos] [] pos) (sW i jx t) :=
 PS.imp (tY (jG hp hc (ub (cI hz hv hd hcl)) (gr hN hx lx hfx) (aR (mF ht (aR (fX hk)) iC)) hs)) λ E σ H ⟨Hs0,H0,nf,ρ,Hs,τ,o,r,e,k⟩=>by
  unfold sW at e;split at e
  ·rename_i b0 ks ei
   split at e
   ·rename_i hl
    obtain ⟨hl,hall⟩:=hl;cases e;obtain ⟨fp,st⟩:=r.st;obtain ⟨v,fq,fpr,o1,o2,o3,o4,o5⟩:=st.out ei;obtain ⟨d,dx,ts,u,rfl,rfl,rfl,hdH,hlay,hnd,ku,ndp,rr⟩:=o2.inv;rw [mW hlay] at hdH;have d0:H0 d=none:=(st.live d (o4 d (Ze ..)).2).2.2;refine ⟨_,o1,d,ts.map Kd.kv,rfl,hdH,λ ob=>?_⟩;have dnf:d ∉ fpr:=(o4 d (Ze ..)).1;have s1:StM X.K H0 Hs (upd H d (.frz ob (.dK (ts.map Kd.kv)))) ρ σ (τ.set i .no) fpr:=o3.mv (.refl _) λ c hc=>⟨(o3.live c hc).1,ai (show c≠d from λ q=>dnf (by rw [<- q]; exact hc))⟩
    have sm1:bz Hs (upd H d (.frz ob (.dK (ts.map Kd.kv)))):=λ c w q=>by
     rw [ai (show c≠d from λ y=>by rw [y,hnd] at q; cases q)]; exact r.sm c w q
    have sm0:bz H0 (upd H d (.frz ob (.dK (ts.map Kd.kv)))):=λ c w q=>by
     rw [ai (show c≠d from λ y=>by rw [y,d0] at q; cases q)]; exact r.ext.hh c w q
    generalize hH1:upd H d (.frz ob (.dK (ts.map Kd.kv)))=H1 at s1 sm1 sm0;have h1d:H1 d=some (.frz ob (.dK (ts.map Kd.kv))):=by rw [<- hH1]; exact ao
    have r1:aT X.K Hs H0 ρ Hs H1 σ (τ.set i .no):=⟨⟨.refl _,sm1,sm0,λ _ h _=>h⟩,fpr,s1⟩
    have fg:∀ {Hs0 H0 Hs H:Hp} {τ:List Sm} {σ:St},aT X.K Hs0 H0 ρ Hs H σ τ->aT X.K Hs0 H0 ρ Hs H σ (τ.set jx .no):=λ {Hs0 H0 Hs H τ σ} r=>by
     obtain ⟨fp,st⟩:=r.st;obtain ⟨fp1,s1,_⟩:=st.LQ jx;exact ⟨r.ext,fp1,s1⟩
    have fs:∀ {Hs0 H0 Hs H:Hp} {τ:List Sm} {σ:St} (a:Option V),aT X.K Hs0 H0 ρ Hs H σ (τ.set jx .no)->aT X.K Hs0 H0 ρ Hs H (σ.set jx a) (τ.set jx .no):=λ {Hs0 H0 Hs H τ σ} a r=>by
     have:=r.forget jx a;rw [List.set_set] at this;exact this
    have lts:(ts.map Kd.kv).length=ts.length:=Za _;refine ⟨λ n m σ' H'=>m=ts.length - n/\n<=ts.length/\σ'[i]?=some (some (.ref d))/\bz H1 H'/\aT X.K Hs H0 ρ Hs H1 σ' ((τ.set i .no).set jx .no)/\aT X.K Hs0 H0 ρ Hs H σ' (τ.set jx .no),⟨ts.length,by simp,Z3 _,o1,.refl _,fg r1,fg r⟩,?_⟩
    rintro n m σ' H2 ⟨rfl,hn,od,g2,ra,rb⟩
    have h2d:=g2 _ _ h1d
    by_cases hlt:n < ts.length
    ·refine .inr ⟨⟨h2d,by rw [lts]; exact hlt⟩,λ σ'' H'=>σ''[i]?=some (some (.ref d))/\bz H1 H'/\aT X.K Hs H0 ρ Hs H1 σ'' ((τ.set i .no).set jx .no)/\aT X.K Hs0 H0 ρ Hs H σ'' (τ.set jx .no),λ σ'' H' h=>⟨ts.length - (n+1),by omega,rfl,hlt,h⟩,?_⟩
     rintro w H3 ⟨rfl,kk,ww,hk',rfl⟩
     have hm:∃ p ∈ ts.map Kd.km,p.1=kk:=by
      rw [List.getElem?_map] at hk';obtain ⟨tt,ht',et⟩:=Zm hk';exact ⟨tt.km,Z5.mpr ⟨tt,List.mem_of_getElem? ht',rfl⟩,(Prod.mk.inj et).1⟩
     obtain ⟨p,hp',rfl⟩:=hm;obtain ⟨fpa,sa⟩:=(ra.grow g2).st
     have rz:Rp X.K _ (.ref d) (.dfz (yj (ts.map Kd.km))):=.dfz (.inr ⟨ob,h2d⟩) (tj λ c hc=>by
      have oc:=rr c hc;have dn:d ∉ c.fp:=λ z=>(Zt.mp ndp).1 (Yi.mpr ⟨c,hc,z⟩)
      exact ((oc.mv (.refl _) λ b hb=>⟨(oc.live b hb).1,by rw [<- hH1,ai (show b≠d from λ y=>dn (y ▸ hb))]⟩).rp sm1).same g2)
     obtain ⟨fp8,n8,st8⟩:=StR.qI (i:=i) rz (sa.aL (ra.grow g2).sm);rw [wz od] at st8;obtain ⟨fp9,n9,st9⟩:=StR.qI (i:=jx) (yd p.1) st8;have e9:fp9=[]:=List.eq_nil_iff_forall_not_mem.mpr λ c hc=>nomatch n8 c (n9 c hc)
     subst e9;refine ⟨_,_,_,[],false,st9,.refl _,hall p hp',λ Hs7 H7 g7=>EK ?_⟩;exact ⟨by rw [List.getElem?_set_ne n2]; exact od,g2.trans g7.hh,fs _ ra,fs _ rb⟩
    ·have e0:n=ts.length:=by omega
     subst e0;refine .inl ⟨⟨h2d,by rw [lts]; exact Zl _⟩,d,ob,ts.map Kd.kv,h2d,λ o' u' q=>nf d o' u' q d0,?_⟩
     have smf:bz H (upd H2 d (.dK (ts.map Kd.kv))):=λ c w q=>by
      by_cases cd:c=d
      ·subst cd
       rw [hdH] at q;cases q;exact ao
      ·rw [ai cd]
       exact g2 _ _ (by rw [<- hH1,ai cd]; exact q)
     exact k _ _ _ (rb.grow smf)
   · cases e
  · cases e
end
abbrev Fn0 (K:W.Frag) (x:Str) (st:Stmt) (f:Addr):Prop:=∃ (od an:Option Addr) (sl:Array (Option Value)) (oc kV dc pm cd ct:Value),PySem.W.nsIn K mainGlobals x=some (some (.ref f))/\K.lookup f=some ⟨oc,od,.func (PySem.W.fnOf x x (cb st) (bw st) (aC st) .none kV dc pm an cd ct),sl⟩/\PySem.W.codeIn K cd x=true/\W.keepIn K (.ref f)=true
theorem Fn0.mk {K:W.Frag} {x:Str} {st:Stmt} {f:Addr} {h:Heap} {mg:Str->Option Value} {ps:List Str} (e:Fn0 K x st f) (X:K.In h) (G:h.Ns mainGlobals mg) (hb:∀ (kV doc pm:Value) (an:Option Addr) (cdv ct:Value) (us:List Value),us.length=ps.length->bindArgs (PySem.W.fnOf x x (cb st) (bw st) (aC st) .none kV doc pm an cdv ct) ⟨us,[]⟩=pure (ps.zip us)):∃ fd,Fun K x x st f fd/\mg x=some (.ref f)/\Binds K fd ps []:=by
 obtain ⟨od,an,sl,oc,kV,dc,pm,cd,ct,a,l,c,k⟩:=e;exact ⟨_,j0 (st:=st) l c k,PySem.W.mg_of X G a,(j0 (st:=st) l c k).binds hb⟩
theorem Ej {as:List Addr} {h:Heap}:∀ {K:W.Frag},as=K.map (·.1)->as.map h.get?=K.map (λ p=>some p.2)->∀ p ∈ K,h.get? p.1=some p.2:=by
 intro K e q;subst e;rw [Zy] at q;intro p hp;exact List.map_inj_left.mp q p hp
theorem zf:∀ {K:W.Frag},List.lookup a K=some o->(a,o) ∈ K
 | [],h=>by cases h
 | (b,u)::K,h=>by
  rw [List.lookup_cons] at h
  cases q:a == b with
  | true =>
   rw [q] at h;have e1:a=b:=eq_of_beq q;have e2:u=o:=Zj h;subst e1 e2;exact Ze ..
  | false =>
   rw [q] at h;exact Zc _ (zf h)
theorem wq {q:Program} {loose:List Str} {XP:(Str->Option Value)->Heap->Prop} {as:List Addr} {K:Params->W.Frag} {n t:Nat} {r:PySem.W.RowW} {d:PySem.DefRec} {kwd:List (Str×Expr)} {run:Value->List Value->Sem Value}
  (e:∀ P,as=(K P).map (·.1)) (h:PySem.W.WalkO q loose XP (PySem.W.InK K) r d kwd run):PySem.W.WalkX q loose XP (PySem.W.X.obsZ as) (PySem.W.X.valZ K n t) r d kwd run:=by
 intro w s₀ s₁ mg mb G y a o pm cd doc dV kV ho hd hcd hD hmg hg args vals bs L hpre hlay hrd hwl hlo;have y1:as.map s₀.heap.get?=(K w.params).map (λ p=>some p.2):=Yo Prod.fst y;have KX:(K w.params).In s₁.heap:=λ b o' e'=>L.keeps b o' (Ej (e w.params) y1 (b,o') (zf e'))
 exact h w s₀ s₁ mg mb G KX a o pm cd doc dV kV ho hd hcd hD hmg hg args vals bs hpre hlay hrd hwl hlo
end L2
end
section
local macro_rules | `(tactic| walk_at "v")=>`(tactic| first | exact .inl rfl | exact .inr rfl | assumption)
local macro_rules | `(tactic| walk_at "w")=>`(tactic| first | exact .inl rfl | exact .inr (.inl rfl) | exact .inr (.inr rfl))
namespace L2
open PySem PySem.Spec PyProof.Rows
abbrev Dg (x:Str):Prop:=(x == ("__debug__":Str))=false
abbrev Dc (x:Str):Prop:=(x == ("__classdict__":Str))=false
abbrev Se (X:Cx) (e:Expr) (es:List Expr):Prop:=starEach (e::es) X.env=(false,eval e X.env)::starEach es X.env
abbrev Sb (X:Cx) (pos:Pos) (es:List Expr):Prop:=(backTo pos (starEach es X.env)).any (·.1)=false
abbrev Fs (X:Cx) (i:Expr):Prop:=∀ x,foldedSetIterable i X.env x=pure x
abbrev Xl (X:Cx) (x:Str):Prop:=X.fn x=true\/X.env.scope.names.lookup x=some .local
abbrev Sw (X:Cx) (e:Expr) (x:Str) (p pos:Pos):Prop:=swapsWith e (some (.Name x p)) pos.line X.env=pure false
def Df (K:W.Frag) (mg:Str->Option Value) (x:Str) (st:Stmt) (ps:List Str):Prop:=∃ a d,Fun K x x st a d/\mg x=some (.ref a)/\Binds K d ps []
def Mf (K:W.Frag) (C:Addr) (x q:Str) (st:Stmt) (ps:List Str):Prop:=∃ a d,Fun K x q st a d/\zG K C x a/\Binds K d ps []
def If (K:W.Frag) (C:Addr) (q:Str) (st:Stmt) (ps:List Str):Prop:=∃ a d,Fun K "__init__" q st a d/\Mk K C a/\Binds K d ps []
structure Go (P:Program) (w:World) (K:W.Frag) (mg:Str->Option Value) (base:Heap) (k:Nat) (x:Str) (sp:Sp):Prop where
 go:∃ f fd ps,mg x=some (.ref f)/\W.keepIn K (.ref f)=true/\Binds K fd ps []/\fW P w K mg base CX0 k f fd ps sp
structure GoM (P:Program) (w:World) (K:W.Frag) (mg:Str->Option Value) (base:Heap) (k:Nat) (C:Addr) (x:Str) (sp:Sp):Prop where
 go:∃ f fd ps,zG K C x f/\Binds K fd ps []/\fW P w K mg base CX0 k f fd ps sp
structure GoI (P:Program) (w:World) (K:W.Frag) (mg:Str->Option Value) (base:Heap) (k:Nat) (C:Addr) (sp:Sp):Prop where
 go:∃ f fd ps,Mk K C f/\Binds K fd ps []/\fW P w K mg base CX0 k f fd ps sp
theorem aa (i:Nat) (hN:X.N[i]?=some x:=by exact rfl) (hv:Vis X.env.scope x:=by walk_at "w") (hd:Dg x:=by decide) (hcd:Dc x:=by decide):Bx (PEd X (.Name x pos) (aF i)):=⟨DY i hN hv hd hcd⟩
theorem aj  : Bx (PEd X (.Constant (.int i) j pos) (dC (.int i))):=⟨D4 ⟩
theorem bR  : Bx (PEd X (.Constant (.bool i) j pos) (dC (.bl i))):=⟨G8 ⟩
theorem fP  : Bx (PEd X (.Constant .none j pos) (dC .non)):=⟨D3 ⟩
theorem jq  : Bx (PEd X (.Constant (.str x) j pos) (dC (.str x))):=⟨D0 ⟩
theorem iL (hm:X.mg x=none) (hg:Gl X x:=by rfl) (hv:bootBuiltins x=some (.type n):=by decide +kernel) (hn:x≠"__name__":=by decide) (hd:Dg x:=by decide):Bx (PEd X (.Name x pos) (dC (.ty n))):=⟨G4 hg hm hv hn hd⟩
theorem kl (ho:OpR X (binaryOp op) (rdR X.K o)) (ha:Bx (PEd X a f):=by walk_at "g") (hb:Bx (PEd X b g):=by walk_at "g"):Bx (PEd X (.BinOp a op b pos) (dOp o f g)):=⟨G5 ho ha.out hb.out⟩
theorem Ck (ho:UnR X (unaryOp op) (rdU X.K o)) (ha:Bx (PEd X a f):=by walk_at "g"):Bx (PEd X (.UnaryOp op a pos) (dUn o f)):=⟨G3 ho ha.out⟩
theorem qt (ho:OpR X (compareOp op) (rdR X.K o)) (ha:Bx (PEd X a f):=by walk_at "g") (hb:Bx (PEd X b g):=by walk_at "g") (hm:behindInMarks op b=false:=by first | exact zd _ | rfl):Bx (PEd X (.Compare a [op] [b] pos) (dOp o f g)):=⟨D7 ho ha.out hb.out hm⟩
theorem cf (ho:OpR X (compareOp op) (rdR X.K o)) (ha:Bx (PEd X a f):=by walk_at "g") (hb:Bx (PEd X b g):=by walk_at "g") (hm:behindInMarks op b=false:=by first | exact zd _ | rfl):Bx (PTd X (.Compare a [op] [b] pos) (dT (dOp o f g))):=⟨Ap ho ha.out hb.out hm⟩
theorem sd (ho:OpR X (compareOp op) (rdR X.K o)) (ho':OpR X (compareOp op') (rdR X.K o')) (ha:Bx (PEd X a f):=by walk_at "g") (hb:Bx (PEd X b g):=by walk_at "g") (hc:Bx (PEd X c h):=by walk_at "g") (hm:lastMarks [op,op'] [b,c]=false:=by with_unfolding_all rfl):Bx (PEd X (.Compare a [op,op'] [b,c] pos) (ka (dOp o f g) (dOp o' g h))):=⟨xF ho ho' ha.out hb.out hc.out hm⟩
theorem bU  : Bx (PAd X [] dM):=⟨Bf ⟩
theorem dO (ha:Bx (PEd X e f):=by walk_at "g") (hr:Bx (PAd X es g):=by walk_at "a") (hs:Se X e es:=by rfl):Bx (PAd X (e::es) (aI f g)):=⟨xJ ha.out hr.out hs⟩
theorem ip (h:Bx (PAd X es g):=by walk_at "a"):Bx (PEd X (.Tuple es x1 pos) (Gj g)):=⟨DZ h.out⟩
theorem bF (h:Bx (PAd X es g):=by walk_at "a"):Bx (PEo X (.List es pos) (Fd g)):=⟨DK h.out⟩
theorem aZ (h:Bx (PEo X e f):=by walk_at "o"):Bx (PEd X e f):=⟨PEo.shr h.out⟩
theorem a9 (h:Bx (PEd X e f):=by walk_at "g") (he:∀ whole,isTrue e X.env whole=(do let v <- whole; standAt e.pos; holding [v] (truthy v)):=by intro _; rfl):Bx (PTd X e (dT f)):=⟨An h.out he⟩
theorem aU (h:Bx (PTd X e f):=by walk_at "h"):Bx (PTd X (.UnaryOp .Not e pos) (wm f)):=⟨Ao h.out⟩
theorem rR (h:Bx (PTd X a f):=by walk_at "h"):Bx (PWd X (.BoolOp .And [a] pos) f):=⟨wH h.out⟩
theorem cM (h:Bx (PTd X a f):=by walk_at "h"):Bx (PWd X (.BoolOp .Or [a] pos) f):=⟨Ae h.out⟩
theorem vH (ha:Bx (PTd X a f):=by walk_at "h") (hb:Bx (PWd X (.BoolOp .And (b::es) pos) g):=by walk_at "q"):Bx (PWd X (.BoolOp .And (a::b::es) pos) (Gk f g)):=⟨Af ha.out hb.out⟩
theorem cc (ha:Bx (PTd X a f):=by walk_at "h") (hb:Bx (PWd X (.BoolOp .Or (b::es) pos) g):=by walk_at "q"):Bx (PWd X (.BoolOp .Or (a::b::es) pos) (dOr f g)):=⟨Dy ha.out hb.out⟩
theorem cg (h:Bx (PWd X e f):=by walk_at "q"):Bx (PTd X e f):=⟨PWd.ptd h.out⟩
theorem l9 (h:Bx (PEd X a f):=by walk_at "g"):Bx (PEd X (.BoolOp op [a] pos) f):=⟨D1 h.out⟩
theorem jr (ha:Bx (PEd X a f):=by walk_at "g") (hb:Bx (PEd X (.BoolOp .And (b::es) pos) g):=by walk_at "g"):Bx (PEd X (.BoolOp .And (a::b::es) pos) (ka f g)):=⟨D8 ha.out hb.out⟩
theorem yE (ha:Bx (PEd X a f):=by walk_at "g"):Bx (PEd X (.UnaryOp .Not a pos) (Fc f)):=⟨D2 ha.out⟩
theorem Cm (hc:Bx (PTd X c t):=by walk_at "h") (ha:Bx (PEd X a f):=by walk_at "g") (hb:Bx (PEd X b g):=by walk_at "g"):Bx (PEd X (.IfExp c a b pos) (dIf t f g)):=⟨G7 hc.out ha.out hb.out⟩
theorem bu (ha:Bx (PEd X a f):=by walk_at "g") (hb:Bx (PEd X b g):=by walk_at "g") (hs:pj b:=by exact λ _ _=>rfl):Bx (PEd X (.Subscript a b pos) (dOp oIx f g)):=⟨G6 ha.out hb.out hs⟩
theorem iJ  : Bx (POd X none Ju):=⟨xr ⟩
theorem dN (h:Bx (PEd X e f):=by walk_at "g"):Bx (POd X (some e) (dP f)):=⟨xq h.out⟩
section
variable {X:Cx} {a b c e:Expr} {es:List Expr} {pos:Pos} {f g h:DE}
theorem l7 {lo hi:Option Expr} {p2:Pos} {l u:DO} (ha:Bx (PEd X a f):=by walk_at "g") (hl:Bx (POd X lo l):=by walk_at "l") (hh:Bx (POd X hi u):=by walk_at "l"):Bx (PEo X (.Subscript a (.Slice lo hi none p2) pos) (dSl f l u)):=⟨GY ha.out hl.out hh.out⟩
end
section
variable {X:Cx} {a b c e:Expr} {es:List Expr} {pos:Pos} {f g h:DE}
theorem az {x:Str} {id:String} {p:Pos} {o:List D->Option D} {g:DA} (hc:fF X (.builtin id) (rdL X.K o)) (hm:X.mg x=none) (ha:Bx (PAd X (e::es) g):=by walk_at "a") (hg:Gl X x:=by rfl) (hv:bootBuiltins x=some (.builtin id):=by decide +kernel) (hn:x≠"__name__":=by decide) (hdb:Dg x:=by decide) (he:Se X e es:=by rfl) (hpl:Sb X pos es:=by rfl):Bx (PEd X (.Call (.Name x p) (e::es) [] pos) (gA o g)):=⟨xG hc hg hm hv ha.out hn hdb he hpl⟩
end
theorem vP (hm:X.mg x=none) (ha:Bx (PAd X (e::es) g):=by walk_at "a") (hg:Gl X x:=by rfl) (hv:bootBuiltins x=some (.type "list"):=by decide +kernel) (hn:x≠"__name__":=by decide) (hdb:Dg x:=by decide) (he:Se X e es:=by rfl) (hpl:Sb X pos es:=by rfl):Bx (PEo X (.Call (.Name x p) (e::es) [] pos) (gA xQ g)):=⟨AM hg hm hv ha.out hn hdb he hpl⟩
theorem kg (i:Nat) (h:Bx (PTd X e f):=by walk_at "h"):Bx (PTd X e (Cy i f)):=⟨Aq i h.out⟩
theorem a7  : Bx (mf X [] mC):=⟨wV ⟩
section
variable {X:Cx} {a b c e:Expr} {es:List Expr} {pos:Pos} {st:Stmt} {rest:List Stmt} {f g:DS}
theorem au (h:Bx (PSd X st f):=by walk_at "t"):Bx (mf X [st] f):=⟨wU h.out⟩
end
section
variable {X:Cx} {a b c e:Expr} {es:List Expr} {pos:Pos} {st:Stmt} {rest:List Stmt} {f g:DS}
theorem ak (h1:Bx (PSd X st f):=by walk_at "t") (h2:Bx (mf X rest g):=by walk_at "s"):Bx (mf X (st::rest) (jh f g)):=⟨tP h1.out h2.out⟩
end
section
variable {X:Cx} {a b c e:Expr} {es:List Expr} {pos:Pos} {st:Stmt} {rest:List Stmt} {f g:DS}
theorem gB  : Bx (PSd X st yQ):=⟨tX ⟩
end
theorem bV (hc:Bx (PTd X c t):=by walk_at "h") (ha:Bx (mf X x f):=by walk_at "s") (hb:Bx (mf X y g):=by walk_at "s"):Bx (PSd X (.If c x y pos) (sIf t f g)):=⟨DD hc.out ha.out hb.out⟩
theorem aM (h:Bx (PEd X e f):=by walk_at "g"):Bx (PSd X (.Return (some e) pos) (Dn f)):=⟨AD h.out⟩
theorem lr (h:Bx (PEo X e f):=by walk_at "o"):Bx (PSd X (.Return (some e) pos) (wA f)):=⟨xc h.out⟩
theorem iI (i:Nat) (hN:X.N[i]?=some x:=by exact rfl) (hv:Vis X.env.scope x:=by walk_at "w") (hd:Dg x:=by decide) (hcd:Dc x:=by decide):Bx (PSd X (.Return (some (.Name x p)) pos) (sS i)):=⟨xb i hN hv hd hcd⟩
theorem vM (i:Nat) (hN:X.N.Nodup) (hi:X.N[i]?=some x:=by exact rfl) (he:Bx (PEd X e f):=by walk_at "g") (hx:Loc X.env.scope x:=by walk_at "v") (hs:Sw X e x pos' pos:=by rfl) (hf:Xl X x:=by walk_at "v"):Bx (PSd X (.Assign [.Name x pos'] e pos) (si i f)):=⟨AB hN hi hx he.out hs hf⟩
theorem cE (i:Nat) (hN:X.N.Nodup) (hi:X.N[i]?=some x:=by exact rfl) (he:Bx (PEo X e f):=by walk_at "o") (hx:Loc X.env.scope x:=by walk_at "v") (hs:Sw X e x pos' pos:=by rfl) (hf:Xl X x:=by walk_at "v"):Bx (PSd X (.Assign [.Name x pos'] e pos) (sR i f)):=⟨xa hN hi hx he.out hs hf⟩
theorem lA (he:Bx (PEd X e f):=by walk_at "g") (hs:swapsWith e none pos.line X.env=pure false:=by rfl):Bx (PSd X (.Expr e pos) (sX f)):=⟨xh he.out hs⟩
theorem ig (i:Nat) (hN:X.N[i]?=some x:=by exact rfl) (he:Bx (PEd X e f):=by walk_at "g") (hv:Vis X.env.scope x:=by walk_at "w") (hd:Dg x:=by decide) (hcd:Dc x:=by decide) (hbase:attributeBase (.Name x p) "append" X.env (eval (.Name x p) X.env)=eval (.Name x p) X.env:=by rfl) (hfew:((backTo cpos (starEach [e] X.env)).all (λ x=>!x.1)&&(backToKw cpos (keywordEach [] X.env)).all (λ x=>x.1.isSome)
 && decide ([e].length+([]:List Keyword).length+(if ([]:List Keyword).isEmpty then 0 else 1) < 30))=true:=by rfl) (hline:(apos.endLine == cpos.line)=true:=by rfl) (hst:starEach [e] X.env=(false,eval e X.env)::starEach [] X.env:=by rfl) (hplain:(backTo cpos (starEach [] X.env)).any (·.1)=false:=by rfl) (hs:swapsWith (.Call (.Attribute (.Name x p) "append" apos) [e] [] cpos) none pos.line X.env=pure false:=by rfl):Bx (PSd X (.Expr (.Call (.Attribute (.Name x p) "append" apos) [e] [] cpos) pos) (yR i f)):=⟨AH i hN hv he.out hd hcd hbase hfew hline hst hplain hs⟩
theorem ff (h:Bx (PEd X l f):=by walk_at "g"):Bx (PId X tg l (Gi f)):=⟨AW h.out⟩
theorem jd (hm:X.mg "range"=none) (ha:Bx (PAd X [a] f):=by walk_at "a") (hg:Gl X "range":=by rfl) (hs:starEach [a] X.env=[(false,eval a X.env)]:=by rfl):Bx (PId X tg (.Call (.Name "range" p) [a] [] pos) (mZ f)):=⟨qP hg hm ha.out hs⟩
theorem r6 (i:Nat) (hN:X.N.Nodup) (hi:X.N[i]?=some x:=by exact rfl) (hx:Loc X.env.scope x:=by walk_at "v") (hf:Xl X x:=by walk_at "v"):Bx (PGd X (.Name x pos) (gN i)):=⟨xA hN hi hx hf⟩
theorem vO (hi:Bx (PId X tg iter it):=by walk_at "i") (hg:Bx (PGd X tg g):=by walk_at "j") (hb:Bx (mf X body b):=by walk_at "s") (hp:PassesOwn (model X.prog X.w) X.A X.env X.xe:=by exact .never) (hc:X.calm=true:=by rfl) (hs:Fs X iter:=by intro _; rfl):Bx (PSd X (.For tg iter body [] pos) (Dp it g b)):=⟨AF hp hc hi.out hg.out hb.out hs⟩
theorem dZ (hc:Bx (PTd X c t):=by walk_at "h") (hb:Bx (mf X body b):=by walk_at "s") (hp:PassesOwn (model X.prog X.w) X.A X.env X.xe:=by exact .never):Bx (PSd X (.While c body [] pos) (kQ t b)):=⟨tW hp hc.out hb.out⟩
theorem ar (Fo:Go X.prog X.w X.K X.mg X.base k x (spF F X.K)) (hr:c6 jj X.A) (ha:Bx (PAd X (e::es) g):=by walk_at "a") (hj:k<=jj:=by decide) (hg:Gl X x:=by rfl) (hdb:Dg x:=by decide) (he:Se X e es:=by rfl) (hpl:Sb X pos es:=by rfl):Bx (PEd X (.Call (.Name x p) (e::es) [] pos) (dFn F g)):=by
 have ⟨f',fd',ps',hm,hk,hb,Fo⟩:=Fo.go;have hr:=hr.mono hj;exact ⟨Bc Fo hr hg hm hk hb ha.out hdb he hpl⟩
theorem fc (Fo:Go X.prog X.w X.K X.mg X.base k x (spF F X.K)) (hr:c6 jj X.A) (ha:Bx (PAd X (e::es) g):=by walk_at "a") (hj:k<=jj:=by decide) (hg:Gl X x:=by rfl) (hdb:Dg x:=by decide) (he:Se X e es:=by rfl) (hpl:Sb X pos es:=by rfl):Bx (PEo X (.Call (.Name x p) (e::es) [] pos) (CG F g)):=by
 have ⟨f',fd',ps',hm,hk,hb,Fo⟩:=Fo.go;have hr:=hr.mono hj;exact ⟨AO Fo hr hg hm hk hb ha.out hdb he hpl⟩
theorem ij (O:cC X scope cl x cs) (hi:Bx (PId X (.Name x px) iter it):=by walk_at "i") (he:∀ s H fp C,Bx (PEd (bp X scope cl (x::cs.map (·.1)) s H fp C) elt g):=by intros; walk_at "g") (hc:X.calm=true:=by rfl) (hs:Fs X iter:=by intro _; rfl):Bx (PEo X (.ListComp elt [⟨.Name x px,iter,[],0⟩] scope pos) (vD it g cs)):=⟨AN hc O hi.out (λ s H fp C=>(he s H fp C).out) hs⟩
theorem cH (c:Cls X.K C) (n:cu X.K C f) (he:Bx (PEd X e g):=by walk_at "g") (hb:attributeBase e f X.env (eval e X.env)=eval e X.env:=by rfl):Bx (PEd X (.Attribute e f pos) (dUn (xR C f) g)):=⟨D6 c n he.out hb⟩
theorem bt (c:Cls X.K C) (Fo:GoM X.prog X.w X.K X.mg X.base k C m (spF F X.K)) (hr:c6 jj X.A) (he:Bx (PEd X o g):=by walk_at "g") (ha:Bx (PAd X (e::es) ga):=by walk_at "a") (hj:k<=jj:=by decide) (hst:Se X e es:=by rfl) (hpl:Sb X pos es:=by rfl) (ht:eval (.Call (.Attribute o m apos) (e::es) [] pos) X.env=(do
  let ov <- eval o X.env
  standAt apos.atName
  let (f,first) <- holding [ov] (getMethod ov m pl)
  callWith pos f first (backTo pos (starEach (e::es) X.env)) (backToKw pos (keywordEach [] X.env))):=by rfl):Bx (PEd X (.Call (.Attribute o m apos) (e::es) [] pos) (j8 C m F g ga)):=by
 have ⟨f',fd',ps',hm,hb,Fo⟩:=Fo.go;have hr:=hr.mono hj;exact ⟨A8 he.out c hm Fo hr hb ha.out hst hpl ht⟩
theorem aN (hu:X.A.units+64 < cLine) (hs:CK i) (ho:Bx (PEd X o f):=by walk_at "g") (hi:Bx (PEd X i g):=by walk_at "g"):Bx (PEd X (.Subscript o i pos) (dOp bW f g)):=⟨Bb hu ho.out hi.out hs⟩
theorem nA (hu:X.A.units+64 < cLine) (hm:behindInMarks .NotIn o=false) (hi:Bx (PEd X i f):=by walk_at "g") (ho:Bx (PEd X o g):=by walk_at "g"):Bx (PTd X (.Compare i [.NotIn] [o] pos) (dT (dOp iF f g))):=⟨qM hu hi.out ho.out hm⟩
theorem kf (ho:OpR X (compareOp op) (rdR X.K o)) (ho':OpR X (compareOp op') (rdR X.K o')) (ha:Bx (PEd X a f):=by walk_at "g") (hb:Bx (PEd X b g):=by walk_at "g") (hc:Bx (PEd X c h):=by walk_at "g") (hm:lastMarks [op,op'] [b,c]=false:=by with_unfolding_all rfl):Bx (PTd X (.Compare a [op,op'] [b,c] pos) (dT (ka (dOp o f g) (dOp o' g h)))):=⟨tK ho ho' ha.out hb.out hc.out hm⟩
theorem lD (hm:X.mg "enumerate"=none) (ha:Bx (PAd X [a] f):=by walk_at "a") (hg:Gl X "enumerate":=by rfl) (hs:starEach [a] X.env=[(false,eval a X.env)]:=by rfl):Bx (PId X (.Tuple elts k pt) (.Call (.Name "enumerate" p) [a] [] pos) (pW f)):=⟨xu hg hm ha.out hs⟩
theorem vY (ho:Bx (PEd X o f):=by walk_at "g") (he:Bx (PEd X e g):=by walk_at "g") (hbase:attributeBase o "join" X.env (eval o X.env)=eval o X.env:=by rfl) (hfew:((backTo cpos (starEach [e] X.env)).all (λ x=>!x.1)&&(backToKw cpos (keywordEach [] X.env)).all (λ x=>x.1.isSome)
 && decide ([e].length+([]:List Keyword).length+(if ([]:List Keyword).isEmpty then 0 else 1) < 30))=true:=by rfl) (hline:(apos.endLine == cpos.line)=true:=by rfl) (hst:starEach [e] X.env=(false,eval e X.env)::starEach [] X.env:=by rfl) (hplain:(backTo cpos (starEach [] X.env)).any (·.1)=false:=by rfl):Bx (PEd X (.Call (.Attribute o "join" apos) [e] [] cpos) (yw f g)):=⟨A9 ho.out he.out hbase hfew hline hst hplain⟩
theorem l8 (hm:X.mg x=none) (hm2:X.mg y=none) (ha:Bx (PEd X a f):=by walk_at "g") (hc:X.calm=true:=by rfl) (hg:Gl X x:=by rfl) (hv:bootBuiltins x=some (.type "list"):=by decide +kernel) (hg2:Gl X y:=by rfl) (hv2:bootBuiltins y=some (.type "reversed"):=by decide +kernel) (hn:x≠"__name__":=by decide) (hdb:Dg x:=by decide) (hn2:y≠"__name__":=by decide) (hdb2:(y == ("__debug__":Str))=false:=by decide) (he:starEach [.Call (.Name y p2) [a] [] pos2] X.env=(false,eval (.Call (.Name y p2) [a] [] pos2) X.env)::starEach [] X.env:=by rfl) (hpl:(backTo pos (starEach [] X.env)).any (·.1)=false:=by rfl) (he2:starEach [a] X.env=(false,eval a X.env)::starEach [] X.env:=by rfl) (hpl2:(backTo pos2 (starEach [] X.env)).any (·.1)=false:=by rfl):Bx (PEo X (.Call (.Name x p) [.Call (.Name y p2) [a] [] pos2] [] pos) (CF f)):=⟨DJ hc hg hm hv hg2 hm2 hv2 ha.out hn hdb hn2 hdb2 he hpl he2 hpl2⟩
theorem vQ (ha:Bx (PEd X a f):=by walk_at "g") (hb:Bx (PEd X b g):=by walk_at "g"):Bx (PEo X (.BinOp a .Add b pos) (yx f g)):=⟨AQ ha.out hb.out⟩
theorem nC (i:Nat) (hN:X.N[i]?=some x:=by exact rfl) (he:Bx (PEd X e f):=by walk_at "g") (hv:Vis X.env.scope x:=by walk_at "w") (hd:Dg x:=by decide) (hcd:Dc x:=by decide) (hbase:attributeBase (.Name x p) "extend" X.env (eval (.Name x p) X.env)=eval (.Name x p) X.env:=by rfl) (hfew:((backTo cpos (starEach [e] X.env)).all (λ x=>!x.1)&&(backToKw cpos (keywordEach [] X.env)).all (λ x=>x.1.isSome)
 && decide ([e].length+([]:List Keyword).length+(if ([]:List Keyword).isEmpty then 0 else 1) < 30))=true:=by rfl) (hline:(apos.endLine == cpos.line)=true:=by rfl) (hst:starEach [e] X.env=(false,eval e X.env)::starEach [] X.env:=by rfl) (hplain:(backTo cpos (starEach [] X.env)).any (·.1)=false:=by rfl) (hs:swapsWith (.Call (.Attribute (.Name x p) "extend" apos) [e] [] cpos) none pos.line X.env=pure false:=by rfl):Bx (PSd X (.Expr (.Call (.Attribute (.Name x p) "extend" apos) [e] [] cpos) pos) (z9 i f)):=⟨AG i hN hv he.out hd hcd hbase hfew hline hst hplain hs⟩
theorem vV (h:Bx (PEd X l f):=by walk_at "g"):Bx (PId X tg l (yf f)):=⟨AV h.out⟩
theorem vN (k:Nat) (hN:X.N[k]?=some x:=by exact rfl) (hi:Bx (PEd X i f):=by walk_at "g") (he:Bx (PEd X e g):=by walk_at "g") (hv:Vis X.env.scope x:=by walk_at "w") (hd:Dg x:=by decide) (hcd:Dc x:=by decide) (hbase:attributeBase (.Name x p) "insert" X.env (eval (.Name x p) X.env)=eval (.Name x p) X.env:=by rfl) (hfew:((backTo cpos (starEach [i,e] X.env)).all (λ x=>!x.1)&&(backToKw cpos (keywordEach [] X.env)).all (λ x=>x.1.isSome)
 && decide ([i,e].length+([]:List Keyword).length+(if ([]:List Keyword).isEmpty then 0 else 1) < 30))=true:=by rfl) (hline:(apos.endLine == cpos.line)=true:=by rfl) (hst:starEach [i,e] X.env=(false,eval i X.env)::starEach [e] X.env:=by rfl) (hst2:starEach [e] X.env=(false,eval e X.env)::starEach [] X.env:=by rfl) (hplain:(backTo cpos (starEach [e] X.env)).any (·.1)=false:=by rfl) (hs:swapsWith (.Call (.Attribute (.Name x p) "insert" apos) [i,e] [] cpos) none pos.line X.env=pure false:=by rfl):Bx (PSd X (.Expr (.Call (.Attribute (.Name x p) "insert" apos) [i,e] [] cpos) pos) (Fq k f g)):=⟨AE k hN hv hi.out he.out hd hcd hbase hfew hline hst hst2 hplain hs⟩
theorem ma (ho:Bx (PEd X o f):=by walk_at "g") (he:Bx (PEd X e g):=by walk_at "g") (hbase:attributeBase o "index" X.env (eval o X.env)=eval o X.env:=by rfl) (hfew:((backTo cpos (starEach [e] X.env)).all (λ x=>!x.1)&&(backToKw cpos (keywordEach [] X.env)).all (λ x=>x.1.isSome)
 && decide ([e].length+([]:List Keyword).length+(if ([]:List Keyword).isEmpty then 0 else 1) < 30))=true:=by rfl) (hline:(apos.endLine == cpos.line)=true:=by rfl) (hst:starEach [e] X.env=(false,eval e X.env)::starEach [] X.env:=by rfl) (hplain:(backTo cpos (starEach [] X.env)).any (·.1)=false:=by rfl):Bx (PEd X (.Call (.Attribute o "index" apos) [e] [] cpos) (dOp Hu f g)):=⟨D5 ho.out he.out hbase hfew hline hst hplain⟩
theorem aq (h:Bx (PVm X e f):=by walk_at "V"):Bx (PEm X e f):=⟨PVm.em h.out⟩
theorem jc (h:Bx (PEd X e g):=by walk_at "g"):Bx (PVm X e (eS g)):=⟨Lg h.out⟩
theorem aV (h:Bx (PEd X e g):=by walk_at "g"):Bx (PVm X e (eN g)):=⟨Le h.out⟩
theorem lC (h:Bx (PEo X e g):=by walk_at "o"):Bx (PVm X e (eO g)):=⟨Ld h.out⟩
theorem zB (i:Nat) (hN:X.N[i]?=some x:=by exact rfl) (hv:Vis X.env.scope x:=by walk_at "w") (hd:Dg x:=by decide) (hcd:Dc x:=by decide):Bx (PVm X (.Name x p) (eV i)):=⟨Lb i hN hv hd hcd⟩
theorem ax (i:Nat) (hN:X.N[i]?=some x:=by exact rfl) (hv:Vis X.env.scope x:=by walk_at "w") (hd:Dg x:=by decide) (hcd:Dc x:=by decide):Bx (PXm X (.Name x p) (bS i)):=⟨Dv i hN hv hd hcd⟩
theorem a8 (cl:Cls X.K C) (n:cu X.K C x) (he:Bx (PXm X e f):=by walk_at "X") (hb:attributeBase e x X.env (eval e X.env)=eval e X.env:=by rfl):Bx (PXm X (.Attribute e x pos) (gm C x f)):=⟨Dx cl n he.out hb⟩
theorem fM (hu:X.A.units+1 < cLine) (hs:CK b) (he:Bx (PXm X a f):=by walk_at "X") (hk:Bx (PEd X b g):=by walk_at "g"):Bx (PXm X (.Subscript a b pos) (qL f g)):=⟨Dw hu he.out hk.out hs⟩
theorem bq  : Bx (jg X [] iV):=⟨wR ⟩
section
variable {X:Cx} {a b c e o:Expr} {es:List Expr} {pos apos cpos pos':Pos} {x:Str} {st:Stmt} {rest:List Stmt} {f g:DSm}
theorem aB (h:Bx (PSm X st f):=by walk_at "T"):Bx (jg X [st] f):=⟨wQ h.out⟩
end
section
variable {X:Cx} {a b c e o:Expr} {es:List Expr} {pos apos cpos pos':Pos} {x:Str} {st:Stmt} {rest:List Stmt} {f g:DSm}
theorem ae (h1:Bx (PSm X st f):=by walk_at "T") (h2:Bx (jg X rest g):=by walk_at "S"):Bx (jg X (st::rest) (dz f g)):=⟨tO h1.out h2.out⟩
end
section
variable {X:Cx} {a b c e o:Expr} {es:List Expr} {pos apos cpos pos':Pos} {x:Str} {st:Stmt} {rest:List Stmt} {f g:DSm}
theorem dg  : Bx (PSm X st sV):=⟨tR ⟩
end
theorem bP (hc:Bx (PTm X c t):=by walk_at "H") (ha:Bx (jg X x f):=by walk_at "S") (hb:Bx (jg X y g):=by walk_at "S"):Bx (PSm X (.If c x y pos) (pD t f g)):=⟨DC hc.out ha.out hb.out⟩
theorem bT (h:Bx (PEm X e f):=by walk_at "G"):Bx (PSm X (.Return (some e) pos) (jB f)):=⟨Au h.out⟩
theorem aA (i:Nat) (hN:X.N.Nodup) (hi:X.N[i]?=some x:=by exact rfl) (he:Bx (PEm X e f):=by walk_at "G") (hx:Loc X.env.scope x:=by walk_at "v") (hs:Sw X e x pos' pos:=by rfl) (hf:Xl X x:=by walk_at "v"):Bx (PSm X (.Assign [.Name x pos'] e pos) (gf i f)):=⟨As hN hi hx he.out hs hf⟩
theorem lq (he:Bx (PEm X e f):=by walk_at "G") (hs:swapsWith e none pos.line X.env=pure false:=by rfl):Bx (PSm X (.Expr e pos) (mD f)):=⟨w6 he.out hs⟩
theorem bH (he:Bx (PEd X e g):=by walk_at "g") (hs:swapsWith e none pos.line X.env=pure false:=by rfl):Bx (PSm X (.Expr e pos) (pE g)):=⟨tU he.out hs⟩
theorem de (h:Bx (PTd X e g):=by walk_at "h"):Bx (PTm X e (tS g)):=⟨GX h.out⟩
theorem ny (h:Bx (PEm X e f):=by walk_at "G") (he:∀ whole,isTrue e X.env whole=(do let v <- whole; standAt e.pos; holding [v] (truthy v)):=by intro _; rfl):Bx (PTm X e (tE f)):=⟨Ak h.out he⟩
theorem nz (h:Bx (PTm X e f):=by walk_at "H"):Bx (PTm X (.UnaryOp .Not e pos) (tNt f)):=⟨Al h.out⟩
theorem bB (hu:X.A.units+1 < cLine) (ho:Bx (PXm X o px):=by walk_at "X") (hi:Bx (PEd X i gk):=by walk_at "g") (hv:Bx (PEm X value fv):=by walk_at "G") (hs:swapsWith value (some (.Subscript o i pos')) pos.line X.env=pure false:=by rfl):Bx (PSm X (.Assign [.Subscript o i pos'] value pos) (cA px gk fv)):=⟨w9 hu ho.out hi.out hv.out hs⟩
theorem cN (cl:Cls X.K C) (n:cu X.K C x) (ho:Bx (PXm X o px):=by walk_at "X") (hv:Bx (PEm X value fv):=by walk_at "G") (hs:swapsWith value (some (.Attribute o x pos')) pos.line X.env=pure false:=by rfl):Bx (PSm X (.Assign [.Attribute o x pos'] value pos) (qK C x px fv)):=⟨Az cl n ho.out hv.out hs⟩
theorem vL (ho:Bx (PXm X o px):=by walk_at "X") (he:Bx (PVm X e fv):=by walk_at "V") (hbase:attributeBase o "append" X.env (eval o X.env)=eval o X.env:=by rfl) (hfew:((backTo cpos (starEach [e] X.env)).all (λ x=>!x.1)&&(backToKw cpos (keywordEach [] X.env)).all (λ x=>x.1.isSome)
 && decide ([e].length+([]:List Keyword).length+(if ([]:List Keyword).isEmpty then 0 else 1) < 30))=true:=by rfl) (hline:(apos.endLine == cpos.line)=true:=by rfl) (hst:starEach [e] X.env=(false,eval e X.env)::starEach [] X.env:=by rfl) (hplain:(backTo cpos (starEach [] X.env)).any (·.1)=false:=by rfl) (hs:swapsWith (.Call (.Attribute o "append" apos) [e] [] cpos) none pos.line X.env=pure false:=by rfl):Bx (PSm X (.Expr (.Call (.Attribute o "append" apos) [e] [] cpos) pos) (sZ px fv)):=⟨AA ho.out he.out hbase hfew hline hst hplain hs⟩
theorem ie (ho:Bx (PXm X o px):=by walk_at "X") (hi:Bx (PEd X i gi):=by walk_at "g") (he:Bx (PVm X e fv):=by walk_at "V") (hbase:attributeBase o "insert" X.env (eval o X.env)=eval o X.env:=by rfl) (hfew:((backTo cpos (starEach [i,e] X.env)).all (λ x=>!x.1)&&(backToKw cpos (keywordEach [] X.env)).all (λ x=>x.1.isSome)
 && decide ([i,e].length+([]:List Keyword).length+(if ([]:List Keyword).isEmpty then 0 else 1) < 30))=true:=by rfl) (hline:(apos.endLine == cpos.line)=true:=by rfl) (hst:starEach [i,e] X.env=(false,eval i X.env)::starEach [e] X.env:=by rfl) (hst2:starEach [e] X.env=(false,eval e X.env)::starEach [] X.env:=by rfl) (hplain:(backTo cpos (starEach [e] X.env)).any (·.1)=false:=by rfl) (hs:swapsWith (.Call (.Attribute o "insert" apos) [i,e] [] cpos) none pos.line X.env=pure false:=by rfl):Bx (PSm X (.Expr (.Call (.Attribute o "insert" apos) [i,e] [] cpos) pos) (wC px gi fv)):=⟨Ax ho.out hi.out he.out hbase hfew hline hst hst2 hplain hs⟩
theorem ic (ho:Bx (PXm X o px):=by walk_at "X") (he:Bx (PEd X e g):=by walk_at "g") (hbase:attributeBase o "remove" X.env (eval o X.env)=eval o X.env:=by rfl) (hfew:((backTo cpos (starEach [e] X.env)).all (λ x=>!x.1)&&(backToKw cpos (keywordEach [] X.env)).all (λ x=>x.1.isSome)
 && decide ([e].length+([]:List Keyword).length+(if ([]:List Keyword).isEmpty then 0 else 1) < 30))=true:=by rfl) (hline:(apos.endLine == cpos.line)=true:=by rfl) (hst:starEach [e] X.env=(false,eval e X.env)::starEach [] X.env:=by rfl) (hplain:(backTo cpos (starEach [] X.env)).any (·.1)=false:=by rfl) (hs:swapsWith (.Call (.Attribute o "remove" apos) [e] [] cpos) none pos.line X.env=pure false:=by rfl):Bx (PSm X (.Expr (.Call (.Attribute o "remove" apos) [e] [] cpos) pos) (qJ px g)):=⟨Av ho.out he.out hbase hfew hline hst hplain hs⟩
theorem vJ (m:M1 X o "pop" apos e cpos) (ho:Bx (PXm X o px):=by walk_at "X") (he:Bx (PEd X e gk):=by walk_at "g") (hs:swapsWith (.Call (.Attribute o "pop" apos) [e] [] cpos) none pos.line X.env=pure false:=by rfl):Bx (PSm X (.Expr (.Call (.Attribute o "pop" apos) [e] [] cpos) pos) (sU px gk)):=⟨Aw ho.out he.out m hs⟩
theorem cO (h:Bx (PEd X e g):=by walk_at "g"):Bx (PQm X e (qN g)):=⟨La h.out⟩
theorem lB (h:Bx (PXm X e f):=by walk_at "X"):Bx (PQm X e (qX f)):=⟨K9 h.out⟩
theorem cP  : Bx (PAm X [] wb):=⟨Be ⟩
theorem aD (h1:Bx (PQm X e h):=by walk_at "Q") (h2:Bx (PAm X es g):=by walk_at "A") (hs:Se X e es:=by rfl):Bx (PAm X (e::es) (cW h g)):=⟨xI h1.out h2.out hs⟩
theorem nD (Fo:Go X.prog X.w X.K X.mg X.base k x (spM F X.K)) (hr:c6 jj X.A) (ha:Bx (PAm X (e::es) g):=by walk_at "A") (hj:k<=jj:=by decide) (hg:Gl X x:=by rfl) (hdb:Dg x:=by decide) (he:Se X e es:=by rfl) (hpl:Sb X pos es:=by rfl):Bx (PEm X (.Call (.Name x p) (e::es) [] pos) (eC F g)):=by
 have ⟨f',fd',ps',hm,hk,hb,Fo⟩:=Fo.go;have hr:=hr.mono hj;exact ⟨AU Fo hr hg hm hk hb ha.out hdb he hpl⟩
theorem fe (c:Cls X.K C) (Fo:GoM X.prog X.w X.K X.mg X.base k C m (spM F X.K)) (hr:c6 jj X.A) (ho:Bx (PXm X o fx):=by walk_at "X") (ha:Bx (PAm X (e::es) g):=by walk_at "A") (hj:k<=jj:=by decide) (hst:Se X e es:=by rfl) (hpl:Sb X pos es:=by rfl) (ht:eval (.Call (.Attribute o m apos) (e::es) [] pos) X.env=(do
  let ov <- eval o X.env
  standAt apos.atName
  let (f,first) <- holding [ov] (getMethod ov m pl)
  callWith pos f first (backTo pos (starEach (e::es) X.env)) (backToKw pos (keywordEach [] X.env))):=by rfl):Bx (PEm X (.Call (.Attribute o m apos) (e::es) [] pos) (eM C m F fx g)):=by
 have ⟨f',fd',ps',hm,hb,Fo⟩:=Fo.go;have hr:=hr.mono hj;exact ⟨AR ho.out c hm Fo hr hb ha.out hst hpl ht⟩
theorem vT (Fo:GoI X.prog X.w X.K X.mg X.base k C (spM F X.K)) (hr:c6 jj X.A) (hm:X.mg x=some (.ref C)) (ha:Bx (PAm X (e::es) g):=by walk_at "A") (hj:k+1<=jj:=by decide) (hg:Gl X x:=by rfl) (hdb:Dg x:=by decide) (he:Se X e es:=by rfl) (hpl:Sb X pos es:=by rfl):Bx (PEm X (.Call (.Name x p) (e::es) [] pos) (eK C F g)):=by
 have ⟨f',fd',ps',M,hb,Fo⟩:=Fo.go;have hr:=hr.mono hj;exact ⟨AS M Fo hr hg hm hb ha.out hdb he hpl⟩
theorem gC  : Bx (PVm X (.Dict [] [] pos) eD0):=⟨G0 ⟩
theorem qr (h:Bx (PEo X e g):=by walk_at "o"):Bx (PVm X e (eF g)):=⟨JJ h.out⟩
theorem vU (hk:PE X kx (tC (kV kc))) (hv:Bx (PVm X value fv):=by walk_at "V"):Bx (PVm X (.Dict [some kx] [value] pos) (eD1 kc fv)):=⟨GZ hk hv.out⟩
theorem fO (i:Nat) (hN:X.N.Nodup) (hi:X.N[i]?=some x:=by exact rfl) (hx:Loc X.env.scope x:=by walk_at "v") (hf:Xl X x:=by walk_at "v"):Bx (PGm X (.Name x pos) (gNm i)):=⟨xy hN hi hx hf⟩
theorem rZ  : Bx (zF X [] gY):=⟨xx ⟩
theorem kj (h1:Bx (PGm X e g):=by walk_at "J") (h2:Bx (zF X es h):=by walk_at "K") (hs:(assignEach (e::es) X.env).map (·.2)=assign e X.env::(assignEach es X.env).map (·.2):=by rfl):Bx (zF X (e::es) (cS g h)):=⟨ud h1.out h2.out hs⟩
theorem vX (h:Bx (zF X es g):=by walk_at "K") (hc:X.calm=true:=by rfl) (hn:(assignEach es X.env).length=n:=by rfl) (hst:(assignEach es X.env).findIdx? (·.1)=none:=by rfl):Bx (PGm X (.Tuple es k' pos) (gTm n g)):=⟨AZ hc h.out hn hst⟩
theorem vK (hi:Bx (PId X tg iter it):=by walk_at "i") (hg:Bx (PGm X tg g):=by walk_at "J") (hb:Bx (jg X body b):=by walk_at "S") (hp:PassesOwn (model X.prog X.w) X.A X.env X.xe:=by exact .never) (hc:X.calm=true:=by rfl) (hs:Fs X iter:=by intro _; rfl):Bx (PSm X (.For tg iter body [] pos) (z7 it g b)):=⟨Ay hp hc hi.out hg.out hb.out hs⟩
theorem rS (i:Nat) (hN:X.N[i]?=some x:=by exact rfl) (hv:Vis X.env.scope x:=by walk_at "w") (hd:Dg x:=by decide) (hcd:Dc x:=by decide):Bx (PTd X (.Name x p) (yv i)):=⟨wM i hN hv hd hcd⟩
theorem lu (i j:Nat) (hN:X.N.Nodup) (hi:X.N[i]?=some x:=by exact rfl) (hj:X.N[j]?=some y:=by exact rfl) (hx:Loc X.env.scope x:=by walk_at "v") (hv:Vis X.env.scope y:=by walk_at "w") (hd:(y == ("__debug__":Str))=false:=by decide) (hcd:(y == ("__classdict__":Str))=false:=by decide) (hbase:attributeBase (.Name y py) "pop" X.env (eval (.Name y py) X.env)=eval (.Name y py) X.env:=by rfl) (hline:(apos.endLine == cpos.line)=true:=by rfl) (hs:swapsWith (.Call (.Attribute (.Name y py) "pop" apos) [] [] cpos) (some (.Name x pos')) pos.line X.env=pure false:=by rfl) (hf:Xl X x:=by walk_at "v"):Bx (PSd X (.Assign [.Name x pos'] (.Call (.Attribute (.Name y py) "pop" apos) [] [] cpos) pos) (nT i j)):=⟨xf i j hN hi hx hj hv hd hcd hbase hline hs hf⟩
theorem rW (j:Nat) (hN:X.N[j]?=some x:=by exact rfl) (hg:Bx (PGm X tg g):=by walk_at "J") (hb:Bx (jg X body b):=by walk_at "S") (hp:PassesOwn (model X.prog X.w) X.A X.env X.xe:=by exact .never) (hc:X.calm=true:=by rfl) (hv:Vis X.env.scope x:=by walk_at "w") (hd:Dg x:=by decide) (hcd:Dc x:=by decide) (hs:∀ y,foldedSetIterable (.Name x p) X.env y=pure y:=by intro _; rfl):Bx (PSm X (.For tg (.Name x p) body [] pos) (z8 j g b)):=⟨wY j hp hc hN hv hg.out hb.out hd hcd hs⟩
theorem vZ  : Bx (PXs X [] s C []):=⟨Bd ⟩
theorem c5 (h1:Bx (PXm X e (gm C f (bS s))):=by walk_at "X") (h2:Bx (PXs X es s C fs):=by walk_at "Y") (hs:Se X e es:=by rfl):Bx (PXs X (e::es) s C (f::fs)):=⟨xH h1.out h2.out hs⟩
theorem rT (i:Nat) (hN:X.N.Nodup) (is:i≠s) (m:M1 X (.Name x p3) "pop" apos e cpos) (hi:X.N[i]?=some x:=by exact rfl) (ha:Bx (PXs X es s C fs):=by walk_at "Y") (he:Bx (PEd X e gk):=by walk_at "g") (hp:PassesOwn (model X.prog X.w) X.A X.env X.xe:=by exact .never) (hc:X.calm=true:=by rfl) (hx:Loc X.env.scope x:=by walk_at "v") (hvis:Vis X.env.scope x:=by walk_at "w") (hd:Dg x:=by decide) (hcd:Dc x:=by decide) (hf:Xl X x:=by walk_at "v") (hs:∀ y,foldedSetIterable (.Tuple es kk p2) X.env y=pure y:=by intro _; rfl) (hsw:swapsWith (.Call (.Attribute (.Name x p3) "pop" apos) [e] [] cpos) none epos.line X.env=pure false:=by rfl):Bx (PSm X (.For (.Name x p1) (.Tuple es kk p2) [.Expr (.Call (.Attribute (.Name x p3) "pop" apos) [e] [] cpos) epos] [] pos) (sT i s C fs gk)):=⟨wW hp hc hN hi hx hvis is ha.out he.out m hd hcd hf hs hsw⟩
theorem iK (hh:X.A.handled=none) (hm:X.mg "list"=none) (he:Bx (PEd X e f):=by walk_at "g") (hg:Gl X "list":=by rfl) (hv:bootBuiltins "list"=some (.type "list"):=by decide +kernel) (hst:starEach [e] X.env=(false,eval e X.env)::starEach [] X.env:=by rfl) (hpl:(backTo pos (starEach [] X.env)).any (·.1)=false:=by rfl):Bx (PEo X (.Call (.Name "list" p) [e] [] pos) (jb f)):=⟨xt hh hg hm hv he.out hst hpl⟩
theorem oY (hN:X.N.Nodup) (O:cC X scope cl x cs) (hy:X.N[j]?=some y:=by exact rfl) (hz:X.N[i]?=some z:=by exact rfl) (hcd:∀ s H fp C,Bx (PTd (bp X scope cl (x::cs.map (·.1)) s H fp C) cnd c):=by intros; walk_at "h") (he:∀ s H fp C,Bx (PEd (bp X scope cl (x::cs.map (·.1)) s H fp C) elt g):=by intros; walk_at "g") (hx:Loc X.env.scope y:=by walk_at "v") (hv:Vis X.env.scope z:=by walk_at "w") (hc:X.calm=true:=by rfl) (hd:(z == ("__debug__":Str))=false:=by decide) (hcl:(z == ("__classdict__":Str))=false:=by decide) (hs:∀ x,foldedSetIterable (.Name z pz) X.env x=pure x:=by intro _; rfl) (hsw:swapsWith (.ListComp elt [⟨.Name x px,.Name z pz,[cnd],0⟩] scope pos) (some (.Name y py)) spos.line X.env=pure true:=by rfl) (hf:Xl X y:=by walk_at "v"):Bx (PSm X (.Assign [.Name y py] (.ListComp elt [⟨.Name x px,.Name z pz,[cnd],0⟩] scope pos) spos) (sY j i c g cs)):=⟨tV hN hy hx hz hv hc O (λ s H fp C=>(hcd s H fp C).out) (λ s H fp C=>(he s H fp C).out) hd hcl hs hsw hf⟩
theorem lE (i:Nat) (hN:X.N.Nodup) (hi:X.N[i]?=some x:=by exact rfl) (hx:Loc X.env.scope x:=by walk_at "v") (hf:Xl X x:=by walk_at "v"):Bx (PGz X (.Name x pos) (gNz i)):=⟨xv hN hi hx hf⟩
theorem rY  : Bx (zE X [] gY):=⟨xw ⟩
theorem ki (h1:Bx (PGz X e g):=by walk_at "Z") (h2:Bx (zE X es h):=by walk_at "z") (hs:(assignEach (e::es) X.env).map (·.2)=assign e X.env::(assignEach es X.env).map (·.2):=by rfl):Bx (zE X (e::es) (cS g h)):=⟨uc h1.out h2.out hs⟩
theorem vW (h:Bx (zE X es g):=by walk_at "z") (hc:X.calm=true:=by rfl) (hn:(assignEach es X.env).length=n:=by rfl) (hst:(assignEach es X.env).findIdx? (·.1)=none:=by rfl):Bx (PGz X (.Tuple es k' pos) (gTm n g)):=⟨AY hc h.out hn hst⟩
theorem rV (hi:Bx (PId X tg iter it):=by walk_at "i") (hg:Bx (PGz X tg g):=by walk_at "Z") (ht:Bx (PTd X c t):=by walk_at "h") (he:Bx (PEd X e cv):=by walk_at "g") (hp:PassesOwn (model X.prog X.w) X.A X.env X.xe:=by exact .never) (hc:X.calm=true:=by rfl) (hs:Fs X iter:=by intro _; rfl):Bx (PSm X (.For tg iter [.If c [.Return (some e) rpos] [] ipos] [] pos) (z6 it g t cv)):=⟨wX hp hc hi.out hg.out ht.out he.out hs⟩
theorem kh (i:Nat) (hN:X.N.Nodup) (O:cC X scope cl x cs) (hy:X.N[i]?=some y:=by exact rfl) (hi:Bx (PId X (.Name x px) iter it):=by walk_at "i") (hcd:∀ s H fp C,Bx (PTd (bp X scope cl (x::cs.map (·.1)) s H fp C) cnd c):=by intros; walk_at "h") (he:∀ s H fp C,Bx (PEd (bp X scope cl (x::cs.map (·.1)) s H fp C) elt g):=by intros; walk_at "g") (hx:Loc X.env.scope y:=by walk_at "v") (hc:X.calm=true:=by rfl) (hs:Fs X iter:=by intro _; rfl) (hsw:swapsWith (.ListComp elt [⟨.Name x px,iter,[cnd],0⟩] scope pos) (some (.Name y py)) spos.line X.env=pure true:=by rfl) (hf:Xl X y:=by walk_at "v"):Bx (PSm X (.Assign [.Name y py] (.ListComp elt [⟨.Name x px,iter,[cnd],0⟩] scope pos) spos) (gf i (eO (j9 it c g cs)))):=⟨tQ hN hy hx hc O hi.out (λ s H fp C=>(hcd s H fp C).out) (λ s H fp C=>(he s H fp C).out) hs hsw hf⟩
theorem nB (i:Nat) (hN:X.N.Nodup) (O:cC X scope cl x cs) (hy:X.N[i]?=some y:=by exact rfl) (hi:Bx (PId X (.Name x px) iter it):=by walk_at "i") (hcd:∀ s H fp C,Bx (PTd (bp X scope cl (x::cs.map (·.1)) s H fp C) cnd c):=by intros; walk_at "h") (he:∀ s H fp C,Bx (PEd (bp X scope cl (x::cs.map (·.1)) s H fp C) elt g):=by intros; walk_at "g") (hx:Loc X.env.scope y:=by walk_at "v") (hc:X.calm=true:=by rfl) (hs:Fs X iter:=by intro _; rfl) (hsw:swapsWith (.ListComp elt [⟨.Name x px,iter,[cnd],0⟩] scope pos) (some (.Name y py)) spos.line X.env=pure true:=by rfl) (hf:Xl X y:=by walk_at "v"):Bx (PSm X (.Assign [.Name y py] (.ListComp elt [⟨.Name x px,iter,[cnd],0⟩] scope pos) spos) (gf i (eF (j9 it c g cs)))):=⟨qO hN hy hx hc O hi.out (λ s H fp C=>(hcd s H fp C).out) (λ s H fp C=>(he s H fp C).out) hs hsw hf⟩
theorem oW (hu:X.A.units+1 < cLine) (hd:PE X (.Name d pd) (yK i)) (hx:PE X (.Name x px) (yK j)) (hf:PE X (.Name f pf) (yK i2)) (hk1:Bx (PEd X k1 gk1):=by walk_at "g") (hk2:Bx (PEd X k2 gk2):=by walk_at "g") (h2:Bx (PAd X es g2):=by walk_at "a") (h3:Bx (PEd X e3 g3):=by walk_at "g") (hsA:swapsWith (.Name x px) (some (.Subscript (.Name d pd) k1 ps1)) posA.line X.env=pure false:=by rfl) (hsB:swapsWith (.Tuple es x1 pt) (some (.Subscript (.Name f pf) k2 ps2)) posB.line X.env=pure false:=by rfl):Bx (jg X [.Assign [.Subscript (.Name d pd) k1 ps1] (.Name x px) posA,.Assign [.Subscript (.Name f pf) k2 ps2] (.Tuple es x1 pt) posB,.Return (some e3) posC] (qx i j gk1 i2 gk2 g2 g3)):=⟨tM hu hd hk1.out hx hf hk2.out h2.out h3.out hsA hsB⟩
theorem rX (hi:Bx (PEo X iter it):=by walk_at "o") (hg:Bx (PGm X tg g):=by walk_at "J") (hb:Bx (jg X body b):=by walk_at "S") (hp:PassesOwn (model X.prog X.w) X.A X.env X.xe:=by exact .never) (hc:X.calm=true:=by rfl) (hs:Fs X iter:=by intro _; rfl):Bx (PSm X (.For tg iter body [] pos) (wD it g b)):=⟨wZ hp hc hi.out hg.out hb.out hs⟩
theorem b6 (ha:Bx (PEd X a f):=by walk_at "g") (hb:Bx (PEd X b g):=by walk_at "g"):Bx (PEd X (.BinOp a .Add b pos) (dOp mM f g)):=kl Ho ha hb
theorem yF (ha:Bx (PEd X a f):=by walk_at "g") (hb:Bx (PEd X b g):=by walk_at "g"):Bx (PEd X (.BinOp a .Sub b pos) (dOp Ek f g)):=kl Hh ha hb
theorem nE (ha:Bx (PEd X a f):=by walk_at "g") (hb:Bx (PEd X b g):=by walk_at "g"):Bx (PEd X (.BinOp a .Mult b pos) (dOp zc f g)):=kl Hj ha hb
theorem fQ (ha:Bx (PEd X a f):=by walk_at "g") (hb:Bx (PEd X b g):=by walk_at "g"):Bx (PEd X (.BinOp a .FloorDiv b pos) (dOp oDiv f g)):=kl Hn ha hb
theorem fh (ha:Bx (PEd X a f):=by walk_at "g") (hb:Bx (PEd X b g):=by walk_at "g"):Bx (PEd X (.BinOp a .Mod b pos) (dOp oMod f g)):=kl Hk ha hb
theorem yC (ha:Bx (PEd X a f):=by walk_at "g") (hb:Bx (PEd X b g):=by walk_at "g"):Bx (PTd X (.Compare a [.Lt] [b] pos) (dT (dOp oLt f g))):=cf Lh ha hb 
theorem Fg (ha:Bx (PEd X a f):=by walk_at "g") (hb:Bx (PEd X b g):=by walk_at "g"):Bx (PTd X (.Compare a [.LtE] [b] pos) (dT (dOp oLe f g))):=cf Ei ha hb 
theorem yD (ha:Bx (PEd X a f):=by walk_at "g") (hb:Bx (PEd X b g):=by walk_at "g"):Bx (PTd X (.Compare a [.Gt] [b] pos) (dT (dOp oGt f g))):=cf Li ha hb 
theorem Jy (ha:Bx (PEd X a f):=by walk_at "g") (hb:Bx (PEd X b g):=by walk_at "g"):Bx (PTd X (.Compare a [.Is] [b] pos) (dT (dOp Fv f g))):=cf Hl ha hb 
theorem l6 (ha:Bx (PEd X a f):=by walk_at "g") (hb:Bx (PEd X b g):=by walk_at "g"):Bx (PTd X (.Compare a [.IsNot] [b] pos) (dT (dOp kG f g))):=cf Eg ha hb 
theorem Jz (ha:Bx (PEd X a f):=by walk_at "g") (hb:Bx (PEd X b g):=by walk_at "g") (hm:behindInMarks .In b=false:=by rfl): Bx (PTd X (.Compare a [.In] [b] pos) (dT (dOp Fw f g))):=cf Hm ha hb hm
theorem yB (ha:Bx (PEd X a f):=by walk_at "g") (hb:Bx (PEd X b g):=by walk_at "g") (hm:behindInMarks .NotIn b=false:=by rfl): Bx (PTd X (.Compare a [.NotIn] [b] pos) (dT (dOp jM f g))):=cf xN ha hb hm
theorem JA (ha:Bx (PEd X a f):=by walk_at "g") (hb:Bx (PEd X b g):=by walk_at "g") (hr:c6 jj X.A:=by assumption):Bx (PEd X (.Compare a [.Eq] [b] pos) (dOp oEq f g)):=qt (JN hr.units) ha hb 
theorem oV (ha:Bx (PEd X a f):=by walk_at "g") (hb:Bx (PEd X b g):=by walk_at "g") (hr:c6 jj X.A:=by assumption):Bx (PTd X (.Compare a [.Eq] [b] pos) (dT (dOp oEq f g))):=cf (JN hr.units) ha hb 
theorem Cn (ha:Bx (PEd X a f):=by walk_at "g") (hb:Bx (PEd X b g):=by walk_at "g") (hr:c6 jj X.A:=by assumption):Bx (PEd X (.Compare a [.NotEq] [b] pos) (dOp oNe f g)):=qt (JM hr.units) ha hb 
theorem fL (ha:Bx (PEd X a f):=by walk_at "g") (hb:Bx (PEd X b g):=by walk_at "g") (hr:c6 jj X.A:=by assumption):Bx (PTd X (.Compare a [.NotEq] [b] pos) (dT (dOp oNe f g))):=cf (JM hr.units) ha hb 
theorem Fh (ha:Bx (PEd X a f):=by walk_at "g"):Bx (PEd X (.UnaryOp .USub a pos) (dUn Fu f)):=Ck Hi ha
theorem cB (h:Bx (PEd X e f)) (he:Se X e []:=by rfl):Bx (PAd X [e] (aI f dM)):=dO h bU he
theorem cV {e2:Expr} {f2:DE} (h:Bx (PEd X e f)) (h2:Bx (PEd X e2 f2)) (he:Se X e [e2]:=by rfl) (he2:Se X e2 []:=by rfl):Bx (PAd X [e,e2] (aI f (aI f2 dM))):=dO h (cB h2 he2) he
theorem Gn {e2 e3:Expr} {f2 f3:DE} (h:Bx (PEd X e f)) (h2:Bx (PEd X e2 f2)) (h3:Bx (PEd X e3 f3)) (he:Se X e [e2,e3]:=by rfl) (he2:Se X e2 [e3]:=by rfl) (he3:Se X e3 []:=by rfl):Bx (PAd X [e,e2,e3] (aI f (aI f2 (aI f3 dM)))):=dO h (cV h2 h3 he2 he3) he
theorem Kl (i:Nat) {j:Int} (hN:X.N[i]?=some x:=by exact rfl) (hv:Vis X.env.scope x:=by walk_at "w") (hd:Dg x:=by decide) (hcd:Dc x:=by decide):Bx (PEd X (.Subscript (.Name x p) (.Constant (.int j) k q) r) (dOp oIx (aF i) (dC (.int j)))):=bu (aa i hN hv hd hcd) aj (λ _ _=>rfl)
theorem nO (i:Nat) {x:Str} {f:DE} {pos':Pos} (hN:X.N.Nodup) (he:Bx (PEd X e f)) (hi:X.N[i]?=some x:=by exact rfl) (hx:Loc X.env.scope x:=by walk_at "v") (hs:Sw X e x pos' pos:=by rfl) (hf:Xl X x:=by walk_at "v"):Bx (PSd X (.Assign [.Name x pos'] e pos) (si i f)):=vM i hN hi he hx hs hf
def Ic (mg:Str->Option Value) (x:Str) (i:Int):Prop:=∃ t,mg x=some (.int i t)
theorem CJ (h:Ic X.mg x i) (hg:Gl X x:=by rfl) (hd:(x == ("__debug__":Str))=false:=by decide):Bx (PEd X (.Name x pos) (dC (.int i))):=h.elim λ _ h=>⟨Ba (v:=.int i) hg h ⟨_,rfl⟩ (λ _=>.int _) hd⟩
theorem ckN {X:Cx} {scope:Scope} {cl:List (Str×Addr)} {x:Str} (cs:List (Str×Nat)) (h0:closureFor scope X.env=pure cl:=by rfl) (h1:scope.kind=.function:=by rfl) (h2:(scope.names.all λ y=>!(y.2 == .cell))=true:=by rfl)
 (h3:(scope.names.all λ y=>!(y.2 == .local)||(scope.names.lookup y.1 == some .local))=true:=by rfl) (h4:scope.names.lookup x=some .local:=by rfl) (h5:CL X cl:=by repeat' first | exact trivial | rfl | constructor)
 (h6:((relabel scope X.env).names.all λ p=>!(p.2 == .cell||p.2 == .free)||(cl.lookup p.1).isSome)=true:=by rfl)
 (h7:AllP X scope cs:=by repeat' first | exact trivial | rfl | constructor) (h8:(x::cs.map (·.1)).Nodup:=by decide +kernel):cC X scope cl x cs:=Cf cs h0 h1 h2 h3 h4 h5 h6 h7 h8
theorem ck0 {X:Cx} {scope:Scope} {x:Str} (h1:scope.kind=.function:=by rfl) (h2:∀ y ∈ scope.names,y.2≠.cell:=by decide +kernel) (h3:∀ y ∈ scope.names,y.2≠.free:=by decide +kernel) (h4:∀ y ∈ scope.names,y.2=.local->scope.names.lookup y.1=some .local:=by decide +kernel) (h5:scope.names.lookup x=some .local:=by rfl):cC X scope [] x []:=Ci h1 h2 h3 h4 h5
section
variable {P:Program} {w:World} {K:W.Frag} {mg:Str->Option Value} {base:Heap} {x q:Str} {st:Stmt} {ps:List Str} {k:Nat} {C:Addr}
abbrev Bdy (P:Program) (w:World) (K:W.Frag) (mg:Str->Option Value) (base:Heap) (k:Nat) (q:Str) (st:Stmt) (N:List Str) (J:Cx->List Stmt->Prop):Prop:=∀ {cdv:Value} {A:Around} {outer:List Env} {s:Shared} {H:Hp} {E:XK} {f:Addr},c6 k (A.deeper (envOfC q (aC st) s.heap.objs.size f cdv))->N.Nodup->Bx (J (qk CX0 P w K mg base N q (aC st) f cdv A outer s H E).nox (bw st))
theorem oD (N:List Str) {b:DS} (D:Df K mg x st ps) (h:Bdy P w K mg base k x st N λ X b'=>mf X b' b:=by intro _ _ _ _ _ _ _ _ _; walk_at "s") (S:cU N ps (aC st):=by exact ⟨rfl,rfl,rfl,by decide +kernel,rfl,by decide +kernel,by decide +kernel⟩):Go P w K mg base (k+1) x (spF (gj N.length ps.length b) K) :=
 have ⟨a,d,F,m,bi⟩:=D
 ⟨a,d,ps,m,F.kp,bi,F.okD S λ cdv A outer s H E hr=>(h hr S.nd).out⟩
theorem oDm (N:List Str) {b:DS} (D:Mf K C x q st ps) (h:Bdy P w K mg base k q st N λ X b'=>mf X b' b:=by intro _ _ _ _ _ _ _ _ _; walk_at "s") (S:cU N ps (aC st):=by exact ⟨rfl,rfl,rfl,by decide +kernel,rfl,by decide +kernel,by decide +kernel⟩):GoM P w K mg base (k+1) C x (spF (gj N.length ps.length b) K) :=
 have ⟨a,d,F,m,bi⟩:=D
 ⟨a,d,ps,m,bi,F.okD S λ cdv A outer s H E hr=>(h hr S.nd).out⟩
theorem oM (N:List Str) {b:DSm} (D:Df K mg x st ps) (h:Bdy P w K mg base k x st N λ X b'=>jg X b' b:=by intro _ _ _ _ _ _ _ _ _; walk_at "S") (S:cU N ps (aC st):=by exact ⟨rfl,rfl,rfl,by decide +kernel,rfl,by decide +kernel,by decide +kernel⟩):Go P w K mg base (k+1) x (spM (jC N.length ps.length b) K) :=
 have ⟨a,d,F,m,bi⟩:=D
 ⟨a,d,ps,m,F.kp,bi,F.okM S λ cdv A outer s H E hr=>(h hr S.nd).out⟩
theorem oMm (N:List Str) {b:DSm} (D:Mf K C x q st ps) (h:Bdy P w K mg base k q st N λ X b'=>jg X b' b:=by intro _ _ _ _ _ _ _ _ _; walk_at "S") (S:cU N ps (aC st):=by exact ⟨rfl,rfl,rfl,by decide +kernel,rfl,by decide +kernel,by decide +kernel⟩):GoM P w K mg base (k+1) C x (spM (jC N.length ps.length b) K) :=
 have ⟨a,d,F,m,bi⟩:=D
 ⟨a,d,ps,m,bi,F.okM S λ cdv A outer s H E hr=>(h hr S.nd).out⟩
theorem oMi (N:List Str) {b:DSm} (D:If K C q st ps) (h:Bdy P w K mg base k q st N λ X b'=>jg X b' b:=by intro _ _ _ _ _ _ _ _ _; walk_at "S") (S:cU N ps (aC st):=by exact ⟨rfl,rfl,rfl,by decide +kernel,rfl,by decide +kernel,by decide +kernel⟩):GoI P w K mg base (k+1) C (spM (jC N.length ps.length b) K) :=
 have ⟨a,d,F,m,bi⟩:=D
 ⟨a,d,ps,m,bi,F.okM S λ cdv A outer s H E hr=>(h hr S.nd).out⟩
theorem oLM (N:List Str) {b:DSm} {a:Addr} {d:FuncData} (F:Fun K x x st a d) (h:Bdy P w K mg base k x st N λ X b'=>jg X b' b:=by intro _ _ _ _ _ _ _ _ _; walk_at "S") (S:cU N ps (aC st):=by exact ⟨rfl,rfl,rfl,by decide +kernel,rfl,by decide +kernel,by decide +kernel⟩):fW P w K mg base CX0 (k+1) a d ps (spM (jC N.length ps.length b) K):=F.okM S λ cdv A outer s H E hr=>(h hr S.nd).out
theorem Fn0.df {f:Addr} {h:Heap} (e:Fn0 K x st f) (X:K.In h) (G:h.Ns mainGlobals mg) (hb:∀ (kV doc pm:Value) (an:Option Addr) (cdv ct:Value) (us:List Value),us.length=ps.length->bindArgs (PySem.W.fnOf x x (cb st) (bw st) (aC st) .none kV doc pm an cdv ct) ⟨us,[]⟩=pure (ps.zip us)):Df K mg x st ps :=
 have ⟨d,F,m,b⟩:=e.mk X G hb
 ⟨f,d,F,m,b⟩
theorem BJ {f:Addr} {oc:Value} {od an:Option Addr} {osl:Array (Option Value)} {kV doc pm cdv ct:Value} (a:W.findIn K (.ref C) x=some (some (.ref f))) (i:PySem.W.isFn K (.ref f)=true) (l:K.lookup f=some ⟨oc,od,.func (PySem.W.fnOf x q (cb st) (bw st) (aC st) .none kV doc pm an cdv ct),osl⟩) (c:PySem.W.codeIn K cdv q=true) (k:W.keepIn K (.ref f)=true) (hb:∀ (kV doc pm:Value) (an:Option Addr) (cdv ct:Value) (us:List Value),us.length=ps.length->bindArgs (PySem.W.fnOf x q (cb st) (bw st) (aC st) .none kV doc pm an cdv ct) ⟨us,[]⟩=pure (ps.zip us)):Mf K C x q st ps :=
 ⟨f,_,j0 (st:=st) l c k,⟨a,i,k⟩,(j0 (st:=st) l c k).binds hb⟩
theorem Jd {f:Addr} {oc:Value} {od an:Option Addr} {osl:Array (Option Value)} {kV doc pm cdv ct:Value} (a:W.findIn K (.ref C) "__init__"=some (some (.ref f))) (i:PySem.W.isFn K (.ref f)=true) (l:K.lookup f=some ⟨oc,od,.func (PySem.W.fnOf "__init__" q (cb st) (bw st) (aC st) .none kV doc pm an cdv ct),osl⟩) (c:PySem.W.codeIn K cdv q=true) (k:W.keepIn K (.ref f)=true) (mk:PySem.W.makesIn K C=true) (kc:W.keepIn K (.ref C)=true) (hb:∀ (kV doc pm:Value) (an:Option Addr) (cdv ct:Value) (us:List Value),us.length=ps.length->bindArgs (PySem.W.fnOf "__init__" q (cb st) (bw st) (aC st) .none kV doc pm an cdv ct) ⟨us,[]⟩=pure (ps.zip us)):If K C q st ps :=
 ⟨f,_,j0 (st:=st) l c k,⟨mk,a,i,kc⟩,(j0 (st:=st) l c k).binds hb⟩
def Lf (K:W.Frag) (mg:Str->Option Value) (x:Str) (st:Stmt) (y:Str):Prop:=∃ a d,Fun K x x st a d/\mg x=some (.ref a)/\∀ (s:Shared) (u:Value),BindsTo s d ⟨[u],[]⟩ [(y,u)]
theorem Ja {f:Addr} {y:Str} {h:Heap} (e:Fn0 K x st f) (X:K.In h) (G:h.Ns mainGlobals mg) (hb:∀ (kV doc pm:Value) (an:Option Addr) (cdv ct:Value) (s:Shared) (u:Value),BindsTo s (PySem.W.fnOf x x (cb st) (bw st) (aC st) .none kV doc pm an cdv ct) ⟨[u],[]⟩ [(y,u)]):Lf K mg x st y:=by
 obtain ⟨od,an,sl,oc,kV,dc,pm,cd,ct,a,l,c,k⟩:=e;exact ⟨_,_,j0 (st:=st) l c k,PySem.W.mg_of X G a,hb _ _ _ _ _ _⟩
end
end L2
end
section
namespace L2
open PySem PySem.Spec PyProof.Rows
def C3 (C:Addr) (m:Str) (sp:Sp) (dvs:List V) (EX:St->XK) (ta:TE) (t:TA):TE:=λ σ H Q=>ta σ H λ x H1=>∃ a dx fs,x=.ref a/\H1 a=some (.ins C dx fs)/\fs.lookup m=none /\
 t σ H1 λ vs H2=>sp (x::(vs++dvs)) H2 Q (EX σ)
section
variable {X:Cx} {CX:CXT} {k:Nat} {f C:Addr} {fd:FuncData} {ps:List Str} {sp:Sp} {dvs:List V} {ds:List Value} {EX:St->XK} {x m:Str} {p pos apos:Pos} {e o:Expr} {es:List Expr} {ta:TE} {t:TA}
theorem gO {pl:Sem Bool} (he:PE X o ta) (c:Cls X.K C) (hm:zG X.K C m f) (F:fW X.prog X.w X.K X.mg X.base CX k f fd ps sp) (hr:c6 k X.A) (hb:Binds X.K fd ps ds) (hd:be dvs ds) (hx:∀ σ,ir CX X σ (EX σ)) (ha:PA X (e::es) t)
  (hst:starEach (e::es) X.env=(false,eval e X.env)::starEach es X.env:=by rfl) (hpl:(backTo pos (starEach es X.env)).any (·.1)=false:=by rfl)
  (ht:eval (.Call (.Attribute o m apos) (e::es) [] pos) X.env=(do
    let ov <- eval o X.env
    standAt apos.atName
    let (f,first) <- holding [ov] (getMethod ov m pl)
    callWith pos f first (backTo pos (starEach (e::es) X.env)) (backToKw pos (keywordEach [] X.env))):=by rfl) :
  PE X (.Call (.Attribute o m apos) (e::es) [] pos) (C3 C m sp dvs EX ta t):=by
 intro pins s σ H Q I h;refine PySem.W.methodCall_KW (pl:=pl) (thn (he pins s σ H _ I h) λ u s1 ⟨x,H1,I1,rx,a,dx,fs,ex,ea,l,q⟩=>?_) ht;subst ex;cases (show u=Value.ref a from rx);refine kZ I1 ea c hm l (PySem.W.callWith_K (first:=[.ref a]) (h₀:=X.base) I.ok.mod.kin hm.kp (thn (ha pos pins s1 σ H1 _ I1 q) λ us s2 ⟨vs,H2,I2,r,q2⟩=>⟨I2.kIn,s9 (us:=.ref a::us) (vs:=.ref a::vs) F hr hb hd (hx σ) I2 (.cons rfl r) q2⟩) hst hpl)
end
end L2
end
section
namespace L2
open PySem
section
variable {τ τ':List Sl} {f g h:DE} {x y z d:D}
theorem ag {i:Nat} (q:τ[i]?=some (.shr d)):aF i τ=some d:=by unfold aF; rw [q]
theorem e_c:dC d τ=some d:=rfl
theorem aK {o:D->D->Option D} (h1:f τ=some x) (h2:g τ=some y) (h3:o x y=some z):dOp o f g τ=some z:=by unfold dOp; rw [h1,h2]; exact h3
theorem Kj {o:D->Option D} (h1:f τ=some x) (h3:o x=some z):dUn o f τ=some z:=by unfold dUn; rw [h1]; exact h3
theorem ay:dM τ=some []:=rfl
theorem ah {ga:DA} {xs:List D} (h1:f τ=some x) (h2:ga τ=some xs):aI f ga τ=some (x::xs):=by unfold aI; rw [h1,h2]; rfl
theorem bo {o:List D->Option D} {ga:DA} {xs:List D} (h1:ga τ=some xs) (h2:o xs=some z):gA o ga τ=some z:=by unfold gA; rw [h1]; exact h2
theorem rM {ga:DA} {xs:List D} (h1:ga τ=some xs) (h2:xs.length<=100000):Gj ga τ=some (.tup xs):=by unfold Gj; rw [h1]; exact if_pos h2
theorem gz {ga:DA} {xs:List D} (h1:ga τ=some xs) (h2:xs.length<=100000):Fd ga τ=some (.lst xs):=by unfold Fd; rw [h1]; exact if_pos h2
theorem dA {F:List D->Option Sl} {ga:DA} {xs:List D} {s:Sl} (h1:ga τ=some xs) (h2:F xs=some s) (h3:slD s=some z):dFn F ga τ=some z:=by unfold dFn; rw [h1]; show (F xs).bind slD=_; rw [h2]; exact h3
theorem vm {F:List D->Option Sl} {ga:DA} {xs:List D} {s:Sl} (h1:ga τ=some xs) (h2:F xs=some s) (h3:slO s=some z):CG F ga τ=some z:=by unfold CG; rw [h1]; show (F xs).bind slO=_; rw [h2]; exact h3
theorem Kk {c:DT} {b:Bool} (h1:c τ=some b) (h2:b=true->f τ=some z) (h3:b=false->g τ=some z):dIf c f g τ=some z:=by
 unfold dIf; rw [h1]
 cases b with
 | true=>exact h2 rfl
 | false=>exact h3 rfl
theorem ba {b:Bool} (h1:f τ=some (.bl b)):dT f τ=some b:=by unfold dT; rw [h1]; rfl
theorem Gz {f g:DT} {b c:Bool} (h1:f τ=some b) (h2:b=true->g τ=some c) (h3:b=false->c=false):Gk f g τ=some c:=by
 unfold Gk; rw [h1]
 cases b with
 | true=>exact h2 rfl
 | false=>rw [h3 rfl]; rfl
theorem Fp {f g:DT} {b c:Bool} (h1:f τ=some b) (h2:b=false->g τ=some c) (h3:b=true->c=true):dOr f g τ=some c:=by
 unfold dOr; rw [h1]
 cases b with
 | false=>exact h2 rfl
 | true=>rw [h3 rfl]; rfl
theorem fT {f:DT} {b:Bool} (h1:f τ=some b):wm f τ=some (!b):=by unfold wm; rw [h1]; rfl
theorem Ft:Ju τ=some none:=rfl
theorem kT {i:Int} (h:f τ=some (.int i)):dP f τ=some (some i):=by unfold dP; rw [h]; rfl
theorem E8 {l u:DO} {lo hi:Option Int} (h1:f τ=some x) (h2:l τ=some lo) (h3:u τ=some hi) (h4:oSl x lo hi=some z):dSl f l u τ=some z:=by unfold dSl; rw [h1]; show (l τ).bind _=_; rw [h2]; show (u τ).bind _=_; rw [h3]; exact h4
theorem qg {it:DI} {g:DE} {cs:List (Str×Nat)} {ds es:List D} (h1:it τ=some ds) (hl:ds.length<=100000) (h2:wg (λ d=>g (.shr d::dD τ cs)) ds=some es):vD it g cs τ=some (.lst es):=by
 unfold vD; rw [h1]; show (if ds.length<=100000 then _ else _)=_; rw [if_pos hl,h2]; rfl
theorem j4 {C:Addr} {n:Str} {fs:List (Str×D)} (h1:f τ=some (.obj C fs)) (h2:fs.lookup n=some z):dUn (xR C n) f τ=some z:=by unfold dUn; rw [h1]; show (if C=C then _ else _)=_; rw [if_pos rfl]; exact h2
theorem dJ {C:Addr} {m:Str} {F:List D->Option Sl} {o:DE} {ga:DA} {fs:List (Str×D)} {xs:List D} {s:Sl} (h1:o τ=some (.obj C fs)) (h2:ga τ=some xs) (h0:fs.lookup m=none) (h3:F (.obj C fs::xs)=some s) (h4:slD s=some z):j8 C m F o ga τ=some z:=by
 unfold j8; rw [h1]; show (ga τ).bind _=_; rw [h2]; show (if C=C/\_ then _ else _)=_; rw [if_pos ⟨rfl,h0⟩,h3]; exact h4
theorem u6 {ds:List D} (h:f τ=some (.lst ds)):Gi f τ=some ds:=by unfold Gi; rw [h]; rfl
theorem EO {ga:DA} {j:Int} (h:ga τ=some [.int j]) (h1:-(2 ^ 62)<=j/\j < 2 ^ 62):mZ ga τ=some (sj 0 j.toNat):=by unfold mZ; rw [h]; exact if_pos h1
theorem zP {i:Nat} {d0:D} {f:DT} {b:Bool} (q:τ[i]?=some (.own d0)) (h:f (τ.set i (.shr d0))=some b):Cy i f τ=some b:=by unfold Cy; rw [q]; exact h
end
section
variable {τ τ':List Sl} {f g:DS} {e:DE} {d:D} {o:Out}
theorem bQ (h:f τ=some (.next τ')) (h2:g τ'=some o):jh f g τ=some o:=by simp only [jh,h]; exact h2
theorem gc {i:Nat} (h:e τ=some d):si i e τ=some (.next (τ.set i (.shr d))):=by unfold si; rw [h]; rfl
theorem jA {i:Nat} (h:e τ=some d) (hi:i < τ.length):sR i e τ=some (.next (τ.set i (.own d))):=by unfold sR; rw [if_pos hi,h]; rfl
theorem iB (h:e τ=some d):Dn e τ=some (.ret (.shr d)):=by unfold Dn; rw [h]; rfl
theorem yP (h:e τ=some d):wA e τ=some (.ret (.own d)):=by unfold wA; rw [h]; rfl
theorem sP {i:Nat} (q:τ[i]?=some (.own d)):sS i τ=some (.ret (.own d)):=by unfold sS; rw [q]
theorem Dm (h:e τ=some d):sX e τ=some (.next τ):=by unfold sX; rw [h]; rfl
theorem CA {c:DT} {b:Bool} {r:Option Out} (h:c τ=some b) (h1:b=true->f τ=r) (h2:b=false->g τ=r):sIf c f g τ=r:=by
 unfold sIf; rw [h]
 cases b with
 | true=>exact h1 rfl
 | false=>exact h2 rfl
theorem z5 {i:Nat} {ds:List D} (h:e τ=some d) (q:τ[i]?=some (.own (.lst ds))) (hl:ds.length < 100000):yR i e τ=some (.next (τ.set i (.own (.lst (ds++[d]))))):=by unfold yR; rw [h]; show (match τ[i]? with | some (.own (.lst ds))=>_ | _=>_)=_; rw [q]; exact if_pos hl
theorem GN {it:DI} {gg:DG} {ds:List D} {r:Option Out} (h1:it τ=some ds) (h2:wk (λ d τ=>(gg d τ).bind f) ds τ=r):Dp it gg f τ=r:=by unfold Dp; rw [h1]; exact h2
theorem eE {n m:Nat} {b:DS} {ds:List D} {s:Sl} (h:b (kO n ds)=some (.ret s)) (hl:ds.length=m:=by rfl):gj n m b ds=some s:=by
 unfold gj;rw [if_pos hl,h]
theorem B6 {it:DI} {gg:DG} {ds:List D} (P:Nat->List Sl->Prop) (h1:it τ=some ds) (h0:P 0 τ) (hs:∀ j d τ,ds[j]?=some d->P j τ->∃ τ1 τ2,gg d τ=some τ1/\f τ1=some (.next τ2)/\P (j+1) τ2):∃ τ',Dp it gg f τ=some (.next τ')/\P ds.length τ':=by
 obtain ⟨τ',e,p⟩:=p6 (o:=.next []) (b:=λ d τ=>(gg d τ).bind f) P 0 h0 (λ j d τ hd p=>by
  rw [Nat.zero_add] at *;obtain ⟨τ1,τ2,e1,e2,p2⟩:=hs j d τ hd p
  exact ⟨τ2,by rw [e1]; exact e2,p2⟩)
 rw [Nat.zero_add] at p;exact ⟨τ',GN h1 e,p⟩
theorem tp {lo:Int} {n j:Nat} {d:D} (h:(sj lo n)[j]?=some d):d=.int (lo+j)/\j < n:=by
 unfold sj at h;rw [List.getElem?_map] at h
 by_cases hj:j < n
 ·rw [List.getElem?_range hj] at h
  exact ⟨by simpa using h.symm,hj⟩
 ·rw [List.getElem?_eq_none (by simpa using hj)] at h
  cases h
theorem tm {lo:Int} {n:Nat}:(sj lo n).length=n:=by simp [sj]
end
theorem aO (i j:Int):mM (.int i) (.int j)=some (.int (i+j)):=rfl
theorem gR (i j:Int):Ek (.int i) (.int j)=some (.int (i - j)):=rfl
theorem jN (i j:Int):oLt (.int i) (.int j)=some (.bl (decide (i < j))):=rfl
theorem bE {i j:Int} (h:0 < j):oMod (.int i) (.int j)=some (.int (i % j)):=by
 simp only [oMod,Ne.symm (Int.ne_of_lt h),ne_eq,not_false_eq_true,if_true,Int.fmod_eq_emod_of_nonneg _ (Int.le_of_lt h)]
theorem gS {i j:Int} (h:0 < j) (z:Sz j):oDiv (.int i) (.int j)=some (.int (i / j)):=by
 simp only [oDiv,Ne.symm (Int.ne_of_lt h),ne_eq,not_false_eq_true,z,and_self,if_true,Int.fdiv_eq_ediv_of_nonneg _ (Int.le_of_lt h)]
theorem zb {i j:Int} (h:-(2 ^ 64) < j) (z:j < 2 ^ 64):zc (.int i) (.int j)=some (.int (i * j)):=by
 have:zJ i j:=.inr ⟨h,z⟩;simp only [zc,this,true_or,if_true]
theorem El {i j:Int} (h:-(2 ^ 64) < i) (z:i < 2 ^ 64):zc (.int i) (.int j)=some (.int (i * j)):=by
 have:zJ i j:=.inl ⟨h,z⟩;simp only [zc,this,true_or,if_true]
theorem eL (i j:Int):oEq (.int i) (.int j)=some (.bl (decide (i=j))):=rfl
theorem iE (i j:Int):oNe (.int i) (.int j)=some (.bl (!decide (i=j))):=rfl
theorem Bm (i j:Str):oNe (.str i) (.str j)=some (.bl (!decide (i=j))):=rfl
theorem Fk {α:Type} (x:α) (xs:List α):atI (x::xs) 0=some x:=by simp [atI,ixN]
theorem Fj {α:Type} (x y:α) (xs:List α):atI (x::y::xs) 1=some y:=by
 have:(1:Int) < ((xs.length+1+1:Nat):Int):=by omega
 simp only [atI,ixN,Zx,this,if_true];rfl
theorem z3 (d:D):slD (.shr d)=some d:=rfl
theorem eJ (x:D) (xs:List D):oIx (.tup (x::xs)) (.int 0)=some x:=Fk _ _
theorem uC (x y:D) (xs:List D):oIx (.tup (x::y::xs)) (.int 1)=some y:=Fj _ _ _
theorem jz {τ:List Sl} {c:DT} {f g:DS} {r:Option Out} (h:c τ=some false) (h2:g τ=r):jh (sIf c f mC) g τ=r:=by
 simp only [jh,sIf,h,Z4,Bool.false_eq_true,if_false,mC];exact h2
theorem yO {τ:List Sl} {c:DT} {f g:DS} {s:Sl} (h:c τ=some true) (h2:f τ=some (.ret s)):jh (sIf c f mC) g τ=some (.ret s):=by
 simp only [jh,sIf,h,Z4,if_true,h2]
section
variable {τ τ':List Sl} {f g:DS} {e e2 e3:DE} {c:DT} {b:Bool} {d x y z:D} {P:D->Prop} {R:List Sl->Prop}
theorem mx {f g:DT} {b c:Bool} (h1:f τ=some b) (h2:g τ=some c):dOr f g τ=some (b||c):=by
 unfold dOr; rw [h1]; cases b <;> simp [h2]
theorem j5 {b c:Bool} (h1:e τ=some (.bl b)) (h2:e2 τ=some (.bl c)):ka e e2 τ=some (.bl (b&&c)):=by
 unfold ka; rw [h1]; cases b <;> simp [h2]
end
theorem nJ {α:Type} {xs:List α} {j:Int} (h0:0<=j) (h1:j < xs.length):∃ (h:j.toNat < xs.length),atI xs j=some xs[j.toNat]:=by
 refine ⟨by omega,?_⟩;have e:=Cr (xs:=xs) (j:=j.toNat) (List.getElem?_eq_getElem (by omega));rw [show ((j.toNat:Nat):Int)=j by omega] at e;exact e
end L2
end
section
local macro_rules | `(tactic| walk_at "v")=>`(tactic| first | exact .inl rfl | exact .inr rfl | assumption)
local macro_rules | `(tactic| walk_at "w")=>`(tactic| first | exact .inl rfl | exact .inr (.inl rfl) | exact .inr (.inr rfl))
namespace N12
open PySem L2
def top (i:Nat):Stmt:=PySem.Challenge.pw_stylehouse_k12_walks.main.body.getD i (.Pass ⟨0,0,0,0⟩)
structure Adr where
 af:Addr
 ck:Addr
structure Txt (K:W.Frag) (mg:Str->Option Value) (t:Adr):Prop where
 Ew:mg "Tree"=some (.ref t.af)
 av:Cls K t.af
 dX:cu K t.af "given"
 bN:cu K t.af "names"
 aX:cu K t.af "holders"
 aQ:cu K t.af "boxes"
 dW:cu K t.af "marks"
 dU:cu K t.af "words"
 eQ:cu K t.af "rows"
 vi:Df K mg "is_name" (top 17) ["thing"]
 nc:Df K mg "_law_whole" (top 29) ["_law_found"]
 m8:Df K mg "check_name" (top 23) ["name"]
 Jp:Lf K mg "law" (top 37) "_law_script"
 lW:Df K mg "check_place" (top 24) ["place","row"]
 oJ:Df K mg "_law_cell" (top 26) ["_law_script","_law_k"]
 rH:Df K mg "_law_mix" (top 27) ["_law_cell_here","_law_way"]
 nq:Df K mg "_law_under" (top 31) ["_law_rows","_law_box"]
 oI:Df K mg "_law_deep" (top 32) ["_law_facts","_law_box"]
 oH:Df K mg "_law_name" (top 28) ["_law_cell_here","_law_way"]
 j1:Df K mg "_law_same_row" (top 30) ["_law_found","_law_due"]
 m9:Df K mg "beneath" (top 2) ["tree","box"]
 p8:Df K mg "row_of" (top 3) ["tree","box"]
 iZ:Df K mg "holders_of" (top 5) ["tree","box"]
 p9:Df K mg "behind" (top 4) ["tree","box"]
 k9:Df K mg "depth_of" (top 6) ["tree","box"]
 m7:Df K mg "spot_of" (top 7) ["tree","box"]
 kK:Df K mg "_law_missing" (top 35) ["_law_tree","_law_box","_law_way"]
 lX:Df K mg "_law_walked" (top 36) ["_law_tree","_law_rows","_law_facts","_law_box"]
 nr:Df K mg "_law_moved" (top 34) ["_law_tree","_law_rows","_law_facts","_law_cell_here","_law_way"]
 rG:Df K mg "_law_put" (top 33) ["_law_tree","_law_rows","_law_facts","_law_number","_law_cell_here","_law_way"]
 j3:If K t.af "Tree.__init__" (inClass (top 22) 0) ["self","name"]
 i9:Mf K t.af "check" "Tree.check" (inClass (top 22) 2) ["self","box"]
 d8:Mf K t.af "holder_of" "Tree.holder_of" (inClass (top 22) 15) ["self","box"]
 eZ:Mf K t.af "boxes_of" "Tree.boxes_of" (inClass (top 22) 16) ["self","box"]
 rK:Mf K t.af "cut" "Tree.cut" (inClass (top 22) 4) ["self","box"]
 nt:Mf K t.af "enter" "Tree.enter" (inClass (top 22) 1) ["self","holder","name"]
 rJ:Mf K t.af "put" "Tree.put" (inClass (top 22) 3) ["self","holder","place","name"]
 oK:Mf K t.af "move" "Tree.move" (inClass (top 22) 5) ["self","box","holder","place"]
 Gs:mg "all"=none
 yI:mg "bool"=none
 ju:mg "enumerate"=none
 Gr:mg "int"=none
 bX:mg "isinstance"=none
 dw:mg "len"=none
 gJ:mg "list"=none
 CM:mg "max"=none
 sq:mg "range"=none
 fG:mg "reversed"=none
 Gq:mg "str"=none
 zK:mg "tuple"=none
 kH:Ic mg "LONGEST_NAME" 8
 mU:Ic mg "MOST_BOXES" 90
 jQ:Ic mg "MOST_DEEP" 12
 zi:Ic mg "ROOT" 0
 ox:mg "NoBox"=some (.ref t.ck)
 zL:PySem.W.excIn K t.ck Km "ValueError.__new__"=true
 Hq:LR K t.ck=true
 cY:PySem.W.exmOne K (.ref t.ck) (.ref t.ck)=some true
abbrev gOD (f:∀ (P:Program) (w:World) (K:W.Frag) (mg:Str->Option Value) (base:Heap),DS->Prop) (t:Adr):Type:={G:DS // ∀ {P w K mg base},Txt K mg t->f P w K mg base G}
abbrev gO0 (f:∀ (P:Program) (w:World) (K:W.Frag) (mg:Str->Option Value) (base:Heap),DS->Prop):Type:={G:DS // ∀ {t P w K mg base},Txt K mg t->f P w K mg base G}
abbrev gFD (k:Nat) (x:Str) (n m:Nat) (P:Program) (w:World) (K:W.Frag) (mg:Str->Option Value) (base:Heap) (G:DS):Prop:=Go P w K mg base k x (spF (gj n m G) K)
abbrev gMD (k:Nat) (C:Addr) (x:Str) (n m:Nat) (P:Program) (w:World) (K:W.Frag) (mg:Str->Option Value) (base:Heap) (G:DS):Prop:=GoM P w K mg base k C x (spF (gj n m G) K)
abbrev gOM (f:∀ (P:Program) (w:World) (K:W.Frag) (mg:Str->Option Value) (base:Heap),DSm->Prop) (t:Adr):Type:={G:DSm // ∀ {P w K mg base},Txt K mg t->f P w K mg base G}
abbrev gFM (k:Nat) (x:Str) (n m:Nat) (P:Program) (w:World) (K:W.Frag) (mg:Str->Option Value) (base:Heap) (G:DSm):Prop:=Go P w K mg base k x (spM (jC n m G) K)
abbrev gMM (k:Nat) (C:Addr) (x:Str) (n m:Nat) (P:Program) (w:World) (K:W.Frag) (mg:Str->Option Value) (base:Heap) (G:DSm):Prop:=GoM P w K mg base k C x (spM (jC n m G) K)
abbrev gIM (k:Nat) (C:Addr) (n m:Nat) (P:Program) (w:World) (K:W.Frag) (mg:Str->Option Value) (base:Heap) (G:DSm):Prop:=GoI P w K mg base k C (spM (jC n m G) K)
section
variable {P:Program} {w:World} {K:W.Frag} {mg:Str->Option Value} {base:Heap} {t:Adr}
set_option maxHeartbeats 4000000
noncomputable def kq:gO0 (gFD 1 "is_name" 1 1):=⟨_,λ T=>oD ["thing"] T.vi λ hr nd =>
 (ak (bV (aU (a9 (az rP T.bX (cV (aa 0) (iL (n:="str") T.Gq))))) (au (aM bR)) a7) (ak (bV (aU (kf Ei Ei aj (az fb T.dw (cB (aa 0))) (CJ T.kH))) (au (aM bR)) a7) (au (aM (az (Jw rfl) T.Gs (cB (aZ (ij ck0 (vV (aa 0)) (λ _ _ _ _=>(sd Eh Eh jq (aa 0) jq))))))))))⟩
noncomputable def kB:=gj 1 1 (kq).1
theorem uB (T:Txt K mg t):Go P w K mg base 1 "is_name" (spF (kB) K):=(kq).2 T
noncomputable def fu (t:Adr):gOM (gMM 1 t.af "enter" 4 3) t:=⟨_,λ T=>oMm ["self","holder","name","box"] T.nt λ hr nd =>
 (ae (aA 3 nd (he:=aq (jc (cH T.av T.dX (aa 0))))) (ae (cN T.av T.dX (ax 0) (aq (aV (b6 (aa 3) aj)))) (ae (bB (d9 hr) (a8 T.av T.bN (ax 0)) (aa 3) (aq (aV (aa 2)))) (ae (bB (d9 hr) (a8 T.av T.aX (ax 0)) (aa 3) (aq (aV (aa 1)))) (ae (bB (d9 hr) (a8 T.av T.aQ (ax 0)) (aa 3) (aq (lC (bF bU)))) (ae (bB (d9 hr) (a8 T.av T.dW (ax 0)) (aa 3) (aq gC)) (ae (bB (d9 hr) (a8 T.av T.dU (ax 0)) (aa 3) (aq (lC (bF bU)))) (ae (bB (d9 hr) (a8 T.av T.eQ (ax 0)) (aa 3) (aq (aV (ip bU)))) (aB (bT (aq (aV (aa 3)))))))))))))⟩
noncomputable def fE (t:Adr):=jC 4 3 (fu t).1
theorem iX (T:Txt K mg t):GoM P w K mg base 1 t.af "enter" (spM (fE t) K):=(fu t).2 T
noncomputable def fw (t:Adr):gOD (gMD 1 t.af "check" 2 2) t:=⟨_,λ T=>oDm ["self","box"] T.i9 λ hr nd =>
 (au (bV (nA hr.units rfl (aa 1) (cH T.av T.bN (aa 0))) (au gB) a7))⟩
noncomputable def dv (t:Adr):=gj 2 2 (fw t).1
theorem bY (T:Txt K mg t):GoM P w K mg base 1 t.af "check" (spF (dv t) K):=(fw t).2 T
noncomputable def d5:gO0 (gFD 1 "check_place" 2 2):=⟨_,λ T=>oD ["place","row"] T.lW λ hr nd =>
 (au (bV (aU (kf Ei Ei aj (aa 0) (az fb T.dw (cB (aa 1))))) (au gB) a7))⟩
noncomputable def d7:=gj 2 2 (d5).1
theorem gP (T:Txt K mg t):Go P w K mg base 1 "check_place" (spF (d7) K):=(d5).2 T
noncomputable def gF:gO0 (gFD 1 "_law_cell" 2 2):=⟨_,λ T=>oD ["_law_script","_law_k"] T.oJ λ hr nd =>
 (ak (bV (yC (aa 1) (az fb T.dw (cB (aa 0)))) (au (aM (bu (aa 0) (aa 1)))) a7) (au (aM aj)))⟩
noncomputable def gH:=gj 2 2 (gF).1
theorem oj (T:Txt K mg t):Go P w K mg base 1 "_law_cell" (spF (gH) K):=(gF).2 T
noncomputable def iO:gO0 (gFD 1 "_law_mix" 3 2):=⟨_,λ T=>oD ["_law_cell_here","_law_way","_law_first"] T.rH λ hr nd =>
 (ak (nO 2 nd (fh (b6 (nE (aa 0) aj) (nE (aa 1) aj)) aj)) (au (aM (fh (nE (aa 2) (b6 aj (nE aj (aa 1)))) aj))))⟩
noncomputable def bZ:=gj 3 2 (iO).1
theorem bM (T:Txt K mg t):Go P w K mg base 1 "_law_mix" (spF (bZ) K):=(iO).2 T
noncomputable def je:gO0 (gFD 1 "_law_whole" 1 1):=⟨_,λ T=>oD ["_law_found"] T.nc λ hr nd =>
 (au (aM (jr (az rP T.bX (cV (aa 0) (iL (n:="int") T.Gr))) (l9 (yE (az rP T.bX (cV (aa 0) (iL (n:="bool") T.yI))))))))⟩
noncomputable def fD:=gj 1 1 (je).1
theorem cK (T:Txt K mg t):Go P w K mg base 1 "_law_whole" (spF (fD) K):=(je).2 T
noncomputable def fk (t:Adr):gOD (gFD 1 "_law_under" 5 2) t:=⟨_,λ T=>oD ["_law_rows","_law_box","_law_told","_law_todo","_law_one"] T.nq λ hr nd =>
 (ak (cE 2 nd (he:=bF bU)) (ak (cE 3 nd (he:=bF (cB (aa 1)))) (ak (dZ (kg 3 (yD (az fb T.dw (cB (aa 3))) aj)) (ak (lu 4 3 nd) (ak (ig 2 (he:=aa 4)) (au (nC 3 (he:=aZ (l8 T.gJ T.fG (aN hr.units (λ _ _=>rfl) (aa 0) (aa 4))))))))) (au (iI 2)))))⟩
noncomputable def cQ (t:Adr):=gj 5 2 (fk t).1
theorem eI (T:Txt K mg t):Go P w K mg base 1 "_law_under" (spF (cQ t) K):=(fk t).2 T
noncomputable def gE:gO0 (gFD 1 "_law_deep" 3 2):=⟨_,λ T=>oD ["_law_facts","_law_box","_law_deep_here"] T.oI λ hr nd =>
 (ak (nO 2 nd aj) (ak (dZ (l6 (bu (aN hr.units (λ _ _=>rfl) (aa 0) (aa 1)) aj) fP) (ak (nO 1 nd (bu (aN hr.units (λ _ _=>rfl) (aa 0) (aa 1)) aj)) (au (nO 2 nd (b6 (aa 2) aj))))) (au (aM (aa 2)))))⟩
noncomputable def cF:=gj 3 2 (gE).1
theorem c8 (T:Txt K mg t):Go P w K mg base 1 "_law_deep" (spF (cF) K):=(gE).2 T
noncomputable def cT (t:Adr):gOD (gMD 2 t.af "holder_of" 2 2) t:=⟨_,λ T=>oDm ["self","box"] T.d8 λ hr nd =>
 (ak (lA (bt T.av (bY T) hr (aa 0) (cB (aa 1)))) (au (aM (aN hr.units (λ _ _=>rfl) (cH T.av T.aX (aa 0)) (aa 1)))))⟩
noncomputable def bA (t:Adr):=gj 2 2 (cT t).1
theorem cR (T:Txt K mg t):GoM P w K mg base 2 t.af "holder_of" (spF (bA t) K):=(cT t).2 T
noncomputable def dq (t:Adr):gOD (gMD 2 t.af "boxes_of" 2 2) t:=⟨_,λ T=>oDm ["self","box"] T.eZ λ hr nd =>
 (ak (lA (bt T.av (bY T) hr (aa 0) (cB (aa 1)))) (au (lr (vP T.gJ (cB (aN hr.units (λ _ _=>rfl) (cH T.av T.aQ (aa 0)) (aa 1)))))))⟩
noncomputable def a6 (t:Adr):=gj 2 2 (dq t).1
theorem b8 (T:Txt K mg t):GoM P w K mg base 2 t.af "boxes_of" (spF (a6 t) K):=(dq t).2 T
noncomputable def fj:gO0 (gFD 2 "check_name" 1 1):=⟨_,λ T=>oD ["name"] T.m8 λ hr nd =>
 (au (bV (aU (a9 (ar (uB T) hr (cB (aa 0))))) (au gB) a7))⟩
noncomputable def fC:=gj 1 1 (fj).1
theorem iW (T:Txt K mg t):Go P w K mg base 2 "check_name" (spF (fC) K):=(fj).2 T
noncomputable def gD:gO0 (gFD 2 "_law_name" 4 2):=⟨_,λ T=>oD ["_law_cell_here","_law_way","_law_letters","_law_size"] T.oH λ hr nd =>
 (ak (nO 2 nd jq) (ak (nO 3 nd (b6 aj (fh (ar (bM T) hr (cV (aa 0) (b6 (aa 1) aj))) aj))) (au (aM (vY jq (aZ (ij (ckN [("_law_letters",2),("_law_cell_here",0),("_law_way",1)]) (jd T.sq (cB (aa 3))) (λ _ _ _ _=>(bu (aa 1) (fh (ar (bM T) hr (cV (aa 2) (b6 (aa 3) (nE aj (aa 0))))) aj))))))))))⟩
noncomputable def gG:=gj 4 2 (gD).1
theorem jK (T:Txt K mg t):Go P w K mg base 2 "_law_name" (spF (gG) K):=(gD).2 T
noncomputable def dk:gO0 (gFD 2 "_law_same_row" 3 2):=⟨_,λ T=>oD ["_law_found","_law_due","_law_k"] T.j1 λ hr nd =>
 (ak (bV (cg (cc (aU (a9 (az rP T.bX (cV (aa 0) (iL (n:="list") T.gJ))))) (cM (fL (az fb T.dw (cB (aa 0))) (az fb T.dw (cB (aa 1))))))) (au (aM bR)) a7) (ak (vO (jd T.sq (cB (az fb T.dw (cB (aa 1))))) (r6 2 nd) (au (bV (cg (cc (aU (a9 (ar (cK T) hr (cB (bu (aa 0) (aa 2)))))) (cM (fL (bu (aa 0) (aa 2)) (bu (aa 1) (aa 2)))))) (au (aM bR)) a7))) (au (aM bR))))⟩
noncomputable def cz:=gj 3 2 (dk).1
theorem c7 (T:Txt K mg t):Go P w K mg base 2 "_law_same_row" (spF (cz) K):=(dk).2 T
noncomputable def kr (t:Adr):gOD (gFD 3 "beneath" 5 2) t:=⟨_,λ T=>oD ["tree","box","found","left","one"] T.m9 λ hr nd =>
 (ak (cE 2 nd (he:=bF bU)) (ak (cE 3 nd (he:=l8 T.gJ T.fG (bt T.av (b8 T) hr (aa 0) (cB (aa 1))))) (ak (dZ (rS 3) (ak (lu 4 3 nd) (ak (ig 2 (he:=aa 4)) (au (nC 3 (he:=aZ (l8 T.gJ T.fG (bt T.av (b8 T) hr (aa 0) (cB (aa 4)))))))))) (au (iI 2)))))⟩
noncomputable def kC (t:Adr):=gj 5 2 (kr t).1
theorem jJ (T:Txt K mg t):Go P w K mg base 3 "beneath" (spF (kC t) K):=(kr t).2 T
noncomputable def mh (t:Adr):gOD (gFD 3 "row_of" 3 2) t:=⟨_,λ T=>oD ["tree","box","holder"] T.p8 λ hr nd =>
 (ak (nO 2 nd (bt T.av (cR T) hr (aa 0) (cB (aa 1)))) (au (aM (Cm (Jy (aa 2) fP) (aZ (bF (cB (aa 1)))) (bt T.av (b8 T) hr (aa 0) (cB (aa 2)))))))⟩
noncomputable def jt (t:Adr):=gj 3 2 (mh t).1
theorem pO (T:Txt K mg t):Go P w K mg base 3 "row_of" (spF (jt t) K):=(mh t).2 T
noncomputable def fi (t:Adr):gOD (gFD 3 "holders_of" 4 2) t:=⟨_,λ T=>oD ["tree","box","found","holder"] T.iZ λ hr nd =>
 (ak (cE 2 nd (he:=bF bU)) (ak (nO 3 nd (bt T.av (cR T) hr (aa 0) (cB (aa 1)))) (ak (dZ (l6 (aa 3) fP) (ak (ig 2 (he:=aa 3)) (au (nO 3 nd (bt T.av (cR T) hr (aa 0) (cB (aa 3))))))) (au (iI 2)))))⟩
noncomputable def fA (t:Adr):=gj 4 2 (fi t).1
theorem mK (T:Txt K mg t):Go P w K mg base 3 "holders_of" (spF (fA t) K):=(fi t).2 T
noncomputable def dr (t:Adr):gOM (gIM 3 t.af 2 2) t:=⟨_,λ T=>oMi ["self","name"] T.j3 λ hr nd =>
 (ae (bH (ar (iW T) hr (cB (aa 1)))) (ae (cN T.av T.dX (ax 0) (aq (aV aj))) (ae (cN T.av T.bN (ax 0) (aq gC)) (ae (cN T.av T.aX (ax 0) (aq gC)) (ae (cN T.av T.aQ (ax 0) (aq gC)) (ae (cN T.av T.dW (ax 0) (aq gC)) (ae (cN T.av T.dU (ax 0) (aq gC)) (ae (cN T.av T.eQ (ax 0) (aq gC)) (aB (lq (fe T.av (iX T) hr (ax 0) (aD (cO fP) (aD (cO (aa 1)) cP)))))))))))))⟩
noncomputable def dt (t:Adr):=jC 2 2 (dr t).1
theorem jL (T:Txt K mg t):GoI P w K mg base 3 t.af (spM (dt t) K):=(dr t).2 T
noncomputable def mi (t:Adr):gOD (gFD 4 "behind" 3 2) t:=⟨_,λ T=>oD ["tree","box","row"] T.p9 λ hr nd =>
 (ak (nO 2 nd (ar (pO T) hr (cV (aa 0) (aa 1)))) (au (lr (l7 (aa 2) (dN (b6 (ma (aa 2) (aa 1)) aj)) iJ))))⟩
noncomputable def mj (t:Adr):=gj 3 2 (mi t).1
theorem xO (T:Txt K mg t):Go P w K mg base 4 "behind" (spF (mj t) K):=(mi t).2 T
noncomputable def iM (t:Adr):gOD (gFD 4 "depth_of" 2 2) t:=⟨_,λ T=>oD ["tree","box"] T.k9 λ hr nd =>
 (au (aM (az fb T.dw (cB (ar (mK T) hr (cV (aa 0) (aa 1)))))))⟩
noncomputable def iR (t:Adr):=gj 2 2 (iM t).1
theorem dH (T:Txt K mg t):Go P w K mg base 4 "depth_of" (spF (iR t) K):=(iM t).2 T
noncomputable def ko (t:Adr):gOD (gFD 4 "spot_of" 3 2) t:=⟨_,λ T=>oD ["tree","box","row"] T.m7 λ hr nd =>
 (ak (nO 2 nd (ar (pO T) hr (cV (aa 0) (aa 1)))) (au (aM (ip (cV (b6 (ma (aa 2) (aa 1)) aj) (az fb T.dw (cB (aa 2))))))))⟩
noncomputable def kA (t:Adr):=gj 3 2 (ko t).1
theorem uA (T:Txt K mg t):Go P w K mg base 4 "spot_of" (spF (kA t) K):=(ko t).2 T
noncomputable def iQ (t:Adr):gOM (gMM 4 t.af "cut" 5 2) t:=⟨_,λ T=>oMm ["self","box","gone","one","store"] T.rK λ hr nd =>
 (ae (bH (bt T.av (bY T) hr (aa 0) (cB (aa 1)))) (ae (bP (de (oV (aa 1) (CJ T.zi))) (aB dg) bq) (ae (aA 2 nd (he:=aq (lC (vQ (aZ (bF (cB (aa 1)))) (ar (jJ T) hr (cV (aa 0) (aa 1))))))) (ae (ic (fM (d9 hr) (λ _ _=>rfl) (a8 T.av T.aQ (ax 0)) (aN hr.units (λ _ _=>rfl) (cH T.av T.aX (aa 0)) (aa 1))) (aa 1)) (ae (rW 2 (hg:=fO 3 nd) (hb:=aB (rT 4 nd (by decide) ⟨rfl,rfl,rfl,rfl⟩ (ha:=c5 (a8 T.av T.bN (ax 0)) (c5 (a8 T.av T.aX (ax 0)) (c5 (a8 T.av T.aQ (ax 0)) (c5 (a8 T.av T.dW (ax 0)) (c5 (a8 T.av T.dU (ax 0)) (c5 (a8 T.av T.eQ (ax 0)) vZ)))))) (he:=aa 3)))) (aB (bT (aq (zB 2)))))))))⟩
noncomputable def fS (t:Adr):=jC 5 2 (iQ t).1
theorem qW (T:Txt K mg t):GoM P w K mg base 4 t.af "cut" (spM (fS t) K):=(iQ t).2 T
noncomputable def iP (t:Adr):gOM (gMM 5 t.af "put" 5 4) t:=⟨_,λ T=>oMm ["self","holder","place","name","box"] T.rJ λ hr nd =>
 (ae (bH (bt T.av (bY T) hr (aa 0) (cB (aa 1)))) (ae (bH (ar (gP T) hr (cV (aa 2) (aN hr.units (λ _ _=>rfl) (cH T.av T.aQ (aa 0)) (aa 1))))) (ae (bH (ar (iW T) hr (cB (aa 3)))) (ae (bP (de (yD (b6 (az vF T.dw (cB (cH T.av T.bN (aa 0)))) aj) (CJ T.mU))) (aB dg) bq) (ae (bP (de (yD (b6 (ar (dH T) hr (cV (aa 0) (aa 1))) aj) (CJ T.jQ))) (aB dg) bq) (ae (aA 4 nd (he:=fe T.av (iX T) hr (ax 0) (aD (cO (aa 1)) (aD (cO (aa 3)) cP)))) (ae (ie (fM (d9 hr) (λ _ _=>rfl) (a8 T.av T.aQ (ax 0)) (aa 1)) (aa 2) (aV (aa 4))) (aB (bT (aq (aV (aa 4))))))))))))⟩
noncomputable def iS (t:Adr):=jC 5 4 (iP t).1
theorem qV (T:Txt K mg t):GoM P w K mg base 5 t.af "put" (spM (iS t) K):=(iP t).2 T
noncomputable def dm (t:Adr):gOM (gMM 5 t.af "move" 7 4) t:=⟨_,λ T=>oMm ["self","box","holder","place","under","row","lowest"] T.oK λ hr nd =>
 (ae (bH (bt T.av (bY T) hr (aa 0) (cB (aa 1)))) (ae (bH (bt T.av (bY T) hr (aa 0) (cB (aa 2)))) (ae (aA 4 nd (he:=aq (qr (fc (jJ T) hr (cV (aa 0) (aa 1)))))) (ae (bP (de (cg (cc (oV (aa 1) (CJ T.zi)) (cc (oV (aa 2) (aa 1)) (cM (Jz (aa 2) (aa 4))))))) (aB dg) bq) (ae (kh 5 nd (ckN [("box",1)]) (hi:=ff (aN hr.units (λ _ _=>rfl) (cH T.av T.aQ (aa 0)) (aa 2))) (hcd:=(λ _ _ _ _=>(fL (aa 0) (aa 1)))) (he:=(λ _ _ _ _=>(aa 0)))) (ae (bH (ar (gP T) hr (cV (aa 3) (aa 5)))) (ae (aA 6 nd (he:=aq (jc (az (zA rfl) T.CM (cB (aZ (ij (ckN [("self",0)]) (ff (b6 (aZ (bF (cB (aa 1)))) (aa 4))) (λ _ _ _ _=>(ar (dH T) hr (cV (aa 1) (aa 0))))))))))) (ae (bP (de (yD (yF (b6 (b6 (ar (dH T) hr (cV (aa 0) (aa 2))) aj) (aa 6)) (ar (dH T) hr (cV (aa 0) (aa 1)))) (CJ T.jQ))) (aB dg) bq) (ae (ie (ax 5) (aa 3) (aV (aa 1))) (ae (bP (de (oV (aa 5) (aN hr.units (λ _ _=>rfl) (cH T.av T.aQ (aa 0)) (aa 2)))) (aB (bT (aq (aV bR)))) bq) (ae (ic (fM (d9 hr) (λ _ _=>rfl) (a8 T.av T.aQ (ax 0)) (aN hr.units (λ _ _=>rfl) (cH T.av T.aX (aa 0)) (aa 1))) (aa 1)) (ae (bB (d9 hr) (a8 T.av T.aQ (ax 0)) (aa 2) (aq (zB 5))) (ae (bB (d9 hr) (a8 T.av T.aX (ax 0)) (aa 1) (aq (aV (aa 2)))) (aB (bT (aq (aV bR)))))))))))))))))⟩
noncomputable def gI (t:Adr):=jC 7 4 (dm t).1
theorem om (T:Txt K mg t):GoM P w K mg base 5 t.af "move" (spM (gI t) K):=(dm t).2 T
noncomputable def d6 (t:Adr):gOD (gFD 5 "_law_walked" 10 4) t:=⟨_,λ T=>oD ["_law_tree","_law_rows","_law_facts","_law_box","_law_under_here","_law_later","_law_row","_law_at","_law_deep_here","_law_spot"] T.lX λ hr nd =>
 (ak (cE 4 nd (he:=fc (jJ T) hr (cV (aa 0) (aa 3)))) (ak (cE 5 nd (he:=fc (xO T) hr (cV (aa 0) (aa 3)))) (ak (nO 6 nd (aZ (bF (cB (aa 3))))) (ak (bV (l6 (bu (aN hr.units (λ _ _=>rfl) (aa 2) (aa 3)) aj) fP) (au (nO 6 nd (aN hr.units (λ _ _=>rfl) (aa 1) (bu (aN hr.units (λ _ _=>rfl) (aa 2) (aa 3)) aj)))) a7) (ak (nO 7 nd (ma (aa 6) (aa 3))) (ak (bV (kg 5 (kg 4 (cg (cc (aU (a9 (ar (c7 T) hr (cV (aa 4) (aZ (l7 (ar (eI T) hr (cV (aa 1) (aa 3))) (dN aj) iJ)))))) (cM (aU (a9 (ar (c7 T) hr (cV (aa 5) (aZ (l7 (aa 6) (dN (b6 (aa 7) aj)) iJ))))))))))) (au (aM bR)) a7) (ak (ig 4 (he:=aa 3)) (ak (vN 5 (hi:=aj) (he:=aa 3)) (ak (nO 8 nd (ar (dH T) hr (cV (aa 0) (aa 3)))) (ak (nO 9 nd (ar (uA T) hr (cV (aa 0) (aa 3)))) (ak (bV (cg (cc (aU (a9 (ar (cK T) hr (cB (aa 8))))) (cM (fL (aa 8) (ar (c8 T) hr (cV (aa 2) (aa 3))))))) (au (aM bR)) a7) (ak (bV (cg (cc (aU (a9 (az rP T.bX (cV (aa 9) (iL (n:="tuple") T.zK))))) (cc (fL (az fb T.dw (cB (aa 9))) aj) (cc (aU (a9 (ar (cK T) hr (cB (Kl 9))))) (cM (aU (a9 (ar (cK T) hr (cB (Kl 9)))))))))) (au (aM bR)) a7) (au (aM (JA (aa 9) (ip (cV (b6 (aa 7) aj) (az fb T.dw (cB (aa 6))))))))))))))))))))⟩
noncomputable def cw (t:Adr):=gj 10 4 (d6 t).1
theorem gQ (T:Txt K mg t):Go P w K mg base 5 "_law_walked" (spF (cw t) K):=(d6 t).2 T
noncomputable def iN (t:Adr):gOM (gFM 6 "_law_put" 12 6) t:=⟨_,λ T=>oM ["_law_tree","_law_rows","_law_facts","_law_number","_law_cell_here","_law_way","_law_some","_law_draw","_law_holder","_law_place","_law_name_here","_law_made"] T.rG λ hr nd =>
 (ae (oY (i:=1) (j:=6) nd (ckN [("_law_facts",2)]) (hcd:=(λ _ _ _ _=>(yC (ar (c8 T) hr (cV (aa 1) (aa 0))) aj))) (he:=(λ _ _ _ _=>(aa 0)))) (ae (aA 7 nd (he:=aq (aV (ar (bM T) hr (cV (aa 4) (aa 5)))))) (ae (aA 8 nd (he:=aq (aV (bu (aa 6) (Fh aj))))) (ae (bP (de (oV (fh (aa 7) aj) aj)) (aB (aA 8 nd (he:=aq (aV (bu (aa 6) (fh (fQ (aa 7) aj) (az fb T.dw (cB (aa 6))))))))) bq) (ae (aA 9 nd (he:=aq (jc (fh (ar (bM T) hr (cV (aa 4) (b6 (aa 5) aj))) (b6 (az fb T.dw (cB (aN hr.units (λ _ _=>rfl) (aa 1) (aa 8)))) aj))))) (ae (aA 10 nd (he:=aq (aV (ar (jK T) hr (cV (aa 4) (b6 (aa 5) aj)))))) (ae (aA 11 nd (he:=fe T.av (qV T) hr (ax 0) (aD (cO (aa 8)) (aD (cO (aa 9)) (aD (cO (aa 10)) cP))))) (ae (ie (fM (d9 hr) (λ _ _=>rfl) (ax 1) (aa 8)) (aa 9) (aV (aa 3))) (ae (bB (d9 hr) (ax 1) (aa 3) (aq (lC (bF bU)))) (ae (bB (d9 hr) (ax 2) (aa 3) (aq (aV (ip (cV (aa 8) (aa 10)))))) (aB (bT (aq (aV (jr (ar (cK T) hr (cB (aa 11))) (l9 (JA (aa 11) (aa 3))))))))))))))))))⟩
noncomputable def fR (t:Adr):=jC 12 6 (iN t).1
theorem qU (T:Txt K mg t):Go P w K mg base 6 "_law_put" (spM (fR t) K):=(iN t).2 T
noncomputable def ft (t:Adr):gOM (gFM 6 "_law_moved" 16 5) t:=⟨_,λ T=>oM ["_law_tree","_law_rows","_law_facts","_law_cell_here","_law_way","_law_some","_law_box","_law_under_here","_law_tall","_law_free","_law_draw","_law_holder","_law_rest","_law_place","_law_due","_law_told"] T.nr λ hr nd =>
 (ae (aA 5 nd (he:=aq (qr (iK hr.hd T.gJ (aa 1))))) (ae (aA 6 nd (he:=aq (aV (bu (aa 5) (b6 aj (fh (ar (bM T) hr (cV (aa 3) (aa 4))) (yF (az fb T.dw (cB (aa 5))) aj))))))) (ae (aA 7 nd (he:=aq (qr (fc (eI T) hr (cV (aa 1) (aa 6)))))) (ae (aA 8 nd (he:=aq (jc (yF (az (zA rfl) T.CM (cB (aZ (ij (ckN [("_law_facts",2)]) (ff (aa 7)) (λ _ _ _ _=>(ar (c8 T) hr (cV (aa 1) (aa 0)))))))) (ar (c8 T) hr (cV (aa 2) (aa 6))))))) (ae (nB 9 nd (ckN [("_law_under_here",7),("_law_tall",8),("_law_facts",2)]) (hi:=ff (aa 5)) (hcd:=(λ _ _ _ _=>(cg (vH (yB (aa 0) (aa 1)) (rR (Fg (b6 (b6 (ar (c8 T) hr (cV (aa 3) (aa 0))) aj) (aa 2)) aj)))))) (he:=(λ _ _ _ _=>(aa 0)))) (ae (aA 10 nd (he:=aq (aV (ar (bM T) hr (cV (aa 3) (b6 (aa 4) aj)))))) (ae (aA 11 nd (he:=aq (aV (bu (aa 9) (fh (fQ (aa 10) aj) (az fb T.dw (cB (aa 9)))))))) (ae (bP (de (oV (fh (aa 10) aj) aj)) (aB (aA 11 nd (he:=aq (jc (bu (aN hr.units (λ _ _=>rfl) (aa 2) (aa 6)) aj))))) bq) (ae (kh 12 nd (ckN [("_law_box",6)]) (hi:=ff (aN hr.units (λ _ _=>rfl) (aa 1) (aa 11))) (hcd:=(λ _ _ _ _=>(fL (aa 0) (aa 1)))) (he:=(λ _ _ _ _=>(aa 0)))) (ae (aA 13 nd (he:=aq (jc (fh (ar (bM T) hr (cV (aa 3) (b6 (aa 4) aj))) (b6 (az fb T.dw (cB (aa 12))) aj))))) (ae (ie (ax 12) (aa 13) (aV (aa 6))) (ae (aA 14 nd (he:=aq (jc (Cn (aa 12) (aN hr.units (λ _ _=>rfl) (aa 1) (aa 11)))))) (ae (aA 15 nd (he:=fe T.av (om T) hr (ax 0) (aD (cO (aa 6)) (aD (cO (aa 11)) (aD (cO (aa 13)) cP))))) (ae (ic (fM (d9 hr) (λ _ _=>rfl) (ax 1) (bu (aN hr.units (λ _ _=>rfl) (aa 2) (aa 6)) aj)) (aa 6)) (oW (d9 hr) (cI (i:=1) rfl (Or.inl rfl)) (cI (i:=12) rfl (Or.inl rfl)) (cI (i:=2) rfl (Or.inr (Or.inl rfl))) (aa 11) (aa 6) (cV (aa 11) (bu (aN hr.units (λ _ _=>rfl) (aa 2) (aa 6)) aj)) (jr (az rP T.bX (cV (aa 15) (iL (n:="bool") T.yI))) (jr (JA (aa 15) (aa 14)) (l9 (ar (c7 T) hr (cV (bt T.av (b8 T) hr (aa 0) (cB (aa 11))) (aa 12)))))))))))))))))))))⟩
noncomputable def du (t:Adr):=jC 16 5 (ft t).1
theorem mL (T:Txt K mg t):Go P w K mg base 6 "_law_moved" (spM (du t) K):=(ft t).2 T
end
end N12
end
section
namespace N12
open PySem L2 PySem.W PyProof.Rows
abbrev sNm:Str:="names"
def Er:List Str:=["check","boxes_of","holder_of"]
section
variable {P:Program} {w:World} {K:W.Frag} {mg:Str->Option Value} {base:Heap} {t:Adr}
set_option maxHeartbeats 4000000
def GxF (P:Program) (w:World) (K:W.Frag) (mg:Str->Option Value) (base:Heap) (k:Nat) (x:Str) (sp:Sp):Prop:=∃ f fd ps,mg x=some (.ref f)/\keepIn K (.ref f)=true/\Binds K fd ps []/\fW P w K mg base (CX1 P w) k f fd ps sp
def GxM (P:Program) (w:World) (K:W.Frag) (mg:Str->Option Value) (base:Heap) (k:Nat) (C:Addr) (x:Str) (sp:Sp):Prop:=∃ f fd ps,zG K C x f/\Binds K fd ps []/\fW P w K mg base (CX1 P w) k f fd ps sp
def wx (C R:Addr):Sp:=λ vs H _ E=>∃ (a dx nm:Addr) (j:Int) (fs:List (Str×V)) (kvs:List (Key×V)),vs=[.ref a,.int j]/\H a=some (.ins C dx fs)/\fs.lookup sNm=some (.ref nm)/\(∀ m ∈ Er,fs.lookup m=none)/\H nm=some (.dK kvs)/\b7 kvs (.inl j)=none/\∀ H',bz H H'->E (.ref R) none H'
theorem mJ (T:Txt K mg t):GxM P w K mg base 1 t.af "check" (wx t.af t.ck):=by
 obtain ⟨a,d,F,m,bi⟩:=T.i9;refine ⟨a,d,_,m,bi,F.okX (N:=["self","box"]) ⟨rfl,rfl,rfl,by decide +kernel,rfl,by decide +kernel,by decide +kernel⟩ (λ vs H Q E h=>by obtain ⟨_,_,_,_,_,_,rfl,_⟩:=h; rfl) λ cdv A outer s H vs Q E hr h=>?_⟩;obtain ⟨a,dx,nm,j,fs,kvs,rfl,ha,hn,hc,hk,e,k⟩:=h;refine ⟨_,aR (mF (mE (mH (d9 hr) (pv 1) (ui (pv 0) rfl))) (aR (xj tw rfl T.zL rfl T.ox (aJ yX bc))) iC),?_⟩;have g:=so.k (k:=.inl j) hk;rw [e] at g;exact ⟨_,rfl,_,rfl,a,t.af,dx,fs,_,rfl,ha,T.av,T.bN,hn,nm,_,rfl,g,_,rfl,ye ⟨Zb rfl,k _ (.refl _)⟩⟩
theorem uw (T:Txt K mg t):GxM P w K mg base 2 t.af "boxes_of" (wx t.af t.ck):=by
 obtain ⟨a,d,F,m,bi⟩:=T.eZ;obtain ⟨f1,d1,p1,m1,b1,o1⟩:=mJ (P:=P) (w:=w) (base:=base) T;refine ⟨a,d,_,m,bi,F.okX (N:=["self","box"]) ⟨rfl,rfl,rfl,by decide +kernel,rfl,by decide +kernel,by decide +kernel⟩ (λ vs H Q E h=>by obtain ⟨_,_,_,_,_,_,rfl,_⟩:=h; rfl) λ cdv A outer s H vs Q E hr h=>?_⟩;obtain ⟨a,dx,nm,j,fs,kvs,rfl,ha,hn,hc,hk,e,k⟩:=h;exact ⟨_,bg (bG (gO (EX:=λ _=>E) (pv 0) T.av m1 o1 (hr.mono (by decide)) b1 .nil (λ σ=>cJ.at σ) (aJ (pv 1) bc))) (aR cX),_,rfl,a,dx,fs,rfl,ha,hc _ (by decide),_,rfl,a,dx,nm,j,fs,kvs,rfl,ha,hn,hc,hk,e,k⟩
theorem kU (T:Txt K mg t):GxM P w K mg base 2 t.af "holder_of" (wx t.af t.ck):=by
 obtain ⟨a,d,F,m,bi⟩:=T.d8;obtain ⟨f1,d1,p1,m1,b1,o1⟩:=mJ (P:=P) (w:=w) (base:=base) T;refine ⟨a,d,_,m,bi,F.okX (N:=["self","box"]) ⟨rfl,rfl,rfl,by decide +kernel,rfl,by decide +kernel,by decide +kernel⟩ (λ vs H Q E h=>by obtain ⟨_,_,_,_,_,_,rfl,_⟩:=h; rfl) λ cdv A outer s H vs Q E hr h=>?_⟩;obtain ⟨a,dx,nm,j,fs,kvs,rfl,ha,hn,hc,hk,e,k⟩:=h;exact ⟨_,bg (bG (gO (EX:=λ _=>E) (pv 0) T.av m1 o1 (hr.mono (by decide)) b1 .nil (λ σ=>cJ.at σ) (aJ (pv 1) bc))) (aR cX),_,rfl,a,dx,fs,rfl,ha,hc _ (by decide),_,rfl,a,dx,nm,j,fs,kvs,rfl,ha,hn,hc,hk,e,k⟩
theorem uu (T:Txt K mg t):GxF P w K mg base 3 "row_of" (wx t.af t.ck):=by
 obtain ⟨a,d,F,m,bi⟩:=T.p8;obtain ⟨f1,d1,p1,m1,b1,o1⟩:=kU (P:=P) (w:=w) (base:=base) T;refine ⟨a,d,_,m,F.kp,bi,F.okX (N:=["tree","box","holder"]) ⟨rfl,rfl,rfl,by decide +kernel,rfl,by decide +kernel,by decide +kernel⟩ (λ vs H Q E h=>by obtain ⟨_,_,_,_,_,_,rfl,_⟩:=h; rfl) λ cdv A outer s H vs Q E hr h=>?_⟩;obtain ⟨a,dx,nm,j,fs,kvs,rfl,ha,hn,hc,hk,e,k⟩:=h;refine ⟨_,bg (eG (i:=2) (show (["tree","box","holder"]:List Str).Nodup by decide +kernel) rfl (Or.inl rfl) (gO (EX:=λ _=>E) (pv 0) T.av m1 o1 (hr.mono (by decide)) b1 .nil (λ σ=>cJ.at σ) (aJ (pv 1) bc))) (aR cX),?_⟩;exact ⟨_,rfl,a,dx,fs,rfl,ha,hc _ (by decide),_,rfl,a,dx,nm,j,fs,kvs,rfl,ha,hn,hc,hk,e,k⟩
theorem qS (T:Txt K mg t):GxF P w K mg base 4 "behind" (wx t.af t.ck):=by
 obtain ⟨a,d,F,m,bi⟩:=T.p9;obtain ⟨f1,d1,p1,m1,k1,b1,o1⟩:=uu (P:=P) (w:=w) (base:=base) T;refine ⟨a,d,_,m,F.kp,bi,F.okX (N:=["tree","box","row"]) ⟨rfl,rfl,rfl,by decide +kernel,rfl,by decide +kernel,by decide +kernel⟩ (λ vs H Q E h=>by obtain ⟨_,_,_,_,_,_,rfl,_⟩:=h; rfl) λ cdv A outer s H vs Q E hr h=>?_⟩;obtain ⟨a,dx,nm,j,fs,kvs,rfl,ha,hn,hc,hk,e,k⟩:=h;exact ⟨_,bg (eG (i:=2) (show (["tree","box","row"]:List Str).Nodup by decide +kernel) rfl (Or.inl rfl) (dS (EX:=λ _=>E) o1 (hr.mono (by decide)) rfl m1 k1 b1 .nil (λ σ=>cJ.at σ) (aJ (pv 0) (aJ (pv 1) bc)))) (aR cX),_,rfl,_,rfl,a,dx,nm,j,fs,kvs,rfl,ha,hn,hc,hk,e,k⟩
theorem xK (T:Txt K mg t):GxF P w K mg base 4 "spot_of" (wx t.af t.ck):=by
 obtain ⟨a,d,F,m,bi⟩:=T.m7;obtain ⟨f1,d1,p1,m1,k1,b1,o1⟩:=uu (P:=P) (w:=w) (base:=base) T;refine ⟨a,d,_,m,F.kp,bi,F.okX (N:=["tree","box","row"]) ⟨rfl,rfl,rfl,by decide +kernel,rfl,by decide +kernel,by decide +kernel⟩ (λ vs H Q E h=>by obtain ⟨_,_,_,_,_,_,rfl,_⟩:=h; rfl) λ cdv A outer s H vs Q E hr h=>?_⟩;obtain ⟨a,dx,nm,j,fs,kvs,rfl,ha,hn,hc,hk,e,k⟩:=h;exact ⟨_,bg (eG (i:=2) (show (["tree","box","row"]:List Str).Nodup by decide +kernel) rfl (Or.inl rfl) (dS (EX:=λ _=>E) o1 (hr.mono (by decide)) rfl m1 k1 b1 .nil (λ σ=>cJ.at σ) (aJ (pv 0) (aJ (pv 1) bc)))) (aR cX),_,rfl,_,rfl,a,dx,nm,j,fs,kvs,rfl,ha,hn,hc,hk,e,k⟩
theorem oe (T:Txt K mg t):GxF P w K mg base 3 "holders_of" (wx t.af t.ck):=by
 obtain ⟨a,d,F,m,bi⟩:=T.iZ;obtain ⟨f1,d1,p1,m1,b1,o1⟩:=kU (P:=P) (w:=w) (base:=base) T;refine ⟨a,d,_,m,F.kp,bi,F.okX (N:=["tree","box","found","holder"]) ⟨rfl,rfl,rfl,by decide +kernel,rfl,by decide +kernel,by decide +kernel⟩ (λ vs H Q E h=>by obtain ⟨_,_,_,_,_,_,rfl,_⟩:=h; rfl) λ cdv A outer s H vs Q E hr h=>?_⟩;obtain ⟨a,dx,nm,j,fs,kvs,rfl,ha,hn,hc,hk,e,k⟩:=h;refine ⟨_,bg (eG (i:=2) (show (["tree","box","found","holder"]:List Str).Nodup by decide +kernel) rfl (Or.inl rfl) (uh bc)) (bg (eG (i:=3) (show (["tree","box","found","holder"]:List Str).Nodup by decide +kernel) rfl (Or.inl rfl) (gO (EX:=λ _=>E) (pv 0) T.av m1 o1 (hr.mono (by decide)) b1 .nil (λ σ=>cJ.at σ) (aJ (pv 1) bc))) (bg cX (aR cX))),?_⟩;refine ⟨Z3 _,λ p hp=>?_⟩;have sa:=aw hp (.lst []);exact ⟨_,rfl,a,dx,fs,rfl,sa _ _ ha,hc _ (by decide),_,rfl,a,dx,nm,j,fs,kvs,rfl,sa _ _ ha,hn,hc,sa _ _ hk,e,λ H' g=>k H' (sa.trans g)⟩
theorem uv (T:Txt K mg t):GxF P w K mg base 4 "depth_of" (wx t.af t.ck):=by
 obtain ⟨a,d,F,m,bi⟩:=T.k9;obtain ⟨f1,d1,p1,m1,k1,b1,o1⟩:=oe (P:=P) (w:=w) (base:=base) T;refine ⟨a,d,_,m,F.kp,bi,F.okX (N:=["tree","box"]) ⟨rfl,rfl,rfl,by decide +kernel,rfl,by decide +kernel,by decide +kernel⟩ (λ vs H Q E h=>by obtain ⟨_,_,_,_,_,_,rfl,_⟩:=h; rfl) λ cdv A outer s H vs Q E hr h=>?_⟩;obtain ⟨a,dx,nm,j,fs,kvs,rfl,ha,hn,hc,hk,e,k⟩:=h;refine ⟨_,aR (fX (pM qq rfl T.dw (by decide +kernel) (aJ (dS (EX:=λ _=>E) o1 (hr.mono (by decide)) rfl m1 k1 b1 .nil (λ σ=>cJ.at σ) (aJ (pv 0) (aJ (pv 1) bc))) bc))),?_⟩;exact ⟨_,rfl,_,rfl,a,dx,nm,j,fs,kvs,rfl,ha,hn,hc,hk,e,k⟩
theorem og (T:Txt K mg t):GxF P w K mg base 3 "beneath" (wx t.af t.ck):=by
 obtain ⟨a,d,F,m,bi⟩:=T.m9;obtain ⟨f1,d1,p1,m1,b1,o1⟩:=uw (P:=P) (w:=w) (base:=base) T;refine ⟨a,d,_,m,F.kp,bi,F.okX (N:=["tree","box","found","left","one"]) ⟨rfl,rfl,rfl,by decide +kernel,rfl,by decide +kernel,by decide +kernel⟩ (λ vs H Q E h=>by obtain ⟨_,_,_,_,_,_,rfl,_⟩:=h; rfl) λ cdv A outer s H vs Q E hr h=>?_⟩;obtain ⟨a,dx,nm,j,fs,kvs,rfl,ha,hn,hc,hk,e,k⟩:=h;refine ⟨_,bg (eG (i:=2) (show (["tree","box","found","left","one"]:List Str).Nodup by decide +kernel) rfl (Or.inl rfl) (uh bc)) (bg (eG (i:=3) (show (["tree","box","found","left","one"]:List Str).Nodup by decide +kernel) rfl (Or.inl rfl) (yY rfl rfl T.gJ (by decide +kernel) rfl T.fG (by decide +kernel) (gO (EX:=λ _=>E) (pv 0) T.av m1 o1 (hr.mono (by decide)) b1 .nil (λ σ=>cJ.at σ) (aJ (pv 1) bc)))) (bg cX (aR cX))),?_⟩;refine ⟨Z3 _,λ p hp=>?_⟩;have sa:=aw hp (.lst []);exact ⟨_,rfl,a,dx,fs,rfl,sa _ _ ha,hc _ (by decide),_,rfl,a,dx,nm,j,fs,kvs,rfl,sa _ _ ha,hn,hc,sa _ _ hk,e,λ H' g=>k H' (sa.trans g)⟩
def aW (t:Adr):List D->Option Sl
 | [.obj C fs,.int n,.int _]=>if C=t.af/\(Er.all λ m=>(fs.lookup m).isNone)=true then (match fs.lookup sNm with | some (.dct ds)=>if (jf ds (.inl n)).isNone=true then some (.shr (.bl true)) else none | _=>none) else none
 | _=>none
theorem fY (T:Txt K mg t):Go P w K mg base 5 "_law_missing" (spF (aW t) K):=by
 obtain ⟨a0,d0,F,m0,bi⟩:=T.kK;obtain ⟨f1,d1,p1,m1,k1,b1,o1⟩:=og (P:=P) (w:=w) (base:=base) T;obtain ⟨f2,d2,p2,m2,k2,b2,o2⟩:=qS (P:=P) (w:=w) (base:=base) T;obtain ⟨f3,d3,p3,m3,k3,b3,o3⟩:=uv (P:=P) (w:=w) (base:=base) T;obtain ⟨f4,d4,p4,m4,k4,b4,o4⟩:=xK (P:=P) (w:=w) (base:=base) T;refine ⟨a0,d0,_,m0,F.kp,bi,F.ok (N:=["_law_tree","_law_box","_law_way"]) ⟨rfl,rfl,rfl,by decide +kernel,rfl,by decide +kernel,by decide +kernel⟩ (λ vs H Q E h=>?_) λ cdv A outer s H vs Q E hr h=>?_⟩
 ·obtain ⟨Hs,ds,sl,sm,r,e,_⟩:=h
  unfold aW at e;split at e
  · exact r.length
  · cases e
 obtain ⟨Hs,ds,sl,sm,r,e,k⟩:=h
 obtain ⟨C,fs,n,wy,rfl⟩:∃ C fs n wy,ds=[.obj C fs,.int n,.int wy]:=by
  unfold aW at e;split at e
  · exact ⟨_,_,_,_,rfl⟩
  · cases e
 obtain ⟨hC,hm,dn,hn,hv,rfl⟩:C=t.af/\(∀ m ∈ Er,fs.lookup m=none)/\∃ dn,fs.lookup sNm=some (.dct dn)/\jf dn (.inl n)=none/\sl=.shr (.bl true):=by
  simp only [aW] at e;split at e
  ·rename_i h
   split at e
   ·rename_i dn hn
    split at e
    ·rename_i hv
     refine ⟨h.1,λ m hm=>?_,dn,hn,Option.isNone_iff_eq_none.mp hv,(Zj e).symm⟩;exact Option.isNone_iff_eq_none.mp (Ys.mp h.2 m hm)
    · cases e
   · cases e
  · cases e
 subst hC
 cases r with
 | cons rt r=>cases r with
  | cons rn r=>cases r with
   | cons rw r =>
 cases r;cases rn;cases rw
 cases rt with
 | @obj a _ dx fv _ hH rf =>
 obtain ⟨vn,l1,l2⟩:=rf.look hn
 cases l2 with
 | @dct nm kvs _ hd rk =>
 have hvv:b7 kvs (.inl n)=none:=(rk.val (k:=.inl n)).2 hv;have ht:=sm _ _ hH;have htn:=sm _ _ hd;have hmv:∀ m ∈ Er,fv.lookup m=none:=λ m h=>rf.BM (hm m h)
 refine ⟨_,bg (DF (λ pn E EX hx=>aR (mF (mE (uk (pv 2) kS)) (aR (bG (dS o1 (hr.mono (by decide)) rfl m1 k1 b1 .nil hx (aJ (pv 0) (aJ (pv 1) bc))))) (aR (mF (mE (uk (pv 2) kS)) (aR (bG (dS o2 (hr.mono (by decide)) rfl m2 k2 b2 .nil hx (aJ (pv 0) (aJ (pv 1) bc))))) (aR (mF (mE (uk (pv 2) kS)) (aR (bG (dS o3 (hr.mono (by decide)) rfl m3 k3 b3 .nil hx (aJ (pv 0) (aJ (pv 1) bc))))) (aR (bG (dS o4 (hr.mono (by decide)) rfl m4 k4 b4 .nil hx (aJ (pv 0) (aJ (pv 1) bc))))))))))) (DN rfl T.ox (λ ea=>by exact aR (fX A7)) DP) iC rfl rfl) (aR (fX A7)),?_⟩;have fin:∀ {H1:Hp},bz H H1->Q (.bl true) H1:=λ {H1} g=>k _ Hs H1 ⟨.refl _,sm.trans g,g,λ _ h _=>h⟩ (.bl true)
 refine ⟨_,rfl,_,_,rfl,rfl,_,rfl,?_⟩
 by_cases h0:wy=0
 · exact BZ (Zs h0) ⟨_,rfl,_,rfl,a,dx,nm,n,fv,kvs,rfl,ht,l1,hmv,htn,hvv,λ H' g ea=>⟨true,T.cY,ye (fin g)⟩⟩
 refine B0 (Zq h0) ?_
 refine ⟨_,rfl,_,_,rfl,rfl,_,rfl,?_⟩
 by_cases h1:wy=1
 · exact BZ (Zs h1) ⟨_,rfl,_,rfl,a,dx,nm,n,fv,kvs,rfl,ht,l1,hmv,htn,hvv,λ H' g ea=>⟨true,T.cY,ye (fin g)⟩⟩
 refine B0 (Zq h1) ?_
 refine ⟨_,rfl,_,_,rfl,rfl,_,rfl,?_⟩
 by_cases h2:wy=2
 · exact BZ (Zs h2) ⟨_,rfl,_,rfl,a,dx,nm,n,fv,kvs,rfl,ht,l1,hmv,htn,hvv,λ H' g ea=>⟨true,T.cY,ye (fin g)⟩⟩
 refine B0 (Zq h2) ?_
 exact ⟨_,rfl,_,rfl,a,dx,nm,n,fv,kvs,rfl,ht,l1,hmv,htn,hvv,λ H' g ea=>⟨true,T.cY,ye (fin g)⟩⟩
end
end N12
end
section
local macro_rules | `(tactic| walk_at "v")=>`(tactic| first | exact .inl rfl | exact .inr rfl | assumption)
local macro_rules | `(tactic| walk_at "w")=>`(tactic| first | exact .inl rfl | exact .inr (.inl rfl) | exact .inr (.inr rfl))
namespace L2
open PySem PySem.Spec PyProof.Rows
section
variable {X:Cx} {c k:Expr} {pos px pz ipos rpos:Pos} {x z:Str} {i jx:Nat} {t:DT} {g:DE}
theorem oX (hN:X.N.Nodup) (n2:jx≠i) (hz:X.N[i]?=some z:=by exact rfl) (hx:X.N[jx]?=some x:=by exact rfl) (ht:Bx (PTd X c t):=by walk_at "h") (hk:Bx (PEd X k g):=by walk_at "g") (hp:PassesOwn (model X.prog X.w) X.A X.env X.xe:=by exact .never) (hc:X.calm=true:=by rfl) (hv:Vis X.env.scope z:=by walk_at "w") (lx:Loc X.env.scope x:=by walk_at "v") (hd:(z == ("__debug__":Str))=false:=by decide) (hcl:(z == ("__classdict__":Str))=false:=by decide) (hs:∀ x,foldedSetIterable (.Name z pz) X.env x=pure x:=by intro _; rfl) (hfx:Xl X x:=by walk_at "v"):Bx (PSm X (.For (.Name x px) (.Name z pz) [.If c [.Return (some k) rpos] [] ipos] [] pos) (sW i jx t)):=⟨tT hp hc hz hv hN hx lx n2 ht.out hk.out hd hcl hs hfx⟩
end
end L2
end
section
local macro_rules | `(tactic| walk_at "v")=>`(tactic| first | exact .inl rfl | exact .inr rfl | assumption)
local macro_rules | `(tactic| walk_at "w")=>`(tactic| first | exact .inl rfl | exact .inr (.inl rfl) | exact .inr (.inr rfl))
namespace N12
open PySem L2
section
variable {P:Program} {w:World} {K:W.Frag} {mg:Str->Option Value} {base:Heap} {t:Adr}
set_option maxHeartbeats 4000000
noncomputable def Ct (t:Adr):{G:DSm // ∀ {P w K mg base a d},Txt K mg t->Fun K "law" "law" (top 37) a d->fW P w K mg base CX0 7 a d ["_law_script"] (spM (jC 13 1 G) K)}:=⟨_,λ T F=>oLM ["_law_script","_law_name_here","_law_tree","_law_rows","_law_facts","_law_number","_law_gone","_law_k","_law_cell_here","_law_draw","_law_box","_law_one","_law_some"] F λ hr nd =>
 (ae (aA 1 nd (he:=aq (aV (ar (jK T) hr (cV (ar (oj T) hr (cV (aa 0) aj)) aj))))) (ae (aA 2 nd (he:=vT (jL T) hr T.Ew (aD (cO (aa 1)) cP))) (ae (aA 3 nd (he:=aq (vU (kc:=.inl 0) kS (lC (bF bU))))) (ae (aA 4 nd (he:=aq (vU (kc:=.inl 0) kS (aV (ip (cV fP (aa 1))))))) (ae (aA 5 nd (he:=aq (aV aj))) (ae (aA 6 nd (he:=aq (lC (bF bU)))) (ae (vK (lD T.ju (cB (aZ (l7 (aa 0) (dN aj) (dN aj))))) (vX (n:=2) (kj (fO 7 nd) (kj (fO 8 nd) rZ))) (ae (aA 9 nd (he:=aq (aV (ar (bM T) hr (cV (aa 8) (b6 aj (aa 7))))))) (ae (bP (de (cg (cc (yC (fh (aa 9) aj) aj) (cM (yC (az vF T.dw (cB (aa 3))) aj))))) (ae (bP (nz (ny (nD (qU T) hr (aD (lB (ax 2)) (aD (lB (ax 3)) (aD (lB (ax 4)) (aD (cO (aa 5)) (aD (cO (aa 8)) (aD (cO (aa 7)) cP))))))))) (aB (bT (aq (aV bR)))) bq) (aB (aA 5 nd (he:=aq (aV (b6 (aa 5) aj)))))) (aB (bP (de (oV (fh (aa 9) aj) aj)) (aB (bP (nz (ny (nD (mL T) hr (aD (lB (ax 2)) (aD (lB (ax 3)) (aD (lB (ax 4)) (aD (cO (aa 8)) (aD (cO (b6 aj (aa 7))) cP)))))))) (aB (bT (aq (aV bR)))) bq)) (ae (aA 10 nd (he:=aq (jc (bu (aZ (iK hr.hd T.gJ (aa 3))) (b6 aj (fh (fQ (aa 9) aj) (yF (az vF T.dw (cB (aa 3))) aj))))))) (ae (lq (fe T.av (qW T) hr (ax 2) (aD (cO (aa 10)) cP))) (ae (ic (fM (d9 hr) (λ _ _=>rfl) (ax 3) (bu (aN hr.units (λ _ _=>rfl) (aa 4) (aa 10)) aj)) (aa 10)) (aB (rX (fc (eI T) hr (cV (aa 3) (aa 10))) (fO 11 nd) (ae (vL (ax 6) (aV (aa 11))) (aB (vJ ⟨rfl,rfl,rfl,rfl⟩ (ax 3) (aa 11)))))))))))) (ae (aA 12 nd (he:=aq (qr (iK hr.hd T.gJ (aa 3))))) (aB (bP (de (aU (a9 (ar (gQ T) hr (dO (aa 2) (Gn (aa 3) (aa 4) (bu (aa 12) (fh (fQ (aa 9) aj) (az fb T.dw (cB (aa 12))))))))))) (aB (bT (aq (aV bR)))) bq)))))) (ae (oX (i:=3) (jx:=10) nd (by decide) (ht:=aU (a9 (ar (gQ T) hr (dO (aa 2) (Gn (aa 3) (aa 4) (aa 10)))))) (hk:=bR)) (ae (rV (lD T.ju (cB (b6 (aZ (bF (cB (aa 5)))) (aa 6)))) (vW (n:=2) (ki (lE 7 nd) (ki (lE 11 nd) rY))) (cg (cc (aU (a9 (ar (fY T) hr (Gn (aa 2) (aa 11) (fh (aa 7) aj))))) (cM (aU (a9 (ar (fY T) hr (Gn (aa 2) (aa 11) (fh (ar (bM T) hr (cV (aa 5) (aa 7))) aj)))))))) bR) (aB (bT (aq (aV bR)))))))))))))⟩
noncomputable def Fm (t:Adr):=jC 13 1 (Ct t).1
end
end N12
end
local macro_rules | `(tactic| walk_at "ee")=>`(tactic| first
 | with_reducible assumption
 | with_reducible exact L2.e_c
 | ((with_reducible apply L2.ag); exact rfl)
 | with_reducible exact L2.ay
 | ((with_reducible apply L2.ah) <;> walk_at "ee")
 | ((with_reducible apply L2.aK) <;> walk_at "ee")
 | ((with_reducible apply L2.rM) <;> walk_at "ee")
 | ((with_reducible apply L2.gz) <;> walk_at "ee")
 | ((with_reducible apply L2.j4) <;> walk_at "ee")
 | ((with_reducible apply L2.Kj) <;> walk_at "ee")
 | ((with_reducible apply L2.bo) <;> walk_at "ee")
 | ((with_reducible apply L2.dA) <;> walk_at "ee")
 | ((with_reducible apply e_make) <;> walk_at "ee")
 | ((with_reducible apply L2.dJ) <;> walk_at "ee")
 | ((with_reducible apply L2.ba) <;> walk_at "ee")
 | ((with_reducible apply L2.fT) <;> walk_at "ee")
 | with_reducible exact L2.Ft
 | ((with_reducible apply L2.kT) <;> walk_at "ee")
 | ((with_reducible apply L2.E8) <;> walk_at "ee")
 | ((with_reducible apply t_and2) <;> walk_at "ee")
 | ((with_reducible apply L2.mx) <;> walk_at "ee")
 | ((with_reducible apply L2.j5) <;> walk_at "ee")
 | ((with_reducible apply e_or2) <;> walk_at "ee")
 | ((with_reducible apply e_get2) <;> walk_at "ee")
 | with_reducible exact L2.z3 _
 | with_reducible exact slD_own _
 | with_reducible exact L2.eJ _ _
 | with_reducible exact L2.uC _ _ _
 | with_reducible exact oIx_t2 _ _ _ _
 | with_reducible exact L2.aO _ _
 | with_reducible exact L2.gR _ _
 | with_reducible exact L2.eL _ _
 | with_reducible exact L2.iE _ _
 | with_reducible exact L2.jN _ _
 | with_reducible exact oEq_str _ _
 | with_reducible exact L2.Bm _ _
 | with_reducible exact L2.bE (by decide)
 | with_reducible exact L2.gS (by decide) (by decide +kernel)
 | with_reducible exact L2.zb (by decide) (by decide)
 | with_reducible exact L2.El (by decide) (by decide)
 | with_reducible exact L2.Fk _ _
 | with_reducible exact L2.Fj _ _ _
 | with_reducible exact atI_2 _ _ _ _
 | exact rfl
 | exact Zb rfl
 | skip)
section
namespace N12
open PySem L2
theorem GU {n m:Nat} {b:DS} {ds:List D} {τ:List Sl} (h:b (kO n ds)=some (.next τ)) (hl:ds.length=m:=by rfl):gj n m b ds=some (.shr .non):=by
 unfold gj;rw [if_pos hl,h]
theorem GL {τ:List Sl} {c:DT} {f g:DS} {b:Bool} {s:Sl} (h:c τ=some b) (h1:b=true->f τ=some (.ret s)) (h2:b=false->g τ=some (.ret s)):jh (sIf c f mC) g τ=some (.ret s):=by
 cases b with
 | true=>exact yO h (h1 rfl)
 | false=>exact jz h (h2 rfl)
theorem Je {τ:List Sl} {f:DE} {x:Str} (h:f τ=some (.str x)):yf f τ=some (chD x):=by unfold yf; rw [h]; rfl
def lower (c:Nat):Bool:=decide (97<=c)&&decide (c<=122)
def eP (x:Str):Bool:=(decide (1<=(x.length:Int))&&decide ((x.length:Int)<=8))&&x.cps.toList.all lower
theorem lt1 (c d:Nat):[c] < [d]↔c < d:=by
 constructor
 ·intro z
  cases z with
  | rel h=>exact h
  | cons h=>cases h
 ·intro h
  exact List.Lex.rel h
theorem le1 (c d:Nat):Hr (.str ⟨#[c]⟩) (.str ⟨#[d]⟩)=some (.bl (decide (c<=d))):=by
 show some (D.bl (!decide ([d] < [c])))=_;congr 2
 by_cases h:c<=d
 ·rw [Zs h,Zq]
  · rfl
  ·intro z
   have:=(lt1 d c).mp z;omega
 ·rw [Zq h,Zs]
  · rfl
  · exact (lt1 d c).mpr (by omega)
theorem uK {g:D->Option D} {t:Nat->Bool}:∀ {cs:List Nat},(∀ c ∈ cs,g (.str ⟨#[c]⟩)=some (.bl (t c)))->wg g (cs.map λ c=>.str ⟨#[c]⟩)=some (cs.map λ c=>.bl (t c))
 | [],_=>rfl
 | c::cs,h=>by
  show (g (.str ⟨#[c]⟩)).bind (λ x=>(wg g (cs.map λ c=>.str ⟨#[c]⟩)).bind λ xs=>some (x::xs))=_;rw [h c (Ze ..),uK λ c m=>h c (Zc _ m)];rfl
theorem iq (t:Nat->Bool):∀ cs:List Nat,Co (cs.map λ c=>.bl (t c))=some (cs.map t)
 | []=>rfl
 | c::cs=>by
  show (Co (cs.map λ c=>.bl (t c))).map (t c::·)=_;rw [iq t cs]; rfl
theorem u4 (x:Str) (hx:x.length<=100):kB [.str x]=some (.shr (.bl (eP x))):=by
 unfold kB kq;dsimp only;refine eE ?_
 refine jz (fT (b:=true) (ba (bo (ah (ag rfl) (ah e_c ay)) rfl))) ?_
 have hl:sk [.str x]=some (.int (x.length:Int)):=by
  show (if x.length<=100000 then _ else none)=_;rw [if_pos (by omega)]
 refine GL (b:=!(decide (1<=(x.length:Int))&&decide ((x.length:Int)<=8))) (fT (ba (j5 (aK e_c (bo (ah (ag rfl) ay) hl) rfl) (aK (bo (ah (ag rfl) ay) hl) e_c rfl)))) (λ h=>?_) (λ h=>?_)
 ·unfold eP
  rw [Bool.not_eq_true'] at h;rw [h];exact iB e_c
 ·rw [Bool.not_eq_false'] at h
  refine iB (bo (ah (qg (Je (ag rfl)) ?_ (uK (t:=lower) λ c _=>j5 (aK e_c (ag rfl) (le1 97 c)) (aK (ag rfl) e_c (le1 c 122)))) ay) ?_)
  ·show (x.cps.toList.map _).length<=_
   rw [Za];exact Z8 hx (by decide)
  ·show (Co _).map _=_
   rw [iq];unfold eP;rw [h];show some (D.bl ((x.cps.toList.map lower).all id))=some (D.bl (x.cps.toList.all lower));rw [List.all_map];rfl
def scr (ns:List Int):D:=.fz (ns.map .int)
theorem BQ (ns:List Int):sk [scr ns]=some (.int ns.length):=by
 show some (D.int ((ns.map D.int).length:Nat))=_;rw [Za]
theorem EJ {ns:List Int} {j:Int} (h0:0<=j) (h1:j < ns.length):∃ c:Int,oIx (scr ns) (.int j)=some (.int c):=by
 obtain ⟨h,e⟩:=nJ (xs:=ns.map D.int) h0 (by rw [Za]; exact h1);refine ⟨ns[j.toNat]'(by rw [Za] at h; exact h),?_⟩;show atI (ns.map D.int) j=_;rw [e,List.getElem_map]
theorem lP (c:Int) {w:Int} (w0:0<=w) (w1:w<=10000):∃ r,bZ [.int c,.int w]=some (.shr (.int r))/\0<=r/\r < 1000003:=by
 have m0:=Yq ((c * 48271+w * 7919) % 2147483647 * (16807+2 * w)) (b:=1000003) (by decide);have m1:=Yg ((c * 48271+w * 7919) % 2147483647 * (16807+2 * w)) (b:=1000003) (by decide);have e1:=zb (i:=(c * 48271+w * 7919) % 2147483647) (j:=16807+2 * w) (by omega) (by omega);refine ⟨_,?_,m0,m1⟩;unfold bZ iO;dsimp only;refine eE ?_
 show jh _ _ [.shr (.int c),.shr (.int w),.no]=_;refine bQ (gc (d:=.int ((c * 48271+w * 7919) % 2147483647)) (by walk_at "ee")) ?_
 exact iB (by walk_at "ee")
theorem Ff (ns:List Int) {k:Int} (k0:0<=k):∃ c:Int,gH [scr ns,.int k]=some (.shr (.int c)):=by
 have hl:=BQ ns;have t:=jN k (ns.length:Int);unfold gH gF;dsimp only
 by_cases h:k < (ns.length:Int)
 ·obtain ⟨c,hc⟩:=EJ (ns:=ns) k0 h
  rw [Zs h] at t;refine ⟨c,eE ?_⟩;show jh _ _ [.shr (scr ns),.shr (.int k)]=_;exact yO (by walk_at "ee") (iB (by walk_at "ee"))
 ·rw [Zq h] at t
  refine ⟨0,eE ?_⟩;show jh _ _ [.shr (scr ns),.shr (.int k)]=_;exact jz (by walk_at "ee") (iB e_c)
def LET:Str:="abcdefghijklmnopqrstuvwxyz"
def okS (x:Str):Bool:=x.cps.all lower
def One (z:Str):Prop:=z.length=1/\okS z=true
theorem BP:LET.cps.toList.length=26:=by decide +kernel
theorem Ez:∀ c ∈ LET.cps.toList,lower c=true:=by decide +kernel
theorem EA {k:Int} (k0:0<=k) (k1:k < 26):∃ z:Str,oIx (.str LET) (.int k)=some (.str z)/\One z:=by
 obtain ⟨h,e⟩:=nJ (xs:=LET.cps.toList) k0 (by rw [BP]; omega);refine ⟨⟨#[LET.cps.toList[k.toNat]]⟩,?_,rfl,?_⟩
 ·show (if LET.length<=100000 then (atI LET.cps.toList k).map _ else none)=_
  rw [if_pos (by decide +kernel),e];rfl
 ·unfold okS
  rw [Array.all_eq_true_iff_forall_mem];intro c hc;have e:c=LET.cps.toList[k.toNat]:=by simpa using hc
  rw [e];exact Ez _ (Y6 h)
theorem strs_map:∀ ts:List Str,L2.qG (ts.map .str)=some ts
 | []=>rfl
 | t::ts=>by
  show (L2.qG (ts.map .str)).map _=_;rw [strs_map ts]; rfl
theorem mT {gg:D->Option D}:∀ {ds:List D},(∀ d ∈ ds,∃ z:Str,gg d=some (.str z)/\One z)->∃ ts:List Str,wg gg ds=some (ts.map .str)/\ts.length=ds.length/\∀ z ∈ ts,One z
 | [],_=>⟨[],rfl,rfl,λ q hq=>nomatch hq⟩
 | d::ds,h=>by
  obtain ⟨q,e1,p1⟩:=h d (Ze ..);obtain ⟨qs,e2,l2,p2⟩:=mT (gg:=gg) (ds:=ds) λ x hx=>h x (Zc _ hx)
  refine ⟨q::qs,by simp only [wg,e1,e2]; rfl,by simp [l2],λ x hx=>?_⟩;rcases Zh.mp hx with rfl | hx
  · exact p1
  · exact p2 x hx
theorem pB:∀ {ts:List Str},(∀ z ∈ ts,One z)->(ts.map (·.length)).sum=ts.length
 | [],_=>rfl
 | t::ts,h=>by
  rw [Zg,List.sum_cons,(h t (Ze ..)).1,pB λ z hz=>h z (Zc _ hz),Zx];omega
theorem Aa {n:Nat} {d:D} (h:d ∈ sj 0 n):∃ j:Nat,j < n/\d=.int (j:Int):=by
 obtain ⟨j,hj⟩:=List.getElem?_of_mem h;obtain ⟨e,l⟩:=tp hj;exact ⟨j,l,by rw [e]; congr 1; omega⟩
theorem ux {x y:Array Nat} (hx:x.all (lower)=true) (hy:y.all (lower)=true):(x++y).all (lower)=true:=by
 rw [Array.all_eq_true_iff_forall_mem] at *;intro c hc;rcases Array.mem_append.mp hc with h | h
 · exact hx c h
 · exact hy c h
theorem vg:∀ (ts:List Str) (a:Array Nat),(∀ z ∈ ts,One z)->a.all (lower)=true->(ts.foldl (λ acc p=>acc++(Str.cps "")++p.cps) a).size=a.size+ts.length/\(ts.foldl (λ acc p=>acc++(Str.cps "")++p.cps) a).all (lower)=true
 | [],a,_,h=>⟨rfl,h⟩
 | t::ts,a,h,ha=>by
  have h1:=h t (Ze ..);have h0:(Str.cps "").size=0:=by decide +kernel
  have h1':t.cps.size=1:=h1.1;obtain ⟨e1,e2⟩:=vg ts (a++(Str.cps "")++t.cps) (λ z hz=>h z (Zc _ hz)) (ux (ux ha (by decide +kernel)) h1.2);refine ⟨?_,e2⟩;rw [List.foldl_cons,e1,Array.size_append,Array.size_append,h1',h0,Zx];omega
theorem BS {ts:List Str} (h:∀ z ∈ ts,One z) (n:ts≠[]):(Txt.join "" ts).length=ts.length/\okS (Txt.join "" ts)=true:=by
 match ts,n with
 | t::ts,_ =>
  have h1:=h t (Ze ..);have h1':t.cps.size=1:=h1.1;obtain ⟨e1,e2⟩:=vg ts t.cps (λ z hz=>h z (Zc _ hz)) h1.2;refine ⟨?_,e2⟩;show (ts.foldl (λ acc p=>acc++(Str.cps "")++p.cps) t.cps).size=_;rw [e1,h1',Zx];omega
theorem Fb {τ:List Sl} {f g:DE} {z:Str} {ts:List Str} (h1:f τ=some (.str z)) (h2:g τ=some (.lst (ts.map .str))) (h3:(ts.map (·.length)).sum+ts.length * z.length<=100000):yw f g τ=some (.str (Txt.join z ts)):=by
 unfold yw;rw [h1];show (g τ).bind _=_;rw [h2];show (L2.qG (ts.map .str)).bind _=_;rw [strs_map];exact if_pos h3
theorem ze (c:Int) {w:Int} (w0:0<=w) (w1:w<=1000):∃ z:Str,gG [.int c,.int w]=some (.shr (.str z))/\eP z=true:=by
 obtain ⟨r,er,r0,r1⟩:=lP c (w:=w+3) (by omega) (by omega);have m0:=Yq r (b:=8) (by decide);have m1:=Yg r (b:=8) (by decide)
 obtain ⟨ts,ets,lts,ots⟩:=mT (gg:=λ d=>dOp oIx (aF 1) (dOp oMod (dFn bZ (aI (aF 2) (aI (dOp mM (aF 3) (dOp zc (dC (.int 5)) (aF 0))) dM))) (dC (.int 26))) [.shr d,.shr (.str LET),.shr (.int c),.shr (.int w)]) (ds:=sj 0 (Int.toNat (1+r % 8))) (by
  intro d hm;obtain ⟨j,hj,rfl⟩:=Aa hm;obtain ⟨q,eq,q0,q1⟩:=lP c (w:=w+5 * (j:Int)) (by omega) (by omega);obtain ⟨z,ez,lz⟩:=EA (k:=q % 26) (Yq _ (by decide)) (Yg _ (by decide))
  exact ⟨z,by walk_at "ee",lz⟩)
 rw [tm] at lts;have ne:ts≠[]:=λ z=>by rw [z] at lts; simp at lts; omega
 obtain ⟨jl,jo⟩:=BS ots ne
 have nk:eP (Txt.join "" ts)=true:=by
  unfold eP;have l1:1<=(Txt.join "" ts).length:=by omega
  have l2:(Txt.join "" ts).length<=8:=by omega
  have jo':(Txt.join "" ts).cps.toList.all lower=true:=by
   unfold okS at jo;rw [Array.all_toList];exact jo
  rw [Zs (show (1:Int)<=((Txt.join "" ts).length:Int) by omega),Zs (show ((Txt.join "" ts).length:Int)<=8 by omega),jo'];rfl
 refine ⟨Txt.join "" ts,?_,nk⟩;unfold gG gD;dsimp only;refine eE ?_
 show jh _ _ [.shr (.int c),.shr (.int w),.no,.no]=_;refine bQ (gc (d:=.str LET) e_c) ?_
 refine bQ (gc (d:=.int (1+r % 8)) (by walk_at "ee")) ?_
 exact iB (Fb e_c (qg (EO (j:=1+r % 8) rfl (by omega)) (by rw [tm]; omega) ets) (by rw [pB ots,show Str.length ""=0 by decide +kernel]; omega))
theorem hZ {z:Str} (h:eP z=true):fC [.str z]=some (.shr .non):=by
 have l:z.length<=100:=by
  unfold eP at h;rw [Yr,Yr] at h;have:=of_decide_eq_true h.1.2;omega
 have e:=u4 z l;rw [h] at e;unfold fC fj;dsimp only;exact GU (CA (b:=false) (fT (b:=true) (ba (dA (ah (ag rfl) ay) e rfl))) nofun λ _=>rfl)
theorem kI (ns:List Int):sk [.lst (ns.map .int)]=some (.int (ns.length:Int)):=by
 show some (D.int ((ns.map D.int).length:Nat))=_;rw [Za]
theorem f6 {ns:List Int} {p:Int} (h0:0<=p) (h1:p<=ns.length):d7 [.int p,.lst (ns.map .int)]=some (.shr .non):=by
 have hl:=kI ns;have e1:oLe (.int 0) (.int p)=some (.bl true):=by show some (D.bl (decide _))=_; rw [Zs h0]
 have e2:oLe (.int p) (.int (ns.length:Int))=some (.bl true):=by show some (D.bl (decide _))=_; rw [Zs h1]
 unfold d7 d5;dsimp only;exact GU (CA (b:=false) (fT (b:=true) (ba (j5 (aK e_c (ag rfl) e1) (aK (ag rfl) (bo (ah (ag rfl) ay) hl) e2)))) nofun λ _=>rfl)
theorem gK (i:Int):fD [.int i]=some (.shr (.bl true)):=rfl
theorem f9 (ns:List Int) (hl:ns.length < 1000):cz [.lst (ns.map .int),.lst (ns.map .int)]=some (.shr (.bl true)):=by
 have hn:=kI ns;have e0:oNe (.int (ns.length:Int)) (.int (ns.length:Int))=some (.bl false):=by rw [iE,Zs rfl]; rfl
 obtain ⟨τ',e,s2,rfl⟩:=B6 (τ:=[.shr (.lst (ns.map .int)),.shr (.lst (ns.map .int)),.no]) (f:=sIf (dOr (wm (dT (dFn fD (aI (dOp oIx (aF 0) (aF 2)) dM)))) (dT (dOp oNe (dOp oIx (aF 0) (aF 2)) (dOp oIx (aF 1) (aF 2))))) (Dn (dC (.bl false))) mC) (gg:=gN 2) (it:=mZ (aI (gA sk (aI (aF 1) dM)) dM)) (ds:=sj 0 ns.length)
  (λ j τ=>∃ s2,τ=[.shr (.lst (ns.map .int)),.shr (.lst (ns.map .int)),s2]) ((EO (j:=(ns.length:Int)) (ah (bo (ah (ag rfl) ay) hn) ay) (by omega)).trans (by rw [Int.toNat_natCast])) ⟨.no,rfl⟩ (λ j d τ hd ⟨s2,e⟩=>by
    subst e;obtain ⟨e,l⟩:=tp hd;rw [Int.zero_add] at e;subst e
    have hx:oIx (.lst (ns.map .int)) (.int (j:Int))=some (.int ns[j]):=by
     obtain ⟨h,e⟩:=nJ (xs:=ns.map D.int) (j:=(j:Int)) (by omega) (by rw [Za]; omega);show atI (ns.map D.int) _=_;rw [e];simp
    have e1:oNe (.int ns[j]) (.int ns[j])=some (.bl false):=by rw [iE,Zs rfl]; rfl
    exact ⟨_,[.shr (.lst (ns.map .int)),.shr (.lst (ns.map .int)),.shr (.int (j:Int))],rfl,CA (b:=false) (Fp (b:=false) (fT (b:=true) (ba (dA (ah (aK (ag rfl) (ag rfl) hx) ay) (gK _) rfl))) (λ _=>ba (aK (aK (ag rfl) (ag rfl) hx) (aK (ag rfl) (ag rfl) hx) e1)) nofun) nofun λ _=>rfl,_,rfl⟩)
 unfold cz dk;dsimp only;exact eE (jz (Fp (b:=false) (fT (b:=true) rfl) (λ _=>ba (aK (bo (ah (ag rfl) ay) hn) (bo (ah (ag rfl) ay) hn) e0)) nofun) (bQ e (iB e_c)))
end N12
end
section
namespace N12
open PySem L2
structure B8 where
 i:Int
 h:Option Int
 n:Str
 r:List Int
def kv {β:Type} (g:B8->β) (M:List B8):List (Key×β):=M.map λ b=>((.inl b.i:Key),g b)
def fd (M:List B8) (i:Int):Option B8:=M.find? λ b=>decide (b.i=i)
theorem ee {M:List B8} {i:Int} {b:B8} (h:fd M i=some b):b.i=i:=by simpa using List.find?_some h
theorem aG {M:List B8} {i:Int} {b:B8} (h:fd M i=some b):b ∈ M:=List.mem_of_find?_eq_some h
theorem pk (g:B8->D) (M:List B8) (i:Int):jf (kv g M) (.inl i)=(fd M i).map g:=by
 unfold jf kv fd
 induction M with
 | nil=>rfl
 | cons b M ih =>
  rw [Zg,List.find?_cons,List.find?_cons]
  by_cases h:b.i=i
  · simp [h]
  ·have:decide ((Sum.inl b.i:Key)=Sum.inl i)=false:=Zq λ z=>h (by injection z)
   rw [Zq h,this];exact ih
def hD:Option Int->D
 | none=>.non
 | some j=>.int j
def trF (gv:Int) (M:List B8):List (Str×D):=[("given",.int gv),("names",.dct (kv (λ b=>.str b.n) M)),("holders",.dct (kv (λ b=>hD b.h) M)),("boxes",.dct (kv (λ b=>.lst (b.r.map .int)) M)),("marks",.dct (kv (λ _=>.dct []) M)),("words",.dct (kv (λ _=>.lst []) M)),("rows",.dct (kv (λ _=>.tup []) M))]
def trD (C:Addr) (gv:Int) (M:List B8):D:=.obj C (trF gv M)
def faD (M:List B8):D:=.dct (kv (λ b=>.tup [hD b.h,.str b.n]) M)
theorem bC {g:B8->D} {M:List B8} {i:Int} {b:B8} (h:fd M i=some b):bW (.dct (kv g M)) (.int i)=some (g b):=by
 show jf (kv g M) (.inl i)=_;rw [pk,h];rfl
theorem vq {g:B8->D} {M:List B8} {i:Int} {b:B8} (h:fd M i=some b):iF (.int i) (.dct (kv g M))=some (.bl false):=by
 show some (D.bl (!(jf (kv g M) (.inl i)).isSome))=_;rw [pk,h];rfl
section
variable {t:Adr} {gv:Int} {M:List B8} {i:Int} {b:B8} {z:Int}
theorem fN:(trF gv M).lookup (Str.ofString "names")=some (D.dct (kv (λ b=>.str b.n) M)):=rfl
theorem fH:(trF gv M).lookup (Str.ofString "holders")=some (D.dct (kv (λ b=>hD b.h) M)):=rfl
theorem fB:(trF gv M).lookup (Str.ofString "boxes")=some (D.dct (kv (λ b=>.lst (b.r.map .int)) M)):=rfl
theorem h9 (h:fd M i=some b):dv t [trD t.af gv M,.int i]=some (.shr .non):=by
 have e1:=vq (g:=λ b=>.str b.n) h;unfold dv fw;dsimp only;exact GU (CA (b:=false) (ba (aK (ag rfl) (j4 (ag rfl) fN) e1)) nofun λ _=>rfl)
theorem chk (h:fd M i=some b):sX (j8 t.af "check" (dv t) (aF 0) (aI (aF 1) dM)) [.shr (trD t.af gv M),.shr (.int i)]=some (.next [.shr (trD t.af gv M),.shr (.int i)]) :=
 Dm (dJ (ag rfl) (ah (ag rfl) ay) rfl (h9 h) rfl)
theorem jZ (h:fd M i=some b):bA t [trD t.af gv M,.int i]=some (.shr (hD b.h)):=by
 unfold bA cT;dsimp only;exact eE (bQ (chk h) (iB (aK (j4 (ag rfl) fH) (ag rfl) (bC h))))
theorem js (h:fd M i=some b):a6 t [trD t.af gv M,.int i]=some (.own (.lst (b.r.map .int))):=by
 unfold a6 dq;dsimp only;exact eE (bQ (chk h) (yP (bo (ah (aK (j4 (ag rfl) fB) (ag rfl) (bC h)) ay) rfl)))
inductive Ch (M:List B8):Int->Nat->Prop where
 | top {i:Int} {b:B8} (h:fd M i=some b) (e:b.h=none):Ch M i 0
 | up {i j:Int} {n:Nat} {b:B8} (h:fd M i=some b) (e:b.h=some j) (c:Ch M j n):Ch M i (n+1)
theorem Ch.get {n:Nat} (h:Ch M i n):∃ b,fd M i=some b:=by
 cases h with
 | top h _=>exact ⟨_,h⟩
 | up h _ _=>exact ⟨_,h⟩
theorem vw {n:Nat} (c:Ch M i n):∀ (m:Int),∃ x,bD (dT (dOp kG (dOp oIx (dOp bW (aF 0) (aF 1)) (dC (.int 0))) (dC .non))) (jh (si 1 (dOp oIx (dOp bW (aF 0) (aF 1)) (dC (.int 0)))) (si 2 (dOp mM (aF 2) (dC (.int 1))))) (n+1) [.shr (faD M),.shr (.int i),.shr (.int m)]=some (.next [.shr (faD M),.shr x,.shr (.int (m+n))]):=by
 induction c with
 | @top i b h e =>
  intro m;have e1:bW (faD M) (.int i)=some (.tup [hD b.h,.str b.n]):=bC h
  have t1:dT (dOp kG (dOp oIx (dOp bW (aF 0) (aF 1)) (dC (.int 0))) (dC .non)) [.shr (faD M),.shr (.int i),.shr (.int m)]=some false:=by
   rw [e] at e1;exact ba (aK (aK (aK (ag rfl) (ag rfl) e1) e_c (eJ _ _)) e_c rfl)
  refine ⟨.int i,?_⟩;unfold bD;rw [t1];simp only [Int.natCast_zero,Int.add_zero]
 | @up i j n b h e c ih =>
  intro m;have e1:bW (faD M) (.int i)=some (.tup [hD b.h,.str b.n]):=bC h;rw [e] at e1;have t1:dT (dOp kG (dOp oIx (dOp bW (aF 0) (aF 1)) (dC (.int 0))) (dC .non)) [.shr (faD M),.shr (.int i),.shr (.int m)]=some true:=ba (aK (aK (aK (ag rfl) (ag rfl) e1) e_c (eJ _ _)) e_c rfl)
  have t2:jh (si 1 (dOp oIx (dOp bW (aF 0) (aF 1)) (dC (.int 0)))) (si 2 (dOp mM (aF 2) (dC (.int 1)))) [.shr (faD M),.shr (.int i),.shr (.int m)]=some (.next [.shr (faD M),.shr (.int j),.shr (.int (m+1))]) :=
   bQ (τ':=[.shr (faD M),.shr (.int j),.shr (.int m)]) ((gc (aK (aK (ag rfl) (ag rfl) e1) e_c (eJ _ _))).trans rfl) ((gc (aK (ag rfl) e_c (aO _ _))).trans rfl)
  obtain ⟨x,hx⟩:=ih (m+1);refine ⟨x,?_⟩
  conv=>lhs; unfold bD
  rw [t1];simp only [t2];rw [hx];simp only [Int.natCast_add,Int.natCast_one,show m+1+(n:Int)=m+((n:Int)+1) by omega]
theorem j6 {n:Nat} (c:Ch M i n):cF [faD M,.int i]=some (.shr (.int (n:Int))):=by
 obtain ⟨x,hx⟩:=vw c 0;have w:=gL hx;unfold cF gE;dsimp only;refine eE (bQ (τ':=[.shr (faD M),.shr (.int i),.shr (.int 0)]) rfl (bQ w (iB ?_)));rw [Int.zero_add];exact ag rfl
theorem m5 {n:Nat} (c:Ch M i n):∀ (ds:List D) (b:B8),fd M i=some b->ds.length+n < 100000->∃ es:List D,es.length=ds.length+n/\bD (dT (dOp kG (aF 3) (dC .non))) (jh (yR 2 (aF 3)) (si 3 (j8 t.af "holder_of" (bA t) (aF 0) (aI (aF 3) dM)))) (n+1) [.shr (trD t.af gv M),.shr (.int z),.own (.lst ds),.shr (hD b.h)]=some (.next [.shr (trD t.af gv M),.shr (.int z),.own (.lst es),.shr .non]):=by
 induction c with
 | @top i b h e =>
  intro ds b' hb hz;rw [h] at hb;cases hb;refine ⟨ds,rfl,?_⟩;rw [e];have t1:dT (dOp kG (aF 3) (dC .non)) [.shr (trD t.af gv M),.shr (.int z),.own (.lst ds),.shr (hD none)]=some false:=rfl;unfold bD;rw [t1];rfl
 | @up i j n b h e c ih =>
  intro ds b' hb hz;rw [h] at hb;cases hb;obtain ⟨bj,hj⟩:=c.get;obtain ⟨es,l,hx⟩:=ih (ds++[.int j]) bj hj (by rw [Z1]; show ds.length+1+n < _; omega);refine ⟨es,by rw [l,Z1]; show ds.length+1+n=_; omega,?_⟩;rw [e];have t1:dT (dOp kG (aF 3) (dC .non)) [.shr (trD t.af gv M),.shr (.int z),.own (.lst ds),.shr (hD (some j))]=some true:=rfl
  have t2:jh (yR 2 (aF 3)) (si 3 (j8 t.af "holder_of" (bA t) (aF 0) (aI (aF 3) dM))) [.shr (trD t.af gv M),.shr (.int z),.own (.lst ds),.shr (hD (some j))]=some (.next [.shr (trD t.af gv M),.shr (.int z),.own (.lst (ds++[.int j])),.shr (hD bj.h)]) :=
   bQ (τ':=[.shr (trD t.af gv M),.shr (.int z),.own (.lst (ds++[.int j])),.shr (.int j)]) ((z5 (ag rfl) rfl (by omega)).trans rfl) ((gc (dJ (ag rfl) (ah (ag rfl) ay) rfl (jZ hj) rfl)).trans rfl)
  conv=>lhs; unfold bD
  rw [t1];simp only [t2];exact hx
theorem hU {n:Nat} (c:Ch M i n) (hn:n < 1000):iR t [trD t.af gv M,.int i]=some (.shr (.int (n:Int))):=by
 obtain ⟨b,h⟩:=c.get;obtain ⟨es,l,hx⟩:=m5 (t:=t) (z:=i) c [] b h (by rw [Xa]; omega);have w:=gL hx
 have e1:fA t [trD t.af gv M,.int i]=some (.own (.lst es)):=by
  unfold fA fi;dsimp only;exact eE (bQ (jA (gz ay (Z3 _)) (Zb rfl)) (bQ ((gc (dJ (ag rfl) (ah (ag rfl) ay) rfl (jZ h) rfl)).trans rfl) (bQ w (sP rfl))))
 unfold iR iM;dsimp only;refine eE (iB (bo (ah (dA (ah (ag rfl) (ah (ag rfl) ay)) e1 rfl) ay) ?_));show some (D.int (es.length:Int))=_;rw [l,Xa,Nat.zero_add]
end
end N12
end
section
namespace N12
open PySem L2
def trG (C:Addr) (g nm ho bx mk wd rw:Mt):Mt:=.n (.o C) [(.inr "given",g),(.inr "names",nm),(.inr "holders",ho),(.inr "boxes",bx),(.inr "marks",mk),(.inr "words",wd),(.inr "rows",rw)]
def kM (g:B8->Mt) (M:List B8):Mt:=.n .d (kv g M)
def bxM (M:List B8):Mt:=kM (λ b=>lM (b.r.map .int)) M
def trM (C:Addr) (gv:Int) (M:List B8):Mt:=trG C (.s (.int gv)) (kM (λ b=>.s (.str b.n)) M) (kM (λ b=>.s (hD b.h)) M) (bxM M) (kM (λ _=>.n .d []) M) (kM (λ _=>lM []) M) (kM (λ _=>.s (.tup [])) M)
def faM (M:List B8):Mt:=kM (λ b=>.s (.tup [hD b.h,.str b.n])) M
theorem B4 (g:B8->Mt) (M:List B8):frz (kM g M)=.dct (kv (λ b=>frz (g b)) M):=by
 unfold kM kv;rw [frz,lV,Zy];rfl
theorem EY (d:D):frz (.s d)=d:=by rw [frz]
theorem g8 (ns:List D):frz (lM ns)=.lst ns:=by
 unfold lM;rw [frz,pY,Zy];congr 1;exact (Z0 (g:=id) λ d _=>by show frz (.s d)=id d; rw [frz]; rfl).trans (List.map_id _)
theorem EZ:frz (.n .d [])=.dct []:=by rw [frz,yj]
theorem k7 (C:Addr) (gv:Int) (M:List B8):frz (trM C gv M)=trD C gv M:=by
 unfold trM trG bxM;rw [frz];simp only [pZ,Zg,Xg,B4,EY,g8,EZ,strOf];rfl
theorem gZ (M:List B8):frz (bxM M)=.dct (kv (λ b=>.lst (b.r.map .int)) M):=by
 unfold bxM;rw [B4];simp only [g8]
theorem iY (M:List B8):frz (faM M)=faD M:=by
 unfold faM faD;rw [B4];simp only [EY]
theorem qF {C:Addr} {g nm ho bx mk wd rw x:Mt}:(trG C g nm ho bx mk wd rw).put [.k (.inr "boxes")] x=trG C g nm ho x mk wd rw:=by
 show Mt.n (.o C) [(.inr "given",g),(.inr "names",nm),(.inr "holders",ho),(.inr "boxes",bx.put [] x),(.inr "marks",mk),(.inr "words",wd),(.inr "rows",rw)]=_;cases bx <;> rfl
theorem nR {C:Addr} {g nm ho bx mk wd rw:Mt} {k:Key}:(trG C g nm ho bx mk wd rw).get [.k (.inr "boxes"),.k k]=bx.get [.k k]:=rfl
theorem f7 {C:Addr} {g nm ho bx mk wd rw x:Mt} {k:Key}:(trG C g nm ho bx mk wd rw).put [.k (.inr "boxes"),.k k] x=trG C g nm ho (bx.put [.k k] x) mk wd rw:=rfl
theorem k6 (g:B8->Mt) (M:List B8) (i:Int):(kM g M).get [.k (.inl i)]=(fd M i).map g:=by
 unfold kM;rw [yu];unfold kv fd
 induction M with
 | nil=>rfl
 | cons b M ih =>
  rw [Zg,List.find?_cons,List.find?_cons]
  by_cases h:b.i=i
  · simp [h]
  ·have:decide ((Sum.inl b.i:Key)=Sum.inl i)=false:=Zq λ z=>h (by injection z)
   rw [Zq h,this];exact ih
end N12
end
section
namespace N12
open PySem L2
theorem tG {C:Addr} {g ho bx mk wd rw mv:Mt} {cs:List (Key×Mt)} {b:Bool} {r:List Sm} {gk:DE} {fv:DEm} {s:Sm} {d:D} {k:Key} (h1:fv (.mu b (trG C g (.n .d cs) ho bx mk wd rw)::r)=some (s,.mu b (trG C g (.n .d cs) ho bx mk wd rw)::r)) (h3:gk (aL (.mu b (trG C g (.n .d cs) ho bx mk wd rw)::r))=some d) (h4:dQ d=some k) (h5:toM s=some mv) (h7:cs.length < 100000) :
  cA (gm C "names" (bS 0)) gk fv (.mu b (trG C g (.n .d cs) ho bx mk wd rw)::r)=some (.next (.mu b (trG C g (.n .d (fU cs k mv)) ho bx mk wd rw)::r)):=by
 refine (eX h1 (kE bJ rfl) h3 h4 h5 rfl h7).trans ?_
 rfl
theorem jE {C:Addr} {g nm bx mk wd rw mv:Mt} {cs:List (Key×Mt)} {b:Bool} {r:List Sm} {gk:DE} {fv:DEm} {s:Sm} {d:D} {k:Key} (h1:fv (.mu b (trG C g nm (.n .d cs) bx mk wd rw)::r)=some (s,.mu b (trG C g nm (.n .d cs) bx mk wd rw)::r)) (h3:gk (aL (.mu b (trG C g nm (.n .d cs) bx mk wd rw)::r))=some d) (h4:dQ d=some k) (h5:toM s=some mv) (h7:cs.length < 100000) :
  cA (gm C "holders" (bS 0)) gk fv (.mu b (trG C g nm (.n .d cs) bx mk wd rw)::r)=some (.next (.mu b (trG C g nm (.n .d (fU cs k mv)) bx mk wd rw)::r)):=by
 refine (eX h1 (kE bJ rfl) h3 h4 h5 rfl h7).trans ?_
 rfl
theorem tJ {C:Addr} {g nm ho mk wd rw mv:Mt} {cs:List (Key×Mt)} {b:Bool} {r:List Sm} {gk:DE} {fv:DEm} {s:Sm} {d:D} {k:Key} (h1:fv (.mu b (trG C g nm ho (.n .d cs) mk wd rw)::r)=some (s,.mu b (trG C g nm ho (.n .d cs) mk wd rw)::r)) (h3:gk (aL (.mu b (trG C g nm ho (.n .d cs) mk wd rw)::r))=some d) (h4:dQ d=some k) (h5:toM s=some mv) (h7:cs.length < 100000) :
  cA (gm C "boxes" (bS 0)) gk fv (.mu b (trG C g nm ho (.n .d cs) mk wd rw)::r)=some (.next (.mu b (trG C g nm ho (.n .d (fU cs k mv)) mk wd rw)::r)):=by
 refine (eX h1 (kE bJ rfl) h3 h4 h5 rfl h7).trans ?_
 rfl
theorem tH {C:Addr} {g nm ho bx wd rw mv:Mt} {cs:List (Key×Mt)} {b:Bool} {r:List Sm} {gk:DE} {fv:DEm} {s:Sm} {d:D} {k:Key} (h1:fv (.mu b (trG C g nm ho bx (.n .d cs) wd rw)::r)=some (s,.mu b (trG C g nm ho bx (.n .d cs) wd rw)::r)) (h3:gk (aL (.mu b (trG C g nm ho bx (.n .d cs) wd rw)::r))=some d) (h4:dQ d=some k) (h5:toM s=some mv) (h7:cs.length < 100000) :
  cA (gm C "marks" (bS 0)) gk fv (.mu b (trG C g nm ho bx (.n .d cs) wd rw)::r)=some (.next (.mu b (trG C g nm ho bx (.n .d (fU cs k mv)) wd rw)::r)):=by
 refine (eX h1 (kE bJ rfl) h3 h4 h5 rfl h7).trans ?_
 rfl
theorem tD {C:Addr} {g nm ho bx mk rw mv:Mt} {cs:List (Key×Mt)} {b:Bool} {r:List Sm} {gk:DE} {fv:DEm} {s:Sm} {d:D} {k:Key} (h1:fv (.mu b (trG C g nm ho bx mk (.n .d cs) rw)::r)=some (s,.mu b (trG C g nm ho bx mk (.n .d cs) rw)::r)) (h3:gk (aL (.mu b (trG C g nm ho bx mk (.n .d cs) rw)::r))=some d) (h4:dQ d=some k) (h5:toM s=some mv) (h7:cs.length < 100000) :
  cA (gm C "words" (bS 0)) gk fv (.mu b (trG C g nm ho bx mk (.n .d cs) rw)::r)=some (.next (.mu b (trG C g nm ho bx mk (.n .d (fU cs k mv)) rw)::r)):=by
 refine (eX h1 (kE bJ rfl) h3 h4 h5 rfl h7).trans ?_
 rfl
theorem wJ {C:Addr} {g nm ho bx mk wd mv:Mt} {cs:List (Key×Mt)} {b:Bool} {r:List Sm} {gk:DE} {fv:DEm} {s:Sm} {d:D} {k:Key} (h1:fv (.mu b (trG C g nm ho bx mk wd (.n .d cs))::r)=some (s,.mu b (trG C g nm ho bx mk wd (.n .d cs))::r)) (h3:gk (aL (.mu b (trG C g nm ho bx mk wd (.n .d cs))::r))=some d) (h4:dQ d=some k) (h5:toM s=some mv) (h7:cs.length < 100000) :
  cA (gm C "rows" (bS 0)) gk fv (.mu b (trG C g nm ho bx mk wd (.n .d cs))::r)=some (.next (.mu b (trG C g nm ho bx mk wd (.n .d (fU cs k mv)))::r)):=by
 refine (eX h1 (kE bJ rfl) h3 h4 h5 rfl h7).trans ?_
 rfl
theorem vh {C:Addr} {g nm ho bx mk wd rw mv:Mt} {b:Bool} {r:List Sm} {fv:DEm} {s:Sm} (h1:fv (.mu b (trG C g nm ho bx mk wd rw)::r)=some (s,.mu b (trG C g nm ho bx mk wd rw)::r)) (h5:toM s=some mv) :
  qK C "given" (bS 0) fv (.mu b (trG C g nm ho bx mk wd rw)::r)=some (.next (.mu b (trG C mv nm ho bx mk wd rw)::r)):=by
 refine (Eu h1 bJ h5 rfl (Zb rfl)).trans ?_
 rfl
def Nd (M:List B8):Prop:=(M.map B8.i).Nodup
theorem fd_none {M:List B8} {i:Int}:fd M i=none↔∀ b ∈ M,b.i≠i:=by
 unfold fd;rw [List.find?_eq_none];exact ⟨λ h b hb e=>h b hb (by simp [e]),λ h b hb e=>h b hb (by simpa using e)⟩
theorem iH {M:List B8} (nd:Nd M) {b:B8} (hb:b ∈ M):fd M b.i=some b:=by
 unfold Nd at nd;unfold fd
 induction M with
 | nil=>cases hb
 | cons c M ih =>
  rw [Zg,Zt] at nd;rw [List.find?_cons];rcases Zh.mp hb with rfl | hb
  · simp
  ·have ne:c.i≠b.i:=λ e=>nd.1 (by rw [e]; exact Yb hb)
   rw [Zq ne];exact ih nd.2 hb
theorem qw {β:Type} (g:B8->β) (M:List B8) (i:Int):((kv g M).any λ c=>decide (c.1=.inl i))=(fd M i).isSome:=by
 unfold kv fd;rw [List.any_map,<- List.isSome_find?];congr 2
 funext b
 show decide ((Sum.inl b.i:Key)=Sum.inl i)=decide (b.i=i);exact Y7.mpr ⟨λ z=>by injection z,λ z=>by rw [z]⟩
theorem wL {g:B8->Mt} {M:List B8} {i:Int} {m:Mt} (h:fd M i=none):fU (kv g M) (.inl i) m=kv g M++[(.inl i,m)]:=by
 unfold fU;rw [qw,h];rfl
theorem BR {β:Type} (g:B8->β) (M:List B8) (b:B8):kv g (M++[b])=kv g M++[(.inl b.i,g b)]:=by
 unfold kv;rw [Zo];rfl
theorem jF {g:B8->Mt} {M:List B8} {b:B8} (h:fd M b.i=none):fU (kv g M) (.inl b.i) (g b)=kv g (M++[b]):=by rw [wL h,BR]
theorem fZ {β:Type} (g:B8->β) (M:List B8):(kv g M).length=M.length:=Za _
theorem vp (g:B8->Mt) (M:List B8) (i:Int):dB (kv g M) (.inl i)=kv g (M.filter λ b=>decide (b.i≠i)):=by
 unfold dB kv;rw [Xn];congr 2
 funext b
 show decide ((Sum.inl b.i:Key)≠Sum.inl i)=decide (b.i≠i);exact Y7.mpr (not_congr ⟨λ z=>by injection z,λ z=>by rw [z]⟩)
def upR (M:List B8) (i:Int) (r:List Int):List B8:=M.map λ b=>if b.i=i then { b with r:=r } else b
theorem sv {β:Type} (g:B8->β) (M:List B8) (i:Int) (r:List Int) (hg:∀ b:B8,g { b with r:=r }=g b):kv g (upR M i r)=kv g M:=by
 unfold kv upR;rw [Zy];refine Z0 λ b _=>?_
 show ((Sum.inl (if b.i=i then { b with r:=r } else b).i:Key),g (if b.i=i then { b with r:=r } else b))=_;split
 · rw [hg]
 · rfl
theorem kR {M:List B8} {i:Int} {b:B8} {r:List Int} (nd:Nd M) (h:fd M i=some b):(bxM M).put [.k (.inl i)] (lM (r.map .int))=bxM (upR M i r):=by
 unfold bxM kM;have hb:=aG h;have hi:=ee h;obtain ⟨l1,l2,rfl⟩:=List.append_of_mem hb;have nd':=nd;unfold Nd at nd';rw [Zo,Zg,Ye,Zt] at nd';have n1:∀ c ∈ l1,c.i≠i:=λ c hc e=>nd'.2.2 c.i (Yb hc) b.i (Ze ..) (by rw [e,hi])
 have n2:∀ c ∈ l2,c.i≠i:=λ c hc e=>nd'.2.1.1 (by rw [hi,<- e]; exact Yb hc)
 have ix:((kv (λ b=>lM (b.r.map .int)) (l1++b::l2)).findIdx? λ c=>decide (c.1=.inl i))=some l1.length:=by
  unfold kv;rw [List.findIdx?_map,List.findIdx?_append]
  have e1:(l1.findIdx? ((λ c:Key×Mt=>decide (c.1=Sum.inl i)) ∘ λ b=>((.inl b.i:Key),lM (b.r.map .int))))=none:=by
   rw [List.findIdx?_eq_none_iff];intro c hc;exact Zq λ z=>n1 c hc (by injection z)
  rw [e1,List.findIdx?_cons];have e2:((λ c:Key×Mt=>decide (c.1=Sum.inl i)) ∘ λ b:B8=>((.inl b.i:Key),lM (b.r.map .int))) b=true:=Zs (by show (Sum.inl b.i:Key)=Sum.inl i; rw [hi]);rw [e2];simp
 have gx:(kv (λ b=>lM (b.r.map .int)) (l1++b::l2))[l1.length]?=some ((.inl b.i:Key),lM (b.r.map .int)):=by
  unfold kv;rw [List.getElem?_map,List.getElem?_append_right (Zl _),Nat.sub_self];rfl
 show (match (kv (λ b=>lM (b.r.map .int)) (l1++b::l2)).findIdx? (λ c=>decide (c.1=.inl i)) with | none=>Mt.n .d (kv (λ b=>lM (b.r.map .int)) (l1++b::l2)) | some j=>match (kv (λ b=>lM (b.r.map .int)) (l1++b::l2))[j]? with | none=>Mt.n .d (kv (λ b=>lM (b.r.map .int)) (l1++b::l2)) | some c=>.n .d ((kv (λ b=>lM (b.r.map .int)) (l1++b::l2)).set j (c.1,Mt.put c.2 [] (lM (r.map .int)))))=_;simp only [ix,gx];congr 1;unfold kv upR;rw [Zo,Zg,Zo,Zg,Zo,Zg,List.set_append_right _ _ (by rw [Za]; exact Zl _),Za,Nat.sub_self];congr 1
 ·rw [Zy]
  refine Z0 λ c hc=>?_
  show _=((Sum.inl (if c.i=i then { c with r:=r } else c).i:Key),lM ((if c.i=i then { c with r:=r } else c).r.map .int));rw [if_neg (n1 c hc)]
 ·show (_,Mt.put (lM (b.r.map .int)) [] (lM (r.map .int)))::_=_
  rw [if_pos hi];congr 1;rw [Zy];refine Z0 λ c hc=>?_
  show _=((Sum.inl (if c.i=i then { c with r:=r } else c).i:Key),lM ((if c.i=i then { c with r:=r } else c).r.map .int));rw [if_neg (n2 c hc)]
end N12
end
section
namespace N12
open PySem L2
section
variable {t:Adr} {gv:Int} {M:List B8} {nm:Str} {h:Option Int}
theorem iz {C:Addr} {b:Bool} {r:List Sm}:aL (.mu b (trM C gv M)::r)=.shr (trD C gv M)::aL r:=by
 show De (.mu b (trM C gv M))::_=_;show Sl.shr (frz (trM C gv M))::_=_;rw [k7]
theorem qf (hl:M.length < 1000) (hf:fd M gv=none):fE t [.mu true (trM t.af gv M),.shr (hD h),.shr (.str nm)]=some (.shr (.int gv),[.mu true (trM t.af (gv+1) (M++[⟨gv,h,nm,[]⟩])),.no,.no]):=by
 unfold fE fu;dsimp only;refine (eD (s:=.shr (.int gv)) (τ:=[.mu true (trM t.af (gv+1) (M++[⟨gv,h,nm,[]⟩])),.shr (hD h),.shr (.str nm),.shr (.int gv)]) ?_).trans rfl;have hz:∀ g:B8->Mt,(kv g M).length < 100000:=λ g=>by rw [fZ]; omega
 refine aE (τ':=[.mu true (trM t.af gv M),.shr (hD h),.shr (.str nm),.shr (.int gv)]) (bO (s:=.shr (.int gv)) (v_S ?_ rfl) (Zb rfl) rfl) ?_
 ·show dUn (xR t.af "given") (aF 0) (aL (.mu true (trM t.af gv M)::[.shr (hD h),.shr (.str nm),.no]))=_
  rw [iz];exact j4 (ag rfl) rfl
 refine aE (vh (mv:=.s (.int (gv+1))) (v_N (aK (ag rfl) e_c (aO _ _))) rfl) ?_
 refine aE (tG (v_N (ag rfl)) (ag rfl) rfl rfl (hz _)) ?_
 refine aE (jE (v_N (ag rfl)) (ag rfl) rfl rfl (hz _)) ?_
 refine aE (tJ (v_O (gz ay (Z3 _)) rfl) (ag rfl) rfl rfl (hz _)) ?_
 refine aE (tH rfl (ag rfl) rfl rfl (hz _)) ?_
 refine aE (tD (v_O (gz ay (Z3 _)) rfl) (ag rfl) rfl rfl (hz _)) ?_
 refine aE (wJ (v_N (rM ay (Z3 _))) (ag rfl) rfl rfl (hz _)) ?_
 refine (ou (v_N (ag rfl))).trans ?_
 have sn:∀ g:B8->Mt,fU (kv g M) (.inl gv) (g ⟨gv,h,nm,[]⟩)=kv g (M++[⟨gv,h,nm,[]⟩]):=λ g=>jF (b:=⟨gv,h,nm,[]⟩) hf
 unfold trM bxM kM;rw [<- sn,<- sn,<- sn,<- sn,<- sn,<- sn];rfl
theorem gy {C:Addr} {x:Str} {cs:List (Key×Mt)} {mv:Mt} {b:Bool} {r:List Sm} {fv:DEm} {s:Sm} (h1:fv (.mu b (.n (.o C) cs)::r)=some (s,.mu b (.n (.o C) cs)::r)) (h5:toM s=some mv) (h7:cs.length < 1000) :
 qK C x (bS 0) fv (.mu b (.n (.o C) cs)::r)=some (.next (.mu b (.n (.o C) (fU cs (.inr x) mv))::r)):=(Eu h1 bJ h5 rfl h7).trans rfl
theorem B1 (hn:eP nm=true):dt t [.mu true (.n (.o t.af) []),.shr (.str nm)]=some (.shr .non,[.mu true (trM t.af 1 [⟨0,none,nm,[]⟩]),.no]):=by
 unfold dt dr;dsimp only;refine (Dq (τ:=[.mu true (trM t.af 1 [⟨0,none,nm,[]⟩]),.shr (.str nm)]) ?_).trans rfl;refine aE (eW (dA (ah (ag rfl) ay) (hZ hn) rfl)) ?_
 refine aE (gy (v_N e_c) rfl (Zb rfl)) ?_
 refine aE (gy rfl rfl (Zb rfl)) ?_
 refine aE (gy rfl rfl (Zb rfl)) ?_
 refine aE (gy rfl rfl (Zb rfl)) ?_
 refine aE (gy rfl rfl (Zb rfl)) ?_
 refine aE (gy rfl rfl (Zb rfl)) ?_
 refine aE (gy rfl rfl (Zb rfl)) ?_
 have e:=qf (t:=t) (gv:=0) (M:=[]) (nm:=nm) (h:=none) (by decide) rfl;refine zh (s:=.shr (.int 0)) (v_M (C:=t.af) (i:=0) (q:=[]) (ss:=[.mu true (trM t.af 0 []),.shr (hD none),.shr (.str nm)]) bJ rfl rfl (bI (q_N e_c) (bI (q_N (ag rfl)) rfl)) rfl e ?_);rfl
end
end N12
end
section
namespace N12
open PySem L2
def insI (r:List Int) (p x:Int):List Int:=r.take p.toNat++x::r.drop p.toNat
theorem pV (r:List Int) (p x:Int):Mt.n .l (Gh ((r.map D.int).map λ d=>((.inl 0:Key),Mt.s d)) p.toNat (.s (.int x)))=lM ((insI r p x).map .int):=by
 unfold lM insI Gh;rw [Zo,Zo,Zg,Zg,Xj,Xj,Xk,Xk]
theorem E4 {M:List B8} {i:Int} {b c:B8} (h:fd M i=some b):fd (M++[c]) i=some b:=by
 unfold fd at *;rw [List.find?_append,h];rfl
theorem uF {M:List B8} {b:B8} (nd:Nd M) (h:fd M b.i=none):Nd (M++[b]):=by
 unfold Nd at *;rw [Zo,Ye];refine ⟨nd,by simp,λ x hx y hy e=>?_⟩;obtain ⟨c,hc,rfl⟩:=Z5.mp hx;have:y=b.i:=by simpa using hy
 exact fd_none.mp h c hc (by rw [e,this])
theorem B3 {i j:Int} (h:i<=j):oGt (.int i) (.int j)=some (.bl false):=by
 show some (D.bl (decide _))=_;rw [Zq (by omega)]
theorem zk {g:B8->D} (M:List B8):oo [.dct (kv g M)]=some (.int (M.length:Int)):=by
 show some (D.int ((kv g M).length:Nat))=_;rw [fZ]
def fV (M:List B8) (h:Int) (b:B8) (p gv:Int) (nm:Str):List B8:=upR (M++[⟨gv,some h,nm,[]⟩]) h (insI b.r p gv)
theorem pA {C:Addr} {gv:Int} {M:List B8} {i:Int} {r:List Int}:trM C gv (upR M i r)=trG C (.s (.int gv)) (kM (λ b=>.s (.str b.n)) M) (kM (λ b=>.s (hD b.h)) M) (bxM (upR M i r)) (kM (λ _=>.n .d []) M) (kM (λ _=>lM []) M) (kM (λ _=>.s (.tup [])) M):=by
 unfold trM kM;rw [sv _ _ _ _ (λ _=>rfl),sv _ _ _ _ (λ _=>rfl),sv _ _ _ _ (λ _=>rfl),sv _ _ _ _ (λ _=>rfl),sv _ _ _ _ (λ _=>rfl)]
section
variable {t:Adr} {gv:Int} {M:List B8} {nm:Str} {h p:Int} {b:B8} {dp:Nat}
theorem Dz (nd:Nd M) (hf:fd M gv=none) (hb:fd M h=some b) (p0:0<=p) (p1:p<=(b.r.length:Int)) (hz:b.r.length < 1000) (hn:eP nm=true) (h90:M.length < 90) (ch:Ch M h dp) (h12:dp < 12) :
  iS t [.mu true (trM t.af gv M),.shr (.int h),.shr (.int p),.shr (.str nm)]=some (.shr (.int gv),[.mu true (trM t.af (gv+1) (fV M h b p gv nm)),.no,.no,.no]):=by
 unfold iS iP;dsimp only;refine (eD (s:=.shr (.int gv)) (τ:=[.mu true (trM t.af (gv+1) (fV M h b p gv nm)),.shr (.int h),.shr (.int p),.shr (.str nm),.shr (.int gv)]) ?_).trans rfl;have sn:∀ {x:Sm},aL [.mu true (trM t.af gv M),.shr (.int h),.shr (.int p),.shr (.str nm),x]=.shr (trD t.af gv M)::aL [.shr (.int h),.shr (.int p),.shr (.str nm),x]:=iz
 refine aE (eW (τ:=[.mu true (trM t.af gv M),.shr (.int h),.shr (.int p),.shr (.str nm),.no]) (by rw [sn]; exact dJ (ag rfl) (ah (ag rfl) ay) rfl (h9 hb) rfl)) ?_
 refine aE (eW (by rw [sn]; exact dA (ah (ag rfl) (ah (aK (j4 (ag rfl) fB) (ag rfl) (bC hb)) ay)) (f6 p0 p1) rfl)) ?_
 refine aE (eW (by rw [sn]; exact dA (ah (ag rfl) ay) (hZ hn) rfl)) ?_
 refine aE (gU (t_S (by rw [sn]; exact ba (aK (aK (bo (ah (j4 (ag rfl) fN) ay) (zk M)) e_c (aO _ _)) e_c (B3 (by omega))))) rfl) ?_
 refine aE (gU (t_S (by rw [sn]; exact ba (aK (aK (dA (ah (ag rfl) (ah (ag rfl) ay)) (hU ch (by omega)) rfl) e_c (aO _ _)) e_c (B3 (by omega))))) rfl) ?_
 have e:=qf (t:=t) (nm:=nm) (h:=some h) (show M.length < 1000 by omega) hf;refine aE (τ':=[.mu true (trM t.af (gv+1) (M++[⟨gv,some h,nm,[]⟩])),.shr (.int h),.shr (.int p),.shr (.str nm),.shr (.int gv)]) (bO (s:=.shr (.int gv)) (v_M (C:=t.af) (i:=0) (q:=[]) (ss:=[.mu true (trM t.af gv M),.shr (hD (some h)),.shr (.str nm)]) (τ':=[.mu true (trM t.af (gv+1) (M++[⟨gv,some h,nm,[]⟩])),.shr (.int h),.shr (.int p),.shr (.str nm),.no]) bJ rfl rfl (bI (q_N (ag rfl)) (bI (q_N (ag rfl)) rfl)) rfl e rfl) (Zb rfl) rfl) ?_
 have hb1:fd (M++[⟨gv,some h,nm,[]⟩]) h=some b:=E4 hb;have nd1:Nd (M++[⟨gv,some h,nm,[]⟩]):=uF (b:=⟨gv,some h,nm,[]⟩) nd hf
 have hg:aP [.mu true (trM t.af (gv+1) (M++[⟨gv,some h,nm,[]⟩])),.shr (.int h),.shr (.int p),.shr (.str nm),.shr (.int gv)] 0 [.k (.inr "boxes"),.k (.inl h)]=some (lM (b.r.map .int)):=by
  rw [kX rfl];refine nR.trans ?_
  refine (k6 _ _ _).trans ?_
  rw [hb1];rfl
 refine aE (xZ (cs0:=_) (qz (kE bJ rfl) (ag rfl) rfl rfl) hg (ag rfl) (v_N (ag rfl)) rfl hg ⟨p0,by rw [Za,Za]; exact p1,by rw [Za,Za]; omega⟩) ?_
 rw [eU rfl,pV];refine (ou (v_N (ag rfl))).trans ?_
 have ep:(trM t.af (gv+1) (M++[⟨gv,some h,nm,[]⟩])).put [.k (.inr "boxes"),.k (.inl h)] (lM ((insI b.r p gv).map .int))=trM t.af (gv+1) (fV M h b p gv nm):=by
  refine f7.trans ?_
  rw [kR nd1 hb1];unfold fV;rw [pA]
 show some (qy.ret _ (List.set _ 0 (.mu true ((trM t.af (gv+1) (M++[⟨gv,some h,nm,[]⟩])).put [.k (.inr "boxes"),.k (.inl h)] (lM ((insI b.r p gv).map .int))))))=_;rw [ep];rfl
end
end N12
end
section
namespace N12
open PySem L2
structure MOk (gv:Int) (M:List B8):Prop where
 nd:Nd M
 lt:∀ b ∈ M,0<=b.i/\b.i < gv
 root:∃ b,fd M 0=some b/\b.h=none
 hol:∀ b ∈ M,b.i≠0->∃ j p,b.h=some j/\fd M j=some p/\b.i ∈ p.r
 kid:∀ b ∈ M,∀ c ∈ b.r,∃ d,fd M c=some d/\d.h=some b.i
 rnd:∀ b ∈ M,b.r.Nodup
 ch:∀ b ∈ M,∃ n,Ch M b.i n/\n<=12
inductive Anc (M:List B8) (a:Int):Int->Prop where
 | refl:Anc M a a
 | up {x j:Int} {b:B8} (h:fd M x=some b) (e:b.h=some j) (c:Anc M a j):Anc M a x
inductive Sub (M:List B8):List Int->List Int->Prop where
 | nil:Sub M [] []
 | cons {c:Int} {cs l1 l2:List Int} {b:B8} (h:fd M c=some b) (h1:Sub M b.r l1) (h2:Sub M cs l2):Sub M (c::cs) (c::(l1++l2))
section
variable {gv:Int} {M:List B8}
theorem MOk.h0 (m:MOk gv M) {i j:Int} {b:B8} (hb:fd M i=some b) (hj:b.h=some j):i≠0:=λ e=>by
 obtain ⟨r,r1,r2⟩:=m.root;rw [e,r1] at hb;cases hb;rw [r2] at hj;cases hj
theorem MOk.zm (m:MOk gv M) {i c:Int} {b:B8} (hb:fd M i=some b) (hc:c ∈ b.r):∃ d,fd M c=some d/\d.h=some i:=by
 obtain ⟨d,h1,h2⟩:=m.kid b (aG hb) c hc;rw [ee hb] at h2;exact ⟨d,h1,h2⟩
theorem MOk.dp (m:MOk gv M) {i:Int} {b:B8} (hb:fd M i=some b):∃ n,Ch M i n/\n<=12:=by
 have:=m.ch b (aG hb);rw [ee hb] at this;exact this
theorem Ch.uniq {i:Int} {n:Nat} (h:Ch M i n):∀ {k:Nat},Ch M i k->n=k:=by
 induction h with
 | top h e =>
  intro k h'
  cases h' with
  | top _ _=>rfl
  | up h1 e1 _=>rw [h] at h1; cases h1; rw [e] at e1; cases e1
 | up h e c ih =>
  intro k h'
  cases h' with
  | top h1 e1=>rw [h] at h1; cases h1; rw [e] at e1; cases e1
  | up h1 e1 c1 =>
   rw [h] at h1;cases h1;rw [e] at e1;cases e1;rw [ih c1]
theorem Anc.deep {a x:Int} (h:Anc M a x):∀ {n:Nat},Ch M x n->∃ k,Ch M a k/\k<=n/\(k=n->a=x):=by
 induction h with
 | refl=>intro n c; exact ⟨n,c,Zl _,λ _=>rfl⟩
 | up h e c ih =>
  intro n cx
  cases cx with
  | top h1 e1=>rw [h] at h1; cases h1; rw [e] at e1; cases e1
  | up h1 e1 c1 =>
   rw [h] at h1;cases h1;rw [e] at e1;cases e1;obtain ⟨k,k1,k2,_⟩:=ih c1;exact ⟨k,k1,by omega,λ e=>by omega⟩
theorem Anc.trans {a b c:Int} (h1:Anc M a b) (h2:Anc M b c):Anc M a c:=by
 induction h2 with
 | refl=>exact h1
 | up h e _ ih=>exact .up h e ih
theorem Anc.lin {a b x:Int} (h1:Anc M a x) (h2:Anc M b x):Anc M a b\/Anc M b a:=by
 induction h1 with
 | refl=>exact .inr h2
 | @up x j c h e _ ih =>
  cases h2 with
  | refl=>exact .inl (.up h e ‹_›)
  | up h' e' c' =>
   rw [h] at h';cases h';rw [e] at e';cases e';exact ih c'
theorem Sub.app {a b la lb:List Int} (h1:Sub M a la) (h2:Sub M b lb):Sub M (a++b) (la++lb):=by
 induction h1 with
 | nil=>exact h2
 | cons h _ _ ih1 ih2 =>
  have:=Sub.cons h ‹_› ih2;rw [List.cons_append,List.cons_append,List.append_assoc];exact this
theorem Sub.inv {c:Int} {cs l:List Int} (h:Sub M (c::cs) l):∃ b l',fd M c=some b/\l=c::l'/\Sub M (b.r++cs) l':=by
 cases h with
 | cons h h1 h2=>exact ⟨_,_,h,rfl,h1.app h2⟩
theorem Sub.len {s l:List Int} (h:Sub M s l):s.length<=l.length:=by
 induction h with
 | nil=>exact Zl _
 | cons _ _ _ _ ih=>rw [Zx,Zx,Z1]; omega
theorem Sub.roots {s l:List Int} (h:Sub M s l):∀ x ∈ s,x ∈ l:=by
 induction h with
 | nil=>intro x h; cases h
 | cons _ _ _ _ ih =>
  intro x hx;rcases Zh.mp hx with rfl | hx
  · exact Ze ..
  · exact Zc _ (Zd _ (ih x hx))
theorem Sub.mem (m:MOk gv M) {s l:List Int} (h:Sub M s l):∀ x ∈ l,∃ c ∈ s,Anc M c x:=by
 induction h with
 | nil=>intro x h; cases h
 | @cons c cs l1 l2 b h h1 h2 ih1 ih2 =>
  intro x hx;rcases Zh.mp hx with rfl | hx
  · exact ⟨_,Ze ..,.refl⟩
  ·rcases Zi.mp hx with hx | hx
   ·obtain ⟨d,hd,a⟩:=ih1 x hx
    obtain ⟨e,e1,e2⟩:=m.zm h hd;exact ⟨c,Ze ..,(Anc.up e1 e2 .refl).trans a⟩
   ·obtain ⟨d,hd,a⟩:=ih2 x hx
    exact ⟨d,Zc _ hd,a⟩
theorem Sub.in {s l:List Int} (h:Sub M s l):∀ x ∈ l,∃ b,fd M x=some b:=by
 induction h with
 | nil=>intro x h; cases h
 | cons h _ _ ih1 ih2 =>
  intro x hx;rcases Zh.mp hx with rfl | hx
  · exact ⟨_,h⟩
  · exact (Zi.mp hx).elim (ih1 x) (ih2 x)
theorem Sub.closed {s l:List Int} (h:Sub M s l):∀ j ∈ l,∀ p,fd M j=some p->∀ c ∈ p.r,c ∈ l:=by
 induction h with
 | nil=>intro j h; cases h
 | @cons c cs l1 l2 b h h1 h2 ih1 ih2 =>
  intro j hj p hp x hx;rcases Zh.mp hj with rfl | hj
  ·rw [h] at hp
   cases hp;exact Zc _ (Zk _ (h1.roots x hx))
  ·rcases Zi.mp hj with hj | hj
   · exact Zc _ (Zk _ (ih1 j hj p hp x hx))
   · exact Zc _ (Zd _ (ih2 j hj p hp x hx))
def Apart (M:List B8) (s:List Int):Prop:=s.Pairwise λ c d=>∀ x,¬(Anc M c x/\Anc M d x)
theorem rB (m:MOk gv M) {i:Int} {b:B8} (hb:fd M i=some b):Apart M b.r:=by
 have nd:=m.rnd b (aG hb)
 have:∀ s:List Int,(∀ c ∈ s,c ∈ b.r)->s.Nodup->Apart M s:=λ s=>by
  induction s with
  | nil=>intro _ _; exact .nil
  | cons c s ih =>
   intro hs nd;rw [Zt] at nd;refine .cons (λ d hd x ⟨a1,a2⟩=>?_) (ih (λ y hy=>hs y (Zc _ hy)) nd.2)
   have key:∀ {u v:Int},u ∈ b.r->v ∈ b.r->u≠v->Anc M u v->False:=λ {u v} hu hv ne a=>by
    obtain ⟨n,hn,_⟩:=m.dp hb;obtain ⟨e,e1,e2⟩:=m.zm hb hv;obtain ⟨f,f1,f2⟩:=m.zm hb hu;obtain ⟨k,k1,_,k3⟩:=a.deep (.up e1 e2 hn);exact ne (k3 (k1.uniq (.up f1 f2 hn)))
   have hc:=hs c (Ze ..);have hd':=hs d (Zc _ hd);have ne:c≠d:=λ e=>nd.1 (e ▸ hd)
   rcases a1.lin a2 with a | a
   · exact key hc hd' ne a
   · exact key hd' hc (Ne.symm ne) a
 exact this b.r (λ _ h=>h) nd
theorem Sub.nodup (m:MOk gv M) {s l:List Int} (h:Sub M s l):Apart M s->l.Nodup:=by
 induction h with
 | nil=>exact λ _=>.nil
 | @cons c cs l1 l2 b h h1 h2 ih1 ih2 =>
  intro ap;have ap':(∀ d ∈ cs,∀ x,¬(Anc M c x/\Anc M d x))/\Apart M cs:=List.pairwise_cons.mp ap;rw [Zt,Ye];refine ⟨λ hc=>?_,ih1 (rB m h),ih2 ap'.2,λ x hx y hy e=>?_⟩
  ·rcases Zi.mp hc with hc | hc
   ·obtain ⟨d,hd,a⟩:=h1.mem m c hc
    obtain ⟨e,e1,e2⟩:=m.zm h hd;obtain ⟨n,hn,_⟩:=m.dp h;obtain ⟨k,k1,k2,_⟩:=a.deep hn;have:=k1.uniq (.up e1 e2 hn);omega
   ·obtain ⟨d,hd,a⟩:=h2.mem m c hc
    exact ap'.1 d hd c ⟨.refl,a⟩
  ·subst e
   obtain ⟨d,hd,a⟩:=h1.mem m x hx;obtain ⟨e,e1,e2⟩:=m.zm h hd;obtain ⟨d',hd',a'⟩:=h2.mem m x hy;exact ap'.1 d' hd' x ⟨(Anc.up e1 e2 .refl).trans a,a'⟩
theorem Sub.ex (m:MOk gv M):∀ (k:Nat) (cs:List Int),(∀ c ∈ cs,∃ b n,fd M c=some b/\Ch M c n/\13<=k+n)->∃ l,Sub M cs l:=by
 intro k
 induction k with
 | zero =>
  intro cs h
  cases cs with
  | nil=>exact ⟨[],.nil⟩
  | cons c cs =>
   obtain ⟨b,n,hb,hn,hl⟩:=h c (Ze ..);obtain ⟨n',h1,h2⟩:=m.dp hb;have:=hn.uniq h1;omega
 | succ k ih =>
  intro cs
  induction cs with
  | nil=>exact λ _=>⟨[],.nil⟩
  | cons c cs ihc =>
   intro h;obtain ⟨b,n,hb,hn,hl⟩:=h c (Ze ..);obtain ⟨l2,h2⟩:=ihc λ d hd=>h d (Zc _ hd)
   obtain ⟨l1,h1⟩:=ih b.r λ d hd=>by
    obtain ⟨e,e1,e2⟩:=m.zm hb hd;exact ⟨e,n+1,e1,.up e1 e2 hn,by omega⟩
   exact ⟨_,.cons hb h1 h2⟩
theorem Sub.of (m:MOk gv M) {i:Int} {b:B8} (hb:fd M i=some b):∃ l,Sub M [i] (i::l)/\Sub M b.r l:=by
 obtain ⟨n,hn,_⟩:=m.dp hb
 obtain ⟨l,h⟩:=Sub.ex m 13 [i] λ c hc=>by
  rw [Zn.mp hc];exact ⟨b,n,hb,hn,by omega⟩
 obtain ⟨b',l',e1,rfl,h'⟩:=h.inv;rw [hb] at e1;cases e1;rw [Zw] at h';exact ⟨l',h,h'⟩
theorem Sub.iff (m:MOk gv M) {i:Int} {l:List Int} (h:Sub M [i] l) {x:Int} {b:B8} (hx:fd M x=some b):x ∈ l↔Anc M i x:=by
 constructor
 ·intro hl
  obtain ⟨c,hc,a⟩:=h.mem m x hl;rw [Zn.mp hc] at a;exact a
 ·intro a
  have:∀ {x:Int},Anc M i x->∀ b,fd M x=some b->x ∈ l:=λ {x} a=>by
   induction a with
   | refl=>exact λ _ _=>h.roots i (Zn.mpr rfl)
   | @up x j b h' e c ih =>
    intro b' hb'
    have ne:b.i≠0:=λ e0=>by
     obtain ⟨r,r1,r2⟩:=m.root;have e1:=ee h';rw [e0] at e1;rw [<- e1,r1] at h';cases h';rw [r2] at e;cases e
    obtain ⟨j',p,q1,q2,q4⟩:=m.hol b (aG h') ne;rw [e] at q1;cases q1;have:=h.closed j (ih p q2) p q2 b.i q4;rw [ee h'] at this;exact this
  exact this a b hx
theorem uQ:∀ (l k:List Int),l.Nodup->(∀ x ∈ l,x ∈ k)->l.length<=k.length
 | [],_,_,_=>Z3 _
 | x::l,k,nd,h=>by
  rw [Zt] at nd;have hx:=h x (Ze ..)
  have:=uQ l (k.erase x) nd.2 λ y hy=>by
   have ne:y≠x:=λ e=>nd.1 (e ▸ hy)
   exact (List.mem_erase_of_ne ne).mpr (h y (Zc _ hy))
  rw [List.length_erase_of_mem hx] at this;have:0 < k.length:=List.length_pos_of_mem hx;rw [Zx];omega
theorem sub_len {l:List Int} (nd:l.Nodup) (h:∀ x ∈ l,∃ b,fd M x=some b):l.length<=M.length:=by
 have:=uQ l (M.map B8.i) nd λ x hx=>by
  obtain ⟨b,hb⟩:=h x hx;rw [<- ee hb];exact Yb (aG hb)
 rw [Za] at this;exact this
end
end N12
end
section
namespace N12
open PySem L2
theorem GO {τ:List Sl} {i:Nat} {f:DE} {ds es:List D} (h:f τ=some (.lst es)) (q:τ[i]?=some (.own (.lst ds))) (hl:ds.length+es.length<=100000):z9 i f τ=some (.next (τ.set i (.own (.lst (ds++es))))):=by
 unfold z9;rw [h];show (match D.lst es,τ[i]? with | .lst es,some (.own (.lst ds))=>if ds.length+es.length<=100000 then some (Out.next (τ.set i (.own (.lst (ds++es))))) else none | _,_=>none)=_;rw [q];exact if_pos hl
theorem E9 {τ:List Sl} {f:DE} {ds:List D} (h:f τ=some (.lst ds)):CF f τ=some (.lst ds.reverse):=by unfold CF; rw [h]; rfl
theorem Cb {τ:List Sl} {f g:DE} {a b:List D} (h1:f τ=some (.lst a)) (h2:g τ=some (.lst b)) (h3:a.length+b.length<=100000):yx f g τ=some (.lst (a++b)):=by
 unfold yx;rw [h1,h2];exact if_pos h3
theorem Dk {τ:List Sl} {i j:Nat} {ds:List D} {d:D} (q:τ[j]?=some (.own (.lst (ds++[d])))):nT i j τ=some (.next ((τ.set j (.own (.lst ds))).set i (.shr d))):=by
 unfold nT;rw [q];show ((ds++[d])[(ds++[d]).length - 1]?).map _=_;rw [Z1,List.length_singleton,Nat.add_sub_cancel,List.getElem?_append_right (Zl _),Nat.sub_self,List.dropLast_concat];rfl
section
variable {t:Adr} {gv:Int} {M:List B8} {c:DT} {gk:DE} {x0 x1:Sl}
theorem mn (hT:∀ (a y:Sl) (ds:List D),ds≠[]->c [x0,x1,a,.own (.lst ds),y]=some true)
  (hF:∀ a y:Sl,c [x0,x1,a,.own (.lst []),y]=some false)
  (hk:∀ (a s:Sl) (k:Int) (b:B8),fd M k=some b->gk [x0,x1,a,s,.shr (.int k)]=some (.lst (b.r.map .int))) :
  ∀ (l S acc:List Int) (y:Sl),Sub M S l->acc.length+l.length<=1000->∃ y',bD c (jh (nT 4 3) (jh (yR 2 (aF 4)) (z9 3 (CF gk)))) (l.length+1) [x0,x1,.own (.lst (acc.map .int)),.own (.lst (S.reverse.map .int)),y]=some (.next [x0,x1,.own (.lst ((acc++l).map .int)),.own (.lst []),y']):=by
 intro l
 induction l with
 | nil =>
  intro S acc y h hz;cases h;refine ⟨y,?_⟩;unfold bD;rw [show ([]:List Int).reverse.map D.int=[] from rfl,hF,Zw]
 | cons x l ih =>
  intro S acc y h hz
  cases S with
  | nil=>cases h
  | cons k S =>
   obtain ⟨b,l',hb,e,h'⟩:=h.inv;cases e;have hz':acc.length+(l.length+1)<=1000:=hz;have hl:=h'.len;rw [Z1] at hl;obtain ⟨y',w⟩:=ih (b.r++S) (acc++[x]) (.shr (.int x)) h' (by rw [Z1]; show acc.length+1+_<=_; omega);refine ⟨y',?_⟩;have e1:(x::S).reverse.map D.int=S.reverse.map D.int++[.int x]:=by rw [Xc,Zo]; rfl
   have t1:=hT (.own (.lst (acc.map .int))) y ((x::S).reverse.map .int) (by rw [e1]; simp)
   have t2:jh (nT 4 3) (jh (yR 2 (aF 4)) (z9 3 (CF gk))) [x0,x1,.own (.lst (acc.map .int)),.own (.lst ((x::S).reverse.map .int)),y]=some (.next [x0,x1,.own (.lst ((acc++[x]).map .int)),.own (.lst ((b.r++S).reverse.map .int)),.shr (.int x)]):=by
    rw [e1];refine bQ ((Dk rfl).trans rfl) ?_
    refine bQ ((z5 (ag rfl) rfl (by rw [Za]; omega)).trans rfl) ?_
    refine (GO (E9 (hk _ _ x b hb)) rfl (by rw [Za,List.length_reverse,List.length_reverse,Za]; omega)).trans ?_
    rw [List.reverse_append,Zo,Zo,<- List.map_reverse];rfl
   show bD c _ (l.length+1+1) _=_
   conv=>lhs; unfold bD
   rw [t1];simp only [t2];rw [w,List.append_assoc];rfl
theorem v8 {i:Int} {b:B8} {l:List Int} (hb:fd M i=some b) (h:Sub M b.r l) (hl:l.length<=1000):kC t [trD t.af gv M,.int i]=some (.own (.lst (l.map .int))):=by
 have hT:∀ (a y:Sl) (ds:List D),ds≠[]->yv 3 [.shr (trD t.af gv M),.shr (.int i),a,.own (.lst ds),y]=some true:=λ a y ds ne=>by
  cases ds with
  | nil=>exact absurd rfl ne
  | cons d ds=>rfl
 obtain ⟨y',w⟩:=mn (x0:=.shr (trD t.af gv M)) (x1:=.shr (.int i)) hT (λ _ _=>rfl) (gk:=j8 t.af "boxes_of" (a6 t) (aF 0) (aI (aF 4) dM)) (λ a s k b hb=>dJ (ag rfl) (ah (ag rfl) ay) rfl (js hb) rfl) l b.r [] .no h (by rw [Xa,Nat.zero_add]; exact hl);unfold kC kr;dsimp only;refine eE (bQ ((jA (gz ay (Z3 _)) (Zb rfl)).trans rfl) (bQ ((jA (E9 (dJ (ag rfl) (ah (ag rfl) ay) rfl (js hb) rfl)) (Zb rfl)).trans rfl) (bQ (Eq.trans ?_ (gL w)) (sP rfl))));rw [<- List.map_reverse];rfl
theorem mw {i:Int} {l:List Int} {R:D} (hR:∀ k b,fd M k=some b->bW R (.int k)=some (.lst (b.r.map .int))) (h:Sub M [i] l) (hl:l.length<=1000):cQ t [R,.int i]=some (.own (.lst (l.map .int))):=by
 have hT:∀ (a y:Sl) (ds:List D),ds≠[]->Cy 3 (dT (dOp oGt (gA sk (aI (aF 3) dM)) (dC (.int 0)))) [.shr R,.shr (.int i),a,.own (.lst ds),y]=some true:=λ a y ds ne=>by
  cases ds with
  | nil=>exact absurd rfl ne
  | cons d ds =>
   refine zP rfl (ba (aK (bo (ah (ag rfl) ay) rfl) e_c ?_));show some (D.bl (decide _))=_;rw [Zs (by rw [Zx]; omega)]
 obtain ⟨y',w⟩:=mn (x0:=.shr R) (x1:=.shr (.int i)) hT (λ _ _=>rfl) (gk:=dOp bW (aF 0) (aF 4)) (λ a s k b hb=>aK (ag rfl) (ag rfl) (hR k b hb)) l [i] [] .no h (by rw [Xa,Nat.zero_add]; exact hl);unfold cQ fk;dsimp only;exact eE (bQ ((jA (gz ay (Z3 _)) (Zb rfl)).trans rfl) (bQ ((jA (gz (ah (ag rfl) ay) (Zb rfl)) (Zb rfl)).trans rfl) (bQ (gL w) (sP rfl))))
theorem pw {i:Int} {l:List Int} (h:Sub M [i] l) (hl:l.length<=1000):cQ t [.dct (kv (λ b=>.lst (b.r.map .int)) M),.int i]=some (.own (.lst (l.map .int))):=mw (λ _ _ hb=>bC hb) h hl
end
end N12
end
section
namespace N12
open PySem L2
theorem Gu (M:List B8) (j:Int) (r:List Int):(upR M j r).map B8.i=M.map B8.i:=by
 unfold upR;rw [Zy];refine Z0 λ b _=>?_
 show (if b.i=j then { b with r:=r } else b).i=b.i;split <;> rfl
theorem mP {M:List B8} (nd:Nd M) (j:Int) (r:List Int):Nd (upR M j r):=by
 unfold Nd;rw [Gu];exact nd
theorem c9 (M:List B8) (j:Int) (r:List Int) (x:Int):fd (upR M j r) x=(fd M x).map λ b=>if b.i=j then { b with r:=r } else b:=by
 unfold fd upR;rw [List.find?_map];congr 2
 funext b
 show decide ((if b.i=j then { b with r:=r } else b).i=x)=_;split <;> rfl
theorem dY (M:List B8) (j:Int) (r:List Int):(upR M j r).length=M.length:=Za _
theorem tq {β:Type} (f:Int->β) (x:Int):∀ r:List Int,(r.map f).eraseIdx (r.idxOf x)=(r.erase x).map f
 | []=>rfl
 | y::r=>by
  rw [Zg,List.idxOf_cons,List.erase_cons]
  by_cases h:(y == x)=true
  ·rw [if_pos h,h]
   rfl
  ·rw [if_neg h,(Bool.not_eq_true _).mp h]
   show (f y::r.map f).eraseIdx (r.idxOf x+1)=_;rw [List.eraseIdx_cons_succ,tq f x r,Zg]
theorem pH (r:List Int) (x:Int):Mt.n .l (((r.map D.int).map λ d=>((.inl 0:Key),Mt.s d)).eraseIdx (r.idxOf x))=lM ((r.erase x).map .int):=by
 unfold lM;rw [Zy,tq,Zy]
theorem jk (r:List Int):cL (ve ((r.map D.int).map λ d=>((.inl 0:Key),Mt.s d)))=some r:=by
 have:ve ((r.map D.int).map λ d=>((.inl 0:Key),Mt.s d))=r.map .int:=by
  induction r with
  | nil=>rw [Xg,Xg,ve]
  | cons y r ih=>rw [Zg,Zg,ve,frz,ih]
 rw [this];exact lT r
theorem cG (r:List Int):(r.map D.int).all sca=true:=by
 rw [List.all_map];exact Ys.mpr λ _ _=>rfl
end N12
end
section
namespace N12
open PySem L2
section
variable {gv:Int} {M:List B8}
theorem ji (r:List Int) (p x:Int):(insI r p x).Perm (x::r):=by
 unfold insI;refine List.perm_middle.trans ?_
 rw [List.take_append_drop]
theorem jY {r:List Int} {p x y:Int}:y ∈ insI r p x↔y=x\/y ∈ r:=by
 rw [(ji r p x).mem_iff,Zh]
theorem MOk.new (m:MOk gv M):fd M gv=none:=fd_none.mpr λ b hb e=>by
 have:=(m.lt b hb).2;omega
theorem MOk.pos (m:MOk gv M):0 < gv:=by
 obtain ⟨r,r1,_⟩:=m.root;have:=m.lt r (aG r1);omega
theorem oB {M:List B8} {n:B8} (h:fd M n.i=none) (x:Int):fd (M++[n]) x=if x=n.i then some n else fd M x:=by
 unfold fd at *;rw [List.find?_append];split
 ·rename_i e
  rw [e,h,List.find?_cons,Zs rfl];rfl
 ·rename_i e
  rw [List.find?_cons,Zq (Ne.symm e)];cases List.find? (λ b=>decide (b.i=x)) M <;> rfl
theorem Ch.mono {M':List B8} (hm:∀ x d,fd M x=some d->∃ d',fd M' x=some d'/\d'.h=d.h) {x:Int} {n:Nat} (c:Ch M x n):Ch M' x n:=by
 induction c with
 | top h e =>
  obtain ⟨d',h1,h2⟩:=hm _ _ h;exact .top h1 (h2.trans e)
 | up h e c ih =>
  obtain ⟨d',h1,h2⟩:=hm _ _ h;exact .up h1 (h2.trans e) ih
theorem BH (m:MOk gv M) {h p:Int} {b:B8} {nm:Str} {dp:Nat} (hb:fd M h=some b) (hc:Ch M h dp) (h12:dp < 12):MOk (gv+1) (fV M h b p gv nm):=by
 have hn:=m.new;have gp:=m.pos;have hl:0<=h/\h < gv:=by have:=m.lt b (aG hb); rw [ee hb] at this; exact this
 have nd':Nd (fV M h b p gv nm):=mP (uF (b:=⟨gv,some h,nm,[]⟩) m.nd hn) _ _
 have fx:∀ x,fd (fV M h b p gv nm) x=(if x=gv then some ⟨gv,some h,nm,[]⟩ else fd M x).map λ c=>if c.i=h then { c with r:=insI b.r p gv } else c:=λ x=>by
  unfold fV;rw [c9,oB (n:=⟨gv,some h,nm,[]⟩) hn]
 have bn:=m.rnd b (aG hb)
 have gb:gv ∉ b.r:=λ e=>by
  obtain ⟨d,d1,_⟩:=m.kid b (aG hb) gv e;rw [hn] at d1;cases d1
 have un:∀ c ∈ fV M h b p gv nm,(c.i=gv/\c.h=some h/\c.r=[])\/∃ d,fd M c.i=some d/\d.i=c.i/\d.h=c.h/\((c.i=h/\d=b/\c.r=insI b.r p gv)\/(c.i≠h/\c.r=d.r)):=λ c hc=>by
  have e:=iH nd' hc;rw [fx] at e;split at e
  ·rename_i ei
   have e':(if gv=h then ({ i:=gv,h:=some h,n:=nm,r:=insI b.r p gv }:B8) else ⟨gv,some h,nm,[]⟩)=c:=Zj e;rw [if_neg (by omega)] at e';subst e';exact .inl ⟨rfl,rfl,rfl⟩
  ·cases hd:fd M c.i with
   | none=>rw [hd] at e; cases e
   | some d =>
    rw [hd] at e;have e':(if d.i=h then { d with r:=insI b.r p gv } else d)=c:=Zj e;have di:=ee hd;refine .inr ⟨d,rfl,di,?_⟩;split at e'
    ·rename_i hij
     have ep:d=b:=by
      rw [<- di,hij,hb] at hd;exact (Zj hd).symm
     subst e';subst ep;exact ⟨rfl,.inl ⟨hij,rfl,rfl⟩⟩
    ·rename_i hij
     subst e';exact ⟨rfl,.inr ⟨hij,rfl⟩⟩
 have old:∀ {x:Int} {d:B8},fd M x=some d->fd (fV M h b p gv nm) x=some (if d.i=h then { d with r:=insI b.r p gv } else d):=λ {x d} hd=>by
  have ne:x≠gv:=λ e=>by rw [e,hn] at hd; cases hd
  rw [fx,if_neg ne,hd];rfl
 have oh:∀ d:B8,(if d.i=h then { d with r:=insI b.r p gv } else d).h=d.h:=λ d=>by split <;> rfl
 refine ⟨nd',λ c hc=>?_,?_,λ c hc c0=>?_,λ c hc x hx=>?_,λ c hc=>?_,λ c hx=>?_⟩
 ·rcases un c hc with ⟨e,_⟩ | ⟨d,hd,di,_⟩
  · omega
  ·have:=m.lt d (aG hd)
   omega
 ·obtain ⟨r,r1,r2⟩:=m.root
  exact ⟨_,old r1,by rw [oh]; exact r2⟩
 ·rcases un c hc with ⟨e,e2,_⟩ | ⟨d,hd,di,dh,_⟩
  ·refine ⟨h,_,e2,old hb,?_⟩
   rw [if_pos (ee hb),e];exact jY.mpr (.inl rfl)
  ·obtain ⟨j',q,q1,q2,q4⟩:=m.hol d (aG hd) (by rw [di]; exact c0)
   refine ⟨j',_,by rw [<- dh]; exact q1,old q2,?_⟩;split
   ·rename_i hq
    have ep:q=b:=by
     rw [<- ee q2,hq,hb] at q2;exact (Zj q2).symm
    subst ep;rw [<- di];exact jY.mpr (.inr q4)
   ·rw [<- di]
    exact q4
 ·rcases un c hc with ⟨_,_,e⟩ | ⟨d,hd,di,dh,⟨e1,e2,e3⟩ | ⟨e1,e3⟩⟩
  ·rw [e] at hx
   cases hx
  ·rw [e3] at hx
   rcases jY.mp hx with rfl | hx
   ·refine ⟨⟨x,some h,nm,[]⟩,?_,by rw [e1]⟩
    rw [fx,if_pos rfl];show some (if x=h then ({ i:=x,h:=some h,n:=nm,r:=insI b.r p x }:B8) else ⟨x,some h,nm,[]⟩)=_;rw [if_neg (by omega)]
   ·obtain ⟨e,k1,k2⟩:=m.kid b (aG hb) x hx
    exact ⟨_,old k1,by rw [oh,k2,ee hb,e1]⟩
  ·rw [e3] at hx
   obtain ⟨e,k1,k2⟩:=m.kid d (aG hd) x hx;exact ⟨_,old k1,by rw [oh,k2,di]⟩
 ·rcases un c hc with ⟨_,_,e⟩ | ⟨d,hd,di,dh,⟨e1,e2,e3⟩ | ⟨e1,e3⟩⟩
  · rw [e]; exact .nil
  ·rw [e3,(ji _ _ _).nodup_iff,Zt]
   exact ⟨gb,bn⟩
  ·rw [e3]
   exact m.rnd d (aG hd)
 ·have cm:∀ {x:Int} {n:Nat},Ch M x n->Ch (fV M h b p gv nm) x n:=Ch.mono λ x d hd=>⟨_,old hd,oh d⟩
  have hf:=iH nd' hx;rcases un c hx with ⟨e,e2,_⟩ | ⟨d,hd,di,dh,_⟩
  · exact ⟨dp+1,.up hf e2 (cm hc),h12⟩
  ·obtain ⟨n,n1,n2⟩:=m.dp hd
   exact ⟨n,cm n1,n2⟩
end
end N12
end
section
namespace N12
open PySem L2
theorem uW {ys:List Int} {j:Int} (h0:0<=j) (h1:j < ys.length):∃ n ∈ ys,oIx (.lst (ys.map .int)) (.int j)=some (.int n):=by
 obtain ⟨h,e⟩:=nJ (xs:=ys.map D.int) h0 (by rw [Za]; exact h1);rw [List.getElem_map] at e;exact ⟨_,Y6 _,e⟩
theorem BV {ys:List Int} (hn:ys≠[]):∃ n ∈ ys,oIx (.lst (ys.map .int)) (.int (-1))=some (.int n):=by
 refine ⟨ys.getLast hn,List.getLast_mem hn,?_⟩;show atI (ys.map D.int) (-1)=_
 conv=>lhs; rw [<- List.dropLast_concat_getLast hn,Zo]
 exact yG _ _
section
def Cu (M G:List B8):Prop:=∀ x d,fd M x=some d->∃ d',fd G x=some d'/\d'.h=d.h/\d'.n=d.n
theorem Cu.ch {M G:List B8} (fo:Cu M G) {x:Int} {n:Nat} (c:Ch M x n):Ch G x n:=Ch.mono (λ x d h=>let ⟨d',a,b,_⟩:=fo x d h; ⟨d',a,b⟩) c
variable {t:Adr} {gv:Int} {M G:List B8}
theorem E3 (m:MOk gv M) (fo:Cu M G):∀ (L:List B8),(∀ b ∈ L,b ∈ M)->∃ es:List Int,oA (λ d=>dT (dOp oLt (dFn cF (aI (aF 1) (aI (aF 0) dM))) (dC (.int 12))) [.shr d,.shr (faD G)]) (λ d=>aF 0 [.shr d,.shr (faD G)]) (L.map λ b=>.int b.i)=some (es.map .int)/\(∀ x ∈ es,∃ n,Ch M x n/\n < 12)/\(∀ b ∈ L,b.h=none->b.i ∈ es)/\es.length<=L.length:=by
 intro L
 induction L with
 | nil=>exact λ _=>⟨[],rfl,(λ x h=>nomatch h),(λ b h=>nomatch h),Zl _⟩
 | cons b L ih =>
  intro h;have hm:=h b (Ze ..);obtain ⟨es,e1,e2,e3,e4⟩:=ih λ c hc=>h c (Zc _ hc)
  have hb:=iH m.nd hm;obtain ⟨n,hn,_⟩:=m.dp hb;have ec:dT (dOp oLt (dFn cF (aI (aF 1) (aI (aF 0) dM))) (dC (.int 12))) [.shr (.int b.i),.shr (faD G)]=some (decide ((n:Int) < 12)):=ba (aK (dA (ah (ag rfl) (ah (ag rfl) ay)) (j6 (fo.ch hn)) rfl) e_c (jN _ _))
  by_cases hl:n < 12
  ·refine ⟨b.i::es,?_,λ x hx=>?_,λ c hc h0=>?_,Nat.succ_le_succ e4⟩
   ·rw [Zg,oA,ec,Zs (by omega),e1]
    rfl
   ·rcases Zh.mp hx with rfl | hx
    · exact ⟨n,hn,hl⟩
    · exact e2 x hx
   ·rcases Zh.mp hc with rfl | hc
    · exact Ze ..
    · exact Zc _ (e3 c hc h0)
  ·refine ⟨es,?_,e2,λ c hc h0=>?_,Nat.le_succ_of_le e4⟩
   ·rw [Zg,oA,ec,Zq (by omega),e1]
    rfl
   ·rcases Zh.mp hc with rfl | hc
    ·exfalso
     cases hn with
     | top _ _=>omega
     | up h1 h2 _=>rw [hb] at h1; cases h1; rw [h0] at h2; cases h2
    · exact e3 c hc h0
theorem Fi {x:Int} {r:List Int} {b:B8} (hx:b.i≠x) (h0:b.r=[]) (hn:fd M b.i=none):Mt.n .d (fU (kv (λ b=>lM (b.r.map .int)) (upR M x r)) (.inl b.i) (lM []))=bxM (upR (M++[b]) x r):=by
 have e:upR (M++[b]) x r=upR M x r++[b]:=by
  unfold upR;rw [Zo];show _++[if b.i=x then _ else _]=_;rw [if_neg hx]
 have:=jF (g:=λ b=>lM (b.r.map .int)) (M:=upR M x r) (b:=b) (by rw [c9,hn]; rfl);rw [h0] at this;rw [e];unfold bxM kM;rw [<- this];rfl
theorem E5 {b:B8} (hn:fd G b.i=none):Mt.n .d (fU (kv (λ b=>.s (.tup [hD b.h,.str b.n])) G) (.inl b.i) (.s (.tup [hD b.h,.str b.n])))=faM (G++[b]):=by
 unfold faM kM;rw [<- jF (g:=λ b=>.s (.tup [hD b.h,.str b.n])) hn]
theorem BL (m:MOk gv M) (fo:Cu M G) (gn:fd G gv=none) (gl:G.length < 1000) (h90:M.length < 90) {c w:Int} (w0:0<=w) (w1:w<=900) :
  ∃ x b p nm dp,fd M x=some b/\Ch M x dp/\dp < 12/\eP nm=true/\fR t [.mu true (trM t.af gv M),.mu true (bxM M),.mu true (faM G),.shr (.int gv),.shr (.int c),.shr (.int w)]=some (.shr (.bl true),[.mu true (trM t.af (gv+1) (fV M x b p gv nm)),.mu true (bxM (fV M x b p gv nm)),.mu true (faM (G++[⟨gv,some x,nm,[]⟩])),.no,.no,.no]):=by
 obtain ⟨es,f1,f2,f3,f4⟩:=E3 m fo M λ _ h=>h
 obtain ⟨r0,r1,r2⟩:=m.root
 have ne:es≠[]:=λ e=>by
  have:=f3 r0 (aG r1) r2;rw [e] at this;cases this
 obtain ⟨q1,e1,q10,q11⟩:=lP c w0 (show w<=10000 by omega);obtain ⟨q2,e2,q20,q21⟩:=lP c (show (0:Int)<=w+1 by omega) (show w+1<=10000 by omega);obtain ⟨nm,e3,hn⟩:=ze c (show (0:Int)<=w+2 by omega) (show w+2<=1000 by omega);obtain ⟨xl,ml,el⟩:=BV ne;have lp:0 < es.length:=List.length_pos_iff.mpr ne;obtain ⟨xm,mm,em⟩:=uW (ys:=es) (j:=q1 / 2 % (es.length:Int)) (Yq _ (by omega)) (Yg _ (by omega))
 obtain ⟨x,hx,ex⟩:∃ x ∈ es,x=if q1 % 2=0 then xm else xl:=by
  split
  · exact ⟨xm,mm,rfl⟩
  · exact ⟨xl,ml,rfl⟩
 obtain ⟨dp,ch,h12⟩:=f2 x hx;obtain ⟨b,hb⟩:=ch.get
 have hr:b.r.length<=M.length:=sub_len (m.rnd b (aG hb)) λ y hy=>by
  obtain ⟨d,d1,_⟩:=m.kid b (aG hb) y hy;exact ⟨d,d1⟩
 have p0:0<=q2 % ((b.r.length:Int)+1):=Yq _ (by omega);have p1:q2 % ((b.r.length:Int)+1)<=b.r.length:=by have:=Yg q2 (show 0 < (b.r.length:Int)+1 by omega); omega
 refine ⟨x,b,q2 % ((b.r.length:Int)+1),nm,dp,hb,ch,h12,hn,?_⟩;generalize hpp:q2 % ((b.r.length:Int)+1)=p at *;unfold fR iN;dsimp only;refine (eD (s:=.shr (.bl true)) (τ:=[.mu true (trM t.af (gv+1) (fV M x b p gv nm)),.mu true (bxM (fV M x b p gv nm)),.mu true (faM (G++[⟨gv,some x,nm,[]⟩])),.shr (.int gv),.shr (.int c),.shr (.int w),.shr (.lst (es.map .int)),.shr (.int q1),.shr (.int x),.shr (.int p),.shr (.str nm),.shr (.int gv)]) ?_).trans rfl;refine aE (τ':=[.mu true (trM t.af gv M),.mu true (bxM M),.mu true (faM G),.shr (.int gv),.shr (.int c),.shr (.int w),.shr (.lst (es.map .int)),.no,.no,.no,.no,.no]) ?_ ?_
 ·have ek:(kv (λ b=>lM (b.r.map .int)) M).map (λ p=>kD p.1)=M.map λ b=>.int b.i:=by
   unfold kv;rw [Zy];rfl
  show (if (kv (λ b=>lM (b.r.map .int)) M).length<=100000/\6 < 12 then (oA (λ d=>dT (dOp oLt (dFn cF (aI (aF 1) (aI (aF 0) dM))) (dC (.int 12))) [.shr d,.shr (frz (faM G))]) (λ d=>aF 0 [.shr d,.shr (frz (faM G))]) ((kv (λ b=>lM (b.r.map .int)) M).map λ p=>kD p.1)).bind (λ es=>if es.all sca=true then some (qy.next [.mu true (trM t.af gv M),.mu true (bxM M),.mu true (faM G),.shr (.int gv),.shr (.int c),.shr (.int w),.shr (.lst es),.no,.no,.no,.no,.no]) else none) else none)=_;rw [if_pos ⟨by rw [fZ]; omega,by omega⟩,iY,ek,f1];exact if_pos (cG _)
 refine aE (bO (v_N (dA (ah (ag rfl) (ah (ag rfl) ay)) e1 rfl)) (Zb rfl) rfl) ?_
 refine aE (bO (v_N (aK (ag rfl) (Kj e_c rfl) el)) (Zb rfl) rfl) ?_
 refine aE (τ':=[.mu true (trM t.af gv M),.mu true (bxM M),.mu true (faM G),.shr (.int gv),.shr (.int c),.shr (.int w),.shr (.lst (es.map .int)),.shr (.int q1),.shr (.int x),.no,.no,.no]) ?_ ?_
 ·have et:tS (dT (dOp oEq (dOp oMod (aF 7) (dC (.int 2))) (dC (.int 0)))) [.mu true (trM t.af gv M),.mu true (bxM M),.mu true (faM G),.shr (.int gv),.shr (.int c),.shr (.int w),.shr (.lst (es.map .int)),.shr (.int q1),.shr (.int xl),.no,.no,.no]=some (decide (q1 % 2=0),[.mu true (trM t.af gv M),.mu true (bxM M),.mu true (faM G),.shr (.int gv),.shr (.int c),.shr (.int w),.shr (.lst (es.map .int)),.shr (.int q1),.shr (.int xl),.no,.no,.no]) :=
   t_S (ba (aK (aK (ag rfl) e_c (bE (by decide))) e_c (eL _ _)))
  by_cases h2:q1 % 2=0
  ·rw [if_pos h2] at ex
   rw [Zs h2] at et;rw [ex];exact uL et ((bO (v_N (aK (ag rfl) (aK (aK (ag rfl) e_c (gS (by decide) (by decide +kernel))) (bo (ah (ag rfl) ay) (kI es)) (bE (by omega))) em)) (Zb rfl) rfl).trans rfl)
  ·rw [if_neg h2] at ex
   rw [Zq h2] at et;rw [ex];exact gU et rfl
 have sn:∀ {r:List Sm},aL (.mu true (trM t.af gv M)::.mu true (bxM M)::r)=.shr (trD t.af gv M)::.shr (.dct (kv (λ b=>.lst (b.r.map .int)) M))::aL r:=λ {r}=>by
  rw [iz];show _::Sl.shr (frz (bxM M))::_=_;rw [gZ]
 refine aE (bO (s:=.shr (.int p)) (v_S (by rw [sn]; exact aK (dA (ah (ag rfl) (ah (aK (ag rfl) e_c (aO _ _)) ay)) e2 rfl) (aK (bo (ah (aK (ag rfl) (ag rfl) (bC hb)) ay) (kI _)) e_c (aO _ _)) ((bE (by omega)).trans (by rw [hpp]))) rfl) (Zb rfl) rfl) ?_
 refine aE (bO (v_N (dA (ah (ag rfl) (ah (aK (ag rfl) e_c (aO _ _)) ay)) e3 rfl)) (Zb rfl) rfl) ?_
 have ep:=Dz (t:=t) m.nd m.new hb p0 p1 (by omega) hn h90 ch h12;refine aE (τ':=[.mu true (trM t.af (gv+1) (fV M x b p gv nm)),.mu true (bxM M),.mu true (faM G),.shr (.int gv),.shr (.int c),.shr (.int w),.shr (.lst (es.map .int)),.shr (.int q1),.shr (.int x),.shr (.int p),.shr (.str nm),.shr (.int gv)]) (bO (s:=.shr (.int gv)) (v_M (C:=t.af) (i:=0) (q:=[]) (ss:=[.mu true (trM t.af gv M),.shr (.int x),.shr (.int p),.shr (.str nm)]) (τ':=[.mu true (trM t.af (gv+1) (fV M x b p gv nm)),.mu true (bxM M),.mu true (faM G),.shr (.int gv),.shr (.int c),.shr (.int w),.shr (.lst (es.map .int)),.shr (.int q1),.shr (.int x),.shr (.int p),.shr (.str nm),.no]) bJ rfl rfl (bI (q_N (ag rfl)) (bI (q_N (ag rfl)) (bI (q_N (ag rfl)) rfl))) rfl ep rfl) (Zb rfl) rfl) ?_
 have hg:aP [.mu true (trM t.af (gv+1) (fV M x b p gv nm)),.mu true (bxM M),.mu true (faM G),.shr (.int gv),.shr (.int c),.shr (.int w),.shr (.lst (es.map .int)),.shr (.int q1),.shr (.int x),.shr (.int p),.shr (.str nm),.shr (.int gv)] 1 [.k (.inl x)]=some (lM (b.r.map .int)):=by
  rw [kX rfl];refine (k6 _ _ _).trans ?_
  rw [hb];rfl
 refine aE (xZ (n:=p) (qz bJ (ag rfl) rfl rfl) hg (ag rfl) (v_N (ag rfl)) rfl hg ⟨p0,by rw [Za,Za]; exact p1,by rw [Za,Za]; omega⟩) ?_
 rw [eU rfl,pV];have e4:(bxM M).put ([]++[.k (.inl x)]) (lM ((insI b.r p gv).map .int))=bxM (upR M x (insI b.r p gv)):=kR m.nd hb;rw [e4]
 have xg:gv≠x:=λ e=>by
  have:=(m.lt b (aG hb)).2;rw [ee hb] at this;omega
 refine aE (τ':=[.mu true (trM t.af (gv+1) (fV M x b p gv nm)),.mu true (bxM (fV M x b p gv nm)),.mu true (faM G),.shr (.int gv),.shr (.int c),.shr (.int w),.shr (.lst (es.map .int)),.shr (.int q1),.shr (.int x),.shr (.int p),.shr (.str nm),.shr (.int gv)]) ((eX (cs:=kv (λ b=>lM (b.r.map .int)) (upR M x (insI b.r p gv))) (v_O (gz ay (Z3 _)) rfl) bJ (ag rfl) rfl rfl rfl (by rw [fZ,dY]; omega)).trans ?_) ?_
 ·have:=Fi (M:=M) (x:=x) (r:=insI b.r p gv) (b:=⟨gv,some x,nm,[]⟩) xg rfl m.new
  unfold fV;rw [<- this];rfl
 refine aE (τ':=[.mu true (trM t.af (gv+1) (fV M x b p gv nm)),.mu true (bxM (fV M x b p gv nm)),.mu true (faM (G++[⟨gv,some x,nm,[]⟩])),.shr (.int gv),.shr (.int c),.shr (.int w),.shr (.lst (es.map .int)),.shr (.int q1),.shr (.int x),.shr (.int p),.shr (.str nm),.shr (.int gv)]) ((eX (cs:=kv (λ b=>.s (.tup [hD b.h,.str b.n])) G) (v_N (rM (ah (ag rfl) (ah (ag rfl) ay)) (Zb rfl))) bJ (ag rfl) rfl rfl rfl (by rw [fZ]; omega)).trans ?_) ?_
 ·have:=E5 (G:=G) (b:=⟨gv,some x,nm,[]⟩) gn
  rw [<- this];rfl
 exact ou (v_N (j5 (b:=true) (dA (ah (ag rfl) ay) (gK _) rfl) (aK (ag rfl) (ag rfl) ((eL _ _).trans (by rw [Zs rfl])))))
end
end N12
end
section
namespace N12
open PySem L2
def upH (M:List B8) (i:Int) (h:Int):List B8:=M.map λ b=>if b.i=i then { b with h:=some h } else b
theorem CO (M:List B8) (j h:Int):(upH M j h).map B8.i=M.map B8.i:=by
 unfold upH;rw [Zy];refine Z0 λ b _=>?_
 show (if b.i=j then { b with h:=some h } else b).i=b.i;split <;> rfl
theorem zu (M:List B8) (j h x:Int):fd (upH M j h) x=(fd M x).map λ b=>if b.i=j then { b with h:=some h } else b:=by
 unfold fd upH;rw [List.find?_map];congr 2
 funext b
 show decide ((if b.i=j then { b with h:=some h } else b).i=x)=_;split <;> rfl
def mvB (M:List B8) (i j h:Int) (rj rh:List Int):List B8:=upH (upR (upR M j rj) h rh) i h
def mvF (i j h:Int) (rj rh:List Int) (c:B8):B8:={ c with h:=if c.i=i then some h else c.h,r:=if c.i=h then rh else if c.i=j then rj else c.r }
theorem yp (M:List B8) (i j h:Int) (rj rh:List Int) (x:Int):fd (mvB M i j h rj rh) x=(fd M x).map (mvF i j h rj rh):=by
 unfold mvB;rw [zu,c9,c9,Option.map_map,Option.map_map];congr 1
 funext c
 obtain ⟨ci,ch,cn,cr⟩:=c;simp only [Function.comp,mvF]
 by_cases h1:ci=j <;> by_cases h2:ci=h <;> by_cases h3:ci=i <;> simp [h1,h2,h3] <;> (try (split <;> simp_all)) <;> (try (split <;> simp_all))
theorem IS {M:List B8} (nd:Nd M) (i j h:Int) (rj rh:List Int):Nd (mvB M i j h rj rh):=by
 unfold Nd mvB;rw [CO];exact mP (mP nd _ _) _ _
section
variable {gv:Int} {M:List B8} {i j h:Int} {b p q:B8} {rj rh:List Int}
theorem Et (m:MOk gv M) (hb:fd M i=some b) (hj:b.h=some j) (hp:fd M j=some p) (hq:fd M h=some q) (na:¬ Anc M i h)
  {ni nh:Nat} (ci:Ch M i ni) (ch:Ch M h nh) (dp:∀ x n,Anc M i x->Ch M x n->n+nh+1<=12+ni)
  (ej:rj=p.r.erase i) {pl:Int} (eh:rh=insI (q.r.filter λ y=>decide (y≠i)) pl i):MOk gv (mvB M i j h rj rh):=by
 have i0:=m.h0 hb hj;have nd':=IS m.nd i j h rj rh;have fx:=yp M i j h rj rh;have bi:=ee hb;have pi:=ee hp;have qi:=ee hq;have pn:=m.rnd p (aG hp);have qn:=m.rnd q (aG hq);have ih:i≠h:=λ e=>na (by rw [<- e]; exact .refl)
 have un:∀ c ∈ mvB M i j h rj rh,∃ d,fd M c.i=some d/\d.i=c.i/\c=mvF i j h rj rh d:=λ c hc=>by
  have e:=iH nd' hc;rw [fx] at e
  cases hd:fd M c.i with
  | none=>rw [hd] at e; cases e
  | some d =>
   rw [hd] at e;exact ⟨d,rfl,ee hd,(Zj e).symm⟩
 have old:∀ {x:Int} {d:B8},fd M x=some d->fd (mvB M i j h rj rh) x=some (mvF i j h rj rh d):=λ {x d} hd=>by rw [fx,hd]; rfl
 have hh:∀ d:B8,d.i≠i->(mvF i j h rj rh d).h=d.h:=λ d ne=>if_neg ne
 have hi:∀ d:B8,d.i=i->(mvF i j h rj rh d).h=some h:=λ d e=>if_pos e
 have rmem:∀ y,y ∈ rh↔y=i\/(y ∈ q.r/\y≠i):=λ y=>by
  rw [eh,jY,Yy,decide_eq_true_iff]
 have c1:∀ {x:Int} {n:Nat},Ch M x n->¬ Anc M i x->Ch (mvB M i j h rj rh) x n:=λ {x n} c=>by
  induction c with
  | @top x d h1 e1 =>
   intro nx;have ne:d.i≠i:=λ e=>nx (by rw [ee h1] at e; rw [e]; exact .refl)
   exact .top (old h1) ((hh d ne).trans e1)
  | @up x y n d h1 e1 c ihc =>
   intro nx;have ne:d.i≠i:=λ e=>nx (by rw [ee h1] at e; rw [e]; exact .refl)
   exact .up (old h1) ((hh d ne).trans e1) (ihc λ a=>nx (.up h1 e1 a))
 have chh:=c1 ch na
 have c2:∀ {x:Int},Anc M i x->∀ d,fd M x=some d->∃ n n',Ch M x n/\Ch (mvB M i j h rj rh) x n'/\n'+ni=n+nh+1:=λ {x} a=>by
  induction a with
  | refl=>intro d hd; exact ⟨ni,nh+1,ci,.up (old hb) (hi b bi) chh,by omega⟩
  | @up x y d h1 e1 c ihc =>
   intro d' _;obtain ⟨nx,x1,_⟩:=m.dp h1
   cases x1 with
   | top h2 e2=>rw [h1] at h2; cases h2; rw [e1] at e2; cases e2
   | up h2 e2 cy =>
    rw [h1] at h2;cases h2;rw [e1] at e2;cases e2;obtain ⟨by',hy⟩:=cy.get;obtain ⟨n,n',k1,k2,k3⟩:=ihc by' hy
    have ne:d.i≠i:=λ e=>by
     rw [ee h1] at e;obtain ⟨k,g1,g2,_⟩:=c.deep cy;have:=g1.uniq ci;rw [e] at h1;have:=ci.uniq (.up h1 e1 cy);omega
    exact ⟨_,n'+1,.up h1 e1 k1,.up (old h1) ((hh d ne).trans e1) k2,by omega⟩
 refine ⟨nd',λ c hc=>?_,?_,λ c hc c0=>?_,λ c hc x hx=>?_,λ c hc=>?_,λ c hc=>?_⟩
 ·obtain ⟨d,hd,di,_⟩:=un c hc
  rw [<- di];exact m.lt d (aG hd)
 ·obtain ⟨r,r1,r2⟩:=m.root
  exact ⟨_,old r1,(hh r (by rw [ee r1]; exact Ne.symm i0)).trans r2⟩
 ·obtain ⟨d,hd,di,ec⟩:=un c hc
  by_cases e:d.i=i
  ·refine ⟨h,_,by rw [ec]; exact hi d e,old hq,?_⟩
   show c.i ∈ (if q.i=h then rh else if q.i=j then rj else q.r);rw [if_pos qi,<- di,e];exact (rmem i).mpr (.inl rfl)
  ·obtain ⟨j',u,u1,u2,u3⟩:=m.hol d (aG hd) (by rw [di]; exact c0)
   refine ⟨j',_,by rw [ec]; exact (hh d e).trans u1,old u2,?_⟩;show c.i ∈ (if u.i=h then rh else if u.i=j then rj else u.r);rw [<- di];split
   ·rename_i e2
    have:u=q:=by rw [<- ee u2,e2,hq] at u2; exact (Zj u2).symm
    subst this;exact (rmem d.i).mpr (.inr ⟨u3,e⟩)
   ·split
    ·rename_i e2
     have:u=p:=by rw [<- ee u2,e2,hp] at u2; exact (Zj u2).symm
     subst this;rw [ej];exact (List.mem_erase_of_ne e).mpr u3
    · exact u3
 ·obtain ⟨d,hd,di,ec⟩:=un c hc
  have key:∀ y ∈ d.r,y≠i->∃ e,fd (mvB M i j h rj rh) y=some e/\e.h=some c.i:=λ y hy ne=>by
   obtain ⟨e,e1,e2⟩:=m.kid d (aG hd) y hy;exact ⟨_,old e1,by rw [hh e (by rw [ee e1]; exact ne),e2,di]⟩
  rw [ec] at hx;have hx':x ∈ (if d.i=h then rh else if d.i=j then rj else d.r):=hx;split at hx'
  ·rename_i e2
   rcases (rmem x).mp hx' with rfl | ⟨h1,h2⟩
   · exact ⟨_,old hb,by rw [hi b bi,<- di,e2]⟩
   ·have:d=q:=by rw [<- di,e2,hq] at hd; exact (Zj hd).symm
    subst this;exact key x h1 h2
  ·split at hx'
   ·rename_i e2
    have:d=p:=by rw [<- di,e2,hp] at hd; exact (Zj hd).symm
    subst this;rw [ej] at hx';have:=pn.mem_erase_iff.mp hx';exact key x this.2 this.1
   ·rename_i e3
    refine key x hx' λ e=>?_
    subst e;obtain ⟨e,e1,e2⟩:=m.kid d (aG hd) x hx';rw [hb] at e1;cases e1;rw [hj] at e2;exact e3 (Zj e2).symm
 ·obtain ⟨d,hd,di,ec⟩:=un c hc
  rw [ec];show (if d.i=h then rh else if d.i=j then rj else d.r).Nodup;split
  ·rw [eh,(ji _ _ _).nodup_iff,Zt]
   exact ⟨λ e=>by rw [Yy] at e; exact of_decide_eq_true e.2 rfl,qn.sublist Xi⟩
  ·split
   · rw [ej]; exact pn.erase _
   · exact m.rnd d (aG hd)
 ·obtain ⟨d,hd,di,ec⟩:=un c hc
  by_cases a:Anc M i c.i
  ·obtain ⟨n,n',k1,k2,k3⟩:=c2 a d hd
   exact ⟨n',k2,by have:=dp _ _ a k1; omega⟩
  ·obtain ⟨n,n1,n2⟩:=m.dp hd
   exact ⟨n,c1 n1 a,n2⟩
end
end N12
end
section
namespace N12
open PySem L2
theorem lK:∀ l:List Int,Cz (l.map .int)=some (l.map V.int)
 | []=>rfl
 | i::l=>by
  show (scD (.int i)).bind (λ v=>(Cz (l.map .int)).map (v::·))=_;rw [lK l];rfl
theorem oz (j:Int):∀ l:List Int,inV (.int j) (l.map V.int)=decide (j ∈ l)
 | []=>by simp [inV]
 | k::l=>by
  have ih:=oz j l;unfold inV at *;simp only [Zg,Xb,ih,Zh,Bool.decide_or];congr 1;show decide (k=j)=decide (j=k);rw [Y7];omega
theorem EM (j:Int) (l:List Int):Fw (.int j) (.lst (l.map .int))=some (.bl (decide (j ∈ l))):=by
 show (inS (.int j) (l.map .int)).map D.bl=_;unfold inS;rw [lK];show some (D.bl (inV (.int j) _))=_;rw [oz]
theorem Bp (j:Int) (l:List Int):jM (.int j) (.lst (l.map .int))=some (.bl (!decide (j ∈ l))):=by
 show (inS (.int j) (l.map .int)).map (λ b=>D.bl !b)=_;unfold inS;rw [lK];show some (D.bl (!inV (.int j) _))=_;rw [oz]
theorem pN (n:Nat):∀ l:List Int,oi n (l.map .int)=true
 | []=>by rw [Xg,oi]
 | i::l=>by rw [Zg,oi,pN n l,okD]; rfl
theorem pU:∀ {a c:List Int},a.map D.int=c.map D.int->a=c
 | [],[],_=>rfl
 | [],_::_,h=>by cases h
 | _::_,[],h=>by cases h
 | x::a,y::c,h=>by
  rw [Zg,Zg] at h;injection h with h1 h2
  injection h1 with h1
  rw [h1,pU h2]
theorem qc (a c:List Int):eqO (.lst (a.map .int)) (.lst (c.map .int))=some (decide (a=c)):=by
 unfold eqO;show (if okD 9 (.lst (a.map .int))=true/\okD 9 (.lst (c.map .int))=true then some (eqB (.lst (a.map .int)) (.lst (c.map .int))) else none)=_;have o:∀ l:List Int,okD 9 (.lst (l.map .int))=true:=λ l=>by rw [okD]; exact pN 8 l
 rw [if_pos ⟨o a,o c⟩]
 by_cases h:a=c
 · rw [h,lY,Zs rfl]
 · rw [zx (λ e=>h (pU (by injection e))),Zq h]
theorem Ca (a c:List Int):oEq (.lst (a.map .int)) (.lst (c.map .int))=some (.bl (decide (a=c))):=by
 unfold oEq;rw [qc];rfl
theorem Bq (a c:List Int):oNe (.lst (a.map .int)) (.lst (c.map .int))=some (.bl (!decide (a=c))):=by
 unfold oNe;rw [qc];rfl
theorem oO {τ:List Sl} {it:DI} {c:DT} {g:DE} {cs:List (Str×Nat)} {ds es:List D} (h1:it τ=some ds) (hl:ds.length<=100000) (h2:oA (λ d=>c (.shr d::dD τ cs)) (λ d=>g (.shr d::dD τ cs)) ds=some es):j9 it c g cs τ=some (.lst es):=by
 unfold j9;rw [h1];show (if ds.length<=100000 then _ else none)=_;rw [if_pos hl,h2];rfl
theorem p7 {c:D->Option Bool} {f:Int->Bool}:∀ {l:List Int},(∀ x ∈ l,c (.int x)=some (f x))->oA c (λ d=>some d) (l.map .int)=some ((l.filter f).map .int)
 | [],_=>rfl
 | x::l,h=>by
  rw [Zg,oA,h x (Ze ..),List.filter_cons];have ih:=p7 (l:=l) λ y hy=>h y (Zc _ hy)
  show (if f x=true then (some (D.int x)).bind (λ y=>(oA c (λ d=>some d) (l.map .int)).bind λ xs=>some (y::xs)) else oA c (λ d=>some d) (l.map .int))=_;rw [ih]
  by_cases hx:f x=true
  · rw [if_pos hx,if_pos hx]; rfl
  · rw [if_neg hx,if_neg hx]
inductive Dps (M:List B8):List Int->List Nat->Prop where
 | nil:Dps M [] []
 | cons {x:Int} {n:Nat} {l:List Int} {ns:List Nat} (h:Ch M x n) (r:Dps M l ns):Dps M (x::l) (n::ns)
section
variable {t:Adr} {gv:Int} {M:List B8}
theorem Dps.ex (m:MOk gv M):∀ {l:List Int},(∀ x ∈ l,∃ b,fd M x=some b)->∃ ns,Dps M l ns
 | [],_=>⟨[],.nil⟩
 | x::l,h=>by
  obtain ⟨b,hb⟩:=h x (Ze ..);obtain ⟨n,hn,_⟩:=m.dp hb;obtain ⟨ns,r⟩:=Dps.ex m (l:=l) λ y hy=>h y (Zc _ hy)
  exact ⟨_,.cons hn r⟩
theorem Dps.mem {l:List Int} {ns:List Nat} (h:Dps M l ns):∀ x ∈ l,∀ n,Ch M x n->n ∈ ns:=by
 induction h with
 | nil=>intro x h; cases h
 | cons h r ih =>
  intro x hx n hn;rcases Zh.mp hx with rfl | hx
  · rw [hn.uniq h]; exact Ze ..
  · exact Zc _ (ih x hx n hn)
theorem Dps.back {l:List Int} {ns:List Nat} (h:Dps M l ns):∀ n ∈ ns,∃ x ∈ l,Ch M x n:=by
 induction h with
 | nil=>intro x h; cases h
 | cons h r ih =>
  intro n hn;rcases Zh.mp hn with rfl | hn
  · exact ⟨_,Ze ..,h⟩
  ·obtain ⟨x,hx,h'⟩:=ih n hn
   exact ⟨x,Zc _ hx,h'⟩
theorem Dps.map {l:List Int} {ns:List Nat} (h:Dps M l ns) {g:D->Option D} (hg:∀ x n,Ch M x n->n<=12->g (.int x)=some (.int (n:Int))) (h12:∀ n ∈ ns,n<=12):wg g (l.map .int)=some ((ns.map λ n:Nat=>(n:Int)).map .int):=by
 induction h with
 | nil=>rfl
 | @cons x n l ns h r ih =>
  show (g (.int x)).bind (λ y=>(wg g (l.map .int)).bind λ xs=>some (y::xs))=_;rw [hg x n h (h12 n (Ze ..)),ih λ k hk=>h12 k (Zc _ hk)];rfl
theorem Dps.len {l:List Int} {ns:List Nat} (h:Dps M l ns):ns.length=l.length:=by
 induction h with
 | nil=>rfl
 | cons _ _ ih=>rw [Zx,Zx,ih]
def tpI (ns:List Nat):Int:=mxI (ns.map λ n:Nat=>(n:Int))
theorem Gw {ns:List Nat} {n:Nat} (h:n ∈ ns):(n:Int)<=tpI ns:=Ep (Yb (f:=λ n:Nat=>(n:Int)) h)
theorem CV {ns:List Nat} (h:0 < ns.length):∃ n ∈ ns,tpI ns=(n:Int):=by
 have:=BD (ns:=ns.map λ n:Nat=>(n:Int)) (by rw [Za]; exact h);obtain ⟨n,hn,e⟩:=Z5.mp this;exact ⟨n,hn,e.symm⟩
theorem zg {ns:List Nat} (h:0 < ns.length):xP [.lst ((ns.map λ n:Nat=>(n:Int)).map .int)]=some (.int (tpI ns)):=by
 show (cL ((ns.map λ n:Nat=>(n:Int)).map .int)).bind _=_;rw [lT];show (if 0 < (ns.map λ n:Nat=>(n:Int)).length then _ else _)=_;rw [Za,if_pos h];rfl
end
end N12
end
section
namespace N12
open PySem L2
theorem dG {τ:List Sm} {i:Nat} {b:Bool} {m:Mt} {d:D} (h:τ[i]?=some (.mu b m)) (hf:frz m=d):aF i (aL τ)=some d:=by
 refine ag ?_
 rw [List.getElem?_map,h];show some (Sl.shr (frz m))=_;rw [hf]
theorem tI {g:B8->Mt} {M:List B8} {i:Int} {m:Mt} {b:B8} (h:fd M i=some b):fU (kv g M) (.inl i) m=M.map λ c=>((.inl c.i:Key),if c.i=i then m else g c):=by
 unfold fU;rw [qw,h];show (kv g M).map _=_;unfold kv;rw [Zy];refine Z0 λ c _=>?_
 show (if (Sum.inl c.i:Key)=Sum.inl i then ((Sum.inl c.i:Key),m) else (Sum.inl c.i,g c))=_
 by_cases e:c.i=i
 · rw [if_pos (by rw [e]),if_pos e]
 · rw [if_neg (λ z=>e (by injection z)),if_neg e]
theorem tF {M:List B8} {i:Int} {r:List Int} {b:B8} (h:fd M i=some b):fU (kv (λ b=>lM (b.r.map .int)) M) (.inl i) (lM (r.map .int))=kv (λ b=>lM (b.r.map .int)) (upR M i r):=by
 rw [tI h];unfold kv upR;rw [Zy];refine Z0 λ c _=>?_
 show _=((Sum.inl (if c.i=i then { c with r:=r } else c).i:Key),lM ((if c.i=i then { c with r:=r } else c).r.map .int));split <;> rfl
theorem Ah {M:List B8} {i h:Int} {b:B8} (hb:fd M i=some b):fU (kv (λ b=>.s (hD b.h)) M) (.inl i) (.s (.int h))=kv (λ b=>.s (hD b.h)) (upH M i h):=by
 rw [tI hb];unfold kv upH;rw [Zy];refine Z0 λ c _=>?_
 show _=((Sum.inl (if c.i=i then { c with h:=some h } else c).i:Key),Mt.s (hD (if c.i=i then { c with h:=some h } else c).h));split <;> rfl
theorem wK {M:List B8} {i h:Int} {b:B8} (nd:Nd M) (hb:fd M i=some b):fU (kv (λ b=>.s (.tup [hD b.h,.str b.n])) M) (.inl i) (.s (.tup [.int h,.str b.n]))=kv (λ b=>.s (.tup [hD b.h,.str b.n])) (upH M i h):=by
 rw [tI hb];unfold kv upH;rw [Zy];refine Z0 λ c hc=>?_
 show _=((Sum.inl (if c.i=i then { c with h:=some h } else c).i:Key),Mt.s (.tup [hD (if c.i=i then { c with h:=some h } else c).h,.str (if c.i=i then { c with h:=some h } else c).n]))
 by_cases e:c.i=i
 ·have hf:=iH nd hc
  rw [e,hb] at hf;cases hf;rw [if_pos e,if_pos e];rfl
 · rw [if_neg e,if_neg e]
theorem qA {β:Type} (g:B8->β) (M:List B8) (i h:Int) (hg:∀ b:B8,g { b with h:=some h }=g b):kv g (upH M i h)=kv g M:=by
 unfold kv upH;rw [Zy];refine Z0 λ b _=>?_
 show ((Sum.inl (if b.i=i then { b with h:=some h } else b).i:Key),g (if b.i=i then { b with h:=some h } else b))=_;split
 · rw [hg]
 · rfl
theorem CU {C:Addr} {gv:Int} {M:List B8} {i h:Int}:trM C gv (upH M i h)=trG C (.s (.int gv)) (kM (λ b=>.s (.str b.n)) M) (kM (λ b=>.s (hD b.h)) (upH M i h)) (bxM M) (kM (λ _=>.n .d []) M) (kM (λ _=>lM []) M) (kM (λ _=>.s (.tup [])) M):=by
 unfold trM bxM kM;rw [qA (λ b=>Mt.s (.str b.n)) _ _ _ (λ _=>rfl),qA (λ b=>lM (b.r.map .int)) _ _ _ (λ _=>rfl),qA (λ _=>Mt.n .d []) _ _ _ (λ _=>rfl),qA (λ _=>lM []) _ _ _ (λ _=>rfl),qA (λ _=>Mt.s (.tup [])) _ _ _ (λ _=>rfl)]
theorem BE {M:List B8} (nd:Nd M) {i h:Int} {b q:B8} {rj:List Int} (hb:fd M i=some b) (hj:b.h=some h) (hq:fd M h=some q):mvB M i h h rj q.r=M:=by
 unfold mvB upH upR;rw [Zy,Zy]
 conv=>rhs; rw [<- List.map_id M]
 refine Z0 λ c hc=>?_
 have hf:=iH nd hc
 have e1:(if (if c.i=h then { c with r:=rj } else c).i=h then { (if c.i=h then { c with r:=rj } else c) with r:=q.r } else (if c.i=h then { c with r:=rj } else c))=c:=by
  by_cases e:c.i=h
  ·rw [e,hq] at hf
   cases hf;rw [if_pos e];show (if q.i=h then _ else _)=_;rw [if_pos e]
  · rw [if_neg e,if_neg e]
 show (if (if (if c.i=h then { c with r:=rj } else c).i=h then { (if c.i=h then { c with r:=rj } else c) with r:=q.r } else (if c.i=h then { c with r:=rj } else c)).i=i then { (if (if c.i=h then { c with r:=rj } else c).i=h then { (if c.i=h then { c with r:=rj } else c) with r:=q.r } else (if c.i=h then { c with r:=rj } else c)) with h:=some h } else (if (if c.i=h then { c with r:=rj } else c).i=h then { (if c.i=h then { c with r:=rj } else c) with r:=q.r } else (if c.i=h then { c with r:=rj } else c)))=id c;rw [e1]
 by_cases e:c.i=i
 ·rw [e,hb] at hf
  cases hf;rw [if_pos e,<- hj];rfl
 ·rw [if_neg e]
  rfl
section
variable {t:Adr} {gv:Int} {M:List B8} {i j h pl:Int} {b p q:B8} {l:List Int} {ni nh:Nat} {ns:List Nat}
theorem BG (m:MOk gv M) (h90:M.length < 90) (hb:fd M i=some b) (hj:b.h=some j) (hp:fd M j=some p) (hi:i ∈ p.r) (hq:fd M h=some q) (hs:Sub M b.r l) (hn:h ∉ i::l) (hl:l.length < 90)
  (ci:Ch M i ni) (ch:Ch M h nh) (n12:ni<=12/\nh<=12) (ds:Dps M (i::l) ns) (d12:∀ n ∈ ns,n<=12) (hd:(nh:Int)+1+tpI ns - ni<=12) {row:List Int} (er:row=insI (q.r.filter λ y=>decide (y≠i)) pl i)
  (p0:0<=pl) (p1:pl<=((q.r.filter λ y=>decide (y≠i)).length:Int)) :
  gI t [.mu true (trM t.af gv M),.shr (.int i),.shr (.int h),.shr (.int pl)]=some (.shr (.bl (!decide (row=q.r))),[.mu true (trM t.af gv (mvB M i j h (p.r.erase i) row)),.no,.no,.no]):=by
 have i0:=m.h0 hb hj
 have hp2:p.r.length<=M.length:=sub_len (m.rnd p (aG hp)) λ y hy=>by
  obtain ⟨d,d1,_⟩:=m.kid p (aG hp) y hy;exact ⟨d,d1⟩
 have hq2:q.r.length<=M.length:=sub_len (m.rnd q (aG hq)) λ y hy=>by
  obtain ⟨d,d1,_⟩:=m.kid q (aG hq) y hy;exact ⟨d,d1⟩
 have hf2:(q.r.filter λ y=>decide (y≠i)).length<=q.r.length:=List.length_filter_le _ _;have hih:h≠i:=λ e=>hn (by rw [e]; exact Ze ..)
 have hnl:h ∉ l:=λ e=>hn (Zc _ e)
 have sn:∀ {r:List Sm},aL (.mu true (trM t.af gv M)::r)=.shr (trD t.af gv M)::aL r:=iz
 unfold gI dm;dsimp only
 have go:∀ {o:qy},(dz (pD (tS (dT (dOp oEq (aF 5) (dOp bW (dUn (xR t.af "boxes") (aF 0)) (aF 2)))))
  (jB (eN (dC (.bl false))))
  iV)
  (dz (qJ (qL (gm t.af "boxes" (bS 0)) (dOp bW (dUn (xR t.af "holders") (aF 0)) (aF 1))) (aF 1))
  (dz (cA (gm t.af "boxes" (bS 0)) (aF 2) (eV 5))
  (dz (cA (gm t.af "holders" (bS 0)) (aF 1) (eN (aF 2)))
  (jB (eN (dC (.bl true)))))))) [.mu true (trM t.af gv M),.shr (.int i),.shr (.int h),.shr (.int pl),.shr (.lst (l.map .int)),.mu false (lM (row.map .int)),.shr (.int (tpI ns))]=some o ->
  (dm t).1 [.mu true (trM t.af gv M),.shr (.int i),.shr (.int h),.shr (.int pl),.no,.no,.no]=some o:=λ {o} ho=>by
  unfold dm;dsimp only;refine aE (eW (τ:=[.mu true (trM t.af gv M),.shr (.int i),.shr (.int h),.shr (.int pl),.no,.no,.no]) (by rw [sn]; exact dJ (ag rfl) (ah (ag rfl) ay) rfl (h9 hb) rfl)) ?_
  refine aE (eW (by rw [sn]; exact dJ (ag rfl) (ah (ag rfl) ay) rfl (h9 hq) rfl)) ?_
  refine aE (τ':=[.mu true (trM t.af gv M),.shr (.int i),.shr (.int h),.shr (.int pl),.shr (.lst (l.map .int)),.no,.no]) (bO (v_F (by rw [sn]; exact vm (ah (ag rfl) (ah (ag rfl) ay)) (v8 hb hs (by omega)) rfl) (cG _)) (Zb rfl) rfl) ?_
  refine aE (gU (t_S (Fp (b:=false) (ba (aK (ag rfl) e_c ((eL _ _).trans (by rw [Zq i0])))) (λ _=>Fp (b:=false) (ba (aK (ag rfl) (ag rfl) ((eL _ _).trans (by rw [Zq hih])))) (λ _=>ba (aK (ag rfl) (ag rfl) ((EM h l).trans (by rw [Zq hnl])))) nofun) nofun)) rfl) ?_
  refine aE (τ':=[.mu true (trM t.af gv M),.shr (.int i),.shr (.int h),.shr (.int pl),.shr (.lst (l.map .int)),.mu false (lM ((q.r.filter λ y=>decide (y≠i)).map .int)),.no]) (bO (s:=.mu false (lM ((q.r.filter λ y=>decide (y≠i)).map .int))) (v_O (by rw [sn]; exact oO (u6 (aK (j4 (ag rfl) fB) (ag rfl) (bC hq))) (by rw [Za]; omega) (p7 (f:=λ y=>decide (y≠i)) λ x _=>ba (aK (ag rfl) (ag rfl) ((iE _ _).trans (by rw [decide_not]))))) (cG _)) (Zb rfl) rfl) ?_
  refine aE (eW (dA (ah (ag rfl) (ah (dG (b:=false) rfl (g8 _)) ay)) (f6 p0 p1) rfl)) ?_
  refine aE (τ':=[.mu true (trM t.af gv M),.shr (.int i),.shr (.int h),.shr (.int pl),.shr (.lst (l.map .int)),.mu false (lM ((q.r.filter λ y=>decide (y≠i)).map .int)),.shr (.int (tpI ns))]) (bO (s:=.shr (.int (tpI ns))) (v_S (by
   rw [sn];refine bo (ah (qg (ds:=(i::l).map .int) (u6 (aK (gz (ah (ag rfl) ay) (Zb rfl)) (ag rfl) ?_)) (by rw [Za]; show l.length+1<=_; omega) (ds.map (λ x n hx hx12=>dA (ah (ag rfl) (ah (ag rfl) ay)) (hU hx (by omega)) rfl) d12)) ay) (zg (by rw [ds.len]; exact Nat.succ_pos _));show (if [D.int i].length+(l.map D.int).length<=100000 then some (D.lst ([D.int i]++l.map .int)) else none)=_;rw [if_pos (by rw [Za]; show 1+l.length<=_; omega)]
   rfl) rfl) (Zb rfl) rfl) ?_
  refine aE (gU (t_S (by
   rw [sn]
   exact ba (aK (aK (aK (aK (dA (ah (ag rfl) (ah (ag rfl) ay)) (hU ch (by omega)) rfl) e_c (aO _ _)) (ag rfl) (aO _ _)) (dA (ah (ag rfl) (ah (ag rfl) ay)) (hU ci (by omega)) rfl) (gR _ _)) e_c (B3 hd)))) rfl) ?_
  refine aE (τ':=[.mu true (trM t.af gv M),.shr (.int i),.shr (.int h),.shr (.int pl),.shr (.lst (l.map .int)),.mu false (lM (row.map .int)),.shr (.int (tpI ns))]) ((xZ (n:=pl) (cs0:=_) bJ rfl (ag rfl) (v_N (ag rfl)) rfl rfl ⟨p0,by rw [Za,Za]; exact p1,by rw [Za,Za]; omega⟩).trans ?_) ho;rw [eU rfl,pV,er];rfl
 have eb:bW (.dct (kv (λ b=>.lst (b.r.map .int)) M)) (.int h)=some (.lst (q.r.map .int)):=bC hq
 have et:tS (dT (dOp oEq (aF 5) (dOp bW (dUn (xR t.af "boxes") (aF 0)) (aF 2)))) [.mu true (trM t.af gv M),.shr (.int i),.shr (.int h),.shr (.int pl),.shr (.lst (l.map .int)),.mu false (lM (row.map .int)),.shr (.int (tpI ns))]=some (decide (row=q.r),[.mu true (trM t.af gv M),.shr (.int i),.shr (.int h),.shr (.int pl),.shr (.lst (l.map .int)),.mu false (lM (row.map .int)),.shr (.int (tpI ns))]) :=
  t_S (ba (aK (dG (b:=false) rfl (g8 _)) (aK (j4 (dG (b:=true) rfl (k7 _ _ _)) fB) (ag rfl) eb) (Ca _ _)))
 by_cases hr:row=q.r
 ·have hjh:j=h:=by
   have:i ∈ q.r:=by rw [<- hr,er]; exact jY.mpr (.inl rfl)
   obtain ⟨d,d1,d2⟩:=m.zm hq this;rw [hb] at d1;cases d1;rw [hj] at d2;exact Zj d2
  rw [Zs hr] at et ⊢;refine (eD (s:=.shr (.bl false)) (τ:=[.mu true (trM t.af gv M),.shr (.int i),.shr (.int h),.shr (.int pl),.shr (.lst (l.map .int)),.mu false (lM (row.map .int)),.shr (.int (tpI ns))]) (go ?_)).trans ?_
  ·have:(pD (tS (dT (dOp oEq (aF 5) (dOp bW (dUn (xR t.af "boxes") (aF 0)) (aF 2))))) (jB (eN (dC (.bl false)))) iV) [.mu true (trM t.af gv M),.shr (.int i),.shr (.int h),.shr (.int pl),.shr (.lst (l.map .int)),.mu false (lM (row.map .int)),.shr (.int (tpI ns))]=some (.ret (.shr (.bl false)) [.mu true (trM t.af gv M),.shr (.int i),.shr (.int h),.shr (.int pl),.shr (.lst (l.map .int)),.mu false (lM (row.map .int)),.shr (.int (tpI ns))]):=uL et (ou (v_N e_c))
   unfold dz;rw [this]
  ·rw [hjh,hr,BE m.nd hb (hjh ▸ hj) hq]
   rfl
 ·rw [Zq hr] at et ⊢
  refine (eD (s:=.shr (.bl true)) (τ:=[.mu true (trM t.af gv (mvB M i j h (p.r.erase i) row)),.shr (.int i),.shr (.int h),.shr (.int pl),.shr (.lst (l.map .int)),.no,.shr (.int (tpI ns))]) (go ?_)).trans rfl;refine aE (gU et rfl) ?_
  have hg:aP [.mu true (trM t.af gv M),.shr (.int i),.shr (.int h),.shr (.int pl),.shr (.lst (l.map .int)),.mu false (lM (row.map .int)),.shr (.int (tpI ns))] 0 [.k (.inr "boxes"),.k (.inl j)]=some (lM (p.r.map .int)):=by
   rw [kX rfl];refine nR.trans ?_
   refine (k6 _ _ _).trans ?_
   rw [hp];rfl
  have eh:bW (.dct (kv (λ b=>hD b.h) M)) (.int i)=some (.int j):=by
   rw [bC hb,hj];rfl
  refine aE (τ':=[.mu true (trM t.af gv (upR M j (p.r.erase i))),.shr (.int i),.shr (.int h),.shr (.int pl),.shr (.lst (l.map .int)),.mu false (lM (row.map .int)),.shr (.int (tpI ns))]) ((xY (n:=i) (ns:=p.r) (qz (kE bJ rfl) (by rw [sn]; exact aK (j4 (ag rfl) fH) (ag rfl) eh) rfl rfl) (ag rfl) hg (jk _) ⟨by omega,hi⟩).trans ?_) ?_
  ·rw [eU rfl,pH]
   have ep:(trM t.af gv M).put ([]++[.k (.inr "boxes")]++[.k (.inl j)]) (lM ((p.r.erase i).map .int))=trM t.af gv (upR M j (p.r.erase i)):=by
    refine f7.trans ?_
    rw [kR m.nd hp,pA]
   rw [ep];rfl
  have hq3:∃ q',fd (upR M j (p.r.erase i)) h=some q':=by rw [c9,hq]; exact ⟨_,rfl⟩
  obtain ⟨q',hq'⟩:=hq3;have hb3:∃ b',fd (upR (upR M j (p.r.erase i)) h row) i=some b':=by rw [c9,c9,hb]; exact ⟨_,rfl⟩
  obtain ⟨b',hb'⟩:=hb3;refine aE (τ':=[.mu true (trM t.af gv (upR (upR M j (p.r.erase i)) h row)),.shr (.int i),.shr (.int h),.shr (.int pl),.shr (.lst (l.map .int)),.no,.shr (.int (tpI ns))]) ?_ ?_
  ·refine (eX (cs:=kv (λ b=>lM (b.r.map .int)) (upR M j (p.r.erase i))) (τ1:=[.mu true (trM t.af gv (upR M j (p.r.erase i))),.shr (.int i),.shr (.int h),.shr (.int pl),.shr (.lst (l.map .int)),.no,.shr (.int (tpI ns))]) (v_V rfl) (kE bJ rfl) (ag rfl) rfl rfl rfl (by rw [fZ,dY]; omega)).trans ?_
   rw [eU rfl,tF hq']
   have:trM t.af gv (upR (upR M j (p.r.erase i)) h row)=(trM t.af gv (upR M j (p.r.erase i))).put ([]++[.k (.inr "boxes")]) (.n .d (kv (λ b=>lM (b.r.map .int)) (upR (upR M j (p.r.erase i)) h row))):=by
    rw [pA];exact qF.symm
   rw [this];rfl
  refine aE (τ':=[.mu true (trM t.af gv (mvB M i j h (p.r.erase i) row)),.shr (.int i),.shr (.int h),.shr (.int pl),.shr (.lst (l.map .int)),.no,.shr (.int (tpI ns))]) ?_ (ou (v_N e_c))
  refine (jE (cs:=kv (λ b=>.s (hD b.h)) (upR (upR M j (p.r.erase i)) h row)) (v_N (ag rfl)) (ag rfl) rfl rfl (by rw [fZ,dY,dY]; omega)).trans ?_
  rw [Ah hb'];unfold mvB;rw [CU];rfl
end
end N12
end
section
namespace N12
open PySem L2
section
variable {t:Adr} {gv:Int} {M G:List B8}
def Hd (M:List B8):Prop:=∃ r T,M=r::T/\r.i=0
theorem ER {h p:Int} {b:B8} {nm:Str} (hd:Hd M):Hd (fV M h b p gv nm):=by
 obtain ⟨r,T,rfl,e⟩:=hd;refine ⟨_,_,rfl,?_⟩;show (if r.i=h then { r with r:=insI b.r p gv } else r).i=0;split <;> exact e
theorem zo (hd:Hd M) (nd:Nd M) {k:Int} (k0:1<=k) (k1:k < M.length):∃ b ∈ M,b.i≠0/\oIx (.lst ((M.map B8.i).map .int)) (.int k)=some (.int b.i):=by
 obtain ⟨r,T,rfl,e⟩:=hd;unfold Nd at nd;rw [Zg,Zt] at nd;obtain ⟨h,e1⟩:=nJ (xs:=((r::T).map B8.i).map D.int) (j:=k) (by omega) (by rw [Za,Za]; exact k1);obtain ⟨n,hn⟩:∃ n:Nat,k.toNat=n+1:=⟨k.toNat - 1,by omega⟩
 have hl:n < T.length:=by
  rw [Zx] at k1;omega
 refine ⟨T[n],Zc _ (Y6 hl),λ z=>nd.1 ?_,?_⟩
 ·rw [e,<- z]
  exact Yb (Y6 hl)
 ·show atI _ k=_
  rw [e1];simp [hn]
theorem me {a x:Int} (h:Anc M a x) {r:B8} (r1:fd M x=some r) (r2:r.h=none):a=x:=by
 cases h with
 | refl=>rfl
 | up h1 h2 _=>rw [r1] at h1; cases h1; rw [r2] at h2; cases h2
theorem Jj {i j h:Int} {rj rh:List Int} (hd:Hd M):Hd (mvB M i j h rj rh):=by
 obtain ⟨r,T,rfl,e⟩:=hd;refine ⟨_,_,rfl,?_⟩;have e1:(if r.i=j then { r with r:=rj } else r).i=0:=by split <;> exact e
 have e2:(if (if r.i=j then { r with r:=rj } else r).i=h then { (if r.i=j then { r with r:=rj } else r) with r:=rh } else (if r.i=j then { r with r:=rj } else r)).i=0:=by
  by_cases z:(if r.i=j then { r with r:=rj } else r).i=h
  · rw [if_pos z]; exact e1
  · rw [if_neg z]; exact e1
 show (if (if (if r.i=j then { r with r:=rj } else r).i=h then { (if r.i=j then { r with r:=rj } else r) with r:=rh } else (if r.i=j then { r with r:=rj } else r)).i=i then { (if (if r.i=j then { r with r:=rj } else r).i=h then { (if r.i=j then { r with r:=rj } else r) with r:=rh } else (if r.i=j then { r with r:=rj } else r)) with h:=some h } else (if (if r.i=j then { r with r:=rj } else r).i=h then { (if r.i=j then { r with r:=rj } else r) with r:=rh } else (if r.i=j then { r with r:=rj } else r))).i=0
 by_cases z:(if (if r.i=j then { r with r:=rj } else r).i=h then { (if r.i=j then { r with r:=rj } else r) with r:=rh } else (if r.i=j then { r with r:=rj } else r)).i=i
 · rw [if_pos z]; exact e2
 · rw [if_neg z]; exact e2
theorem EB (M:List B8) (i j h:Int) (rj rh:List Int):(mvB M i j h rj rh).length=M.length:=by
 unfold mvB upH;rw [Za,dY,dY]
theorem sn3 {b0 b1 b2:Bool} {r:List Sm}:aL (.mu b0 (trM t.af gv M)::.mu b1 (bxM M)::.mu b2 (faM G)::r)=.shr (trD t.af gv M)::.shr (.dct (kv (λ b=>.lst (b.r.map .int)) M))::.shr (faD G)::aL r:=by
 rw [iz];show _::Sl.shr (frz (bxM M))::Sl.shr (frz (faM G))::_=_;rw [gZ,iY]
open Classical in
theorem uO (m:MOk gv M) (fo:Cu M G) (ng:Nd G) (gl:G.length < 1000) (hd:Hd M) (h90:M.length < 90) (l2:2<=M.length) {c w:Int} (w0:0<=w) (w1:w<=900) :
  ∃ i j h rj rh,MOk gv (mvB M i j h rj rh)/\du t [.mu true (trM t.af gv M),.mu true (bxM M),.mu true (faM G),.shr (.int c),.shr (.int w)]=some (.shr (.bl true),[.mu true (trM t.af gv (mvB M i j h rj rh)),.mu true (bxM (mvB M i j h rj rh)),.mu true (faM (upH G i h)),.no,.no]):=by
 obtain ⟨q0,e0,q00,q01⟩:=lP c w0 (show w<=10000 by omega);obtain ⟨q1,e1,q10,q11⟩:=lP c (show (0:Int)<=w+1 by omega) (show w+1<=10000 by omega);obtain ⟨q2,e2,q20,q21⟩:=lP c (show (0:Int)<=w+2 by omega) (show w+2<=10000 by omega);have k0:0<=q0 % ((M.length:Int) - 1):=Yq _ (by omega);have k1:q0 % ((M.length:Int) - 1) < (M.length:Int) - 1:=Yg _ (by omega);obtain ⟨b,hm,i0,ei⟩:=zo hd m.nd (k:=1+q0 % ((M.length:Int) - 1)) (by omega) (by omega);have hb:=iH m.nd hm;obtain ⟨g0,hg0,gh0,gn0⟩:=fo b.i b hb;obtain ⟨j,p,hj,hp,pi⟩:=m.hol b hm i0;obtain ⟨l,hs,hs'⟩:=Sub.of m hb;have nd:(b.i::l).Nodup:=hs.nodup m (List.pairwise_singleton _ _);have ll:=sub_len nd hs.in;have lc:(b.i::l).length=l.length+1:=rfl;obtain ⟨ni,ci,ni12⟩:=m.dp hb;obtain ⟨ns,ds⟩:=Dps.ex m (l:=b.i::l) hs.in
 have d12:∀ n ∈ ns,n<=12:=λ n hn=>by
  obtain ⟨x,hx,hc⟩:=ds.back n hn;obtain ⟨bb,hbb⟩:=hc.get;obtain ⟨n',h1,h2⟩:=m.dp hbb;rw [hc.uniq h1]; exact h2
 have nl:0 < ns.length:=by rw [ds.len]; exact Nat.succ_pos _
 have tp12:tpI ns<=12:=by
  obtain ⟨n,hn,e⟩:=CV nl;rw [e];have:=d12 n hn;omega
 obtain ⟨nj,cj,enj⟩:∃ nj,Ch M j nj/\ni=nj+1:=by
  cases ci with
  | top h e=>rw [hb] at h; cases h; rw [hj] at e; cases e
  | up h e c=>rw [hb] at h; cases h; rw [hj] at e; cases e; exact ⟨_,c,rfl⟩
 have jn:j ∉ b.i::l:=λ h=>by
  obtain ⟨k,c1,c2,_⟩:=((hs.iff m hp).mp h).deep cj;have:=c1.uniq ci;omega
 let f:Int->Bool:=λ x=>!decide (x ∈ b.i::l)&&decide (∃ n:Nat,Ch M x n/\(n:Int)+1+(tpI ns - ni)<=12)
 obtain ⟨fre,efr⟩:∃ fre,fre=(M.map B8.i).filter f:=⟨_,rfl⟩
 have fok:∀ x ∈ fre,(∃ q,fd M x=some q)/\x ∉ b.i::l/\∃ n:Nat,Ch M x n/\(n:Int)+1+(tpI ns - ni)<=12:=λ x hx=>by
  rw [efr,Yy] at hx;obtain ⟨h1,h2⟩:=hx;obtain ⟨q,hq,rfl⟩:=Z5.mp h1;simp only [f,Yr,Bool.not_eq_true',decide_eq_false_iff_not,decide_eq_true_eq] at h2;exact ⟨⟨q,iH m.nd hq⟩,h2.1,h2.2⟩
 have fne:fre≠[]:=λ e=>by
  obtain ⟨r,r1,r2⟩:=m.root
  have:(0:Int) ∈ fre:=by
   rw [efr,Yy];refine ⟨Z5.mpr ⟨r,aG r1,ee r1⟩,?_⟩
   have n0:(0:Int) ∉ b.i::l:=λ h=>by
    exact i0 (me ((hs.iff m r1).mp h) r1 r2)
   simp only [f,Yr,Bool.not_eq_true',decide_eq_false_iff_not,decide_eq_true_eq];exact ⟨n0,0,.top r1 r2,by omega⟩
  rw [e] at this;cases this
 have flp:0 < fre.length:=List.length_pos_iff.mpr fne;obtain ⟨xm,mm,em⟩:=uW (ys:=fre) (j:=q1 / 3 % (fre.length:Int)) (Yq _ (by omega)) (Yg _ (by omega))
 obtain ⟨h,eh,⟨q,hq⟩,hn,nh,ch,hdp⟩:∃ h,h=(if q1 % 3=0 then j else xm)/\(∃ q,fd M h=some q)/\h ∉ b.i::l/\∃ n:Nat,Ch M h n/\(n:Int)+1+(tpI ns - ni)<=12:=by
  split
  · exact ⟨j,rfl,⟨p,hp⟩,jn,nj,cj,by omega⟩
  ·obtain ⟨a1,a2,a3⟩:=fok xm mm
   exact ⟨xm,rfl,a1,a2,a3⟩
 obtain ⟨nh',ch',nh12⟩:=m.dp hq;have:=ch.uniq ch';subst this
 have hq2:q.r.length<=M.length:=sub_len (m.rnd q (aG hq)) λ y hy=>by
  obtain ⟨d,d1,_⟩:=m.kid q (aG hq) y hy;exact ⟨d,d1⟩
 have hp2:p.r.length<=M.length:=sub_len (m.rnd p (aG hp)) λ y hy=>by
  obtain ⟨d,d1,_⟩:=m.kid p (aG hp) y hy;exact ⟨d,d1⟩
 obtain ⟨rs,ers⟩:∃ rs,rs=q.r.filter λ y=>decide (y≠b.i):=⟨_,rfl⟩
 have hf2:rs.length<=q.r.length:=by rw [ers]; exact List.length_filter_le _ _
 obtain ⟨pl,epl⟩:∃ pl,pl=q2 % ((rs.length:Int)+1):=⟨_,rfl⟩
 have p0:0<=pl:=by rw [epl]; exact Yq _ (by omega)
 have p1:pl<=rs.length:=by have:=Yg q2 (show 0 < (rs.length:Int)+1 by omega); omega
 obtain ⟨row,erow⟩:∃ row,row=insI rs pl b.i:=⟨_,rfl⟩
 have na:¬ Anc M b.i h:=λ a=>hn ((hs.iff m hq).mpr a)
 have mok:=Et m hb hj hp hq na ci ch (λ x n a hc=>by
  obtain ⟨bx,hbx⟩:=hc.get;have:=Gw (ds.mem x ((hs.iff m hbx).mpr a) n hc)
  omega) (rj:=p.r.erase b.i) rfl (pl:=pl) (rh:=row) (by rw [erow,ers])
 refine ⟨b.i,j,h,p.r.erase b.i,row,mok,?_⟩;unfold du ft;dsimp only;have eM:(M.map B8.i).length=M.length:=Za _;refine (eD (s:=.shr (.bl true)) (τ:=[.mu true (trM t.af gv (mvB M b.i j h (p.r.erase b.i) row)),.mu true (bxM (mvB M b.i j h (p.r.erase b.i) row)),.mu true (faM (upH G b.i h)),.shr (.int c),.shr (.int w),.shr (.lst ((M.map B8.i).map .int)),.shr (.int b.i),.shr (.lst ((b.i::l).map .int)),.shr (.int (tpI ns - ni)),.shr (.lst (fre.map .int)),.shr (.int q1),.shr (.int h),.no,.shr (.int pl),.shr (.bl (!decide (row=q.r))),.shr (.bl (!decide (row=q.r)))]) ?_).trans rfl;refine aE (τ':=[.mu true (trM t.af gv M),.mu true (bxM M),.mu true (faM G),.shr (.int c),.shr (.int w),.shr (.lst ((M.map B8.i).map .int)),.no,.no,.no,.no,.no,.no,.no,.no,.no,.no]) (bO (v_F ?_ (cG _)) (Zb rfl) rfl) ?_
 ·unfold jb
  rw [dG (b:=true) rfl (gZ M)];show some (D.lst ((kv _ M).map _))=_;unfold kv;rw [Zy,Zy];rfl
 refine aE (τ':=[.mu true (trM t.af gv M),.mu true (bxM M),.mu true (faM G),.shr (.int c),.shr (.int w),.shr (.lst ((M.map B8.i).map .int)),.shr (.int b.i),.no,.no,.no,.no,.no,.no,.no,.no,.no]) (bO (v_N (aK (ag rfl) (aK e_c (aK (dA (ah (ag rfl) (ah (ag rfl) ay)) e0 rfl) (aK (bo (ah (ag rfl) ay) (kI _)) e_c (gR _ _)) (bE (by omega))) (aO _ _)) (by rw [eM]; exact ei))) (Zb rfl) rfl) ?_
 refine aE (τ':=[.mu true (trM t.af gv M),.mu true (bxM M),.mu true (faM G),.shr (.int c),.shr (.int w),.shr (.lst ((M.map B8.i).map .int)),.shr (.int b.i),.shr (.lst ((b.i::l).map .int)),.no,.no,.no,.no,.no,.no,.no,.no]) (bO (v_F (vm (ah (dG (b:=true) rfl (gZ M)) (ah (ag rfl) ay)) (pw hs (by omega)) rfl) (cG _)) (Zb rfl) rfl) ?_
 refine aE (τ':=[.mu true (trM t.af gv M),.mu true (bxM M),.mu true (faM G),.shr (.int c),.shr (.int w),.shr (.lst ((M.map B8.i).map .int)),.shr (.int b.i),.shr (.lst ((b.i::l).map .int)),.shr (.int (tpI ns - ni)),.no,.no,.no,.no,.no,.no,.no]) (bO (v_S (by
  rw [sn3]
  exact aK (bo (ah (qg (u6 (ag rfl)) (by rw [Za]; omega) (ds.map (λ x n hx _=>dA (ah (ag rfl) (ah (ag rfl) ay)) (j6 (fo.ch hx)) rfl) d12)) ay) (zg nl)) (dA (ah (ag rfl) (ah (ag rfl) ay)) (j6 (fo.ch ci)) rfl) (gR _ _)) rfl) (Zb rfl) rfl) ?_
 refine aE (τ':=[.mu true (trM t.af gv M),.mu true (bxM M),.mu true (faM G),.shr (.int c),.shr (.int w),.shr (.lst ((M.map B8.i).map .int)),.shr (.int b.i),.shr (.lst ((b.i::l).map .int)),.shr (.int (tpI ns - ni)),.shr (.lst (fre.map .int)),.no,.no,.no,.no,.no,.no]) (bO (v_F (by
  rw [sn3,efr];refine oO (u6 (ag rfl)) (by rw [Za,eM]; omega) (p7 (f:=f) λ x hx=>?_);obtain ⟨d,hd',rfl⟩:=Z5.mp hx;obtain ⟨n,hn',_⟩:=m.dp (iH m.nd hd');have et:dT (dOp jM (aF 0) (aF 1)) [.shr (.int d.i),.shr (.lst ((b.i::l).map .int)),.shr (.int (tpI ns - ni)),.shr (faD G)]=some (!decide (d.i ∈ b.i::l)):=ba (aK (ag rfl) (ag rfl) (Bp _ _));have ex:(decide (∃ n:Nat,Ch M d.i n/\(n:Int)+1+(tpI ns - ni)<=12))=decide ((n:Int)+1+(tpI ns - ni)<=12):=Y7.mpr ⟨λ ⟨k,k1,k2⟩=>by rw [hn'.uniq k1]; exact k2,λ z=>⟨n,hn',z⟩⟩;refine Gz (b:=!decide (d.i ∈ b.i::l)) et (λ z=>?_) (λ z=>?_)
  ·show _=some (_&&_)
   rw [z,Bool.true_and,ex];exact ba (aK (aK (aK (dA (ah (ag rfl) (ah (ag rfl) ay)) (j6 (fo.ch hn')) rfl) e_c (aO _ _)) (ag rfl) (aO _ _)) e_c rfl)
  ·show (_&&_)=false
   rw [z,Bool.false_and]) (cG _)) (Zb rfl) rfl) ?_
 refine aE (τ':=[.mu true (trM t.af gv M),.mu true (bxM M),.mu true (faM G),.shr (.int c),.shr (.int w),.shr (.lst ((M.map B8.i).map .int)),.shr (.int b.i),.shr (.lst ((b.i::l).map .int)),.shr (.int (tpI ns - ni)),.shr (.lst (fre.map .int)),.shr (.int q1),.no,.no,.no,.no,.no]) (bO (v_N (dA (ah (ag rfl) (ah (aK (ag rfl) e_c (aO _ _)) ay)) e1 rfl)) (Zb rfl) rfl) ?_
 refine aE (τ':=[.mu true (trM t.af gv M),.mu true (bxM M),.mu true (faM G),.shr (.int c),.shr (.int w),.shr (.lst ((M.map B8.i).map .int)),.shr (.int b.i),.shr (.lst ((b.i::l).map .int)),.shr (.int (tpI ns - ni)),.shr (.lst (fre.map .int)),.shr (.int q1),.shr (.int xm),.no,.no,.no,.no]) (bO (v_N (aK (ag rfl) (aK (aK (ag rfl) e_c (gS (by decide) (by decide +kernel))) (bo (ah (ag rfl) ay) (kI fre)) (bE (by omega))) em)) (Zb rfl) rfl) ?_
 refine aE (τ':=[.mu true (trM t.af gv M),.mu true (bxM M),.mu true (faM G),.shr (.int c),.shr (.int w),.shr (.lst ((M.map B8.i).map .int)),.shr (.int b.i),.shr (.lst ((b.i::l).map .int)),.shr (.int (tpI ns - ni)),.shr (.lst (fre.map .int)),.shr (.int q1),.shr (.int h),.no,.no,.no,.no]) ?_ ?_
 ·have et:tS (dT (dOp oEq (dOp oMod (aF 10) (dC (.int 3))) (dC (.int 0)))) [.mu true (trM t.af gv M),.mu true (bxM M),.mu true (faM G),.shr (.int c),.shr (.int w),.shr (.lst ((M.map B8.i).map .int)),.shr (.int b.i),.shr (.lst ((b.i::l).map .int)),.shr (.int (tpI ns - ni)),.shr (.lst (fre.map .int)),.shr (.int q1),.shr (.int xm),.no,.no,.no,.no]=some (decide (q1 % 3=0),[.mu true (trM t.af gv M),.mu true (bxM M),.mu true (faM G),.shr (.int c),.shr (.int w),.shr (.lst ((M.map B8.i).map .int)),.shr (.int b.i),.shr (.lst ((b.i::l).map .int)),.shr (.int (tpI ns - ni)),.shr (.lst (fre.map .int)),.shr (.int q1),.shr (.int xm),.no,.no,.no,.no]):=t_S (ba (aK (aK (ag rfl) e_c (bE (by decide))) e_c (eL _ _)))
  by_cases z:q1 % 3=0
  ·rw [if_pos z] at eh
   rw [Zs z] at et;rw [eh]
   have ef:bW (faD G) (.int b.i)=some (.tup [.int j,.str b.n]):=by
    refine (bC hg0).trans ?_
    rw [gh0,gn0,hj];rfl
   exact uL et ((bO (v_S (aK (aK (dG (b:=true) rfl (iY G)) (ag rfl) ef) e_c (eJ _ _)) rfl) (Zb rfl) rfl).trans rfl)
  ·rw [if_neg z] at eh
   rw [Zq z] at et;rw [eh];exact gU et rfl
 refine aE (τ':=[.mu true (trM t.af gv M),.mu true (bxM M),.mu true (faM G),.shr (.int c),.shr (.int w),.shr (.lst ((M.map B8.i).map .int)),.shr (.int b.i),.shr (.lst ((b.i::l).map .int)),.shr (.int (tpI ns - ni)),.shr (.lst (fre.map .int)),.shr (.int q1),.shr (.int h),.mu false (lM (rs.map .int)),.no,.no,.no]) (bO (v_O (by
  rw [sn3,ers]
  exact oO (u6 (aK (ag rfl) (ag rfl) (bC hq))) (by rw [Za]; omega) (p7 (f:=λ y=>decide (y≠b.i)) λ x _=>ba (aK (ag rfl) (ag rfl) ((iE _ _).trans (by rw [decide_not]))))) (cG _)) (Zb rfl) rfl) ?_
 refine aE (τ':=[.mu true (trM t.af gv M),.mu true (bxM M),.mu true (faM G),.shr (.int c),.shr (.int w),.shr (.lst ((M.map B8.i).map .int)),.shr (.int b.i),.shr (.lst ((b.i::l).map .int)),.shr (.int (tpI ns - ni)),.shr (.lst (fre.map .int)),.shr (.int q1),.shr (.int h),.mu false (lM (rs.map .int)),.shr (.int pl),.no,.no]) (bO (v_S (aK (dA (ah (ag rfl) (ah (aK (ag rfl) e_c (aO _ _)) ay)) e2 rfl) (aK (bo (ah (dG (b:=false) rfl (g8 _)) ay) (kI rs)) e_c (aO _ _)) ((bE (by omega)).trans (by rw [epl]))) rfl) (Zb rfl) rfl) ?_
 refine aE (τ':=[.mu true (trM t.af gv M),.mu true (bxM M),.mu true (faM G),.shr (.int c),.shr (.int w),.shr (.lst ((M.map B8.i).map .int)),.shr (.int b.i),.shr (.lst ((b.i::l).map .int)),.shr (.int (tpI ns - ni)),.shr (.lst (fre.map .int)),.shr (.int q1),.shr (.int h),.mu false (lM (row.map .int)),.shr (.int pl),.no,.no]) ((xZ (n:=pl) (cs0:=_) bJ rfl (ag rfl) (v_N (ag rfl)) rfl rfl ⟨p0,by rw [Za,Za]; exact p1,by rw [Za,Za]; omega⟩).trans (by
  rw [eU rfl,pV,erow]
  rfl)) ?_
 refine aE (τ':=[.mu true (trM t.af gv M),.mu true (bxM M),.mu true (faM G),.shr (.int c),.shr (.int w),.shr (.lst ((M.map B8.i).map .int)),.shr (.int b.i),.shr (.lst ((b.i::l).map .int)),.shr (.int (tpI ns - ni)),.shr (.lst (fre.map .int)),.shr (.int q1),.shr (.int h),.mu false (lM (row.map .int)),.shr (.int pl),.shr (.bl (!decide (row=q.r))),.no]) (bO (v_S (aK (dG (b:=false) rfl (g8 _)) (aK (dG (b:=true) rfl (gZ M)) (ag rfl) (bC hq)) (Bq _ _)) rfl) (Zb rfl) rfl) ?_
 have ep:=BG (t:=t) m h90 hb hj hp pi hq hs' hn (by omega) ci ch ⟨ni12,nh12⟩ ds d12 (by omega) (row:=row) (pl:=pl) (by rw [erow,ers]) p0 (by rw [<- ers]; exact p1);refine aE (τ':=[.mu true (trM t.af gv (mvB M b.i j h (p.r.erase b.i) row)),.mu true (bxM M),.mu true (faM G),.shr (.int c),.shr (.int w),.shr (.lst ((M.map B8.i).map .int)),.shr (.int b.i),.shr (.lst ((b.i::l).map .int)),.shr (.int (tpI ns - ni)),.shr (.lst (fre.map .int)),.shr (.int q1),.shr (.int h),.mu false (lM (row.map .int)),.shr (.int pl),.shr (.bl (!decide (row=q.r))),.shr (.bl (!decide (row=q.r)))]) (bO (s:=.shr (.bl (!decide (row=q.r)))) (v_M (C:=t.af) (i:=0) (q:=[]) (ss:=[.mu true (trM t.af gv M),.shr (.int b.i),.shr (.int h),.shr (.int pl)]) (τ':=[.mu true (trM t.af gv (mvB M b.i j h (p.r.erase b.i) row)),.mu true (bxM M),.mu true (faM G),.shr (.int c),.shr (.int w),.shr (.lst ((M.map B8.i).map .int)),.shr (.int b.i),.shr (.lst ((b.i::l).map .int)),.shr (.int (tpI ns - ni)),.shr (.lst (fre.map .int)),.shr (.int q1),.shr (.int h),.mu false (lM (row.map .int)),.shr (.int pl),.shr (.bl (!decide (row=q.r))),.no]) bJ rfl rfl (bI (q_N (ag rfl)) (bI (q_N (ag rfl)) (bI (q_N (ag rfl)) rfl))) rfl ep rfl) (Zb rfl) rfl) ?_
 have hg:aP [.mu true (trM t.af gv (mvB M b.i j h (p.r.erase b.i) row)),.mu true (bxM M),.mu true (faM G),.shr (.int c),.shr (.int w),.shr (.lst ((M.map B8.i).map .int)),.shr (.int b.i),.shr (.lst ((b.i::l).map .int)),.shr (.int (tpI ns - ni)),.shr (.lst (fre.map .int)),.shr (.int q1),.shr (.int h),.mu false (lM (row.map .int)),.shr (.int pl),.shr (.bl (!decide (row=q.r))),.shr (.bl (!decide (row=q.r)))] 1 [.k (.inl j)]=some (lM (p.r.map .int)):=by
  rw [kX rfl];refine (k6 _ _ _).trans ?_
  rw [hp];rfl
 have ef:bW (faD G) (.int b.i)=some (.tup [.int j,.str b.n]):=by
  refine (bC hg0).trans ?_
  rw [gh0,gn0,hj];rfl
 refine aE (τ':=[.mu true (trM t.af gv (mvB M b.i j h (p.r.erase b.i) row)),.mu true (bxM (upR M j (p.r.erase b.i))),.mu true (faM G),.shr (.int c),.shr (.int w),.shr (.lst ((M.map B8.i).map .int)),.shr (.int b.i),.shr (.lst ((b.i::l).map .int)),.shr (.int (tpI ns - ni)),.shr (.lst (fre.map .int)),.shr (.int q1),.shr (.int h),.mu false (lM (row.map .int)),.shr (.int pl),.shr (.bl (!decide (row=q.r))),.shr (.bl (!decide (row=q.r)))]) ((xY (n:=b.i) (ns:=p.r) (qz bJ (aK (aK (dG (b:=true) rfl (iY G)) (ag rfl) ef) e_c (eJ _ _)) rfl rfl) (ag rfl) hg (jk _) ⟨by omega,pi⟩).trans ?_) ?_
 ·rw [eU rfl,pH]
  have e4:(bxM M).put ([]++[.k (.inl j)]) (lM ((p.r.erase b.i).map .int))=bxM (upR M j (p.r.erase b.i)):=kR m.nd hp;rw [e4];rfl
 have hq3:∃ q',fd (upR M j (p.r.erase b.i)) h=some q':=by rw [c9,hq]; exact ⟨_,rfl⟩
 obtain ⟨q',hq'⟩:=hq3
 have bm:bxM (mvB M b.i j h (p.r.erase b.i) row)=.n .d (fU (kv (λ b=>lM (b.r.map .int)) (upR M j (p.r.erase b.i))) (.inl h) (lM (row.map .int))):=by
  rw [tF hq'];unfold mvB bxM kM;rw [qA _ _ _ _ (λ _=>rfl)]
 have fm:faM (upH G b.i h)=.n .d (fU (kv (λ b=>.s (.tup [hD b.h,.str b.n])) G) (.inl b.i) (.s (.tup [.int h,.str b.n]))):=by
  have e:=wK (h:=h) ng hg0;rw [gn0] at e;rw [e];rfl
 have s1:cA (bS 1) (aF 11) (eV 12) [.mu true (trM t.af gv (mvB M b.i j h (p.r.erase b.i) row)),.mu true (bxM (upR M j (p.r.erase b.i))),.mu true (faM G),.shr (.int c),.shr (.int w),.shr (.lst ((M.map B8.i).map .int)),.shr (.int b.i),.shr (.lst ((b.i::l).map .int)),.shr (.int (tpI ns - ni)),.shr (.lst (fre.map .int)),.shr (.int q1),.shr (.int h),.mu false (lM (row.map .int)),.shr (.int pl),.shr (.bl (!decide (row=q.r))),.shr (.bl (!decide (row=q.r)))]=some (.next [.mu true (trM t.af gv (mvB M b.i j h (p.r.erase b.i) row)),.mu true (bxM (mvB M b.i j h (p.r.erase b.i) row)),.mu true (faM G),.shr (.int c),.shr (.int w),.shr (.lst ((M.map B8.i).map .int)),.shr (.int b.i),.shr (.lst ((b.i::l).map .int)),.shr (.int (tpI ns - ni)),.shr (.lst (fre.map .int)),.shr (.int q1),.shr (.int h),.no,.shr (.int pl),.shr (.bl (!decide (row=q.r))),.shr (.bl (!decide (row=q.r)))]):=by
  refine (eX (cs:=kv (λ b=>lM (b.r.map .int)) (upR M j (p.r.erase b.i))) (v_V rfl) bJ (ag rfl) rfl rfl rfl (by rw [fZ,dY]; omega)).trans ?_
  rw [bm];rfl
 have s2:cA (bS 2) (aF 6) (eT (aI (aF 11) (aI (dOp oIx (dOp bW (aF 2) (aF 6)) (dC (.int 1))) dM))) [.mu true (trM t.af gv (mvB M b.i j h (p.r.erase b.i) row)),.mu true (bxM (mvB M b.i j h (p.r.erase b.i) row)),.mu true (faM G),.shr (.int c),.shr (.int w),.shr (.lst ((M.map B8.i).map .int)),.shr (.int b.i),.shr (.lst ((b.i::l).map .int)),.shr (.int (tpI ns - ni)),.shr (.lst (fre.map .int)),.shr (.int q1),.shr (.int h),.no,.shr (.int pl),.shr (.bl (!decide (row=q.r))),.shr (.bl (!decide (row=q.r)))]=some (.next [.mu true (trM t.af gv (mvB M b.i j h (p.r.erase b.i) row)),.mu true (bxM (mvB M b.i j h (p.r.erase b.i) row)),.mu true (faM (upH G b.i h)),.shr (.int c),.shr (.int w),.shr (.lst ((M.map B8.i).map .int)),.shr (.int b.i),.shr (.lst ((b.i::l).map .int)),.shr (.int (tpI ns - ni)),.shr (.lst (fre.map .int)),.shr (.int q1),.shr (.int h),.no,.shr (.int pl),.shr (.bl (!decide (row=q.r))),.shr (.bl (!decide (row=q.r)))]):=by
  refine (eX (cs:=kv (λ b=>.s (.tup [hD b.h,.str b.n])) G) (v_T (ah (ag rfl) (ah (aK (aK (dG (b:=true) rfl (iY G)) (ag rfl) ef) e_c (uC _ _ _)) ay)) rfl (Zb rfl)) bJ (ag rfl) rfl rfl rfl (by rw [fZ]; omega)).trans ?_
  rw [fm];rfl
 have hqm:∃ q2,fd (mvB M b.i j h (p.r.erase b.i) row) h=some q2/\q2.r=row:=by
  rw [yp,hq];exact ⟨_,rfl,if_pos (ee hq)⟩
 obtain ⟨q2',hq2',eq2⟩:=hqm
 have lrow:row.length < 1000:=by
  rw [erow,(ji _ _ _).length_eq,Zx];omega
 have bs:a6 t [trD t.af gv (mvB M b.i j h (p.r.erase b.i) row),.int h]=some (.own (.lst (row.map .int))):=by
  exact (js hq2').trans (by rw [eq2])
 unfold qx
 show (match cA (bS 1) (aF 11) (eV 12) [.mu true (trM t.af gv (mvB M b.i j h (p.r.erase b.i) row)),.mu true (bxM (upR M j (p.r.erase b.i))),.mu true (faM G),.shr (.int c),.shr (.int w),.shr (.lst ((M.map B8.i).map .int)),.shr (.int b.i),.shr (.lst ((b.i::l).map .int)),.shr (.int (tpI ns - ni)),.shr (.lst (fre.map .int)),.shr (.int q1),.shr (.int h),.mu false (lM (row.map .int)),.shr (.int pl),.shr (.bl (!decide (row=q.r))),.shr (.bl (!decide (row=q.r)))] with
  | some (.next τ1)=>match cA (bS 2) (aF 6) (eT (aI (aF 11) (aI (dOp oIx (dOp bW (aF 2) (aF 6)) (dC (.int 1))) dM))) τ1 with
   | some (.next τ2)=>(ka (gA Ht (aI (aF 15) (aI (dC (.ty "bool")) dM))) (ka (dOp oEq (aF 15) (aF 14)) (dFn cz (aI (j8 t.af "boxes_of" (a6 t) (aF 0) (aI (aF 11) dM)) (aI (aF 12) dM)))) ((aL τ2).set 12 (.shr (frz (lM (row.map .int)))))).bind λ d=>if sca d=true/\1≠2 then some (qy.ret (.shr d) τ2) else none
   | _=>none
  | _=>none)=_
 simp only [s1,s2];rw [g8]
 have e0':((aL [.mu true (trM t.af gv (mvB M b.i j h (p.r.erase b.i) row)),.mu true (bxM (mvB M b.i j h (p.r.erase b.i) row)),.mu true (faM (upH G b.i h)),.shr (.int c),.shr (.int w),.shr (.lst ((M.map B8.i).map .int)),.shr (.int b.i),.shr (.lst ((b.i::l).map .int)),.shr (.int (tpI ns - ni)),.shr (.lst (fre.map .int)),.shr (.int q1),.shr (.int h),.no,.shr (.int pl),.shr (.bl (!decide (row=q.r))),.shr (.bl (!decide (row=q.r)))]).set 12 (.shr (.lst (row.map .int))))[0]?=some (.shr (trD t.af gv (mvB M b.i j h (p.r.erase b.i) row))):=by
  show some (Sl.shr (frz (trM t.af gv (mvB M b.i j h (p.r.erase b.i) row))))=_;rw [k7]
 have ebl:∀ x:Bool,oEq (.bl x) (.bl x)=some (.bl true):=λ x=>by
  show some (D.bl (decide (x=x)))=_;rw [Zs rfl]
 rw [j5 (b:=true) (c:=true) (bo (ah (ag rfl) (ah e_c ay)) rfl) (j5 (b:=true) (c:=true) (aK (ag rfl) (ag rfl) (ebl _)) (dA (ah (dJ (ag e0') (ah (ag rfl) ay) rfl bs rfl) (ah (ag rfl) ay)) (f9 row lrow) rfl))];rfl
end
end N12
end
section
namespace N12
open PySem L2
def rm (M:List B8) (l:List Int):List B8:=M.filter λ b=>decide (b.i ∉ l)
theorem pG (M:List B8):rm M []=M:=by
 unfold rm;rw [List.filter_eq_self];intro b _;simp
theorem lL (M:List B8) (g:Int) (l:List Int):rm (M.filter λ b=>decide (b.i≠g)) l=rm M (g::l):=by
 unfold rm;rw [List.filter_filter];congr 1
 funext b
 rw [<- Bool.decide_and];exact Y7.mpr (by rw [Zh,not_or]; exact And.comm)
theorem yo (M:List B8) (l:List Int) (x:Int):fd (rm M l) x=if x ∈ l then none else fd M x:=by
 unfold fd rm;rw [List.find?_filter];split
 ·rename_i h
  rw [List.find?_eq_none];intro b _ e;simp at e;exact e.1 (e.2 ▸ h)
 ·rename_i h
  congr 1
  funext b
  refine Y7.mpr ⟨λ e=>by simpa using e.2,λ e=>⟨by simpa [e] using h,by simpa using e⟩⟩
theorem En {M:List B8} (nd:Nd M) (l:List Int):Nd (rm M l):=by
 unfold Nd rm at *;exact nd.sublist (List.Sublist.map _ Xi)
theorem t7 {C:Addr} {g ho bx mk wd rw:Mt} {cs:List (Key×Mt)} {b:Bool} {r:List Sm} {gk:DE} {d:D} {k:Key} (h3:gk (aL (.mu b (trG C g (.n .d cs) ho bx mk wd rw)::r))=some d) (h4:dQ d=some k) (h5:(cs.any λ c=>decide (c.1=k))=true) :
  xp 0 gk C "names" (.mu b (trG C g (.n .d cs) ho bx mk wd rw)::r)=some (.mu b (trG C g (.n .d (dB cs k)) ho bx mk wd rw)::r):=by
 show (if C=C then (gk (aL (.mu b (trG C g (.n .d cs) ho bx mk wd rw)::r))).bind λ d=>(dQ d).bind λ k=>if (cs.any λ c=>decide (c.1=k))=true then some (Sm.mu b (trG C g (.n .d (dB cs k)) ho bx mk wd rw)::r) else none else none)=_;rw [if_pos rfl,h3];show (dQ d).bind _=_;rw [h4];exact if_pos h5
theorem nX {C:Addr} {g nm bx mk wd rw:Mt} {cs:List (Key×Mt)} {b:Bool} {r:List Sm} {gk:DE} {d:D} {k:Key} (h3:gk (aL (.mu b (trG C g nm (.n .d cs) bx mk wd rw)::r))=some d) (h4:dQ d=some k) (h5:(cs.any λ c=>decide (c.1=k))=true) :
  xp 0 gk C "holders" (.mu b (trG C g nm (.n .d cs) bx mk wd rw)::r)=some (.mu b (trG C g nm (.n .d (dB cs k)) bx mk wd rw)::r):=by
 show (if C=C then (gk (aL (.mu b (trG C g nm (.n .d cs) bx mk wd rw)::r))).bind λ d=>(dQ d).bind λ k=>if (cs.any λ c=>decide (c.1=k))=true then some (Sm.mu b (trG C g nm (.n .d (dB cs k)) bx mk wd rw)::r) else none else none)=_;rw [if_pos rfl,h3];show (dQ d).bind _=_;rw [h4];exact if_pos h5
theorem t9 {C:Addr} {g nm ho mk wd rw:Mt} {cs:List (Key×Mt)} {b:Bool} {r:List Sm} {gk:DE} {d:D} {k:Key} (h3:gk (aL (.mu b (trG C g nm ho (.n .d cs) mk wd rw)::r))=some d) (h4:dQ d=some k) (h5:(cs.any λ c=>decide (c.1=k))=true) :
  xp 0 gk C "boxes" (.mu b (trG C g nm ho (.n .d cs) mk wd rw)::r)=some (.mu b (trG C g nm ho (.n .d (dB cs k)) mk wd rw)::r):=by
 show (if C=C then (gk (aL (.mu b (trG C g nm ho (.n .d cs) mk wd rw)::r))).bind λ d=>(dQ d).bind λ k=>if (cs.any λ c=>decide (c.1=k))=true then some (Sm.mu b (trG C g nm ho (.n .d (dB cs k)) mk wd rw)::r) else none else none)=_;rw [if_pos rfl,h3];show (dQ d).bind _=_;rw [h4];exact if_pos h5
theorem t8 {C:Addr} {g nm ho bx wd rw:Mt} {cs:List (Key×Mt)} {b:Bool} {r:List Sm} {gk:DE} {d:D} {k:Key} (h3:gk (aL (.mu b (trG C g nm ho bx (.n .d cs) wd rw)::r))=some d) (h4:dQ d=some k) (h5:(cs.any λ c=>decide (c.1=k))=true) :
  xp 0 gk C "marks" (.mu b (trG C g nm ho bx (.n .d cs) wd rw)::r)=some (.mu b (trG C g nm ho bx (.n .d (dB cs k)) wd rw)::r):=by
 show (if C=C then (gk (aL (.mu b (trG C g nm ho bx (.n .d cs) wd rw)::r))).bind λ d=>(dQ d).bind λ k=>if (cs.any λ c=>decide (c.1=k))=true then some (Sm.mu b (trG C g nm ho bx (.n .d (dB cs k)) wd rw)::r) else none else none)=_;rw [if_pos rfl,h3];show (dQ d).bind _=_;rw [h4];exact if_pos h5
theorem t6 {C:Addr} {g nm ho bx mk rw:Mt} {cs:List (Key×Mt)} {b:Bool} {r:List Sm} {gk:DE} {d:D} {k:Key} (h3:gk (aL (.mu b (trG C g nm ho bx mk (.n .d cs) rw)::r))=some d) (h4:dQ d=some k) (h5:(cs.any λ c=>decide (c.1=k))=true) :
  xp 0 gk C "words" (.mu b (trG C g nm ho bx mk (.n .d cs) rw)::r)=some (.mu b (trG C g nm ho bx mk (.n .d (dB cs k)) rw)::r):=by
 show (if C=C then (gk (aL (.mu b (trG C g nm ho bx mk (.n .d cs) rw)::r))).bind λ d=>(dQ d).bind λ k=>if (cs.any λ c=>decide (c.1=k))=true then some (Sm.mu b (trG C g nm ho bx mk (.n .d (dB cs k)) rw)::r) else none else none)=_;rw [if_pos rfl,h3];show (dQ d).bind _=_;rw [h4];exact if_pos h5
theorem xo {C:Addr} {g nm ho bx mk wd:Mt} {cs:List (Key×Mt)} {b:Bool} {r:List Sm} {gk:DE} {d:D} {k:Key} (h3:gk (aL (.mu b (trG C g nm ho bx mk wd (.n .d cs))::r))=some d) (h4:dQ d=some k) (h5:(cs.any λ c=>decide (c.1=k))=true) :
  xp 0 gk C "rows" (.mu b (trG C g nm ho bx mk wd (.n .d cs))::r)=some (.mu b (trG C g nm ho bx mk wd (.n .d (dB cs k)))::r):=by
 show (if C=C then (gk (aL (.mu b (trG C g nm ho bx mk wd (.n .d cs))::r))).bind λ d=>(dQ d).bind λ k=>if (cs.any λ c=>decide (c.1=k))=true then some (Sm.mu b (trG C g nm ho bx mk wd (.n .d (dB cs k)))::r) else none else none)=_;rw [if_pos rfl,h3];show (dQ d).bind _=_;rw [h4];exact if_pos h5
theorem ym {j n i:Nat} {g:DGm} {b:DSm} {τ:List Sm} {cs:List (Key×Mt)} (h1:τ[j]?=some (.mu true (.n .l cs))) (h2:cs[i]?=none):iG j g b (n+1) i τ=some (.next τ):=by
 simp only [iG,h1,h2]
theorem vf {j n i:Nat} {g:DGm} {b:DSm} {τ τ':List Sm} {cs:List (Key×Mt)} {k:Key} {d:D} (h1:τ[j]?=some (.mu true (.n .l cs))) (h2:cs[i]?=some (k,.s d)) (h3:(g d τ).bind b=some (.next τ')):iG j g b (n+1) i τ=iG j g b n (i+1) τ':=by
 simp only [iG,h1,h2,h3]
section
variable {t:Adr} {C:Addr} {gv:Int} {M:List B8}
theorem AJ {x1 x2 x4:Sm} {g:Int} {b:B8} (h:fd M g=some b):sT 4 0 C ["names","holders","boxes","marks","words","rows"] (aF 3) [.mu true (trM C gv M),x1,x2,.shr (.int g),x4]=some (.next [.mu true (trM C gv (M.filter λ b=>decide (b.i≠g))),x1,x2,.shr (.int g),.no]):=by
 have a:∀ f:B8->Mt,((kv f M).any λ c=>decide (c.1=.inl g))=true:=λ f=>by rw [qw,h]; rfl
 have e:nW 0 (aF 3) C ["names","holders","boxes","marks","words","rows"] [.mu true (trM C gv M),x1,x2,.shr (.int g),.no]=some [.mu true (trM C gv (M.filter λ b=>decide (b.i≠g))),x1,x2,.shr (.int g),.no]:=by
  unfold trM bxM kM;simp only [nW];rw [t7 (ag rfl) rfl (a _)];simp only [Z4];rw [nX (ag rfl) rfl (a _)];simp only [Z4];rw [t9 (ag rfl) rfl (a _)];simp only [Z4];rw [t8 (ag rfl) rfl (a _)];simp only [Z4];rw [t6 (ag rfl) rfl (a _)];simp only [Z4];rw [xo (ag rfl) rfl (a _)];simp only [Z4,vp]
 show (if C=C/\_/\_/\_ then (nW 0 (aF 3) C ["names","holders","boxes","marks","words","rows"] [.mu true (trM C gv M),x1,x2,.shr (.int g),.no]).map qy.next else none)=_;rw [if_pos ⟨rfl,rfl,Zb rfl,Zb rfl⟩,e];rfl
theorem I9:∀ (rest pre:List Int) (M:List B8) (x1 y z:Sm),rest.Nodup->(∀ g ∈ rest,∃ b,fd M g=some b)->∃ y' z',iG 2 (gNm 3) (sT 4 0 C ["names","holders","boxes","marks","words","rows"] (aF 3)) (rest.length+1) pre.length [.mu true (trM C gv M),x1,.mu true (lM ((pre++rest).map .int)),y,z]=some (.next [.mu true (trM C gv (rm M rest)),x1,.mu true (lM ((pre++rest).map .int)),y',z']):=by
 intro rest
 induction rest with
 | nil =>
  intro pre M x1 y z _ _;refine ⟨y,z,?_⟩;rw [pG];exact ym rfl (by rw [List.getElem?_eq_none_iff]; simp)
 | cons g rest ih =>
  intro pre M x1 y z nd h;rw [Zt] at nd;obtain ⟨b,hb⟩:=h g (Ze ..)
  obtain ⟨y',z',w⟩:=ih (pre++[g]) (M.filter λ b=>decide (b.i≠g)) x1 (.shr (.int g)) .no nd.2 λ k hk=>by
   obtain ⟨c,hc⟩:=h k (Zc _ hk);have ne:k≠g:=λ e=>nd.1 (e ▸ hk)
   have:=yo M [g] k;rw [<- lL,pG,if_neg (by simpa using ne),hc] at this;exact ⟨c,this⟩
  refine ⟨y',z',?_⟩;rw [List.append_assoc,lL,Z1] at w;refine Eq.trans ?_ w;refine vf (k:=.inl 0) (d:=.int g) rfl ?_ ?_
  ·rw [List.getElem?_map,List.getElem?_map,List.getElem?_append_right (Zl _),Nat.sub_self]
   rfl
  · exact AJ hb
theorem Fe {i j:Int} {b p:B8} {l:List Int} (m:MOk gv M) (hb:fd M i=some b) (i0:i≠0) (hj:b.h=some j) (hp:fd M j=some p) (hi:i ∈ p.r) (hs:Sub M b.r l) (nd:(i::l).Nodup) (hl:l.length < 1000) (hr:p.r.length<=1000) :
  fS t [.mu true (trM t.af gv M),.shr (.int i)]=some (.mu false (lM ((i::l).map .int)),[.mu true (trM t.af gv (rm (upR M j (p.r.erase i)) (i::l))),.no]):=by
 have sn:∀ {x y z:Sm},aL [.mu true (trM t.af gv M),.shr (.int i),x,y,z]=.shr (trD t.af gv M)::aL [.shr (.int i),x,y,z]:=iz
 obtain ⟨y',z',w⟩:=I9 (C:=t.af) (gv:=gv) (i::l) [] (upR M j (p.r.erase i)) (.shr (.int i)) .no .no nd λ g hg=>by
  rw [c9];rcases Zh.mp hg with rfl | hg
  · rw [hb]; exact ⟨_,rfl⟩
  ·obtain ⟨c,hc⟩:=hs.in g hg
   rw [hc]; exact ⟨_,rfl⟩
 unfold fS iQ;dsimp only;refine (eD (s:=.mu false (lM ((i::l).map .int))) (τ:=[.mu true (trM t.af gv (rm (upR M j (p.r.erase i)) (i::l))),.shr (.int i),.no,y',z']) ?_).trans rfl;refine aE (eW (τ:=[.mu true (trM t.af gv M),.shr (.int i),.no,.no,.no]) (by rw [sn]; exact dJ (ag rfl) (ah (ag rfl) ay) rfl (h9 hb) rfl)) ?_
 refine aE (gU (t_S (ba (aK (ag rfl) e_c ((eL _ _).trans (by rw [Zq i0]))))) rfl) ?_
 refine aE (τ':=[.mu true (trM t.af gv M),.shr (.int i),.mu false (lM ((i::l).map .int)),.no,.no]) (bO (v_O (ds:=(i::l).map .int) (by rw [sn]; exact Cb (gz (ah (ag rfl) ay) (Zb rfl)) (dA (ah (ag rfl) (ah (ag rfl) ay)) (v8 hb hs (by omega)) rfl) (by rw [Za]; show 1+l.length<=_; omega)) (cG _)) (Zb rfl) rfl) ?_
 have hg:aP [.mu true (trM t.af gv M),.shr (.int i),.mu false (lM ((i::l).map .int)),.no,.no] 0 [.k (.inr "boxes"),.k (.inl j)]=some (lM (p.r.map .int)):=by
  rw [kX rfl];refine nR.trans ?_
  refine (k6 _ _ _).trans ?_
  rw [hp];rfl
 have eh:bW (.dct (kv (λ b=>hD b.h) M)) (.int i)=some (.int j):=by
  rw [bC hb,hj];rfl
 refine aE (xY (n:=i) (ns:=p.r) (qz (kE bJ rfl) (by rw [sn]; exact aK (j4 (ag rfl) fH) (ag rfl) eh) rfl rfl) (ag rfl) hg (jk _) ⟨hr,hi⟩) ?_
 rw [eU rfl,pH]
 have ep:(trM t.af gv M).put [.k (.inr "boxes"),.k (.inl j)] (lM ((p.r.erase i).map .int))=trM t.af gv (upR M j (p.r.erase i)):=by
  refine f7.trans ?_
  rw [kR m.nd hp,pA]
 have es:(List.set [Sm.mu true (trM t.af gv M),.shr (.int i),.mu false (lM ((i::l).map .int)),.no,.no] 0 (.mu true ((trM t.af gv M).put ([]++[.k (.inr "boxes")]++[.k (.inl j)]) (lM ((p.r.erase i).map .int)))))=[Sm.mu true (trM t.af gv (upR M j (p.r.erase i))),.shr (.int i),.mu false (lM ((i::l).map .int)),.no,.no]:=by
  rw [<- ep];rfl
 rw [es];refine aE (τ':=[.mu true (trM t.af gv (rm (upR M j (p.r.erase i)) (i::l))),.shr (.int i),.mu false (lM ((i::l).map .int)),y',z']) ?_ ((ou (v_V rfl)).trans rfl)
 show (iG 2 (gNm 3) _ (((((i::l).map D.int).map λ d=>((.inl 0:Key),Mt.s d)).length)+1) 0 [.mu true (trM t.af gv (upR M j (p.r.erase i))),.shr (.int i),.mu true (lM ((i::l).map .int)),.no,.no]).map (Fn 2 false)=_;rw [Za,Za];refine (Yo (Option.map (Fn 2 false)) w).trans rfl
theorem BI (m:MOk gv M) {i j:Int} {b p:B8} {l:List Int} (hb:fd M i=some b) (hj:b.h=some j) (hp:fd M j=some p) (hs:Sub M [i] l):MOk gv (rm (upR M j (p.r.erase i)) l):=by
 have i0:=m.h0 hb hj;have nd':Nd (rm (upR M j (p.r.erase i)) l):=En (mP m.nd _ _) _;have fx:∀ x,fd (rm (upR M j (p.r.erase i)) l) x=if x ∈ l then none else (fd M x).map λ b=>if b.i=j then { b with r:=p.r.erase i } else b:=λ x=>by rw [yo,c9]
 have il:i ∈ l:=hs.roots i (Zn.mpr rfl);have pn:=m.rnd p (aG hp);have pi:=ee hp
 have un:∀ c ∈ rm (upR M j (p.r.erase i)) l,∃ d,fd M c.i=some d/\c.i ∉ l/\d.i=c.i/\d.h=c.h/\(∀ x ∈ c.r,x ∈ d.r)/\c.r.Nodup/\(c.i=j->c.r=p.r.erase i):=λ c hc=>by
  have e:=iH nd' hc;rw [fx] at e;split at e
  · cases e
  ·rename_i hn
   cases hd:fd M c.i with
   | none=>rw [hd] at e; cases e
   | some d =>
    rw [hd] at e;have e':(if d.i=j then { d with r:=p.r.erase i } else d)=c:=Zj e;have di:=ee hd;have dn:=m.rnd d (aG hd);refine ⟨d,rfl,hn,di,?_⟩;split at e'
    ·rename_i hij
     have ep:d=p:=by
      rw [<- di,hij,hp] at hd;exact (Zj hd).symm
     subst e';subst ep;exact ⟨rfl,λ x hx=>List.mem_of_mem_erase hx,pn.erase _,λ _=>rfl⟩
    ·rename_i hij
     subst e';exact ⟨rfl,λ x hx=>hx,dn,λ e=>absurd e hij⟩
 have oh:∀ d:B8,(if d.i=j then { d with r:=p.r.erase i } else d).h=d.h:=λ d=>by split <;> rfl
 have chr:∀ {x:Int} {n:Nat},Ch M x n->x ∉ l->Ch (rm (upR M j (p.r.erase i)) l) x n:=λ {x n} c=>by
  induction c with
  | @top x d h e=>exact λ hn=>.top (by rw [fx,if_neg hn,h]; rfl) ((oh d).trans e)
  | @up x y n d h e c ih =>
   intro hn;have d0:d.i≠0:=by rw [ee h]; exact m.h0 h e
   obtain ⟨y',q,q1,q2,q3⟩:=m.hol d (aG h) d0;rw [e] at q1;cases q1;have yn:y ∉ l:=λ hy=>hn (by rw [<- ee h]; exact hs.closed y hy q q2 d.i q3)
   exact .up (by rw [fx,if_neg hn,h]; rfl) ((oh d).trans e) (ih yn)
 refine ⟨nd',λ c hc=>?_,?_,λ c hc c0=>?_,λ c hc x hx=>?_,λ c hc=>?_,λ c hc=>?_⟩
 ·obtain ⟨d,hd,hn,di,_⟩:=un c hc
  rw [<- di];exact m.lt d (aG hd)
 ·obtain ⟨r,r1,r2⟩:=m.root
  have n0:(0:Int) ∉ l:=λ h=>i0 (me ((hs.iff m r1).mp h) r1 r2)
  rw [fx,if_neg n0,r1];exact ⟨_,rfl,(oh r).trans r2⟩
 ·obtain ⟨d,hd,hn,di,dh,_⟩:=un c hc
  obtain ⟨j',q,q1,q2,q4⟩:=m.hol d (aG hd) (by rw [di]; exact c0);have jn:j' ∉ l:=λ h=>hn (by rw [<- di]; exact hs.closed j' h q q2 d.i q4)
  refine ⟨j',(if q.i=j then { q with r:=p.r.erase i } else q),by rw [<- dh]; exact q1,by rw [fx,if_neg jn,q2]; rfl,?_⟩;split
  ·rename_i hq
   have ep:q=p:=by
    rw [<- ee q2,hq,hp] at q2;exact (Zj q2).symm
   subst ep;rw [<- di];exact (List.mem_erase_of_ne λ e=>hn (by rw [<- di,e]; exact il)).mpr q4
  ·rw [<- di]
   exact q4
 ·obtain ⟨d,hd,hn,di,dh,sb,cn,cj⟩:=un c hc
  obtain ⟨e,e1,e2⟩:=m.zm hd (sb x hx)
  have xn:x ∉ l:=λ h=>by
   have a:=(hs.iff m e1).mp h
   cases a with
   | refl =>
    rw [hb] at e1;cases e1;rw [hj] at e2;have ej:c.i=j:=(Zj e2).symm;rw [cj ej] at hx;exact pn.not_mem_erase hx
   | up h1 h2 a =>
    rw [e1] at h1;cases h1;rw [e2] at h2;cases h2;exact hn ((hs.iff m hd).mpr a)
  exact ⟨_,by rw [fx,if_neg xn,e1]; rfl,(oh e).trans e2⟩
 ·obtain ⟨d,hd,hn,di,dh,sb,cn,cj⟩:=un c hc
  exact cn
 ·obtain ⟨d,hd,hn,di,_⟩:=un c hc
  obtain ⟨n,h1,h2⟩:=m.ch d (aG hd);rw [di] at h1;exact ⟨n,chr h1 hn,h2⟩
end
end N12
end
section
namespace N12
open PySem L2
theorem EN {r:List Int} {i:Int} (h:i ∈ r) (hl:r.length<=1000):Hu (.lst (r.map .int)) (.int i)=some (.int (r.idxOf i:Int)):=by
 show (cL (r.map .int)).bind _=_;rw [lT];exact if_pos ⟨hl,h⟩
theorem zZ (r:List Int) (lo hi:Option Int):∃ cs:List Int,oSl (.lst (r.map .int)) lo hi=some (.lst (cs.map .int))/\cs.length<=r.length:=by
 refine ⟨(r.drop (HT.sIx r.length 0 lo)).take (HT.sIx r.length r.length hi - HT.sIx r.length 0 lo),?_,?_⟩
 ·show some (D.lst (cutD (r.map .int) lo hi))=_
  unfold cutD;rw [Za,<- Xk,<- Xj]
 ·rw [Y5,List.length_drop]
  omega
theorem zX (x:D) (xs:List D):oSl (.lst (x::xs)) (some 1) none=some (.lst xs):=by
 show some (D.lst (cutD (x::xs) (some 1) none))=_;unfold cutD;have e1:=HT.nU (x::xs).length 0 1;rw [show ((1:Nat):Int)=1 from rfl] at e1;have e2:min 1 (x::xs).length=1:=Nat.min_eq_left (Nat.succ_le_succ (Z3 _));rw [e1,HT.wB,e2];show some (D.lst (xs.take (xs.length+1 - 1)))=_;rw [Nat.add_sub_cancel,List.take_length]
theorem Dl {τ:List Sl} {k:Nat} {g:DE} {d:D} {ds:List D} (h:g τ=some d) (q:τ[k]?=some (.own (.lst ds))) (hl:ds.length < 100000):Fq k (dC (.int 0)) g τ=some (.next (τ.set k (.own (.lst (d::ds))))):=by
 unfold Fq;rw [h,q];show (if (0:Int)<=0/\(0:Int)<=ds.length/\ds.length < 100000 then _ else none)=_;rw [if_pos ⟨Int.le_refl _,by omega,hl⟩];rfl
section
variable {t:Adr} {gv:Int} {M G:List B8} {i:Int} {b:B8}
theorem Dr (m:MOk gv M) (hb:fd M i=some b):∃ row:List Int,i ∈ row/\row.length<=M.length/\jt t [trD t.af gv M,.int i]=some (.shr (.lst (row.map .int)))/\((b.h=none/\row=[i])\/∃ j p,b.h=some j/\fd M j=some p/\row=p.r):=by
 have go:∀ row:List Int,dIf (dT (dOp Fv (aF 2) (dC D.non))) (Fd (aI (aF 1) dM)) (j8 t.af "boxes_of" (a6 t) (aF 0) (aI (aF 2) dM)) [.shr (trD t.af gv M),.shr (.int i),.shr (hD b.h)]=some (.lst (row.map .int))->jt t [trD t.af gv M,.int i]=some (.shr (.lst (row.map .int))):=λ row e=>by
  unfold jt mh;dsimp only;refine eE (bQ ((gc (dJ (ag rfl) (ah (ag rfl) ay) rfl (jZ hb) rfl)).trans rfl) (iB e))
 by_cases h0:i=0
 ·obtain ⟨r,r1,r2⟩:=m.root
  rw [<- h0,hb] at r1;cases r1;refine ⟨[i],Zn.mpr rfl,?_,go [i] ?_,.inl ⟨r2,rfl⟩⟩
  ·obtain ⟨x,hx⟩:∃ x,x ∈ M:=⟨b,aG hb⟩
   exact List.length_pos_of_mem hx
  ·rw [r2]
   exact Kk (b:=true) rfl (λ _=>gz (ah (ag rfl) ay) (Zb rfl)) nofun
 ·obtain ⟨j,p,h1,h2,h3⟩:=m.hol b (aG hb) (by rw [ee hb]; exact h0)
  rw [ee hb] at h3;refine ⟨p.r,h3,sub_len (m.rnd p (aG h2)) λ y hy=>?_,go p.r ?_,.inr ⟨j,p,h1,h2,rfl⟩⟩
  ·obtain ⟨d,d1,_⟩:=m.kid p (aG h2) y hy
   exact ⟨d,d1⟩
  ·rw [h1]
   exact Kk (b:=false) rfl nofun (λ _=>dJ (ag rfl) (ah (ag rfl) ay) rfl (js h2) rfl)
theorem walked_is {R:D} (hR:∀ k b,fd M k=some b->bW R (.int k)=some (.lst (b.r.map .int))) (m:MOk gv M) (fo:Cu M G) (hb:fd M i=some b) (h90:M.length < 90):cw t [trD t.af gv M,R,faD G,.int i]=some (.shr (.bl true)):=by
 obtain ⟨row,hi,hl,er,hr⟩:=Dr (t:=t) m hb;obtain ⟨l,hs,hs'⟩:=Sub.of m hb;have nd:(i::l).Nodup:=hs.nodup m (List.pairwise_singleton _ _);have ll:=sub_len nd hs.in;have lc:(i::l).length=l.length+1:=rfl;obtain ⟨n,hn,n12⟩:=m.dp hb;have ei:=EN hi (by omega);obtain ⟨cs,ec,hc⟩:=zZ row (some ((row.idxOf i:Int)+1)) none
 have eb:mj t [trD t.af gv M,.int i]=some (.own (.lst (cs.map .int))):=by
  unfold mj mi;dsimp only;exact eE (bQ ((gc (dA (ah (ag rfl) (ah (ag rfl) ay)) er rfl)).trans rfl) (yP (E8 (ag rfl) (kT (aK (aK (ag rfl) (ag rfl) ei) e_c (aO _ _))) Ft ec)))
 have es:kA t [trD t.af gv M,.int i]=some (.shr (.tup [.int ((row.idxOf i:Int)+1),.int (row.length:Int)])):=by
  unfold kA ko;dsimp only;exact eE (bQ ((gc (dA (ah (ag rfl) (ah (ag rfl) ay)) er rfl)).trans rfl) (iB (rM (ah (aK (aK (ag rfl) (ag rfl) ei) e_c (aO _ _)) (ah (bo (ah (ag rfl) ay) (kI _)) ay)) (Zb rfl))))
 obtain ⟨g,hg,gh,gn⟩:=fo i b hb;have ef:bW (faD G) (.int i)=some (.tup [hD b.h,.str b.n]):=(bC hg).trans (by rw [gh,gn]);unfold cw d6;dsimp only;refine eE ?_
 show jh _ _ [.shr (trD t.af gv M),.shr R,.shr (faD G),.shr (.int i),.no,.no,.no,.no,.no,.no]=_;refine bQ (jA (vm (ah (ag rfl) (ah (ag rfl) ay)) (v8 hb hs' (by omega)) rfl) (Zb rfl)) ?_
 refine bQ (jA (vm (ah (ag rfl) (ah (ag rfl) ay)) eb rfl) (Zb rfl)) ?_
 refine bQ (gc (d:=.lst [.int i]) (gz (ah (ag rfl) ay) (Zb rfl))) ?_
 show jh _ _ [.shr (trD t.af gv M),.shr R,.shr (faD G),.shr (.int i),.own (.lst (l.map .int)),.own (.lst (cs.map .int)),.shr (.lst [.int i]),.no,.no,.no]=_
 have st:sIf (dT (dOp kG (dOp oIx (dOp bW (aF 2) (aF 3)) (dC (D.int 0))) (dC D.non))) (si 6 (dOp bW (aF 1) (dOp oIx (dOp bW (aF 2) (aF 3)) (dC (D.int 0))))) mC [.shr (trD t.af gv M),.shr R,.shr (faD G),.shr (.int i),.own (.lst (l.map .int)),.own (.lst (cs.map .int)),.shr (.lst [.int i]),.no,.no,.no]=some (.next [.shr (trD t.af gv M),.shr R,.shr (faD G),.shr (.int i),.own (.lst (l.map .int)),.own (.lst (cs.map .int)),.shr (.lst (row.map .int)),.no,.no,.no]):=by
  rcases hr with ⟨h1,rfl⟩ | ⟨j,p,h1,h2,rfl⟩
  ·rw [h1] at ef
   exact CA (b:=false) (ba (aK (aK (aK (ag rfl) (ag rfl) ef) e_c (eJ _ _)) e_c rfl)) nofun λ _=>rfl
  ·rw [h1] at ef
   exact CA (b:=true) (ba (aK (aK (aK (ag rfl) (ag rfl) ef) e_c (eJ _ _)) e_c rfl)) (λ _=>(gc (aK (ag rfl) (aK (aK (ag rfl) (ag rfl) ef) e_c (eJ _ _)) (hR _ _ h2))).trans rfl) nofun
 refine bQ st ?_
 refine bQ (gc (aK (ag rfl) (ag rfl) ei)) ?_
 refine jz (zP rfl (zP rfl (mx (b:=false) (c:=false) (fT (b:=true) (ba (dA (ah (ag rfl) (ah (E8 (dA (ah (ag rfl) (ah (ag rfl) ay)) (mw hR hs (by omega)) rfl) (kT e_c) Ft (zX _ _)) ay)) (f9 l (by omega)) rfl))) (fT (b:=true) (ba (dA (ah (ag rfl) (ah (E8 (ag rfl) (kT (aK (ag rfl) e_c (aO _ _))) Ft ec) ay)) (f9 cs (by omega)) rfl)))))) ?_
 refine bQ (z5 (ag rfl) rfl (by rw [Za]; omega)) ?_
 refine bQ (Dl (ag rfl) rfl (by rw [Za]; omega)) ?_
 refine bQ (gc (dA (ah (ag rfl) (ah (ag rfl) ay)) (hU hn (by omega)) rfl)) ?_
 refine bQ (gc (dA (ah (ag rfl) (ah (ag rfl) ay)) es rfl)) ?_
 refine jz (mx (b:=false) (c:=false) (fT (b:=true) (ba (dA (ah (ag rfl) ay) (gK _) rfl))) (ba (aK (ag rfl) (dA (ah (ag rfl) (ah (ag rfl) ay)) (j6 (fo.ch hn)) rfl) ((iE _ _).trans (by rw [Zs rfl]; rfl))))) ?_
 refine jz (mx (b:=false) (c:=false) (fT (b:=true) (ba (bo (ah (ag rfl) (ah e_c ay)) rfl))) (mx (b:=false) (c:=false) (ba (aK (bo (ah (ag rfl) ay) rfl) e_c rfl)) (mx (b:=false) (c:=false) (fT (b:=true) (ba (dA (ah (aK (ag rfl) e_c (eJ _ _)) ay) (gK _) rfl))) (fT (b:=true) (ba (dA (ah (aK (ag rfl) e_c (uC _ _ _)) ay) (gK _) rfl)))))) ?_
 refine iB (aK (ag rfl) (rM (ah (aK (ag rfl) e_c (aO _ _)) (ah (bo (ah (ag rfl) ay) (kI _)) ay)) (Zb rfl)) ?_);unfold oEq eqO;show ((if okD 9 _=true/\okD 9 _=true then some (eqB _ _) else none)).map _=_;rw [if_pos ⟨by simp [okD,oi],by simp [okD,oi]⟩,lY];rfl
end
end N12
end
section
namespace N12
open PySem L2
theorem qe {cs:List Int} {j:Nat} {d:D} (h:(hG (cs.map .int))[j]?=some d):∃ c:Int,d=.tup [.int (j:Int),.int c]/\cs[j]?=some c:=by
 unfold hG at h;rw [List.getElem?_mapIdx,List.getElem?_map] at h;obtain ⟨d',hd',rfl⟩:=Zm h;obtain ⟨c,hc,rfl⟩:=Zm hd';exact ⟨c,rfl,hc⟩
theorem yr (cs:List Int):(hG (cs.map .int)).length=cs.length:=by unfold hG; rw [List.length_mapIdx,Za]
theorem zq {τ:List Sl} {f:DE} {as:List D} (h:f τ=some (.lst as)):pW (aI f dM) τ=some (hG as):=by
 unfold pW;rw [ah h ay];rfl
theorem Dh (ns:List Int):∃ cs:List Int,oSl (scr ns) (some 1) (some 31)=some (.lst (cs.map .int))/\cs.length<=30:=by
 refine ⟨(ns.drop (HT.sIx ns.length 0 (some 1))).take (HT.sIx ns.length ns.length (some 31) - HT.sIx ns.length 0 (some 1)),?_,?_⟩
 ·show some (D.lst (cutD (ns.map .int) _ _))=_
  unfold cutD;rw [Za,<- Xk,<- Xj]
 ·have e1:=HT.nU ns.length 0 1
  have e2:=HT.nU ns.length ns.length 31;rw [show ((1:Nat):Int)=1 from rfl] at e1;rw [show ((31:Nat):Int)=31 from rfl] at e2;rw [e1,e2,Y5,List.length_drop];omega
theorem yk {b:D->DSm} {ds:List D} {τ:List Sm} (P:Nat->List Sm->Prop) (h0:P 0 τ) (hs:∀ j d τ,ds[j]?=some d->P j τ->∃ τ2,b d τ=some (.next τ2)/\P (j+1) τ2):∃ τ',forM b ds τ=some (.next τ')/\P ds.length τ':=by
 induction ds generalizing τ P with
 | nil=>exact ⟨τ,rfl,h0⟩
 | cons d ds ih =>
  obtain ⟨τ2,e,p⟩:=hs 0 d τ rfl h0;obtain ⟨τ',e',p'⟩:=ih (λ j=>P (j+1)) p λ j d τ hd hp=>hs (j+1) d τ hd hp
  refine ⟨τ',?_,p'⟩;show (match b d τ with | some (.next τ')=>forM b ds τ' | some (.cnt τ')=>forM b ds τ' | some (.brk τ')=>some (.next τ') | r=>r)=_;rw [e];exact e'
theorem I0 {px:DPx} {fv:DEm} {τ τ1:List Sm} {s:Sm} {i:Nat} {q:List Stp} {mv:Mt} {cs cs0:List (Key×Mt)} (h1:px τ=some (i,q)) (h2:aP τ i q=some (.n .l cs0)) (h3:fv τ=some (s,τ1)) (h4:toM s=some mv) (h5:aP τ1 i q=some (.n .l cs)) (h6:cs.length < 100000):sZ px fv τ=some (.next (b9 τ1 i q (.n .l (cs++[(.inl 0,mv)])))):=by
 unfold sZ;rw [h1];show (match aP τ i q with | some (.n .l _)=>(fv τ).bind _ | _=>none)=_;rw [h2];show (fv τ).bind _=_;rw [h3];show (toM s).bind _=_;rw [h4];show (match aP τ1 i q with | some (.n .l cs)=>if cs.length < 100000 then _ else none | _=>none)=_;rw [h5];exact if_pos h6
structure LOk (j:Nat) (gv:Int) (M G:List B8) (gs:List Int):Prop where
 m:MOk gv M
 hd:Hd M
 fo:Cu M G
 ng:Nd G
 gb:∀ g ∈ G,g.i < gv
 gl:G.length<=1+j
 lm:gs.length+M.length<=1+j
 go:∀ x ∈ gs,x < gv/\fd M x=none
section
variable {t:Adr} {gv:Int} {M G:List B8} {gs:List Int} {j:Nat}
theorem LOk.gn (l:LOk j gv M G gs):fd G gv=none:=fd_none.mpr λ b hb e=>by
 have:=l.gb b hb;omega
theorem BN {x p:Int} {b:B8} {nn:Str} (l:LOk j gv M G gs) (m1:MOk (gv+1) (fV M x b p gv nn)):LOk (j+1) (gv+1) (fV M x b p gv nn) (G++[⟨gv,some x,nn,[]⟩]) gs:=by
 have ln1:(fV M x b p gv nn).length=M.length+1:=by
  unfold fV;rw [dY,Z1];rfl
 have fx:∀ y,fd (fV M x b p gv nn) y=(if y=gv then some ⟨gv,some x,nn,[]⟩ else fd M y).map λ c=>if c.i=x then { c with r:=insI b.r p gv } else c:=λ y=>by
  unfold fV;rw [c9,oB (n:=⟨gv,some x,nn,[]⟩) l.m.new]
 have oh:∀ c:B8,(if c.i=x then { c with r:=insI b.r p gv } else c).h=c.h/\(if c.i=x then { c with r:=insI b.r p gv } else c).n=c.n:=λ c=>by split <;> exact ⟨rfl,rfl⟩
 have lm:=l.lm;have gl:=l.gl;refine ⟨m1,ER l.hd,λ y d hy=>?_,uF (b:=⟨gv,some x,nn,[]⟩) l.ng l.gn,λ g hg=>?_,by rw [Z1]; show G.length+1<=_; omega,by omega,λ y hy=>?_⟩
 ·rw [fx] at hy
  rw [oB (n:=⟨gv,some x,nn,[]⟩) l.gn]
  by_cases e:y=gv
  ·rw [if_pos e] at hy
   rw [if_pos e];cases hy;exact ⟨_,rfl,(oh _).1.symm,(oh _).2.symm⟩
  ·rw [if_neg e] at hy
   rw [if_neg e];obtain ⟨c,hc,rfl⟩:=Zm hy;obtain ⟨g,h1,h2,h3⟩:=l.fo y c hc;exact ⟨g,h1,h2.trans (oh c).1.symm,h3.trans (oh c).2.symm⟩
 ·rcases Zi.mp hg with hg | hg
  · have:=l.gb g hg; omega
  · rw [Zn.mp hg]; show gv < gv+1; omega
 ·obtain ⟨h1,h2⟩:=l.go y hy
  refine ⟨by omega,?_⟩;rw [fx,if_neg (by omega),h2];rfl
theorem Ey {i jj h:Int} {rj rh:List Int} (l:LOk j gv M G gs) (mo:MOk gv (mvB M i jj h rj rh)):LOk (j+1) gv (mvB M i jj h rj rh) (upH G i h) gs:=by
 have lm:=l.lm;have gl:=l.gl;refine ⟨mo,Jj l.hd,λ y d hy=>?_,?_,λ g hg=>?_,?_,by rw [EB]; omega,λ y hy=>?_⟩
 ·rw [yp] at hy
  obtain ⟨c,hc,rfl⟩:=Zm hy;obtain ⟨g,h1,h2,h3⟩:=l.fo y c hc;rw [zu,h1];refine ⟨_,rfl,?_⟩;have e:g.i=c.i:=(ee h1).trans (ee hc).symm;show (if g.i=i then { g with h:=some h } else g).h=(if c.i=i then some h else c.h)/\(if g.i=i then { g with h:=some h } else g).n=c.n;rw [e];split
  · exact ⟨rfl,h3⟩
  · exact ⟨h2,h3⟩
 ·unfold Nd
  rw [CO];exact l.ng
 ·unfold upH at hg
  obtain ⟨c,hc,rfl⟩:=Z5.mp hg;have:=l.gb c hc;split <;> exact this
 ·unfold upH
  rw [Za];omega
 ·obtain ⟨h1,h2⟩:=l.go y hy
  refine ⟨h1,?_⟩;rw [yp,h2];rfl
theorem Ds {L:List Int} {N:List B8} (nd:L.Nodup) (nN:Nd N) (h:∀ x ∈ L,∃ b,fd N x=some b):(rm N L).length+L.length<=N.length:=by
 have:=uQ ((rm N L).map B8.i++L) (N.map B8.i) (Ye.mpr ⟨En nN L,nd,λ a ha b hb e=>?_⟩) λ x hx=>?_
 ·rw [Z1,Za,Za] at this
  exact this
 ·obtain ⟨c,hc,rfl⟩:=Z5.mp ha
  exact of_decide_eq_true (Yy.mp hc).2 (by rw [e]; exact hb)
 ·rcases Zi.mp hx with hx | hx
  ·obtain ⟨c,hc,rfl⟩:=Z5.mp hx
   exact Yb (Yy.mp hc).1
  ·obtain ⟨c,hc⟩:=h x hx
   exact Z5.mpr ⟨c,aG hc,ee hc⟩
theorem BO {i jj:Int} {b p:B8} {l':List Int} (l:LOk j gv M G gs) (hb:fd M i=some b) (hj:b.h=some jj) (hp:fd M jj=some p) (hs:Sub M [i] l') (nd:l'.Nodup):LOk (j+1) gv (rm (upR M jj (p.r.erase i)) l') G (gs++l'):=by
 have m1:=BI l.m hb hj hp hs;have lm:=l.lm;have gl:=l.gl;have fx:∀ x,fd (rm (upR M jj (p.r.erase i)) l') x=if x ∈ l' then none else (fd M x).map λ b=>if b.i=jj then { b with r:=p.r.erase i } else b:=λ x=>by rw [yo,c9]
 have oh:∀ c:B8,(if c.i=jj then { c with r:=p.r.erase i } else c).h=c.h/\(if c.i=jj then { c with r:=p.r.erase i } else c).n=c.n:=λ c=>by split <;> exact ⟨rfl,rfl⟩
 have ln:=Ds nd (mP l.m.nd jj (p.r.erase i)) λ x hx=>by
  obtain ⟨c,hc⟩:=hs.in x hx;exact ⟨_,by rw [c9,hc]; rfl⟩
 rw [dY] at ln;refine ⟨m1,?_,λ y d hy=>?_,l.ng,l.gb,by omega,by rw [Z1]; omega,λ y hy=>?_⟩
 ·obtain ⟨r,T,rfl,e⟩:=l.hd
  have n0:(0:Int) ∉ l':=λ h=>by
   obtain ⟨r',r1,r2⟩:=l.m.root;exact l.m.h0 hb hj (me ((hs.iff l.m r1).mp h) r1 r2)
  have ei:(if r.i=jj then { r with r:=p.r.erase i } else r).i=0:=by split <;> exact e
  refine ⟨_,_,List.filter_cons_of_pos ?_,ei⟩;rw [ei];exact Zs n0
 ·rw [fx] at hy
  split at hy
  · cases hy
  ·obtain ⟨c,hc,rfl⟩:=Zm hy
   obtain ⟨g,h1,h2,h3⟩:=l.fo y c hc;exact ⟨g,h1,h2.trans (oh c).1.symm,h3.trans (oh c).2.symm⟩
 ·rcases Zi.mp hy with hy | hy
  ·obtain ⟨h1,h2⟩:=l.go y hy
   refine ⟨h1,?_⟩;rw [fx,h2];split <;> rfl
  ·obtain ⟨c,hc⟩:=hs.in y hy
   have:=(l.m.lt c (aG hc)).2;rw [ee hc] at this;exact ⟨this,by rw [fx,if_pos hy]⟩
theorem Sub.mono {M N:List B8} {s l:List Int} (h:Sub M s l):(∀ x ∈ l,∀ b,fd M x=some b->∃ b',fd N x=some b'/\b'.r=b.r)->Sub N s l:=by
 induction h with
 | nil=>exact λ _=>.nil
 | @cons c cs l1 l2 b h h1 h2 ih1 ih2 =>
  intro k;obtain ⟨b',e1,e2⟩:=k c (Ze ..) b h;exact .cons e1 (by rw [e2]; exact ih1 λ x hx=>k x (Zc _ (Zk _ hx))) (ih2 λ x hx=>k x (Zc _ (Zd _ hx)))
theorem qY {x w:Int} (h:fd M x=none):aW t [trD t.af gv M,.int x,.int w]=some (.shr (.bl true)):=by
 show (if t.af=t.af/\(Er.all λ m=>((trF gv M).lookup m).isNone)=true then (match (trF gv M).lookup sNm with | some (.dct ds)=>if (jf ds (.inl x)).isNone=true then some (Sl.shr (.bl true)) else none | _=>none) else none)=_;rw [if_pos ⟨rfl,rfl⟩,show (trF gv M).lookup sNm=some (D.dct (kv (λ b=>.str b.n) M)) from rfl];show (if (jf (kv (λ b=>.str b.n) M) (.inl x)).isNone=true then some (Sl.shr (.bl true)) else none)=_;rw [pk,h];rfl
end
end N12
end
section
namespace N12
open PySem L2
section
variable {t:Adr}
abbrev sL (t:Adr) (ns:List Int) (nm:Str) (gv:Int) (M R G:List B8) (z:Int) (gs:List Int) (x7 x8 x9 x10 x11 x12:Sm):List Sm:=[.shr (scr ns),.shr (.str nm),.mu false (trM t.af gv M),.mu false (bxM R),.mu false (faM G),.shr (.int z),.mu false (lM (gs.map .int)),x7,x8,x9,x10,x11,x12]
noncomputable def GW (t:Adr):DSm:=(dz (pD (tNt (tE (eC (fR t) (cW (qX (bS 2)) (cW (qX (bS 3)) (cW (qX (bS 4)) (cW (qN (aF 5)) (cW (qN (aF 8)) (cW (qN (aF 7)) wb))))))))) (jB (eN (dC (D.bl false)))) iV) (gf 5 (eN (dOp mM (aF 5) (dC (D.int 1))))))
noncomputable def IX (t:Adr):DSm:=(pD (tNt (tE (eC (du t) (cW (qX (bS 2)) (cW (qX (bS 3)) (cW (qX (bS 4)) (cW (qN (aF 8)) (cW (qN (dOp mM (dC (D.int 40)) (aF 7))) wb)))))))) (jB (eN (dC (D.bl false)))) iV)
noncomputable def CB:DSm:=(dz (sZ (bS 6) (eN (aF 11))) (sU (bS 3) (aF 11)))
noncomputable def Jv (t:Adr):DSm:=(dz (gf 10 (eS (dOp oIx (jb (aF 3)) (dOp mM (dC (D.int 1)) (dOp oMod (dOp oDiv (aF 9) (dC (D.int 5))) (dOp Ek (gA oo (aI (aF 3) dM)) (dC (D.int 1)))))))) (dz (mD (eM t.af "cut" (fS t) (bS 2) (cW (qN (aF 10)) wb))) (dz (qJ (qL (bS 3) (dOp oIx (dOp bW (aF 4) (aF 10)) (dC (D.int 0)))) (aF 10)) (wD (CG (cQ t) (aI (aF 3) (aI (aF 10) dM))) (gNm 11) CB))))
noncomputable def wu (t:Adr):DSm:=(dz (gf 9 (eN (dFn bZ (aI (aF 8) (aI (dOp mM (dC (D.int 700)) (aF 7)) dM))))) (dz (pD (tS (dOr (dT (dOp oLt (dOp oMod (aF 9) (dC (D.int 5))) (dC (D.int 3)))) (dT (dOp oLt (gA oo (aI (aF 3) dM)) (dC (D.int 3)))))) (GW t) (pD (tS (dT (dOp oEq (dOp oMod (aF 9) (dC (D.int 5))) (dC (D.int 3))))) (IX t) (Jv t))) (dz (gf 12 (eF (jb (aF 3)))) (pD (tS (wm (dT (dFn (cw t) (aI (aF 2) (aI (aF 3) (aI (aF 4) (aI (dOp oIx (aF 12) (dOp oMod (dOp oDiv (aF 9) (dC (D.int 50))) (gA sk (aI (aF 12) dM)))) dM)))))))) (jB (eN (dC (D.bl false)))) iV))))
variable {ns:List Int} {nm:Str} {gv:Int} {M R G:List B8} {gs:List Int} {z k q:Int} {j:Nat} {x7 x8 x9 x10 x11 x12:Sm}
theorem zl:gA oo (aI (aF 3) dM) (aL (sL t ns nm gv M R G z gs x7 x8 x9 x10 x11 x12))=some (.int (R.length:Int)):=bo (ah (dG (b:=false) rfl (gZ R)) ay) (zk R)
theorem uP:jb (aF 3) (aL (sL t ns nm gv M R G z gs x7 x8 x9 x10 x11 x12))=some (.lst ((R.map B8.i).map .int)):=by
 unfold jb;rw [dG (b:=false) rfl (gZ R)];show some (D.lst ((kv _ R).map _))=_;unfold kv;rw [Zy,Zy];rfl
theorem wI (l:LOk j gv M G gs) (hj:j < 30):∃ gv' M' G',LOk (j+1) gv' M' G' gs/\GW t (sL t ns nm gv M M G gv gs (.shr (.int (j:Int))) (.shr (.int k)) (.shr (.int q)) x10 x11 x12)=some (.next (sL t ns nm gv' M' M' G' gv' gs (.shr (.int (j:Int))) (.shr (.int k)) (.shr (.int q)) x10 x11 x12)):=by
 have lm:=l.lm;have gl:=l.gl;obtain ⟨x,bb,p,nn,dp,hb,ch,h12,hn,e⟩:=BL (t:=t) (c:=k) (w:=(j:Int)) l.m l.fo l.gn (by omega) (by omega) (by omega) (by omega);have m1:=BH l.m (p:=p) (nm:=nn) hb ch h12;refine ⟨gv+1,fV M x bb p gv nn,_,BN l m1,?_⟩;unfold GW;refine aE (τ':=sL t ns nm (gv+1) (fV M x bb p gv nn) (fV M x bb p gv nn) (G++[⟨gv,some x,nn,[]⟩]) gv gs (.shr (.int (j:Int))) (.shr (.int k)) (.shr (.int q)) x10 x11 x12) (gU (JE (b:=true) (t_E (v_C (as:=[.p 2 [],.p 3 [],.p 4 [],.v (.int gv),.v (.int k),.v (.int (j:Int))]) (bI (q_X bJ rfl) (bI (q_X bJ rfl) (bI (q_X bJ rfl) (bI (q_N (ag rfl)) (bI (q_N (ag rfl)) (bI (q_N (ag rfl)) rfl)))))) rfl e rfl))) rfl) ?_
 exact (bO (v_N (aK (ag rfl) e_c (aO _ _))) (Zb rfl) rfl).trans rfl
theorem xW (l:LOk j gv M G gs) (hj:j < 30) (l2:2<=M.length):∃ M' G',LOk (j+1) gv M' G' gs/\IX t (sL t ns nm gv M M G gv gs (.shr (.int (j:Int))) (.shr (.int k)) (.shr (.int q)) x10 x11 x12)=some (.next (sL t ns nm gv M' M' G' gv gs (.shr (.int (j:Int))) (.shr (.int k)) (.shr (.int q)) x10 x11 x12)):=by
 have lm:=l.lm;have gl:=l.gl;obtain ⟨i,jj,h,rj,rh,mo,e⟩:=uO (t:=t) (c:=k) (w:=40+(j:Int)) l.m l.fo l.ng (by omega) l.hd (by omega) l2 (by omega) (by omega);refine ⟨mvB M i jj h rj rh,_,Ey l mo,?_⟩;unfold IX;exact gU (JE (b:=true) (t_E (v_C (as:=[.p 2 [],.p 3 [],.p 4 [],.v (.int k),.v (.int (40+(j:Int)))]) (bI (q_X bJ rfl) (bI (q_X bJ rfl) (bI (q_X bJ rfl) (bI (q_N (ag rfl)) (bI (q_N (aK e_c (ag rfl) (aO _ _))) rfl))))) rfl e rfl))) rfl
theorem ql:∀ (L:List Int) (R:List B8) (gs:List Int) (x11:Sm),L.Nodup->(∀ g ∈ L,∃ b,fd R g=some b)->gs.length+L.length < 1000->∃ y,forM (λ d τ=>(gNm 11 d τ).bind CB) (L.map .int) (sL t ns nm gv M R G z gs x7 x8 x9 x10 x11 x12)=some (.next (sL t ns nm gv M (rm R L) G z (gs++L) x7 x8 x9 x10 y x12))
 | [],R,gs,x11,_,_,_=>⟨x11,by rw [pG,Zw]; rfl⟩
 | g :: L,R,gs,x11,nd,h,hl=>by
  rw [Zt] at nd;rw [Zx] at hl;obtain ⟨b,hb⟩:=h g (Ze ..)
  obtain ⟨y,e⟩:=ql L (R.filter λ b=>decide (b.i≠g)) (gs++[g]) (.shr (.int g)) nd.2 (λ k hk=>by
   obtain ⟨c,hc⟩:=h k (Zc _ hk);have ne:k≠g:=λ e=>nd.1 (e ▸ hk)
   have:=yo R [g] k;rw [<- lL,pG,if_neg (by simpa using ne),hc] at this
   exact ⟨c,this⟩) (by rw [Z1]; show gs.length+1+L.length < 1000; omega)
  rw [lL,List.append_assoc] at e;refine ⟨y,?_⟩
  have st:(gNm 11 (.int g) (sL t ns nm gv M R G z gs x7 x8 x9 x10 x11 x12)).bind CB=some (.next (sL t ns nm gv M (R.filter λ b=>decide (b.i≠g)) G z (gs++[g]) x7 x8 x9 x10 (.shr (.int g)) x12)):=by
   show CB (sL t ns nm gv M R G z gs x7 x8 x9 x10 (.shr (.int g)) x12)=_;unfold CB;refine aE (τ':=sL t ns nm gv M R G z (gs++[g]) x7 x8 x9 x10 (.shr (.int g)) x12) ((I0 bJ rfl (v_N (ag rfl)) rfl rfl (by rw [Za,Za]; omega)).trans ?_) ((IZ bJ (ag rfl) rfl rfl (by rw [qw,hb]; rfl)).trans ?_)
   ·rw [eU rfl]
    refine Yo (λ z=>some (qy.next (List.set _ 6 (Sm.mu false z)))) ?_
    show Mt.n .l _=lM _;unfold lM;rw [Zo,Zo];rfl
   ·rw [eU rfl,vp]
    rfl
  show (match (gNm 11 (.int g) (sL t ns nm gv M R G z gs x7 x8 x9 x10 x11 x12)).bind CB with | some (.next τ')=>forM _ (L.map .int) τ' | some (.cnt τ')=>forM _ (L.map .int) τ' | some (.brk τ')=>some (.next τ') | r=>r)=_;rw [st];exact e
theorem yy (l:LOk j gv M G gs) (hj:j < 30) (l2:2<=M.length):∃ M' gs' y10 y11,LOk (j+1) gv M' G gs'/\Jv t (sL t ns nm gv M M G gv gs (.shr (.int (j:Int))) (.shr (.int k)) (.shr (.int q)) x10 x11 x12)=some (.next (sL t ns nm gv M' M' G gv gs' (.shr (.int (j:Int))) (.shr (.int k)) (.shr (.int q)) y10 y11 x12)):=by
 have lm:=l.lm;have m:=l.m;have k0:0<=q / 5 % ((M.length:Int) - 1):=Yq _ (by omega);have k1:q / 5 % ((M.length:Int) - 1) < (M.length:Int) - 1:=Yg _ (by omega);obtain ⟨b,hm,i0,ei⟩:=zo l.hd m.nd (k:=1+q / 5 % ((M.length:Int) - 1)) (by omega) (by omega);have hb:=iH m.nd hm;obtain ⟨jj,p,hjj,hp,pi⟩:=m.hol b hm i0;obtain ⟨l',hs,hs'⟩:=Sub.of m hb;have nd:(b.i::l').Nodup:=hs.nodup m (List.pairwise_singleton _ _);have ll:=sub_len nd hs.in;have lc:(b.i::l').length=l'.length+1:=rfl
 have hp2:p.r.length<=M.length:=sub_len (m.rnd p (aG hp)) λ y hy=>by
  obtain ⟨d,d1,_⟩:=m.kid p (aG hp) y hy;exact ⟨d,d1⟩
 obtain ⟨ni,ci,_⟩:=m.dp hb
 obtain ⟨nj,cj,enj⟩:∃ nj,Ch M jj nj/\ni=nj+1:=by
  cases ci with
  | top h e=>rw [hb] at h; cases h; rw [hjj] at e; cases e
  | up h e c=>rw [hb] at h; cases h; rw [hjj] at e; cases e; exact ⟨_,c,rfl⟩
 have jn:jj ∉ b.i::l':=λ h=>by
  obtain ⟨k,c1,c2,_⟩:=((hs.iff m hp).mp h).deep cj;have:=c1.uniq ci;omega
 have hs1:Sub (upR M jj (p.r.erase b.i)) [b.i] (b.i::l'):=hs.mono λ x hx c hc=>by
  refine ⟨_,by rw [c9,hc]; rfl,?_⟩;show (if c.i=jj then { c with r:=p.r.erase b.i } else c).r=c.r;rw [if_neg λ e=>jn (by rw [<- e,ee hc]; exact hx)]
 have ec:=Fe (t:=t) m hb i0 hjj hp pi hs' nd (by omega) (by omega);obtain ⟨g,hg,gh,gn⟩:=l.fo b.i b hb;have ef:bW (faD G) (.int b.i)=some (.tup [.int jj,.str b.n]):=(bC hg).trans (by rw [gh,gn,hjj]; rfl)
 obtain ⟨y,el⟩:=ql (t:=t) (ns:=ns) (nm:=nm) (gv:=gv) (M:=rm (upR M jj (p.r.erase b.i)) (b.i::l')) (G:=G) (z:=gv) (x7:=.shr (.int (j:Int))) (x8:=.shr (.int k)) (x9:=.shr (.int q)) (x10:=.shr (.int b.i)) (x12:=x12) (b.i::l') (upR M jj (p.r.erase b.i)) gs x11 nd (λ x hx=>by
  obtain ⟨c,hc⟩:=hs.in x hx
  exact ⟨_,by rw [c9,hc]; rfl⟩) (by omega)
 refine ⟨_,_,.shr (.int b.i),y,BO l hb hjj hp hs nd,?_⟩;unfold Jv;refine aE (τ':=sL t ns nm gv M M G gv gs (.shr (.int (j:Int))) (.shr (.int k)) (.shr (.int q)) (.shr (.int b.i)) x11 x12) ((bO (v_S (aK uP (aK e_c (aK (aK (ag rfl) e_c (gS (by decide) (by decide +kernel))) (aK zl e_c (gR _ _)) (bE (by omega))) (aO _ _)) ei) rfl) (Zb rfl) rfl).trans rfl) ?_
 refine aE (τ':=sL t ns nm gv (rm (upR M jj (p.r.erase b.i)) (b.i::l')) M G gv gs (.shr (.int (j:Int))) (.shr (.int k)) (.shr (.int q)) (.shr (.int b.i)) x11 x12) (zh (v_M (C:=t.af) (i:=2) (q:=[]) (ss:=[.mu true (trM t.af gv M),.shr (.int b.i)]) bJ rfl rfl (bI (q_N (ag rfl)) rfl) rfl ec rfl)) ?_
 have hg3:aP (sL t ns nm gv (rm (upR M jj (p.r.erase b.i)) (b.i::l')) M G gv gs (.shr (.int (j:Int))) (.shr (.int k)) (.shr (.int q)) (.shr (.int b.i)) x11 x12) 3 ([]++[.k (.inl jj)])=some (lM (p.r.map .int)):=by
  rw [kX rfl];refine (k6 _ _ _).trans ?_
  rw [hp];rfl
 refine aE (τ':=sL t ns nm gv (rm (upR M jj (p.r.erase b.i)) (b.i::l')) (upR M jj (p.r.erase b.i)) G gv gs (.shr (.int (j:Int))) (.shr (.int k)) (.shr (.int q)) (.shr (.int b.i)) x11 x12) ((xY (n:=b.i) (ns:=p.r) (qz bJ (aK (aK (dG (b:=false) rfl (iY G)) (ag rfl) ef) e_c (eJ _ _)) rfl rfl) (ag rfl) hg3 (jk _) ⟨by omega,pi⟩).trans ?_) ?_
 ·rw [eU rfl,pH]
  exact Yo (λ z=>some (qy.next (List.set _ 3 (Sm.mu false z)))) (kR m.nd hp)
 unfold wD;rw [vm (ah (dG (b:=false) rfl (gZ _)) (ah (ag rfl) ay)) (pw hs1 (by omega)) rfl];show (if ((b.i::l').map D.int).all sca=true then _ else none)=_;rw [if_pos (cG _)];exact el
def yH (t:Adr) (ns:List Int) (nm:Str) (j:Nat) (τ:List Sm):Prop:=∃ gv M G gs x7 x8 x9 x10 x11 x12,LOk j gv M G gs/\τ=sL t ns nm gv M M G gv gs x7 x8 x9 x10 x11 x12
theorem zW {τ:List Sm} (hj:j < 30) (h:yH t ns nm j τ):∃ τ2,(gTm 2 (cS (gNm 7) (cS (gNm 8) gY)) (.tup [.int (j:Int),.int k]) τ).bind (wu t)=some (.next τ2)/\yH t ns nm (j+1) τ2:=by
 obtain ⟨gv,M,G,gs,x7,x8,x9,x10,x11,x12,l,rfl⟩:=h;obtain ⟨q,e1,q0,q1⟩:=lP k (w:=700+(j:Int)) (by omega) (by omega);have lm:=l.lm;show ∃ τ2,wu t (sL t ns nm gv M M G gv gs (.shr (.int (j:Int))) (.shr (.int k)) x9 x10 x11 x12)=_/\_
 have s1:gf 9 (eN (dFn bZ (aI (aF 8) (aI (dOp mM (dC (D.int 700)) (aF 7)) dM)))) (sL t ns nm gv M M G gv gs (.shr (.int (j:Int))) (.shr (.int k)) x9 x10 x11 x12)=some (.next (sL t ns nm gv M M G gv gs (.shr (.int (j:Int))) (.shr (.int k)) (.shr (.int q)) x10 x11 x12)):=(bO (v_N (dA (ah (ag rfl) (ah (aK e_c (ag rfl) (aO _ _)) ay)) e1 rfl)) (Zb rfl) rfl).trans rfl
 have fin:∀ {br:DSm} {gv':Int} {M' G':List B8} {gs':List Int} {y10 y11:Sm},LOk (j+1) gv' M' G' gs'->br (sL t ns nm gv M M G gv gs (.shr (.int (j:Int))) (.shr (.int k)) (.shr (.int q)) x10 x11 x12)=some (.next (sL t ns nm gv' M' M' G' gv' gs' (.shr (.int (j:Int))) (.shr (.int k)) (.shr (.int q)) y10 y11 x12))->∃ τ2,dz (gf 9 (eN (dFn bZ (aI (aF 8) (aI (dOp mM (dC (D.int 700)) (aF 7)) dM))))) (dz br (dz (gf 12 (eF (jb (aF 3)))) (pD (tS (wm (dT (dFn (cw t) (aI (aF 2) (aI (aF 3) (aI (aF 4) (aI (dOp oIx (aF 12) (dOp oMod (dOp oDiv (aF 9) (dC (D.int 50))) (gA sk (aI (aF 12) dM)))) dM)))))))) (jB (eN (dC (D.bl false)))) iV))) (sL t ns nm gv M M G gv gs (.shr (.int (j:Int))) (.shr (.int k)) x9 x10 x11 x12)=some (.next τ2)/\yH t ns nm (j+1) τ2:=λ {br gv' M' G' gs' y10 y11} l' e=>by
  have lm':=l'.lm
  have l1':1<=M'.length:=by
   obtain ⟨r,T,rfl,_⟩:=l'.hd;exact Nat.succ_le_succ (Z3 _)
  have ln:(M'.map B8.i).length=M'.length:=Za _;obtain ⟨x,hx,ex⟩:=uW (ys:=M'.map B8.i) (j:=q / 50 % ((M'.map B8.i).length:Int)) (Yq _ (by omega)) (Yg _ (by omega));obtain ⟨bb,hb,rfl⟩:=Z5.mp hx;refine ⟨sL t ns nm gv' M' M' G' gv' gs' (.shr (.int (j:Int))) (.shr (.int k)) (.shr (.int q)) y10 y11 (.shr (.lst ((M'.map B8.i).map .int))),aE s1 (aE e (aE ((bO (v_F uP (cG _)) (Zb rfl) rfl).trans rfl) (gU (t_S (fT (b:=true) (ba (dA (ah (dG (b:=false) rfl (k7 _ _ _)) (ah (dG (b:=false) rfl (gZ M')) (ah (dG (b:=false) rfl (iY G')) (ah (aK (ag rfl) (aK (aK (ag rfl) e_c (gS (by decide) (by decide +kernel))) (bo (ah (ag rfl) ay) (kI _)) (bE (by omega))) ex) ay)))) (walked_is (λ _ _ h=>bC h) l'.m l'.fo (iH l'.m.nd hb) (by omega)) rfl)))) rfl))),gv',M',G',gs',_,_,_,_,_,_,l',rfl⟩
 unfold wu;have t0:=t_S (τ:=sL t ns nm gv M M G gv gs (.shr (.int (j:Int))) (.shr (.int k)) (.shr (.int q)) x10 x11 x12) (mx (ba (aK (aK (ag (i:=9) rfl) (e_c (d:=.int 5)) (bE (by decide))) (e_c (d:=.int 3)) (jN _ _))) (ba (aK (zl (gv:=gv)) (e_c (d:=.int 3)) (jN _ _))));have t1:=t_S (τ:=sL t ns nm gv M M G gv gs (.shr (.int (j:Int))) (.shr (.int k)) (.shr (.int q)) x10 x11 x12) (ba (aK (aK (ag (i:=9) rfl) (e_c (d:=.int 5)) (bE (by decide))) (e_c (d:=.int 3)) (eL _ _)))
 by_cases h0:(decide (q % 5 < 3)||decide ((M.length:Int) < 3))=true
 ·obtain ⟨gv',M',G',l',e⟩:=wI (t:=t) (ns:=ns) (nm:=nm) (k:=k) (q:=q) (x10:=x10) (x11:=x11) (x12:=x12) l hj
  exact fin l' (uL (t0.trans (by rw [h0])) e)
 ·have h0':=(Bool.not_eq_true _).mp h0
  have h3:¬ ((M.length:Int) < 3):=λ z=>h0 (by rw [Zs z,Bool.or_true])
  by_cases h1:q % 5=3
  ·obtain ⟨M',G',l',e⟩:=xW (t:=t) (ns:=ns) (nm:=nm) (k:=k) (q:=q) (x10:=x10) (x11:=x11) (x12:=x12) l hj (by omega)
   exact fin l' (gU (t0.trans (by rw [h0'])) (uL (t1.trans (by rw [Zs h1])) e))
  ·obtain ⟨M',gs',y10,y11,l',e⟩:=yy (t:=t) (ns:=ns) (nm:=nm) (k:=k) (q:=q) (x10:=x10) (x11:=x11) (x12:=x12) l hj (by omega)
   exact fin l' (gU (t0.trans (by rw [h0'])) (gU (t1.trans (by rw [Zq h1])) e))
end
end N12
end
section
namespace N12
open PySem L2
section
variable {t:Adr}
theorem p5 {g:DGm} {tt:DT} {c:DE} (P:List Sm->Prop):∀ (ds:List D) (τ:List Sm),P τ->(∀ d ∈ ds,∀ τ,P τ->∃ τ1,g d τ=some τ1/\P τ1/\tt (aL τ1)=some false)->∃ τ',CC g tt c ds τ=some (.next τ')/\P τ'
 | [],τ,p,_=>⟨τ,rfl,p⟩
 | d::ds,τ,p,h=>by
  obtain ⟨τ1,e1,p1,e2⟩:=h d (Ze ..) τ p;obtain ⟨τ',e,p'⟩:=p5 P ds τ1 p1 λ d hd=>h d (Zc _ hd)
  refine ⟨τ',?_,p'⟩;unfold CC;rw [e1];show (tt (aL τ1)).bind _=_;rw [e2];exact e
theorem LB (nm:Str):LOk 0 1 [⟨0,none,nm,[]⟩] [⟨0,none,nm,[]⟩] []:=by
 refine ⟨⟨?_,λ b hb=>?_,⟨_,rfl,rfl⟩,λ b hb h0=>?_,λ b hb c hc=>?_,λ b hb=>?_,λ b hb=>?_⟩,⟨_,_,rfl,rfl⟩,λ x d h=>⟨d,h,rfl,rfl⟩,?_,λ b hb=>?_,Zl _,Zl _,nofun⟩
 ·unfold Nd
  simp
 ·rw [Zn.mp hb]
  exact ⟨Int.le_refl _,by show (0:Int) < 1; omega⟩
 ·rw [Zn.mp hb] at h0
  exact absurd rfl h0
 ·rw [Zn.mp hb] at hc
  exact nomatch hc
 ·rw [Zn.mp hb]
  exact .nil
 ·rw [Zn.mp hb]
  exact ⟨0,.top rfl rfl,by omega⟩
 ·unfold Nd
  simp
 ·rw [Zn.mp hb]
  show (0:Int) < 1;omega
theorem EC (ns:List Int):Fm t [.shr (scr ns)]=some (.shr (.bl true),[.no]):=by
 obtain ⟨c0,e0⟩:=Ff ns (k:=0) (Int.le_refl _);obtain ⟨nm,e1,hn⟩:=ze c0 (w:=9) (by omega) (by omega);obtain ⟨cs,e2,hl⟩:=Dh ns
 obtain ⟨τ1,f1,i1⟩:=yk (b:=λ d τ=>(gTm 2 (cS (gNm 7) (cS (gNm 8) gY)) d τ).bind (wu t)) (ds:=hG (cs.map .int)) (τ:=sL t ns nm 1 [⟨0,none,nm,[]⟩] [⟨0,none,nm,[]⟩] [⟨0,none,nm,[]⟩] 1 [] .no .no .no .no .no .no) (yH t ns nm) ⟨_,_,_,_,_,_,_,_,_,_,LB nm,rfl⟩ λ j d τ hd h=>by
  obtain ⟨c,rfl,hc⟩:=qe hd;have:=(List.getElem?_eq_some_iff.mp hc).1;exact zW (by omega) h
 rw [yr] at i1;obtain ⟨gv,M,G,gs,x7,x8,x9,x10,x11,x12,l,rfl⟩:=i1;have lm:=l.lm
 obtain ⟨τ2,f2,y7,y11,rfl⟩:=p5 (g:=gTm 2 (cS (gNz 7) (cS (gNz 11) gY))) (tt:=dOr (wm (dT (dFn (aW t) (aI (aF 2) (aI (aF 11) (aI (dOp oMod (aF 7) (dC (D.int 4))) dM)))))) (wm (dT (dFn (aW t) (aI (aF 2) (aI (aF 11) (aI (dOp oMod (dFn bZ (aI (aF 5) (aI (aF 7) dM))) (dC (D.int 4))) dM))))))) (c:=dC (D.bl false)) (λ τ=>∃ y7 y11,τ=sL t ns nm gv M M G gv gs y7 x8 x9 .no y11 x12) (hG ((gv::gs).map .int)) (sL t ns nm gv M M G gv gs x7 x8 x9 .no x11 x12) ⟨_,_,rfl⟩ λ d hd τ ⟨y7,y11,eτ⟩=>by
  subst eτ;obtain ⟨k,hk⟩:=List.getElem?_of_mem hd;obtain ⟨x,rfl,hx⟩:=qe hk;have hk':=(List.getElem?_eq_some_iff.mp hx).1;rw [Zx] at hk'
  have hm:fd M x=none:=by
   rcases Zh.mp (List.mem_of_getElem? hx) with rfl | h
   · exact l.m.new
   · exact (l.go x h).2
  obtain ⟨q,eq,_,_⟩:=lP gv (w:=(k:Int)) (by omega) (by omega);refine ⟨_,rfl,⟨_,_,rfl⟩,?_⟩;show dOr _ _ (aL (sL t ns nm gv M M G gv gs (.shr (.int (k:Int))) x8 x9 .no (.shr (.int x)) x12))=_;have ms:∀ {e:DE} {w:Int},e (aL (sL t ns nm gv M M G gv gs (.shr (.int (k:Int))) x8 x9 .no (.shr (.int x)) x12))=some (.int w)->wm (dT (dFn (aW t) (aI (aF 2) (aI (aF 11) (aI e dM))))) (aL (sL t ns nm gv M M G gv gs (.shr (.int (k:Int))) x8 x9 .no (.shr (.int x)) x12))=some false:=λ {e w} h=>fT (b:=true) (ba (dA (ah (dG (b:=false) rfl (k7 _ _ _)) (ah (ag rfl) (ah h ay))) (qY hm) rfl))
  exact mx (ms (aK (ag rfl) e_c (bE (by decide)))) (ms (aK (dA (ah (ag rfl) (ah (ag rfl) ay)) eq rfl) e_c (bE (by decide))))
 unfold Fm Ct;dsimp only;refine (eD (s:=.shr (.bl true)) (τ:=sL t ns nm gv M M G gv gs y7 x8 x9 .no y11 x12) ?_).trans rfl;refine aE (τ':=[.shr (scr ns),.shr (.str nm),.no,.no,.no,.no,.no,.no,.no,.no,.no,.no,.no]) (bO (v_N (dA (ah (dA (ah (ag rfl) (ah e_c ay)) e0 rfl) (ah e_c ay)) e1 rfl)) (Zb rfl) rfl) ?_
 refine aE (τ':=[.shr (scr ns),.shr (.str nm),.mu false (trM t.af 1 [⟨0,none,nm,[]⟩]),.no,.no,.no,.no,.no,.no,.no,.no,.no,.no]) (bO (v_K (as:=[.v (.str nm)]) (bI (q_N (ag rfl)) rfl) rfl (B1 hn) rfl) (Zb rfl) rfl) ?_
 refine aE (bO (JD (v_O (gz ay (Z3 _)) rfl) rfl) (Zb rfl) rfl) ?_
 refine aE (bO (JD (v_N (rM (ah e_c (ah (ag rfl) ay)) (Zb rfl))) rfl) (Zb rfl) rfl) ?_
 refine aE (bO (v_N e_c) (Zb rfl) rfl) ?_
 refine aE (τ':=sL t ns nm 1 [⟨0,none,nm,[]⟩] [⟨0,none,nm,[]⟩] [⟨0,none,nm,[]⟩] 1 [] .no .no .no .no .no .no) ((bO (v_O (gz ay (Z3 _)) rfl) (Zb rfl) rfl).trans rfl) ?_
 refine aE (τ':=sL t ns nm gv M M G gv gs x7 x8 x9 x10 x11 x12) ?_ ?_
 ·unfold z7
  rw [zq (E8 (ag rfl) (kT e_c) (kT e_c) e2)];exact f1
 refine aE (τ':=sL t ns nm gv M M G gv gs x7 x8 x9 .no x11 x12) ?_ ?_
 ·refine if_pos ⟨by rw [fZ]; omega,λ p hp=>?_⟩
  unfold kv at hp;obtain ⟨bb,hb,rfl⟩:=Z5.mp hp;have hf:=iH l.m.nd hb
  have eR:yj (kv (λ b=>lM (b.r.map .int)) M)=kv (λ b=>.lst (b.r.map .int)) M:=by
   rw [lV];unfold kv;rw [Zy];exact Z0 λ c _=>by show (_,frz (lM _))=_; rw [g8]
  rw [eR]
  have g2:(((Cp 3 10 (sL t ns nm gv M M G gv gs x7 x8 x9 x10 x11 x12)).set 3 (.shr (.dfz (kv (λ b=>.lst (b.r.map .int)) M)))).set 10 (.shr (kD (.inl bb.i))))[2]?=some (.shr (trD t.af gv M)):=by
   show some (Sl.shr (frz (trM t.af gv M)))=_;rw [k7]
  have g4:(((Cp 3 10 (sL t ns nm gv M M G gv gs x7 x8 x9 x10 x11 x12)).set 3 (.shr (.dfz (kv (λ b=>.lst (b.r.map .int)) M)))).set 10 (.shr (kD (.inl bb.i))))[4]?=some (.shr (faD G)):=by
   show some (Sl.shr (frz (faM G)))=_;rw [iY]
  exact fT (b:=true) (ba (dA (ah (ag g2) (ah (ag rfl) (ah (ag g4) (ah (ag rfl) ay)))) (walked_is (λ k c h=>by show jf (kv _ M) (.inl k)=_; rw [pk,h]; rfl) l.m l.fo hf (by omega)) rfl))
 refine aE (τ':=sL t ns nm gv M M G gv gs y7 x8 x9 .no y11 x12) ?_ (ou (v_N e_c))
 unfold z6;rw [zq (as:=(gv::gs).map .int) ?_]
 · exact f2
 ·refine aK (gz (ah (ag rfl) ay) (Zb rfl)) (dG (b:=false) rfl (g8 _)) (if_pos ?_)
  rw [Za];show 1+gs.length<=100000;omega
end
section
variable {P:Program} {w:World} {K:W.Frag} {mg:Str->Option Value} {base:Heap} {t:Adr}
def yM (K:W.Frag):Sp:=λ vs H Q _=>∃ (a:Addr) (ns:List Int),vs=[.ref a]/\SqL K H a (ns.map V.int)/\ns.length<=63/\∀ H',Q (.bl true) H'
theorem Bk {a d} (T:Txt K mg t) (F:Fun K "law" "law" (top 37) a d):fW P w K mg base CX0 7 a d ["_law_script"] (yM K):=by
 refine ((Ct t).2 T F).imp λ vs H Q E h=>?_
 obtain ⟨a,ns,rfl,hS,h63,k⟩:=h;refine ⟨H,[],[.shr (scr ns)],.shr (.bl true),[.no],(λ _ _ h=>h),?_,EC ns,λ v Hs' H' fp' g st=>?_⟩
 · exact .shr (.fz hS (Rps.ints ns)) .nil
 ·cases st with
  | shr r _ =>
   cases r;exact k _
end
end N12
end
namespace N12
open PySem L2
theorem CS {K:W.Frag} {mg:Str->Option Value} {c0 c1:Addr} (h:Txt K mg ⟨c0,c1⟩):∃ t,Txt K mg t:=⟨_,h⟩
end N12
open PySem PySem.W PyProof.Rows
set_option maxRecDepth 100000 in
set_option maxHeartbeats 0 in
theorem PySem.Challenge.cw_stylehouse_k12_walks_holds : PySem.Challenge.rw_stylehouse_k12_walks.Holds := by
 refine PySem.W.holds_law HD12.ET fun said=>?_
 refine HD12.EW said ?hw (by rfl) (by rfl) (by rfl) ?hc
 case hw=>w_witness2
 k_fill
 refine L2.wq (fun P=>rfl) ?_
 refine L2.wo (l:=PySem.Challenge.rw_stylehouse_k12_walks) (n:=63) (k:=7) (x:="_law_script") (CX:=L2.CX0) (sp:=N12.yM) rfl (by decide) rfl ⟨rfl,by decide,by decide⟩ (fun w h Y=>Y) ?F ?S ?C
 case F =>
  intro w mg fa h KX G hmg
  have T:∃ t,N12.Txt (L2.KOf KX) mg t:=by
   dsimp only [L2.KOf]
   refine' N12.CS ?h
   case h =>
   constructor
   case ox=>exact PySem.W.mg_of KX G (by k_is)
   exact PySem.W.mg_of KX G (by k_is)
   exact ⟨by k_is,by k_is,by k_is,by k_is⟩
   iterate 7 ((show W.findIn _ _ _=_; k_is))
   iterate 3 (exact L2.Fn0.df ⟨_,_,_,_,_,_,_,_,_,by k_is,by k_is,by k_is,by k_is⟩ KX G fun _ _ _ _ _ _ us hl=>match us,hl with | [_],_=>rfl)
   exact L2.Ja ⟨_,_,_,_,_,_,_,_,_,by k_is,by k_is,by k_is,by k_is⟩ KX G (fun _ _ _ _ _ _ s v=>.of_eq rfl)
   iterate 13 (exact L2.Fn0.df ⟨_,_,_,_,_,_,_,_,_,by k_is,by k_is,by k_is,by k_is⟩ KX G fun _ _ _ _ _ _ us hl=>match us,hl with | [_,_],_=>rfl)
   exact L2.Fn0.df ⟨_,_,_,_,_,_,_,_,_,by k_is,by k_is,by k_is,by k_is⟩ KX G fun _ _ _ _ _ _ us hl=>match us,hl with | [_,_,_],_=>rfl
   exact L2.Fn0.df ⟨_,_,_,_,_,_,_,_,_,by k_is,by k_is,by k_is,by k_is⟩ KX G fun _ _ _ _ _ _ us hl=>match us,hl with | [_,_,_,_],_=>rfl
   exact L2.Fn0.df ⟨_,_,_,_,_,_,_,_,_,by k_is,by k_is,by k_is,by k_is⟩ KX G fun _ _ _ _ _ _ us hl=>match us,hl with | [_,_,_,_,_],_=>rfl
   exact L2.Fn0.df ⟨_,_,_,_,_,_,_,_,_,by k_is,by k_is,by k_is,by k_is⟩ KX G fun _ _ _ _ _ _ us hl=>match us,hl with | [_,_,_,_,_,_],_=>rfl
   exact L2.Jd (by k_is) (by k_is) (by k_is) (by k_is) (by k_is) (by k_is) (by k_is) fun _ _ _ _ _ _ us hl=>match us,hl with | [_,_],_=>rfl
   iterate 4 (exact L2.BJ (by k_is) (by k_is) (by k_is) (by k_is) (by k_is) fun _ _ _ _ _ _ us hl=>match us,hl with | [_,_],_=>rfl)
   exact L2.BJ (by k_is) (by k_is) (by k_is) (by k_is) (by k_is) fun _ _ _ _ _ _ us hl=>match us,hl with | [_,_,_],_=>rfl
   iterate 2 (exact L2.BJ (by k_is) (by k_is) (by k_is) (by k_is) (by k_is) fun _ _ _ _ _ _ us hl=>match us,hl with | [_,_,_,_],_=>rfl)
   iterate 12 (exact PySem.W.mg_none_of KX G (by k_is))
   iterate 4 (exact ⟨_,PySem.W.mg_of KX G (by k_is)⟩)
   iterate 3 (kernel_rfl)
  obtain ⟨t,T⟩:=T
  obtain ⟨a,d,Fl,ml,bl⟩:=T.Jp
  have e0:=hmg.symm.trans ml
  cases e0
  exact ⟨d,bl,fun base kb nb=>N12.Bk T Fl⟩
 case S=>exact fun K H a ns hl hO hS=>⟨a,ns,rfl,hS,hl,fun _=>rfl⟩
 case C=>exact fun H s e s' z=>z
