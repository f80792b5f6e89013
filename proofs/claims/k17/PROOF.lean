import PyProof.Rows.All
import Wide.All
import OpenK.AllK
import Wide.FinOn
import Lean
import PyProof.EqAt
import PyProof.EqKinds
import PyProof.TupleCall
import PyProof.ZipIter
import PyProof.Rows.ZipGen
import PyProof.EnumIter
import PyProof.EnumFor
import PyProof.EnumMake
import PyProof.EnumStmt
import PyProof.SliceStr2
import PyProof.StrBlockI
import PyProof.MinMaxWalk
import PyProof.Rows.CallKwBuiltin
import PyProof.Rows.Range3
import KE.KRevIter
import PyProof.AttrMissHeap
import KE.KDictOf
import PyProof.FactsAll.range_2
import PyProof.P3Eq
import PyProof.DictWalks
import PyProof.Rows.SeqMore2
import PyProof.Rows.SortStr
import PySem.Challenge.RW_stylehouse_k17_chains
set_option Elab.async false
set_option linter.all false
set_option maxRecDepth 100000
theorem Zj {α:Type _} {a b:α} (h:some a=some b):a=b:=Option.some.inj h
theorem Zb {a b:Nat} (h:Nat.ble a b=true):a<=b:=Nat.le_of_ble_eq_true h
theorem Zf:false≠true:=Bool.false_ne_true
theorem Zm {α:Type _} {β:Type _} {f:α->β} {x:Option α} {b:β} (h:x.map f=some b):∃ a,x=some a/\f a=b:=Option.map_eq_some_iff.mp h
def Za:=@List.length_map
def Zc:=@List.mem_append_right
def Zd:=@List.mem_cons_of_mem
def Ze:=@List.mem_cons_self
def Zg:=@List.mem_append
def Zh:=@List.map_cons
def Zi:=@Nat.le_refl
def Zk:=@List.map_append
def Zl:=@List.mem_cons
def Zn:=@List.mem_singleton
def Zo:=@decide_eq_false
def Zp:=@List.mem_append_left
def Zq:=@decide_eq_true
def Zr:=@PySem.Heap.lt_size
def Zs:=@List.size_toArray
def Zt:=@List.length_append
def Zu:=@PySem.wpAny_bind
def Zv:=@List.nodup_cons
def Zw:=@List.map_congr_left
def Zx:=@Nat.ne_of_lt
def Zy:=@Nat.lt_of_lt_of_le
def Zz:=@List.length_cons
def Z0:=@PySem.W.Fast.te14364793385576792824
def Z1:=@Nat.zero_le
def Z2:=@List.append_nil
def Z3:=@Nat.le_trans
def Z4:=@List.mem_map
def Z5:=@Int.emod_lt_of_pos
def Z6:=@List.map_map
def Z7:=@PySem.wpAny_pure
def Z8:=@List.not_mem_nil
def Z9:=@List.replicate_succ
def Yb:=@Int.emod_nonneg
def Yc:=@List.nodup_append
def Yd:=@List.flatMap_cons
def Ye:=@List.flatMap_append
def Yg:=@List.length_take
def Yh:=@Bool.and_eq_true
def Yi:=@List.mem_flatMap
def Yj:=@PySem.wpAny_truthy_bool
def Yk:=@PySem.W.Fast.te10110043849684766642
def Yl:=@congrArg
def Ym:=@List.drop_eq_getElem_cons
def Yn:=@PySem.W.kia_one
def Yo:=@List.idxOf_lt_length_iff
def Yp:=@Option.bind_some
def Yq:=@PySem.mem_of_lookup
def Yr:=@List.mem_map_of_mem
def Ys:=@PySem.wpAny_mono
def Yt:=@PyProof.Rows.callWith_type1
def Yu:=@PySem.F.plainAttrs_list
def Yv:=@List.mem_of_mem_take
def Yw:=@Nat.lt_irrefl
def Yy:=@List.all_eq_true
def Yz:=@List.length_drop
def Y0:=@Nat.le_of_lt
def Y1:=@Option.isSome_iff_exists
def Y2:=@List.any_cons
def Y3:=@PySem.sizeLine_eq
def Y4:=@Bool.eq_iff_iff
def Y5:=@beq_eq_false_iff_ne
def Y6:=@List.any_eq_true
def Y7:=@PySem.wpAny_Call_Name_kw
def Y8:=@Classical.choose_spec
def Y9:=@PySem.wpAny_passesOwn
def Xa:=@List.flatten_cons
def Xb:=@Nat.sub_self
def Xc:=@List.mem_of_mem_drop
def Xd:=@Array.length_toList
def Xe:=@List.length_reverse
def Xf:=@List.mem_range
def Xg:=@List.nodup_nil
def Xh:=@List.getElem_mem
def Xi:=@List.drop_length
def Xj:=@PySem.wpAny_getItem_str_slice
def Xk:=@decide_eq_decide
def Xm:=@List.mem_filter
def Xn:=@Option.map_some
def Xo:=@List.take_append_drop
def Xp:=@List.reverse_cons
def Xq:=@of_decide_eq_true
def Xr:=@PySem.call_meets
def Xs:=@PySem.lookup_relabel_local
def Xu:=@Nat.lt_succ_self
def Xv:=@List.map_take
def Xw:=@List.map_drop
section
namespace L2
open PySem PySem.Spec PyProof.Rows
abbrev Key:=Sum Int Str
def nH:Key->Value->Bool
 | .inl k,v=>Value.isInt k v
 | .inr x,v=>Value.isStrOf x v
def O7 (w:World):Key->Int
 | .inl k=>hashInt k
 | .inr x=>hashStr w x
theorem bf:∀ {k:Key} {v:Value},nH k v=true->(∃ i t,k=Sum.inl i/\v=Value.int i t)\/(∃ x t,k=Sum.inr x/\v=Value.str x t)
 | .inl i,v,h=>by
  obtain ⟨t,e⟩:=Value.isInt_shape (k:=i) (v:=v) h;exact .inl ⟨i,t,rfl,e⟩
 | .inr x,v,h=>by
  obtain ⟨t,e⟩:=Value.isStrOf_shape (x:=x) (v:=v) h;exact .inr ⟨x,t,rfl,e⟩
theorem wj (i:Int) (t:Tok):nH (.inl i) (.int i t)=true:=by simp [nH,Value.isInt]
theorem wg (x:Str) (t:Tok):nH (.inr x) (.str x t)=true:=by simp [nH,Value.isStrOf]
theorem GD (a b:Int):decide ((Sum.inl a:Key)=Sum.inl b)=(a == b):=by
 by_cases e:a=b
 · subst e; simp
 ·have h:¬ (Sum.inl a:Key)=Sum.inl b:=λ q=>e (Sum.inl.inj q)
  rw [Zo h];exact (Y5.mpr e).symm
theorem GA (a b:Str):decide ((Sum.inr a:Key)=Sum.inr b)=decide (a=b):=by
 by_cases e:a=b
 · subst e; simp
 ·have h:¬ (Sum.inr a:Key)=Sum.inr b:=λ q=>e (Sum.inr.inj q)
  rw [Zo h,Zo e]
theorem GC (a:Int) (b:Str):decide ((Sum.inl a:Key)=Sum.inr b)=false:=Zo (λ q=>nomatch q)
theorem GB (a:Str) (b:Int):decide ((Sum.inr a:Key)=Sum.inl b)=false:=Zo (λ q=>nomatch q)
def bK (prog:Program) (w:World):PySem.KeyKind prog w Key where
 is:=nH
 hash:=O7 w
 inj:=λ v a b ha hb=>by
  rcases bf ha with ⟨i,t,rfl,rfl⟩ | ⟨x,t,rfl,rfl⟩
  ·rcases bf hb with ⟨j,u,rfl,e⟩ | ⟨y,u,rfl,e⟩
   · injection e with e1 _; rw [e1]
   · exact nomatch e
  ·rcases bf hb with ⟨j,u,rfl,e⟩ | ⟨y,u,rfl,e⟩
   · exact nomatch e
   · injection e with e1 _; rw [e1]
 byValue:=λ k v h=>by
  rcases bf h with ⟨i,t,rfl,rfl⟩ | ⟨x,t,rfl,rfl⟩ <;> rfl
 pyHash:=λ hv h=>by
  rcases bf hv with ⟨i,t,rfl,rfl⟩ | ⟨x,t,rfl,rfl⟩
  · exact wpAny_pyHash_int h
  · exact wpAny_pyHash_str h
 eqBool:=λ hu hv h=>by
  rcases bf hu with ⟨i,t,rfl,rfl⟩ | ⟨x,t,rfl,rfl⟩
  ·rcases bf hv with ⟨j,u,rfl,rfl⟩ | ⟨y,u,rfl,rfl⟩
   · rw [GD] at h; exact wpAny_eqBool_int h
   · rw [GC] at h; exact SeqAt.EqAt.int_str i t y u _ _ _ _ h
  ·rcases bf hv with ⟨j,u,rfl,rfl⟩ | ⟨y,u,rfl,rfl⟩
   · rw [GB] at h; exact SeqAt.EqAt.str_int x t j u _ _ _ _ h
   · rw [GA] at h; exact wpAny_eqBool_str h
 «strs»:=λ k x t v h=>by
  rcases bf h with ⟨i,u,rfl,e⟩ | ⟨y,u,rfl,e⟩
  · exact nomatch e
  ·injection e with e1 _
   subst e1;cases v <;> rfl
theorem pH (prog:Program) (w:World) (i:Int) (t:Tok):(bK prog w).is (.inl i) (.int i t)=true:=wj i t
theorem pG (prog:Program) (w:World) (x:Str) (t:Tok):(bK prog w).is (.inr x) (.str x t)=true:=wg x t
end L2
namespace L2
open PySem PySem.Spec PyProof.Rows
inductive V where
 | non | bl (b:Bool) | int (i:Int) | str (x:Str) | byt (b:Array UInt8) | flt (b:UInt64) | ref (a:Addr) | ty (n:String)
 deriving DecidableEq
def RelV:V->Value->Prop
 | .non,u=>u=Value.none
 | .bl b,u=>u=Value.bool b
 | .int i,u=>∃ t,u=Value.int i t
 | .str x,u=>∃ t,u=Value.str x t
 | .byt b,u=>∃ t,u=Value.bytes b t
 | .flt b,u=>∃ t,u=Value.float b t
 | .ref a,u=>u=Value.ref a
 | .ty n,u=>u=Value.type n
abbrev bH:List V->List Value->Prop:=Paired RelV
theorem bH.length (r:bH xs us):xs.length=us.length:=Paired.length r
theorem bH.get:∀ {xs:List V} {us:List Value} {i:Nat} {x:V},bH xs us->xs[i]?=some x->∃ u,us[i]?=some u/\RelV x u
 | _,_,_,_,.nil,e=>by simp at e
 | _,_,0,_,.cons r _,e=>by simp at e; subst e; exact ⟨_,rfl,r⟩
 | _,_,i+1,x,.cons _ t,e=>by
  obtain ⟨u,h1,h2⟩:=bH.get (i:=i) (x:=x) t (by simpa using e);exact ⟨u,by simpa using h1,h2⟩
theorem bH.append:∀ {xs ys:List V} {us ws:List Value},bH xs us->bH ys ws->bH (xs++ys) (us++ws)
 | _,_,_,_,.nil,s=>s
 | _,_,_,_,.cons r t,s=>.cons r (bH.append t s)
theorem bH.take:∀ {xs:List V} {us:List Value} (n:Nat),bH xs us->bH (xs.take n) (us.take n)
 | _,_,0,_=>.nil
 | _,_,_+1,.nil=>.nil
 | _,_,n+1,.cons r t=>.cons r (bH.take n t)
theorem bH.drop:∀ {xs:List V} {us:List Value} (n:Nat),bH xs us->bH (xs.drop n) (us.drop n)
 | _,_,0,r=>r
 | _,_,_+1,.nil=>.nil
 | _,_,n+1,.cons _ t=>bH.drop n t
def oK:Option V->Option Value->Prop
 | some v,some u=>RelV v u
 | none,none=>True
 | _,_=>False
def KV {κ:Type}:List (κ×V)->List (κ×Value)->Prop:=Paired λ (p:κ×V) (q:κ×Value)=>p.1=q.1/\RelV p.2 q.2
def kV:Key->V
 | .inl i=>.int i
 | .inr x=>.str x
inductive HO where
 | lst (xs:List V)
 | tup (xs:List V)
 | dK (kvs:List (Key×V)) | dT (kvs:List (List Key×V))
 | set (S:Int->Bool) (n:Nat)
 | ins (C dx:Addr) (fs:List (Str×V))
 | own (x:Addr)
 | xd (fs:List (Str×V))
 | met (f x:Addr)
 | rng (lo hi:Int)
 | frz (o:Obj) (u:HO)
 | tbl (ps:Array Value)
 | ext (φ:Heap->Prop)
abbrev Hp:=Addr->Option HO
def upd (H:Hp) (a:Addr) (o:HO):Hp:=λ b=>if b=a then some o else H b
theorem av:upd H a o a=some o:=by unfold upd; rw [if_pos rfl]
theorem ar (h:b≠a):upd H a o b=H b:=by unfold upd; rw [if_neg h]
theorem A2:upd (upd H a o) a u=upd H a u:=by
 funext b; unfold upd; split <;> rfl
theorem LG {H:Hp} {a b:Addr} {o u:HO} (h:H a=some o) (h':H b=some u) (d:o≠u):a≠b:=by
 intro e; subst e; rw [h] at h'; exact d (Zj h')
theorem dg {H:Hp} {a b:Addr} {o:HO} (h:H a=some o) (h':H b=none):a≠b:=by
 intro e; subst e; rw [h] at h'; cases h'
section
variable (P:Program) (w:World)
def cc (H:Hp) (h:Heap) (a:Addr):HO->Prop
 | .lst xs=>xs.length<=sizeLine/\∃ (its:List Value) (n:Nat),bH xs its/\h.get? a=some { cls:=.type "list",data:=.seq its.toArray n }
 | .tup xs=>xs.length<=sizeLine/\∃ its:List Value,bH xs its/\IsTup h a its.toArray
 | .dK kvs=>kvs.length<=sizeLine/\(a == sysModules)=false/\∃ vs,KV kvs vs/\h.DictOf (bK P w) a vs
 | .dT kvs=>kvs.length<=sizeLine/\(a == sysModules)=false/\∃ xs:List (List Key×Addr×Value),
  Paired (λ (p:List Key×V) (q:List Key×Addr×Value)=>p.1=q.1/\H q.2.1=some (.tup (p.1.map kV))/\RelV p.2 q.2.2) kvs xs /\
  ∃ o es ep,h.get? a=some o/\o.ExactDict/\o.data=.dict es ep/\es.toList=xs.map (entryOfKey (tupleKind (bK P w)))/\(xs.map (·.1)).Nodup
 | .set S n=>h.SetOf (intKind P w) a S n
 | .ins C dx fs=>H dx=some (.own a)/\fs.length<=1000/\dx≠a/\h.get? a=some (PySem.W.instObj C dx) /\
  ∃ mA,h.Ns1 dx mA/\(∀ f,oK (fs.lookup f) (mA f))/\PySem.Within mA (fs.map (·.1))
 | .own _=>∃ o,h.get? a=some o
 | .xd fs=>∃ mA,h.Ns1 a mA/\∀ f,oK (fs.lookup f) (mA f)
 | .rng lo hi=>∃ t u v,h.get? a=some { cls:=.type "range",data:=.fields #[.int lo t,.int hi u,.int 1 v] }
 | .frz o u=>h.get? a=some o/\cc H h a u
 | .tbl ps=>h.get? a=some { cls:=.none,data:=.fields ps }
 | .met f x=>h.get? a=some (PySem.W.methodObj (.ref f) (.ref x))
 | .ext φ=>φ h/\(∃ o,h.get? a=some o)/\∀ h1 h2:Heap,φ h1->(∀ o,h1.get? a=some o->h2.get? a=some o)->φ h2
def HOk (H:Hp) (h:Heap):Prop:=∀ a o,H a=some o->cc P w H h a o
end
section
variable {P:Program} {w:World} {H H':Hp} {h h':Heap} {a:Addr} {o:HO}
theorem cc.lt (x:cc P w H h a o):a < h.objs.size:=by
 cases o with
 | lst xs=>obtain ⟨_,_,_,_,e⟩:=x; exact Zr e
 | tup xs=>obtain ⟨_,_,_,p⟩:=x; exact p.lt
 | dK kvs=>obtain ⟨_,_,_,_,o,_,_,e,_⟩:=x; exact Zr e
 | dT kvs=>obtain ⟨_,_,_,_,o,_,_,e,_⟩:=x; exact Zr e
 | set S n=>obtain ⟨o,_,_,_,e,_⟩:=x; exact Zr e
 | ins C dx fs=>obtain ⟨_,_,_,e,_⟩:=x; exact Zr e
 | own y=>obtain ⟨_,e⟩:=x; exact Zr e
 | xd fs=>obtain ⟨_,⟨_,_,_,e,_⟩,_⟩:=x; exact Zr e
 | rng lo hi=>obtain ⟨_,_,_,e⟩:=x; exact Zr e
 | frz ob u=>obtain ⟨e,_⟩:=x; exact Zr e
 | tbl ps=>exact Zr (show h.get? a=some _ from x)
 | met f y=>exact Zr (show h.get? a=some _ from x)
 | ext φ=>obtain ⟨_,⟨_,e⟩,_⟩:=x; exact Zr e
theorem Paired.LW {α β:Type} {F G:α->β->Prop}:∀ {l₁:List α} {l₂:List β},Paired F l₁ l₂->(∀ a b,F a b->G a b)->Paired G l₁ l₂
 | _,_,.nil,_=>.nil
 | _,_,.cons r t,f=>.cons (f _ _ r) (Paired.LW t f)
theorem cc.xF (x:cc P w H h a o) (k:∀ b u,(b=a\/H b=some (.own a))->h.get? b=some u->h'.get? b=some u)
  (ho:∀ b,H b=some (.own a)->H' b=some (.own a)) (ht:∀ b xs,H b=some (.tup xs)->H' b=some (.tup xs)):cc P w H' h' a o:=by
 induction o with
 | lst xs=>obtain ⟨z,its,n,r,e⟩:=x; exact ⟨z,its,n,r,k _ _ (.inl rfl) e⟩
 | tup xs=>obtain ⟨z,its,r,ob,e,c⟩:=x; exact ⟨z,its,r,ob,k _ _ (.inl rfl) e,c⟩
 | dK kvs=>obtain ⟨z,y,vs,r,ob,es,ep,e,c⟩:=x; exact ⟨z,y,vs,r,ob,es,ep,k _ _ (.inl rfl) e,c⟩
 | dT kvs =>
  obtain ⟨z,y,xs,r,ob,es,ep,e,c⟩:=x;exact ⟨z,y,xs,Paired.LW r λ p q z=>⟨z.1,ht _ _ z.2.1,z.2.2⟩,ob,es,ep,k _ _ (.inl rfl) e,c⟩
 | set S n=>obtain ⟨ob,es,ep,t,e,c⟩:=x; exact ⟨ob,es,ep,t,k _ _ (.inl rfl) e,c⟩
 | ins C dx fs =>
  obtain ⟨d,z,ne,e,mA,⟨od,es,ep,e2,c⟩,r⟩:=x;exact ⟨ho _ d,z,ne,k _ _ (.inl rfl) e,mA,⟨od,es,ep,k _ _ (.inr d) e2,c⟩,r⟩
 | own y=>obtain ⟨ob,e⟩:=x; exact ⟨ob,k _ _ (.inl rfl) e⟩
 | xd fs=>obtain ⟨mA,⟨od,es,ep,e,c⟩,r⟩:=x; exact ⟨mA,⟨od,es,ep,k _ _ (.inl rfl) e,c⟩,r⟩
 | rng lo hi=>obtain ⟨t,u,v,e⟩:=x; exact ⟨t,u,v,k _ _ (.inl rfl) e⟩
 | frz ob u ih=>obtain ⟨e,q⟩:=x; exact ⟨k _ _ (.inl rfl) e,ih q⟩
 | tbl ps =>
  have e:h.get? a=some { cls:=.none,data:=.fields ps }:=x;show h'.get? a=some { cls:=.none,data:=.fields ps };exact k a _ (.inl rfl) e
 | met f y =>
  have e:h.get? a=some (PySem.W.methodObj (.ref f) (.ref y)):=x;show h'.get? a=some (PySem.W.methodObj (.ref f) (.ref y));exact k a _ (.inl rfl) e
 | ext φ=>obtain ⟨p,⟨o,e⟩,st⟩:=x; exact ⟨st _ _ p λ o q=>k _ _ (.inl rfl) q,⟨o,k _ _ (.inl rfl) e⟩,st⟩
theorem HOk.lt (x:HOk P w H h) (e:H a=some o):a < h.objs.size:=(x a o e).lt
theorem HOk.fresh (x:HOk P w H h) (e:h.objs.size<=a):H a=none:=by
 cases q:H a with
 | none=>rfl
 | some u=>exact absurd (Zy (x.lt q) e) (Yw _)
theorem HOk.kept (x:HOk P w H h) (k:∀ b u,h.get? b=some u->h'.get? b=some u):HOk P w H h':=λ a o e =>
 (x a o e).xF (λ b u _ q=>k b u q) (λ _ q=>q) λ _ _ q=>q
theorem HOk.laid (x:HOk P w H h) (k:∀ b u,h.get? b=some u->h'.get? b=some u) (hp:h.objs.size<=a) (new:cc P w (upd H a o) h' a o):HOk P w (upd H a o) h':=λ b u e=>by
 have hn:=x.fresh hp
 by_cases hb:b=a
 · subst hb; rw [av] at e; cases e; exact new
 ·rw [ar hb] at e
  exact (x b u e).xF (λ c v _ q=>k c v q) (λ c q=>by rw [ar (dg q hn)]; exact q) λ c xs q=>by rw [ar (dg q hn)]; exact q
end
def Rd (H:Hp) (a:Addr) (u:HO):Prop:=H a=some u\/∃ o,H a=some (.frz o u)
theorem Rd.ok (r:Rd H a u) (x:HOk P w H h):cc P w H h a u:=by
 rcases r with r | ⟨o,r⟩
 · exact x a u r
 ·obtain ⟨_,q⟩:=x a _ r
  exact q
def Mut:Option HO->Prop
 | some (.lst _)=>True
 | some (.dK _)=>True
 | some (.dT _)=>True
 | some (.set _ _)=>True
 | some (.ins _ _ _)=>True
 | some (.ext _)=>True
 | _=>False
section
variable {P:Program} {w:World} {H:Hp} {h h':Heap} {x e:Addr} {o':HO}
theorem HOk.write (ok:HOk P w H h) (mu:Mut (H x)) (he:e=x\/H e=some (.own x)) (k:∀ b u,b≠e->h.get? b=some u->h'.get? b=some u) (heo:∃ u,h'.get? e=some u)
  (new:cc P w (upd H x o') h' x o'):HOk P w (upd H x o') h':=λ b u q=>by
 have nown:∀ c y,H c=some (.own y)->c≠x:=λ c y r z=>by subst z; rw [r] at mu; exact mu
 have ntup:∀ c xs,H c=some (.tup xs)->c≠x:=λ c xs r z=>by subst z; rw [r] at mu; exact mu
 by_cases hb:b=x
 · subst hb; rw [av] at q; cases q; exact new
 ·rw [ar hb] at q
  by_cases hbe:b=e
  ·have q':H b=some (.own x):=by
    rcases he with z | z
    · exact absurd (hbe.trans z) hb
    · rw [hbe]; exact z
   rw [q] at q'; cases q'
   obtain ⟨v,hv⟩:=heo;exact ⟨v,by rw [hbe]; exact hv⟩
  ·refine (ok b u q).xF (λ c v hc r=>k c v ?_ r) (λ c r=>by rw [ar (nown c b r)]; exact r) λ c xs r=>by rw [ar (ntup c xs r)]; exact r
   rcases hc with rfl | hc
   · exact hbe
   ·rintro rfl
    rcases he with z | z
    · exact nown c b hc z
    · rw [hc] at z; cases z; exact hb rfl
end
structure Un (fs ex:List Addr) (H H':Hp) (h h':Heap):Prop where
 keep:∀ b o,h.get? b=some o->H b=none->b ∉ fs->b ∉ ex->h'.get? b=some o
 slot:∀ b o,h.get? b=some o->H b=none->b ∈ fs->b ∉ ex->∃ sl,h'.get? b=some { o with slots:=sl }
 free:∀ b o,h.get? b=some o->H b=none->b ∉ ex->H' b=none
 there:∀ b o,h.get? b=some o->b ∉ ex->∃ o',h'.get? b=some o'
 ud:∀ b xs,H b=some (.tup xs)->H' b=some (.tup xs)
 tY:∀ b o u,H b=some (.frz o u)->H' b=some (.frz o u)
 ug:∀ b ps,H b=some (.tbl ps)->∃ more,H' b=some (.tbl (ps++more))
section
variable {fs fs' ex ex':List Addr} {H H1 H2:Hp} {h h1 h2 h':Heap} {a x e:Addr} {o:HO}
theorem Un.any (u:Un fs ex H H1 h h1) (q:h.get? b=some ob) (n:H b=none) (hx:b ∉ ex):∃ sl,h1.get? b=some { ob with slots:=sl }:=by
 by_cases hb:b ∈ fs
 · exact u.slot b ob q n hb hx
 · exact ⟨ob.slots,u.keep b ob q n hb hx⟩
theorem Un.kept (k:∀ b u,h.get? b=some u->h'.get? b=some u):Un fs ex H H h h' :=
 ⟨λ b ob q _ _ _=>k b ob q,λ b ob q _ _ _=>⟨ob.slots,k b ob q⟩,λ _ _ _ n _=>n,λ b ob q _=>⟨ob,k b ob q⟩,λ _ _ q=>q,λ _ _ _ q=>q,λ _ ps q=>⟨#[],by rw [q]; simp⟩⟩
theorem Un.refl:Un fs ex H H h h:=Un.kept λ _ _ q=>q
theorem Un.laid (k:∀ b u,h.get? b=some u->h'.get? b=some u) (hp:h.objs.size<=a) (hn:H a=none):Un fs ex H (upd H a o) h h' where
 keep:=λ b u q _ _ _=>k b u q
 slot:=λ b u q _ _ _=>⟨u.slots,k b u q⟩
 free:=λ b u q n _=>by rw [ar (Zx (Zy (Zr q) hp))]; exact n
 there:=λ b u q _=>⟨u,k b u q⟩
 ud:=λ b xs q=>by rw [ar (dg q hn)]; exact q
 tY:=λ b u xs q=>by rw [ar (dg q hn)]; exact q
 ug:=λ b ps q=>⟨#[],by rw [ar (dg q hn),q]; simp⟩
theorem Un.write (mu:Mut (H x)) (he:e=x\/H e=some (.own x)) (k:∀ b u,b≠e->h.get? b=some u->h'.get? b=some u) (heo:∃ u,h'.get? e=some u):Un fs ex H (upd H x o) h h':=by
 have hx:∀ b,H b=none->b≠x:=λ b n z=>by subst z; rw [n] at mu; exact mu
 have hb:∀ b,H b=none->b≠e:=λ b n z=>by
  subst z;rcases he with r | r
  · exact hx b n r
  · rw [n] at r; cases r
 have hm:∀ b u,H b=some u->¬ Mut (some u)->b≠x:=λ b u q nm z=>by subst z; rw [q] at mu; exact nm mu
 refine ⟨λ b u q n _ _=>k b u (hb b n) q,λ b u q n _ _=>⟨u.slots,k b u (hb b n) q⟩,λ b u q n _=>by rw [ar (hx b n)]; exact n,λ b u q _=>?_,
  λ b xs q=>by rw [ar (hm b _ q λ z=>z)]; exact q,λ b u xs q=>by rw [ar (hm b _ q λ z=>z)]; exact q,λ b ps q=>⟨#[],by rw [ar (hm b _ q λ z=>z),q]; simp⟩⟩
 by_cases hbe:b=e
 · subst hbe; exact heo
 · exact ⟨u,k b u hbe q⟩
end
def trk (h:Heap) (H:Hp):List Addr:=(List.range h.objs.size).filter λ a=>(H a).isSome
def zh (h:Heap) (H:Hp):Heap:=PySem.W.hideAll h (trk h H)
theorem wF (h:Heap) (H:Hp):(zh h H).objs.size=h.objs.size:=PySem.W.hideAll_size _ _
theorem zg (e:h.get? b=some o) (n:H b=none):(zh h H).get? b=some o :=
 PySem.W.hideAll_get _ e λ hm=>by
  have q:(H b).isSome=true:=(Xm.mp hm).2;rw [n] at q; simp at q
theorem Cp (e:(zh h H).get? b=some o):h.get? b=some o/\H b=none:=by
 have e':h.get? b=some o:=PySem.W.of_hideAll (trk h H) e;refine ⟨e',?_⟩
 cases q:H b with
 | none=>rfl
 | some x =>
  have hm:b ∈ trk h H:=Xm.mpr ⟨Xf.mpr (Zr e'),by simp [q]⟩;have z:(zh h H).get? b=none:=PySem.W.hideAll_none (trk h H) hm;rw [z] at e; cases e
end L2
namespace L2
open PySem PySem.Spec PyProof.Rows
structure Mod (K:W.Frag) (mg:Str->Option Value) (base:Heap):Prop where
 kin:K.In base
 glob:base.Ns mainGlobals mg
 blt:∃ mb,base.Ns builtinsNs mb/\∀ x:Str,x≠"__name__"->mb x=bootBuiltins x
 nolimit:base.NoLimit
structure Cx where
 prog:Program
 w:World
 K:W.Frag
 mg:Str->Option Value
 base:Heap
 A:Around
 N:List Str
 s₀:Shared
 H₀:Hp
 env:Env
 outer:List Env
 stack:List Env
 ex:List Addr
 fn:Str->Bool
 calm:Bool
 pn:List (Addr×Obj)
 xe:Value->Shared->Prop
def frs (l:List Env):List Addr:=l.filterMap (·.frame)
abbrev Cx.fs (X:Cx):List Addr:=frs X.outer
def Vis (sc:Scope) (x:Str):Prop:=sc.names.lookup x=some .local\/sc.names.lookup x=some .cell\/sc.names.lookup x=some .free
def Loc (sc:Scope) (x:Str):Prop:=sc.names.lookup x=some .local\/sc.names.lookup x=some .cell
def Look (env:Env) (h:Heap) (m:Str->Option Value) (x:Str) (u:Value):Prop :=
 (env.kindOf x=some .local/\m x=some u)\/((env.kindOf x=some .cell\/env.kindOf x=some .free)/\∃ c,env.cells.lookup x=some c/\h.IsCell c (some u))
structure Cx.Ok (X:Cx):Prop where
 mod:Mod X.K X.mg X.base
 kind:X.env.scope.kind=.function
 glob:X.env.globals=mainGlobals
 blt:X.env.builtins=builtinsNs
 above:X.s₀.heap.objs.size<=X.env.locals
 inj:∀ x y c,X.env.cells.lookup x=some c->X.env.cells.lookup y=some c->x=y
 has:∀ x,(X.env.kindOf x=some .cell\/X.env.kindOf x=some .free)->∃ c,X.env.cells.lookup x=some c
 cab:∀ x c,X.fn x=true->X.env.cells.lookup x=some c->X.s₀.heap.objs.size<=c
 hd:X.calm=true->X.A.handled=none
 frames:X.A.frames=some X.stack
 stk:X.stack=X.outer\/(X.stack=X.env::X.outer/\X.env.frame=some X.env.locals)
 exf:∀ b ∈ X.ex,b≠X.env.locals/\∀ x c,X.env.cells.lookup x=some c->c≠b
 bs:∀ b o,X.base.get? b=some o->X.s₀.heap.get? b=some o/\X.H₀ b=none
 bsz:X.base.objs.size<=X.s₀.heap.objs.size
 Gb:∀ b o,X.base.get? b=some o->b ∉ X.ex
 IQ:∀ b ∈ X.ex,b ∉ X.fs
 tX:X.s₀.heap.FunFrames X.base X.outer
 frf:∀ b ∈ X.fs,X.H₀ b=none
structure Inv (X:Cx) (pins:List (Addr×Obj)) (σ:List (Option V)) (H:Hp) (s:Shared):Prop where
 ok:X.Ok
 os:s.os=X.s₀.os
 bare:AllBare s.gens
 base:Un X.fs X.ex X.H₀ H X.s₀.heap s.heap
 loc:∃ m,s.heap.Ns X.env.locals m/\∀ (i:Nat) (x:Str) (v:V),X.N[i]?=some x->σ[i]?=some (some v)->Vis X.env.scope x->∃ u,RelV v u/\Look X.env s.heap m x u
 cell:∀ x c,X.env.cells.lookup x=some c->∃ v,s.heap.IsCell c v
 free:H X.env.locals=none
 j5:∀ x c,X.env.cells.lookup x=some c->H c=none
 pin:∀ p ∈ X.pn++pins,s.heap.get? p.1=some p.2/\H p.1=none/\p.1≠X.env.locals/\p.1 ∉ X.fs/\∀ v,p.2.data≠.cell v
 hok:HOk X.prog X.w H s.heap
 len:σ.length=X.N.length
section
variable {X:Cx} {pins:List (Addr×Obj)} {σ:List (Option V)} {H H':Hp} {s:Shared} {h':Heap}
theorem Cx.Ok.OF (ok:X.Ok) (e:X.base.get? b=some o):b ∉ X.fs:=λ hb=>by
 have:=(ok.tX.mem hb).1;rw [e] at this; cases this
theorem Inv.bs (I:Inv X pins σ H s):∀ b o,X.base.get? b=some o->s.heap.get? b=some o/\H b=none:=λ b o e =>
 ⟨I.base.keep b o (I.ok.bs b o e).1 (I.ok.bs b o e).2 (I.ok.OF e) (I.ok.Gb b o e),I.base.free b o (I.ok.bs b o e).1 (I.ok.bs b o e).2 (I.ok.Gb b o e)⟩
theorem Inv.bk (I:Inv X pins σ H s):∀ b o,X.base.get? b=some o->s.heap.get? b=some o:=λ b o e=>(I.bs b o e).1
theorem Inv.mod (I:Inv X pins σ H s):Mod X.K X.mg X.base:=I.ok.mod
theorem Inv.kIn (I:Inv X pins σ H s):X.K.In s.heap:=I.ok.mod.kin.keeps I.bk
theorem Inv.lt (I:Inv X pins σ H s):X.env.locals < s.heap.objs.size:=let ⟨_,hn,_⟩:=I.loc; hn.lt
theorem Inv.sz (I:Inv X pins σ H s):X.s₀.heap.objs.size<=s.heap.objs.size:=Z3 I.ok.above (Y0 I.lt)
theorem Inv.OE (I:Inv X pins σ H s) (h:s.heap.objs.size<=a):a ∉ X.fs:=λ hb=>by
 obtain ⟨_,o,ho,_⟩:=I.ok.tX.mem hb;exact absurd (Zy (Zr ho) (Z3 I.sz h)) (Yw _)
theorem Inv.cne (I:Inv X pins σ H s):∀ x c,X.env.cells.lookup x=some c->c≠X.env.locals:=λ x c e z=>by
 obtain ⟨v,o,ho,hd⟩:=I.cell x c e;obtain ⟨m,⟨o',es,ep,ho',hd',_⟩,_⟩:=I.loc;rw [z,ho'] at ho; cases ho; rw [hd'] at hd; cases hd
theorem Inv.tX (I:Inv X pins σ H s):s.heap.FunFrames X.base X.outer:=by
 have all:∀ (l:List Env),(∀ b ∈ frs l,b ∈ X.fs)->X.s₀.heap.FunFrames X.base l->s.heap.FunFrames X.base l:=by
  intro l
  induction l with
  | nil=>intro _ _; trivial
  | cons env r ih =>
   intro hs hl;obtain ⟨hk,⟨L,o,hf,hn,ho,hd⟩,hr⟩:=hl;have hL:L ∈ X.fs:=hs L (by unfold frs; rw [List.filterMap_cons,hf]; exact Ze);obtain ⟨sl,e⟩:=I.base.slot L o ho (I.ok.frf L hL) hL λ z=>I.ok.IQ L z hL
   exact ⟨hk,⟨L,_,hf,hn,e,hd⟩,ih (λ b hb=>hs b (by unfold frs; rw [List.filterMap_cons,hf]; exact Zd _ hb)) hr⟩
 exact all X.outer (λ _ hb=>hb) I.ok.tX
theorem Inv.stack (I:Inv X pins σ H s):s.heap.FunFrames X.base X.stack:=by
 rcases I.ok.stk with e | ⟨e,hf⟩
 · rw [e]; exact I.tX
 ·rw [e]
  obtain ⟨m,hn,_⟩:=I.loc;refine .cons (by rw [I.ok.kind]; decide) hf hn ?_ I.tX;exact Heap.get?_none_of_le (Z3 I.ok.bsz I.ok.above)
theorem Inv.mY (I:Inv X pins σ H s):∀ b ∈ frs X.stack,b ∈ X.env.locals::X.fs:=λ b hb=>by
 rcases I.ok.stk with e | ⟨e,hf⟩
 · rw [e] at hb; exact Zd _ hb
 ·rw [e] at hb
  unfold frs at hb;rw [List.filterMap_cons,hf] at hb;exact hb
theorem Inv.uk (I:Inv X pins σ H s):∀ b ∈ frs X.stack,H b=none:=λ b hb=>by
 rcases Zl.mp (I.mY b hb) with e | hb
 · rw [e]; exact I.free
 ·obtain ⟨_,o,ho,_⟩:=I.ok.tX.mem hb
  exact I.base.free b o ho (I.ok.frf b hb) λ z=>I.ok.IQ b z hb
theorem Inv.step {g':Array GenState} {t':Nat} {d':Drawn} {ch:List Addr} (I:Inv X pins σ H s)
  (hch:∀ b ∈ ch,(b ∈ X.ex\/X.s₀.heap.objs.size<=b)/\b≠X.env.locals/\(∀ x c,X.env.cells.lookup x=some c->c≠b)/\∀ p ∈ X.pn++pins,p.1≠b)
  (keep:∀ b o,b≠X.env.locals->b ∉ X.fs->b ∉ ch->s.heap.get? b=some o->H b=none->h'.get? b=some o)
  (slot:∀ b o,b≠X.env.locals->b ∈ X.fs->b ∉ ch->s.heap.get? b=some o->H b=none->∃ sl,h'.get? b=some { o with slots:=sl }) (free:∀ b o,b ∉ ch->s.heap.get? b=some o->H b=none->H' b=none)
  (there:∀ b o,b ∉ ch->s.heap.get? b=some o->∃ o',h'.get? b=some o')
  (ud:∀ b xs,H b=some (.tup xs)->H' b=some (.tup xs)) (tY:∀ b o u,H b=some (.frz o u)->H' b=some (.frz o u)) (ug:∀ b ps,H b=some (.tbl ps)->∃ more,H' b=some (.tbl (ps++more)))
  (ns:∀ m,s.heap.Ns X.env.locals m->h'.Ns X.env.locals m) (hok:HOk X.prog X.w H' h') (hg:AllBare g') :
  Inv X pins σ H' { s with heap:=h',gens:=g',drawn:=d',toks:=t' }:=by
 have neL:∀ b o,X.s₀.heap.get? b=some o->b≠X.env.locals:=λ b o e=>Zx (Zy (Zr e) I.ok.above)
 have neC:∀ b o,X.s₀.heap.get? b=some o->b ∉ X.ex->b ∉ ch:=λ b o e hx hb=>by
  rcases (hch b hb).1 with z | z
  · exact hx z
  · exact absurd (Zy (Zr e) z) (Yw _)
 have cellK:∀ x c,X.env.cells.lookup x=some c->∀ v,s.heap.IsCell c v->h'.IsCell c v:=λ x c e v ⟨o,ho,hd⟩=>by
  have nch:c ∉ ch:=λ z=>(hch c z).2.2.1 x c e rfl
  by_cases hc:c ∈ X.fs
  ·obtain ⟨sl,q⟩:=slot c o (I.cne x c e) hc nch ho (I.j5 x c e)
   exact ⟨_,q,hd⟩
  · exact ⟨o,keep c o (I.cne x c e) hc nch ho (I.j5 x c e),hd⟩
 refine ⟨I.ok,I.os,hg,⟨λ b o e n hb hx=>?_,λ b o e n hb hx=>?_,λ b o e n hx=>?_,λ b o e hx=>?_,λ b xs e=>ud b xs (I.base.ud b xs e),λ b o xs e=>tY b o xs (I.base.tY b o xs e),λ b ps e=>?_⟩,?_,λ x c e=>?_,?_,λ x c e=>?_,λ p hp=>?_,hok,I.len⟩
 · exact keep b o (neL b o e) hb (neC b o e hx) (I.base.keep b o e n hb hx) (I.base.free b o e n hx)
 ·obtain ⟨sl,e1⟩:=I.base.slot b o e n hb hx
  obtain ⟨sl',e2⟩:=slot b _ (neL b o e) hb (neC b o e hx) e1 (I.base.free b o e n hx);exact ⟨sl',e2⟩
 ·obtain ⟨o',e1⟩:=I.base.there b o e hx
  exact free b o' (neC b o e hx) e1 (I.base.free b o e n hx)
 ·obtain ⟨o',e1⟩:=I.base.there b o e hx
  exact there b o' (neC b o e hx) e1
 ·obtain ⟨m1,e1⟩:=I.base.ug b ps e
  obtain ⟨m2,e2⟩:=ug b _ e1;exact ⟨m1++m2,by rw [e2,Array.append_assoc]⟩
 ·obtain ⟨m,hn,hl⟩:=I.loc
  refine ⟨m,ns m hn,λ i x v e1 e2 e3=>?_⟩;obtain ⟨u,r,l⟩:=hl i x v e1 e2 e3;refine ⟨u,r,?_⟩;rcases l with l | ⟨k,c,e,z⟩
  · exact .inl l
  · exact .inr ⟨k,c,e,cellK x c e _ z⟩
 ·obtain ⟨v,z⟩:=I.cell x c e
  exact ⟨v,cellK x c e v z⟩
 ·obtain ⟨m,⟨o,_,_,ho,_⟩,_⟩:=I.loc
  exact free _ o (λ z=>(hch _ z).2.1 rfl) ho I.free
 ·obtain ⟨v,o,ho,hd⟩:=I.cell x c e
  exact free c o (λ z=>(hch c z).2.2.1 x c e rfl) ho (I.j5 x c e)
 ·obtain ⟨e,n,ne,nf,d⟩:=I.pin p hp
  have nch:p.1 ∉ ch:=λ z=>(hch p.1 z).2.2.2 p hp rfl
  exact ⟨keep p.1 p.2 ne nf nch e n,free p.1 p.2 nch e n,ne,nf,d⟩
theorem Inv.un {t':Nat} (I:Inv X pins σ H s) (u:Un X.fs [] H H' s.heap h') (hok:HOk X.prog X.w H' h'):Inv X pins σ H' { s with heap:=h',toks:=t' }:=by
 obtain ⟨m,⟨o,es,ep,ho,r⟩,_⟩:=id I.loc;obtain ⟨sl,hL⟩:=u.any ho I.free (by simp)
 exact I.step (g':=s.gens) (d':=s.drawn) (ch:=[]) (λ _ z=>nomatch z) (λ b o _ hb _ e n=>u.keep b o e n hb (by simp)) (λ b o _ hb _ e n=>u.slot b o e n hb (by simp)) (λ b o _ e n=>u.free b o e n (by simp)) (λ b o _ e=>u.there b o e (by simp)) u.ud u.tY u.ug (λ m' hm=>by
  obtain ⟨o',es',ep',ho',r'⟩:=hm;rw [ho] at ho'; cases ho'
  exact ⟨_,es',ep',hL,r'⟩) hok I.bare
theorem Inv.call {g':Array GenState} {t':Nat} {d':Drawn} {ch:List Addr} (I:Inv X pins σ H s) (u:Un (frs X.stack) ch H H' s.heap h') (hok:HOk X.prog X.w H' h') (hg:AllBare g')
  (hch:∀ b ∈ ch,(b ∈ X.ex\/X.s₀.heap.objs.size<=b)/\b≠X.env.locals/\(∀ x c,X.env.cells.lookup x=some c->c≠b)/\∀ p ∈ X.pn++pins,p.1≠b) :
  Inv X pins σ H' { s with heap:=h',gens:=g',drawn:=d',toks:=t' }:=by
 obtain ⟨m,⟨o,es,ep,ho,r⟩,_⟩:=id I.loc;obtain ⟨sl,hL⟩:=u.any ho I.free λ z=>(hch _ z).2.1 rfl
 exact I.step (ch:=ch) hch (λ b o hL hb hc e n=>u.keep b o e n (λ z=>(Zl.mp (I.mY b z)).elim hL hb) hc) (λ b o _ _ hc e n=>u.any e n hc) (λ b o hc e n=>u.free b o e n hc) (λ b o hc e=>u.there b o e hc) u.ud u.tY u.ug (λ m' hm=>by
  obtain ⟨o',es',ep',ho',r'⟩:=hm;rw [ho] at ho'; cases ho'
  exact ⟨_,es',ep',hL,r'⟩) hok hg
theorem Inv.turned {t':Nat} {it:Addr} (I:Inv X pins σ H s) (k:∀ b o,b≠it->s.heap.get? b=some o->h'.get? b=some o) (hn:H it=none) (hL:it≠X.env.locals)
  (h1:it ∈ X.ex\/X.s₀.heap.objs.size<=it) (h2:∀ x c,X.env.cells.lookup x=some c->c≠it) (h3:∀ p ∈ X.pn++pins,p.1≠it):Inv X pins σ H { s with heap:=h',toks:=t' }:=by
 have nit:∀ b u,H b=some u->b≠it:=λ b u e z=>by rw [z,hn] at e; cases e
 refine I.step (g':=s.gens) (d':=s.drawn) (ch:=[it]) (λ b hb=>?_) (λ b o _ _ hc e _=>k b o (λ z=>hc (by simp [z])) e) (λ b o _ _ hc e _=>⟨o.slots,k b o (λ z=>hc (by simp [z])) e⟩) (λ _ _ _ _ n=>n)
  (λ b o hc e=>⟨o,k b o (λ z=>hc (by simp [z])) e⟩) (λ _ _ e=>e) (λ _ _ _ e=>e) (λ b ps e=>⟨#[],by rw [e]; simp⟩) (λ m hm=>?_) (λ b u e=>?_) I.bare
 ·have e:b=it:=by simpa using hb
  subst e;exact ⟨h1,hL,h2,h3⟩
 ·obtain ⟨o,es,ep,ho,r⟩:=hm
  exact ⟨o,es,ep,k _ o (Ne.symm hL) ho,r⟩
 ·refine (I.hok b u e).xF (λ c v hc q=>k c v ?_ q) (λ _ q=>q) λ _ _ q=>q
  rcases hc with z | z
  · rw [z]; exact nit b u e
  · exact nit c _ z
theorem Inv.tok (I:Inv X pins σ H s) (t:Nat):Inv X pins σ H { s with toks:=t }:=I.un (h':=s.heap) (t':=t) Un.refl I.hok
theorem Inv.kept (I:Inv X pins σ H s) (k:∀ b u,s.heap.get? b=some u->h'.get? b=some u):Inv X pins σ H { s with heap:=h',toks:=t' }:=I.un (Un.kept k) (I.hok.kept k)
theorem Inv.laid (I:Inv X pins σ H s) (k:∀ b u,s.heap.get? b=some u->h'.get? b=some u) (hp:s.heap.objs.size<=a) (new:cc X.prog X.w (upd H a o) h' a o) :
 Inv X pins σ (upd H a o) { s with heap:=h',toks:=t' }:=I.un (Un.laid k hp (I.hok.fresh hp)) (I.hok.laid k hp new)
theorem Inv.write (I:Inv X pins σ H s) (mu:Mut (H x)) (he:e=x\/H e=some (.own x)) (k:∀ b u,b≠e->s.heap.get? b=some u->h'.get? b=some u) (heo:∃ u,h'.get? e=some u)
 (new:cc X.prog X.w (upd H x o) h' x o):Inv X pins σ (upd H x o) { s with heap:=h',toks:=t' }:=I.un (Un.write mu he k heo) (I.hok.write mu he k heo new)
theorem Inv.gA (I:Inv X pins σ H s) (h:∀ p ∈ pins',s.heap.get? p.1=some p.2/\H p.1=none/\p.1≠X.env.locals/\p.1 ∉ X.fs/\∀ v,p.2.data≠.cell v):Inv X pins' σ H s :=
 ⟨I.ok,I.os,I.bare,I.base,I.loc,I.cell,I.free,I.j5,λ p hp=>(Zg.mp hp).elim (λ z=>I.pin p (Zp _ z)) (h p),I.hok,I.len⟩
theorem qV {N:List Str} (hN:N.Nodup) {i j:Nat} {x:Str} (a:N[i]?=some x) (b:N[j]?=some x):i=j:=by
 obtain ⟨h1,e1⟩:=List.getElem?_eq_some_iff.mp a;obtain ⟨h2,e2⟩:=List.getElem?_eq_some_iff.mp b;exact (List.getElem_inj hN).mp (e1.trans e2.symm)
theorem mX {M:Model} {A:Around} {E:Value->Shared->Prop} {i:Nat} {x:Str} {v:V} {u:Value} {Q:Unit->Shared->Prop} (I:Inv X pins σ H s) (hN:X.N.Nodup) (hi:X.N[i]?=some x) (hx:Loc X.env.scope x) (r:RelV v u)
  (h:∀ s',Inv X pins (σ.set i (some v)) H s'->(∃ a,Heap.SameBut a s.heap s'.heap/\(a=X.env.locals\/X.env.cells.lookup x=some a))->Q () s') (hf:X.fn x=true\/X.env.scope.names.lookup x=some .local:=by first | exact .inl rfl | exact .inr rfl | assumption):wpAny M A (storeName X.env x u) Q E s:=by
 obtain ⟨m,hn,hl⟩:=id I.loc;have hcls:(X.env.scope.kind == .class||(X.env.scope.kind == .module&&X.env.locals != X.env.globals))=false:=by rw [I.ok.kind]; rfl
 have hiσ:i < σ.length:=by rw [I.len]; exact (List.getElem?_eq_some_iff.mp hi).1
 have cne:=I.cne
 have tracked:∀ {a:Addr} {h':Heap},(∃ o,s.heap.get? a=some o/\H a=none)->Heap.SameBut a s.heap h'->HOk X.prog X.w H h':=λ {a h'} ha hs b ob e=>by
  obtain ⟨_,_,hfree⟩:=ha;refine (I.hok b ob e).xF (λ c w' hc q=>(hs.2 c ?_).trans q) (λ _ q=>q) λ _ _ q=>q
  rintro rfl
  rcases hc with rfl | hc
  · rw [hfree] at e; cases e
  · rw [hfree] at hc; cases hc
 rcases hx with hk | hk
 ·refine wpAny_storeName_local hk hn (λ h' hn' hs=>?_) hcls
  obtain ⟨oL,_,_,hoL,_⟩:=id hn;refine h _ ⟨I.ok,I.os,I.bare,⟨λ b o e n hb hx=>?_,λ b o e n hb hx=>?_,I.base.free,λ b o e hx=>?_,I.base.ud,I.base.tY,I.base.ug⟩,⟨_,hn',λ j y v' e1 e2 e3=>?_⟩,λ y c e=>?_,I.free,I.j5,λ p hp=>?_,tracked ⟨oL,hoL,I.free⟩ hs,by simpa using I.len⟩ ⟨_,hs,.inl rfl⟩
  · exact (hs.2 b (Zx (Zy (Zr e) I.ok.above))).trans (I.base.keep b o e n hb hx)
  ·obtain ⟨sl,e1⟩:=I.base.slot b o e n hb hx
   exact ⟨sl,(hs.2 b (Zx (Zy (Zr e) I.ok.above))).trans e1⟩
  ·obtain ⟨o',e1⟩:=I.base.there b o e hx
   exact ⟨o',(hs.2 b (Zx (Zy (Zr e) I.ok.above))).trans e1⟩
  ·by_cases hj:j=i
   ·subst hj
    rw [hi] at e1; cases e1
    rw [List.getElem?_set_self hiσ] at e2;cases e2;exact ⟨u,r,.inl ⟨hk,by simp⟩⟩
   ·rw [List.getElem?_set_ne (Ne.symm hj)] at e2
    obtain ⟨u',r',q⟩:=hl j y v' e1 e2 e3;refine ⟨u',r',?_⟩;rcases q with ⟨k,e⟩ | ⟨k,c,e,z⟩
    ·refine .inl ⟨k,?_⟩
     have:y≠x:=λ e=>hj (qV hN e1 (e ▸ hi))
     simp [this,e]
    · exact .inr ⟨k,c,e,z.sameBut hs (cne y c e)⟩
  ·obtain ⟨w',z⟩:=I.cell y c e
   exact ⟨w',z.sameBut hs (cne y c e)⟩
  ·obtain ⟨e,n,ne,nf,d⟩:=I.pin p hp
   exact ⟨(hs.2 p.1 ne).trans e,n,ne,nf,d⟩
 ·have hfn:X.fn x=true:=by
   rcases hf with z | z
   · exact z
   · rw [z] at hk; cases hk
  obtain ⟨c,hc⟩:=I.ok.has x (.inl hk);obtain ⟨w',z⟩:=I.cell x c hc;refine wpAny_storeName_cell I.ok.kind hk hc z (λ h' hc' hs=>?_);obtain ⟨oc,hoc,hocd⟩:=id z;refine h { s with heap:=h' } ⟨I.ok,I.os,I.bare,⟨λ b o e n hb hx=>?_,λ b o e n hb hx=>?_,I.base.free,λ b o e hx=>?_,I.base.ud,I.base.tY,I.base.ug⟩,⟨m,hn.sameBut hs (Ne.symm (cne x c hc)),λ j y v' e1 e2 e3=>?_⟩,λ y c' e=>?_,I.free,I.j5,λ p hp=>?_,tracked ⟨oc,hoc,I.j5 x c hc⟩ hs,by simpa using I.len⟩ ⟨c,hs,.inr hc⟩
  · exact (hs.2 b (Zx (Zy (Zr e) (I.ok.cab x c hfn hc)))).trans (I.base.keep b o e n hb hx)
  ·obtain ⟨sl,e1⟩:=I.base.slot b o e n hb hx
   exact ⟨sl,(hs.2 b (Zx (Zy (Zr e) (I.ok.cab x c hfn hc)))).trans e1⟩
  ·obtain ⟨o',e1⟩:=I.base.there b o e hx
   exact ⟨o',(hs.2 b (Zx (Zy (Zr e) (I.ok.cab x c hfn hc)))).trans e1⟩
  ·by_cases hj:j=i
   ·subst hj
    rw [hi] at e1; cases e1
    rw [List.getElem?_set_self hiσ] at e2;cases e2;exact ⟨u,r,.inr ⟨.inl hk,c,hc,hc'⟩⟩
   ·rw [List.getElem?_set_ne (Ne.symm hj)] at e2
    obtain ⟨u',r',q⟩:=hl j y v' e1 e2 e3;refine ⟨u',r',?_⟩;rcases q with q | ⟨k,c',e,z'⟩
    · exact .inl q
    ·refine .inr ⟨k,c',e,z'.sameBut hs ?_⟩
     rintro rfl
     exact hj (qV hN e1 (I.ok.inj _ _ _ e hc ▸ hi))
  ·by_cases hcc:c'=c
   · subst hcc; exact ⟨_,hc'⟩
   ·obtain ⟨w2,z2⟩:=I.cell y c' e
    exact ⟨w2,z2.sameBut hs hcc⟩
  ·obtain ⟨e,n,ne,nf,d⟩:=I.pin p hp
   refine ⟨(hs.2 p.1 ?_).trans e,n,ne,nf,d⟩;intro q;rw [q,hoc] at e;have q':oc=p.2:=Zj e;exact d w' (by rw [<- q']; exact hocd)
theorem qz (I:Inv X pins σ H s) (hN:X.N.Nodup) (hi:X.N[i]?=some x) (hx:Loc X.env.scope x) (r:RelV v u)
  (h:∀ s',Inv X pins (σ.set i (some v)) H s'->Q () s') (hf:X.fn x=true\/X.env.scope.names.lookup x=some .local:=by first | exact .inl rfl | exact .inr rfl | assumption):wpAny M A (storeName X.env x u) Q E s :=
 mX I hN hi hx r (λ s' I' _=>h s' I') hf
theorem Inv.Hc (I:Inv X pins σ H s) (ho:s'.os=s.os) (u:Un (frs X.stack) ch H H' s.heap s'.heap) (hok:HOk X.prog X.w H' s'.heap) (hg:AllBare s'.gens)
  (hch:∀ b ∈ ch,(b ∈ X.ex\/X.s₀.heap.objs.size<=b)/\b≠X.env.locals/\(∀ x c,X.env.cells.lookup x=some c->c≠b)/\∀ p ∈ X.pn++pins,p.1≠b):Inv X pins σ H' s':=by
 obtain ⟨h',g',d',t',o'⟩:=s';have e:o'=s.os:=ho;subst e;exact I.call (g':=g') (t':=t') (d':=d') u hok hg hch
end
abbrev XK:=Value->Option Addr->Hp->Prop
abbrev St:=List (Option V)
abbrev VK:=V->Hp->Prop
abbrev TE:=St->Hp->VK->Prop
abbrev TT:=St->Hp->(Bool->Hp->Prop)->Prop
abbrev TA:=St->Hp->(List V->Hp->Prop)->Prop
structure Ends where
 nx:St->Hp->Prop
 rt:VK
 bk:St->Hp->Prop:=λ _ _=>False
 ct:St->Hp->Prop:=λ _ _=>False
abbrev TS:=Ends->St->Hp->Prop
def EP (X:Cx) (pins:List (Addr×Obj)) (σ:St) (Q:VK) (u:Value) (s':Shared):Prop:=∃ v H',Inv X pins σ H' s'/\RelV v u/\Q v H'
def TP (X:Cx) (pins:List (Addr×Obj)) (σ:St) (Q:Bool->Hp->Prop) (b:Bool) (s':Shared):Prop:=∃ H',Inv X pins σ H' s'/\Q b H'
def AP (X:Cx) (pins:List (Addr×Obj)) (σ:St) (Q:List V->Hp->Prop) (us:List Value) (s':Shared):Prop:=∃ vs H',Inv X pins σ H' s'/\bH vs us/\Q vs H'
def SP (X:Cx) (pins:List (Addr×Obj)) (D:Ends) (f:Flow) (s':Shared):Prop :=
 match f with
 | .next=>∃ σ' H',Inv X pins σ' H' s'/\D.nx σ' H'
 | .brk=>∃ σ' H',Inv X pins σ' H' s'/\D.bk σ' H'
 | .cont=>∃ σ' H',Inv X pins σ' H' s'/\D.ct σ' H'
 | .ret u=>∃ v σ' H',Inv X pins σ' H' s'/\RelV v u/\D.rt v H'
def PE (X:Cx) (e:Expr) (t:TE):Prop :=
 ∀ (pins:List (Addr×Obj)) (s:Shared) (σ:St) (H:Hp) (Q:VK),Inv X pins σ H s->t σ H Q->wpAny (model X.prog X.w) X.A (eval e X.env) (EP X pins σ Q) X.xe s
def PT (X:Cx) (e:Expr) (t:TT):Prop :=
 ∀ (pins:List (Addr×Obj)) (s:Shared) (σ:St) (H:Hp) (Q:Bool->Hp->Prop),Inv X pins σ H s->t σ H Q->wpAny (model X.prog X.w) X.A (isTrue e X.env (eval e X.env)) (TP X pins σ Q) X.xe s
def PW (X:Cx) (e:Expr) (t:TT):Prop :=
 ∀ (whole:Sem Value) (pins:List (Addr×Obj)) (s:Shared) (σ:St) (H:Hp) (Q:Bool->Hp->Prop),Inv X pins σ H s->t σ H Q->wpAny (model X.prog X.w) X.A (isTrue e X.env whole) (TP X pins σ Q) X.xe s
theorem PW.pt (h:PW X e t):PT X e t:=h _
def PA (X:Cx) (es:List Expr) (t:TA):Prop :=
 ∀ (pos:Pos) (pins:List (Addr×Obj)) (s:Shared) (σ:St) (H:Hp) (Q:List V->Hp->Prop),Inv X pins σ H s->t σ H Q->wpAny (model X.prog X.w) X.A (spliced (backTo pos (starEach es X.env))) (AP X pins σ Q) X.xe s
def PS (X:Cx) (st:Stmt) (t:TS):Prop :=
 ∀ (pins:List (Addr×Obj)) (s:Shared) (σ:St) (H:Hp) (D:Ends),Inv X pins σ H s->t D σ H->wpAny (model X.prog X.w) X.A (exec st X.env) (SP X pins D) X.xe s
def PSs (X:Cx) (st:List Stmt) (t:TS):Prop :=
 ∀ (pins:List (Addr×Obj)) (s:Shared) (σ:St) (H:Hp) (D:Ends),Inv X pins σ H s->t D σ H->wpAny (model X.prog X.w) X.A (execs st X.env) (SP X pins D) X.xe s
theorem thn {α:Type} {t:Sem α} {Q Q':α->Shared->Prop} (h:wpAny M A t Q E s) (hQ:∀ a s,Q a s->Q' a s):wpAny M A t Q' E s:=Ys h hQ λ _ _ x=>x
end L2
namespace L2
open PySem PySem.Spec PyProof.Rows
section
variable {X:Cx}
def MA (i:Nat):TE:=λ σ H Q=>∃ v,σ[i]?=some (some v)/\Q v H
def tC (v:V):TE:=λ _ H Q=>Q v H
theorem iS (hN:X.N[i]?=some x) (hv:Vis X.env.scope x) (hd:(x == ("__debug__":Str))=false:=by decide) (hcd:(x == ("__classdict__":Str))=false:=by decide):PE X (.Name x pos) (MA i):=by
 intro pins s σ H Q I h;obtain ⟨v,e,h⟩:=h;obtain ⟨m,hn,hl⟩:=I.loc;obtain ⟨u,r,l⟩:=hl i x v hN e hv;have fin:EP X pins σ Q u s:=⟨v,H,I,r,h⟩
 rcases l with ⟨hk,hm⟩ | ⟨hk,c,hc,hcell⟩
 · exact wpAny_Name (wpAny_loadName_local I.ok.kind hk hn hm fin) hd
 ·rcases hk with hk | hk
  · exact wpAny_Name (wpAny_loadName_cell I.ok.kind hk hc hcell fin) hd
  · exact wpAny_Name (wpAny_loadName_free I.ok.kind hk hc hcell fin hcd) hd
theorem lA {i j pos}:PE X (.Constant (.int i) j pos) (tC (.int i)):=λ _ _ _ H _ I h=>wpAny_Constant_int ⟨.int i,H,I.tok _,⟨_,rfl⟩,h⟩
theorem JH {b j pos}:PE X (.Constant (.bool b) j pos) (tC (.bl b)):=λ _ _ _ H _ I h=>Constant_bool ⟨.bl b,H,I,rfl,h⟩
theorem vi {j pos}:PE X (.Constant .none j pos) (tC .non):=λ _ _ _ H _ I h=>Constant_none ⟨.non,H,I,rfl,h⟩
theorem Fb {x j pos}:PE X (.Constant (.str x) j pos) (tC (.str x)):=λ _ _ _ H _ I h=>Calls.Constant_str ⟨.str x,H,I.tok _,⟨_,rfl⟩,h⟩
def Gl (X:Cx) (x:Str):Prop:=X.env.kindOf x=some .globalImplicit
theorem pM (I:Inv X pins σ H s) (hg:Gl X x) (hm:X.mg x=some u) (h:Q u s)
  (hd:(x == ("__debug__":Str))=false:=by decide):wpAny (model X.prog X.w) X.A (eval (.Name x pos) X.env) Q E s :=
 Calls.Name_function_global I.ok.kind hg (Calls.loadGlobal_global (by rw [I.ok.glob]; exact I.mod.glob.keeps I.bk) hm h) hd
theorem iZ (I:Inv X pins σ H s) (hg:Gl X x) (hm:X.mg x=none) (hv:bootBuiltins x=some u) (h:Q u s)
  (hn:x≠"__name__":=by decide) (hd:(x == ("__debug__":Str))=false:=by decide):wpAny (model X.prog X.w) X.A (eval (.Name x pos) X.env) Q E s:=by
 obtain ⟨mb,h1,h2⟩:=I.mod.blt;exact Calls.Name_function_global I.ok.kind hg (Calls.loadGlobal_builtin (by rw [I.ok.glob]; exact I.mod.glob.keeps I.bk) hm (by rw [I.ok.blt]; exact h1.keeps I.bk) ((h2 x hn).trans hv) h) hd
theorem B2 (hg:Gl X x) (hm:X.mg x=some u) (r:RelV v u) (hd:(x == ("__debug__":Str))=false:=by decide):PE X (.Name x pos) (tC v) :=
 λ _ _ _ H _ I h=>pM I hg hm ⟨v,H,I,r,h⟩ hd
theorem B6 (hg:Gl X x) (hm:X.mg x=none) (hv:bootBuiltins x=some u) (r:RelV v u) (hn:x≠"__name__":=by decide) (hd:(x == ("__debug__":Str))=false:=by decide):PE X (.Name x pos) (tC v) :=
 λ _ _ _ H _ I h=>iZ I hg hm hv ⟨v,H,I,r,h⟩ hn hd
variable {a b:Expr} {ta tb:TE} {pos:Pos}
def PC (X:Cx) (op:CmpOp) (a b:Expr) (t:TE):Prop :=
  ∀ (pins:List (Addr×Obj)) (s:Shared) (σ:St) (H:Hp) (Q:VK),Inv X pins σ H s->t σ H Q ->
    wpAny (model X.prog X.w) X.A (eval a X.env) (λ v s₁=>wpAny (model X.prog X.w) X.A (eval b X.env) (λ u s₂=>wpAny (model X.prog X.w) X.A (compareOp op v u) (EP X pins σ Q) X.xe s₂) X.xe s₁) X.xe s
theorem qY (b:Expr) (h:op≠.In) (h2:op≠.NotIn):behindInMarks op b=false:=by
 have e1:(op == CmpOp.In)=false:=by cases op <;> first | rfl | exact absurd rfl h
 have e2:(op == CmpOp.NotIn)=false:=by cases op <;> first | rfl | exact absurd rfl h2
 cases b <;> simp [behindInMarks,e1,e2]
def Jk (ta:TE):TE:=λ σ H Q=>ta σ H λ x H1=>Q (.bl (!decide (x=.non))) H1
theorem RelV.yQ (r:RelV x v):(v == Value.none)=decide (x=.non):=by
 cases x with
 | non=>cases r; rfl
 | bl _=>cases r; rfl
 | int _=>obtain ⟨t,rfl⟩:=r; rfl
 | str _=>obtain ⟨t,rfl⟩:=r; rfl
 | byt _=>obtain ⟨t,rfl⟩:=r; rfl
 | flt _=>obtain ⟨t,rfl⟩:=r; rfl
 | ref _=>cases r; rfl
 | ty _=>cases r; rfl
theorem Ce {j pos'} (ha:PE X a ta):PC X .IsNot a (.Constant .none j pos') (Jk ta):=by
 intro pins s σ H Q I h;refine thn (ha pins s σ H _ I h) λ v s1 ⟨x,H1,I1,r1,q1⟩=>?_
 exact Constant_none (isnot_none_gen ⟨.bl _,H1,I1,by rw [r1.yQ]; rfl,q1⟩)
def tB (t:TE):TT:=λ σ H Q=>t σ H λ x H1=>∃ c,x=.bl c/\Q c H1
theorem Fg (h:PC X op a b t) (h1:behindInMarks op b=false:=by first | exact qY _ (by decide) (by decide) | rfl):PE X (.Compare a [op] [b] pos) t:=λ pins s σ H Q I hw=>wpAny_Compare1 (h pins s σ H Q I hw) h1
theorem uM (h:PC X op a b t) (h1:behindInMarks op b=false:=by first | exact qY _ (by decide) (by decide) | rfl):PT X (.Compare a [op] [b] pos) (tB t):=by
 intro pins s σ H Q I hw;refine wpAny_isTrue_Compare1 (thn (h pins s σ H _ I hw) λ v s1 h1=>thn h1 λ u s2 h2=>thn h2 λ c s3 ⟨x,H1,I1,r1,q1⟩=>?_) h1;obtain ⟨d,rfl,q⟩:=q1;cases r1;exact Yj ⟨H1,I1,q⟩
theorem qG (h:PE X e t) (he:∀ whole,isTrue e X.env whole=(do let v <- whole; standAt e.pos; holding [v] (truthy v)):=by intro _; rfl):PT X e (tB t):=by
 intro pins s σ H Q I hw;refine isTrue_plain (thn (h pins s σ H _ I hw) λ v s1 ⟨x,H1,I1,r1,q1⟩=>?_) (he _);obtain ⟨d,rfl,q⟩:=q1;cases r1;exact Yj ⟨H1,I1,q⟩
variable {tA tB':TT} {rest:List Expr}
def tOr (t u:TT):TT:=λ σ H Q=>t σ H λ c H1=>if c=true then Q true H1 else u σ H1 Q
def NN (t:TT):TT:=λ σ H Q=>t σ H λ c H1=>Q (!c) H1
theorem pw_or1 (ha:PT X a tA):PW X (.BoolOp .Or [a] pos) tA:=by
 intro wh pins s σ H Q I h;refine isTrue_or (thn (ha pins s σ H Q I h) λ c s1 e=>?_)
 cases c with
 | false=>exact isTrue_or_nil e
 | true=>exact e
theorem pw_or (ha:PT X a tA) (hb:PW X (.BoolOp .Or (b::rest) pos) tB'):PW X (.BoolOp .Or (a::b::rest) pos) (tOr tA tB'):=by
 intro wh pins s σ H Q I h;refine isTrue_or (thn (ha pins s σ H _ I h) λ c s1 ⟨H1,I1,q1⟩=>?_)
 cases c with
 | true=>exact ⟨H1,I1,q1⟩
 | false=>exact hb wh pins s1 σ H1 Q I1 q1
theorem Af (ha:PT X a tA):PT X (.UnaryOp .Not a pos) (NN tA):=by
 intro pins s σ H Q I h;exact isTrue_not (ha pins s σ H (λ c H1=>Q (!c) H1) I h)
def Jq (ta tb:TE):TE:=λ σ H Q=>ta σ H λ x H1=>∃ c,x=.bl c/\if c=true then tb σ H1 Q else Q (.bl false) H1
def NM (ta tb:TE):TE:=λ σ H Q=>ta σ H λ x H1=>∃ c,x=.bl c/\if c=true then Q (.bl true) H1 else tb σ H1 Q
def Jj (ta:TE):TE:=λ σ H Q=>ta σ H λ x H1=>∃ c,x=.bl c/\Q (.bl (!c)) H1
theorem vh {op} (h:PE X a t):PE X (.BoolOp op [a] pos) t:=λ pins s σ H Q I hw=>BoolOp_one (h pins s σ H Q I hw)
theorem An (ha:PE X a ta) (hb:PE X (.BoolOp .And (b::rest) pos) tb):PE X (.BoolOp .And (a::b::rest) pos) (Jq ta tb):=by
 intro pins s σ H Q I h;refine BoolOp_and (thn (ha pins s σ H _ I h) λ v s1 ⟨x,H1,I1,r1,q1⟩=>?_);obtain ⟨c,rfl,q1⟩:=q1;cases r1;refine Yj ?_
 cases c with
 | true=>exact hb pins s1 σ H1 Q I1 q1
 | false=>exact ⟨.bl false,H1,I1,rfl,q1⟩
theorem Fc (ha:PE X a ta) (hb:PE X (.BoolOp .Or (b::rest) pos) tb):PE X (.BoolOp .Or (a::b::rest) pos) (NM ta tb):=by
 intro pins s σ H Q I h;refine BoolOp_or (thn (ha pins s σ H _ I h) λ v s1 ⟨x,H1,I1,r1,q1⟩=>?_);obtain ⟨c,rfl,q1⟩:=q1;cases r1;refine Yj ?_
 cases c with
 | false=>exact hb pins s1 σ H1 Q I1 q1
 | true=>exact ⟨.bl true,H1,I1,rfl,q1⟩
theorem Fd (ha:PE X a ta):PE X (.UnaryOp .Not a pos) (Jj ta):=by
 intro pins s σ H Q I h;refine UnaryOp_ (thn (ha pins s σ H _ I h) λ v s1 ⟨x,H1,I1,r1,q1⟩=>?_);obtain ⟨c,rfl,q1⟩:=q1;cases r1;exact not_of (Yj ⟨.bl (!c),H1,I1,rfl,q1⟩)
def tIf (t:TT) (ta tb:TE):TE:=λ σ H Q=>t σ H λ c H1=>if c=true then ta σ H1 Q else tb σ H1 Q
theorem yD (hc:PT X c tA) (ha:PE X a ta) (hb:PE X b tb):PE X (.IfExp c a b pos) (tIf tA ta tb):=by
 intro pins s σ H Q I h;refine wpAny_IfExp (thn (hc pins s σ H _ I h) λ d s1 ⟨H1,I1,q1⟩=>?_)
 cases d with
 | true=>exact ha pins s1 σ H1 Q I1 q1
 | false=>exact hb pins s1 σ H1 Q I1 q1
end
end L2
namespace L2
open PySem PySem.Spec PyProof.Rows
def SqL (K:W.Frag) (H:Hp) (a:Addr) (xs:List V):Prop :=
 Rd H a (.lst xs) \/
  ∃ (o:Obj) (its:Array Value) (n:Nat),K.lookup a=some o/\o.cls=.type "list"/\o.dict=none/\o.data=.seq its n/\its.size<=sizeLine/\bH xs its.toList
def SqT (K:W.Frag) (H:Hp) (a:Addr) (xs:List V):Prop :=
 Rd H a (.tup xs) \/
  ∃ (o:Obj) (its:Array Value) (n:Nat),K.lookup a=some o/\o.cls=.type "tuple"/\o.data=.seq its n/\its.size<=sizeLine/\bH xs its.toList
def Po:Value->Option V
 | .none=>some .non
 | .bool b=>some (.bl b)
 | .int i _=>some (.int i)
 | .str x _=>some (.str x)
 | .bytes b _=>some (.byt b)
 | .float b _=>some (.flt b)
 | .ref a=>some (.ref a)
 | .type n=>some (.ty n)
 | _=>none
theorem RelV.abs (r:RelV x u):Po u=some x:=by
 cases x with
 | non=>cases r; rfl
 | bl _=>cases r; rfl
 | int _=>obtain ⟨t,rfl⟩:=r; rfl
 | str _=>obtain ⟨t,rfl⟩:=r; rfl
 | byt _=>obtain ⟨t,rfl⟩:=r; rfl
 | flt _=>obtain ⟨t,rfl⟩:=r; rfl
 | ref _=>cases r; rfl
 | ty _=>cases r; rfl
theorem RelV.inj (r:RelV x u) (q:RelV y u):x=y:=Zj (r.abs.symm.trans q.abs)
theorem bH.inj:∀ {xs ys:List V} {us:List Value},bH xs us->bH ys us->xs=ys
 | _,_,_,.nil,.nil=>rfl
 | _,_,_,.cons r t,.cons r' t'=>by rw [r.inj r',bH.inj t t']
section
variable {X:Cx} {pins:List (Addr×Obj)} {σ:St} {H:Hp} {s:Shared} {a:Addr} {xs ys:List V}
theorem SqL.of {K:W.Frag} (h:H a=some (.lst xs)):SqL K H a xs:=.inl (.inl h)
theorem SqT.of {K:W.Frag} (h:H a=some (.tup xs)):SqT K H a xs:=.inl (.inl h)
theorem Inv.list (I:Inv X pins σ H s) (h:SqL X.K H a xs):∃ its:List Value,bH xs its/\PlainL s.heap a its.toArray/\xs.length<=sizeLine:=by
 rcases h with h | ⟨o,its,n,hk,hc,hd,hs,hz,r⟩
 ·obtain ⟨z,its,n,r,e⟩:=h.ok I.hok
  exact ⟨its,r,⟨_,n,e,rfl,rfl,rfl⟩,z⟩
 ·refine ⟨its.toList,r,⟨o,n,I.kIn a o hk,hc,hd,by simpa using hs⟩,?_⟩
  have e:=r.length;simp only [Xd] at e;omega
theorem Inv.tuple (I:Inv X pins σ H s) (h:SqT X.K H a xs):∃ its:List Value,bH xs its/\IsTup s.heap a its.toArray/\xs.length<=sizeLine:=by
 rcases h with h | ⟨o,its,n,hk,hc,hs,hz,r⟩
 ·obtain ⟨z,its,r,p⟩:=h.ok I.hok
  exact ⟨its,r,p,z⟩
 ·refine ⟨its.toList,r,⟨o,I.kIn a o hk,hc,n,by simpa using hs⟩,?_⟩
  have e:=r.length;simp only [Xd] at e;omega
theorem Inv.rf (I:Inv X pins σ H s) (h:SqL X.K H a xs) (h':SqL X.K H a ys):xs=ys:=by
 obtain ⟨its,r,⟨o,n,e,_,_,d⟩,_⟩:=I.list h;obtain ⟨its',r',⟨o',n',e',_,_,d'⟩,_⟩:=I.list h';rw [e] at e'; cases e'
 rw [d] at d';injection d' with d1 _
 have:its=its':=by simpa using Yl Array.toList d1
 subst this;exact r.inj r'
theorem Inv.ue (I:Inv X pins σ H s) (h:SqT X.K H a xs) (h':SqT X.K H a ys):xs=ys:=by
 obtain ⟨its,r,⟨o,e,_,n,d⟩,_⟩:=I.tuple h;obtain ⟨its',r',⟨o',e',_,n',d'⟩,_⟩:=I.tuple h';rw [e] at e'; cases e'
 rw [d] at d';injection d' with d1 _
 have:its=its':=by simpa using Yl Array.toList d1
 subst this;exact r.inj r'
end
abbrev Cx.xD (X:Cx) (E:Value->Shared->Prop):Cx:={ X with xe:=E }
abbrev Cx.nox (X:Cx):Cx:=X.xD λ _ _=>False
theorem Cx.Ok.xD {X:Cx} (ok:X.Ok) (E:Value->Shared->Prop):(X.xD E).Ok :=
 ⟨ok.mod,ok.kind,ok.glob,ok.blt,ok.above,ok.inj,ok.has,ok.cab,ok.hd,ok.frames,ok.stk,ok.exf,ok.bs,ok.bsz,ok.Gb,ok.IQ,ok.tX,ok.frf⟩
theorem Cx.Ok.iO {X:Cx} {E:Value->Shared->Prop} (ok:(X.xD E).Ok):X.Ok :=
 ⟨ok.mod,ok.kind,ok.glob,ok.blt,ok.above,ok.inj,ok.has,ok.cab,ok.hd,ok.frames,ok.stk,ok.exf,ok.bs,ok.bsz,ok.Gb,ok.IQ,ok.tX,ok.frf⟩
section
variable {X:Cx} {pins:List (Addr×Obj)} {σ:St} {H:Hp} {s:Shared} {E:Value->Shared->Prop}
theorem Inv.xD (I:Inv X pins σ H s) (E:Value->Shared->Prop):Inv (X.xD E) pins σ H s:=⟨I.ok.xD E,I.os,I.bare,I.base,I.loc,I.cell,I.free,I.j5,I.pin,I.hok,I.len⟩
theorem Inv.iO (I:Inv (X.xD E) pins σ H s):Inv X pins σ H s:=⟨I.ok.iO,I.os,I.bare,I.base,I.loc,I.cell,I.free,I.j5,I.pin,I.hok,I.len⟩
theorem SP.iO (h:SP (X.xD E) pins D f s'):SP X pins D f s':=by
 cases f with
 | next=>obtain ⟨σ',H',I,q⟩:=h; exact ⟨σ',H',I.iO,q⟩
 | brk=>obtain ⟨σ',H',I,q⟩:=h; exact ⟨σ',H',I.iO,q⟩
 | cont=>obtain ⟨σ',H',I,q⟩:=h; exact ⟨σ',H',I.iO,q⟩
 | ret u=>obtain ⟨v,σ',H',I,r,q⟩:=h; exact ⟨v,σ',H',I.iO,r,q⟩
theorem PSs.nox {st:List Stmt} {t:TS} (h:PSs X.nox st t):PSs X st t:=λ pins s σ H D I hw =>
 Ys (h pins s σ H D (I.xD _) hw) (λ _ _ q=>q.iO) λ _ _ z=>False.elim z
end
section
variable {X:Cx} {st:Stmt} {rest:List Stmt} {t u:TS} {e:Expr} {te:TE} {pos:Pos}
def Jl:TS:=λ D σ H=>D.nx σ H
def NJ (t u:TS):TS:=λ D σ H=>t { D with nx:=u D } σ H
theorem jH:PSs X [] Jl:=λ _ _ σ H _ I h=>wpAny_execs_nil ⟨σ,H,I,h⟩
theorem cN (h1:PS X st t) (h2:PSs X rest u):PSs X (st::rest) (NJ t u):=by
 intro pins s σ H D I h;refine wpAny_execs_cons (thn (h1 pins s σ H { D with nx:=u D } I h) λ f s1 q=>?_)
 cases f with
 | next =>
  obtain ⟨σ',H',I',q⟩:=q;exact h2 pins s1 σ' H' D I' q
 | ret v=>exact q
 | brk=>exact q
 | cont=>exact q
theorem c7 (h1:PS X st t):PSs X [st] t:=by
 intro pins s σ H D I h;refine wpAny_execs_cons (thn (h1 pins s σ H D I h) λ f s1 q=>?_)
 cases f with
 | next=>exact wpAny_execs_nil q
 | ret v=>exact q
 | brk=>exact q
 | cont=>exact q
theorem Inv.quiet (I:Inv X pins σ H s):interactive X.env=false:=by simp [interactive,I.ok.kind]
def Jn (te:TE):TS:=λ D σ H=>te σ H λ _ H1=>D.nx σ H1
theorem ft (he:PE X e te) (hs:swapsWith e none pos.line X.env=pure false:=by rfl):PS X (.Expr e pos) (Jn te):=by
 intro pins s σ H D I h;exact wpAny_Expr_any (thn (he pins s σ H _ I h) λ v s1 ⟨x,H1,I1,r1,q1⟩=>⟨σ,H1,I1,q1⟩) I.quiet hs
def NL (te:TE):TS:=λ D σ H=>te σ H D.rt
theorem gs (he:PE X e te):PS X (.Return (some e) pos) (NL te):=by
 intro pins s σ H D I h;exact wpAny_Return_some (thn (he pins s σ H _ I h) λ v s1 ⟨x,H1,I1,r1,q1⟩=>⟨x,σ,H1,I1,r1,q1⟩)
def NP (c:TT) (t u:TS):TS:=λ D σ H=>c σ H λ b H1=>if b=true then t D σ H1 else u D σ H1
theorem uY (hc:PT X c tc) (ha:PSs X a t) (hb:PSs X b u):PS X (.If c a b pos) (NP tc t u):=by
 intro pins s σ H D I h;refine wpAny_If (thn (hc pins s σ H _ I h) λ d s1 ⟨H1,I1,q1⟩=>?_)
 cases d with
 | true=>exact ha pins s1 σ H1 D I1 q1
 | false=>exact hb pins s1 σ H1 D I1 q1
end
abbrev TG:=V->St->Hp->(St->Hp->Prop)->Prop
abbrev TGs:=List V->St->Hp->(St->Hp->Prop)->Prop
def PG (X:Cx) (target:Expr) (t:TG):Prop :=
  ∀ (pins:List (Addr×Obj)) (s:Shared) (σ:St) (H:Hp) (v:V) (u:Value) (Q:St->Hp->Prop),Inv X pins σ H s->RelV v u->t v σ H Q ->
    wpAny (model X.prog X.w) X.A (assign target X.env u) (λ _ s'=>∃ σ' H',Inv X pins σ' H' s'/\Q σ' H') X.xe s
def PGs (X:Cx) (ts:List Expr) (t:TGs):Prop :=
  ∀ (pins:List (Addr×Obj)) (s:Shared) (σ:St) (H:Hp) (vs:List V) (us:List Value) (Q:St->Hp->Prop),Inv X pins σ H s->bH vs us->t vs σ H Q ->
    wpAny (model X.prog X.w) X.A (assignInOrder ((assignEach ts X.env).map (·.2)) us) (λ _ s'=>∃ σ' H',Inv X pins σ' H' s'/\Q σ' H') X.xe s
section
variable {X:Cx} {pos:Pos}
def nN (i:Nat):TG:=λ v σ H Q=>Q (σ.set i (some v)) H
theorem gB (hN:X.N.Nodup) (hi:X.N[i]?=some x) (hx:Loc X.env.scope x) (hf:X.fn x=true\/X.env.scope.names.lookup x=some .local:=by first | exact .inl rfl | exact .inr rfl | assumption):PG X (.Name x pos) (nN i):=by
 intro pins s σ H v u Q I r h;exact wpAny_assign_Name (qz I hN hi hx r (λ s' I'=>⟨_,H,I',h⟩) hf)
def Ph:TGs:=λ vs σ H Q=>vs=[]/\Q σ H
def Mg (t:TG) (u:TGs):TGs:=λ vs σ H Q=>∃ v r,vs=v::r/\t v σ H λ σ' H'=>u r σ' H' Q
theorem vg:PGs X [] Ph:=by
 intro pins s σ H vs us Q I r h;obtain ⟨e,h⟩:=h;subst e;cases r;exact assignInOrder_nil ⟨σ,H,I,h⟩
theorem qI (h1:PG X e t) (h2:PGs X es u)
  (hs:(assignEach (e::es) X.env).map (·.2)=assign e X.env::(assignEach es X.env).map (·.2):=by rfl):PGs X (e::es) (Mg t u):=by
 intro pins s σ H vs us Q I r h;obtain ⟨v,vr,e1,h⟩:=h;subst e1
 cases r with
 | cons r rr =>
  rw [hs];refine assignInOrder_cons (thn (h1 pins s σ H _ _ _ I r h) λ _ s1 ⟨σ1,H1,I1,q1⟩=>?_);exact h2 pins s1 σ1 H1 _ _ Q I1 rr q1
def Pg (K:W.Frag) (n:Nat) (t:TGs):TG:=λ v σ H Q=>∃ a xs,v=.ref a/\SqT K H a xs/\xs.length=n/\t xs σ H Q
theorem Ah (hc:X.calm=true) (h:PGs X es t)
  (hn:(assignEach es X.env).length=n:=by rfl) (hst:(assignEach es X.env).findIdx? (·.1)=none:=by rfl):PG X (.Tuple es k pos) (Pg X.K n t):=by
 intro pins s σ H v u Q I r hw;obtain ⟨a,xs,e1,hq,hl,hw⟩:=hw;subst e1;cases r;obtain ⟨its,rv,ht,hz⟩:=I.tuple hq;refine assign_Tuple_tuple (I.ok.hd hc) ht (by simp [hn,<- hl,rv.length]) hst λ h' hx=>?_
 have I1:Inv X pins σ H { s with heap:=h' }:=I.kept (t':=s.toks) λ b o e=>hx b o (Zx (Zr e)) e
 exact h pins _ σ H xs _ Q I1 (by simpa using rv) hw
def MC (te:TE) (g:TG):TS:=λ D σ H=>te σ H λ x H1=>g x σ H1 D.nx
theorem iR {i:Nat} {x:Str} {e:Expr} {te:TE} {pos':Pos} (hN:X.N.Nodup) (hi:X.N[i]?=some x) (hx:Loc X.env.scope x) (he:PE X e te) (hs:swapsWith e (some (.Name x pos')) pos.line X.env=pure false:=by rfl) (hf:X.fn x=true\/X.env.scope.names.lookup x=some .local:=by first | exact .inl rfl | exact .inr rfl | assumption) :
  PS X (.Assign [.Name x pos'] e pos) (MC te (nN i)):=by
 intro pins s σ H D I h;refine wpAny_Assign_Name (thn (he pins s σ H _ I h) λ v s1 ⟨y,H1,I1,r1,q1⟩=>?_) hs;exact qz I1 hN hi hx r1 (λ s2 I2=>⟨_,H1,I2,q1⟩) hf
end
section
variable {X:Cx} {pos:Pos}
def Ey (c:TT) (tb:TS):TS:=λ D σ H=>∃ W:Nat->St->Hp->Prop,(∃ m,W m σ H)/\∀ m σ H,W m σ H ->
 c σ H λ b H1=>if b=true then ∃ N:St->Hp->Prop,(∀ σ' H',N σ' H'->∃ m',m' < m/\W m' σ' H')/\tb { D with nx:=N,ct:=N,bk:=D.nx } σ H1 else D.nx σ H1
theorem yr (hp:PassesOwn (model X.prog X.w) X.A X.env X.xe) (hc:PT X c tc) (hb:PSs X body tb):PS X (.While c body [] pos) (Ey tc tb):=by
 intro pins s σ H D I h;obtain ⟨W,⟨m0,w0⟩,turn⟩:=h;refine wpAny_While (codeAny_whileLoop (λ n s'=>∃ σ' H',Inv X pins σ' H' s'/\W n σ' H') ?_ m0 ⟨σ,H,I,w0⟩)
 rintro n s1 ⟨σ1,H1,I1,w1⟩
 refine Y9 hp (thn (hc pins s1 σ1 H1 _ I1 (turn n σ1 H1 w1)) λ b s2 ⟨H2,I2,q2⟩=>?_)
 cases b with
 | true =>
  obtain ⟨N,hN,q2⟩:=q2;rw [if_pos rfl];refine Y9 hp (thn (hb pins s2 σ1 H2 _ I2 q2) λ f s3 q3=>?_)
  cases f with
  | next =>
   obtain ⟨σ3,H3,I3,n3⟩:=q3;obtain ⟨m',hm,w3⟩:=hN σ3 H3 n3;exact ⟨m',hm,σ3,H3,I3,w3⟩
  | cont =>
   obtain ⟨σ3,H3,I3,n3⟩:=q3;obtain ⟨m',hm,w3⟩:=hN σ3 H3 n3;exact ⟨m',hm,σ3,H3,I3,w3⟩
  | brk=>exact q3
  | ret v=>exact q3
 | false =>
  rw [if_neg Zf];exact wpAny_execs_nil ⟨σ1,H2,I2,q2⟩
end
structure It where
 go:Nat->Hp->Prop
 yld:Nat->Hp->V->Hp->Prop
 stop:Nat->Hp->Prop
def tT (X:Cx) (pins:List (Addr×Obj)) (H:Hp) (b:Addr):Prop :=
 H b=none/\b≠X.env.locals/\b ∉ X.fs/\(b ∈ X.ex\/X.s₀.heap.objs.size<=b)/\(∀ x c,X.env.cells.lookup x=some c->c≠b)/\∀ p ∈ X.pn++pins,p.1≠b
theorem Inv.t4 (I:Inv X pins σ H s) (hb:s.heap.objs.size<=b) (hn:H' b=none):tT X pins H' b:=by
 refine ⟨hn,Nat.ne_of_gt (Zy I.lt hb),I.OE hb,.inr (Z3 I.sz hb),λ x c e z=>?_,λ p hp z=>?_⟩
 ·obtain ⟨v,q⟩:=I.cell x c e
  exact absurd (Zy q.lt (by rw [z]; exact hb)) (Yw _)
 · exact absurd (Zy (Zr (I.pin p hp).1) (by rw [z]; exact hb)) (Yw _)
structure Turn (P:Program) (w:World) (K:W.Frag) (tg:Expr) (J:It) (fp:List Addr) (it:Addr) (tn:Nat->Heap->Prop):Prop where
 mem:it ∈ fp
 obj:∀ i h,tn i h->∀ b ∈ fp,∃ o,h.get? b=some o/\∀ v,o.data≠.cell v
 keep:∀ i h h',tn i h->(∀ b ∈ fp,∀ o,h.get? b=some o->h'.get? b=some o)->tn i h'
 item:∀ (X:Cx),X.prog=P->X.w=w->X.K=K->X.calm=true->∀ (i:Nat) (pins:List (Addr×Obj)) (s:Shared) (σ:St) (H:Hp) (E:Value->Shared->Prop),Inv X pins σ H s->(∀ b ∈ fp,tT X pins H b)->tn i s.heap->J.go i H ->
  wpAny (model P w) X.A (pyNext (.ref it)) (λ r s1=>∃ u,r=some u /\
   wpAny (model P w) X.A (letOwnedTupleGo tg (.ref it) u) (λ _ s2=>∃ x H',Inv X pins σ H' s2/\RelV x u/\J.yld i H x H'/\tn (i+1) s2.heap/\∀ b ∈ fp,H' b=none) E s1) E s
 done:∀ (X:Cx),X.prog=P->X.w=w->X.K=K->X.calm=true->∀ (i:Nat) (pins:List (Addr×Obj)) (s:Shared) (σ:St) (H:Hp) (E:Value->Shared->Prop),Inv X pins σ H s->(∀ b ∈ fp,tT X pins H b)->tn i s.heap->J.stop i H ->
  wpAny (model P w) X.A (pyNext (.ref it)) (λ r s1=>r=none/\Inv X pins σ H s1) E s
 self:∀ (A:Around) (i:Nat) (s:Shared) (Q:Value->Shared->Prop) (E:Value->Shared->Prop),tn i s.heap->Q (.ref it) s->wpAny (model P w) A (pyIter (.ref it)) Q E s
abbrev TI:=St->Hp->(It->Hp->Prop)->Prop
def PIE (X:Cx) (pins:List (Addr×Obj)) (σ:St) (tg:Expr) (R:It->Hp->Prop) (itv:Value) (s2:Shared):Prop :=
 ∃ (it:Addr) (fp:List Addr) (tn:Nat->Heap->Prop) (J:It) (H':Hp),itv=.ref it/\Inv X pins σ H' s2/\Turn X.prog X.w X.K tg J fp it tn/\tn 0 s2.heap/\(∀ b ∈ fp,tT X pins H' b)/\R J H'
def PI (X:Cx) (tg iter:Expr) (wi:TI):Prop :=
  ∀ (pins:List (Addr×Obj)) (s:Shared) (σ:St) (H:Hp) (R:It->Hp->Prop),Inv X pins σ H s->wi σ H R ->
    wpAny (model X.prog X.w) X.A (eval iter X.env) (λ v s1=>wpAny (model X.prog X.w) X.A (pyIter v) (PIE X pins σ tg R) X.xe s1) X.xe s
theorem pT (ho:s.heap.get? it=some o) (hc:o.cls=.type n) (hd:o.data=.fields vs)
    (hn:["enumerate","zip","dict_itemiterator","dict_reverseitemiterator","odict_iterator","itertools.zip_longest","itertools.pairwise"].contains n=false) (hQ:Q () s):wpAny M A (letOwnedTupleGo tg (.ref it) u) Q E s:=by
  unfold letOwnedTupleGo
  cases tg <;> first
    | exact Z7 hQ
    | (cases u <;> first
        | exact Z7 hQ
        | (refine Zu (wpAny_load ho ?_)
           rw [hc,hd];show wpAny M A (if (["enumerate","zip","dict_itemiterator","dict_reverseitemiterator","odict_iterator","itertools.zip_longest","itertools.pairwise"].contains n&&vs[0]? == some (rawInt _))=true then _ else _) Q E s;rw [if_neg (by intro h; rw [hn,Bool.false_and] at h; cases h)]
           exact Z7 hQ))
def Itl (K:W.Frag) (a:Addr):It :=
 ⟨λ i H=>∃ xs x,SqL K H a xs/\xs[i]?=some x,λ i H x H'=>H'=H/\∀ xs,SqL K H a xs->xs[i]?=some x,λ i H=>∃ xs,SqL K H a xs/\xs.length<=i⟩
def Itt (K:W.Frag) (a:Addr):It :=
 ⟨λ i H=>∃ xs x,SqT K H a xs/\xs[i]?=some x,λ i H x H'=>H'=H/\∀ xs,SqT K H a xs->xs[i]?=some x,λ i H=>∃ xs,SqT K H a xs/\xs.length<=i⟩
def Itr (lo:Int) (n:Nat):It:=⟨λ i _=>i < n,λ i H x H'=>H'=H/\x=.int (lo+i),λ i _=>n<=i⟩
theorem t9 {P:Program} {w:World} {K:W.Frag} {tg:Expr} (a it:Addr):Turn P w K tg (Itl K a) [it] it (λ i h=>h.IsListIter it a i) where
 mem:=by simp
 obj:=λ i h st b hb=>by
  have e:b=it:=by simpa using hb
  subst e;obtain ⟨o,e,c,d⟩:=st;exact ⟨o,e,λ v z=>by rw [d] at z; cases z⟩
 keep:=λ i h h' st k=>st.at λ o e=>k it (by simp) o e
 item:=by
  intro X hP hw hK hc i pins s σ H E I hf st hg;subst hP hw hK;obtain ⟨xs,x,hq,hx⟩:=hg;obtain ⟨its,rv,p,hz⟩:=I.list hq;obtain ⟨u,hu,ru⟩:=rv.get hx;obtain ⟨f0,f1,f2,f3,f4,f5⟩:=hf it (by simp);refine wpAny_pyNext_list_item st p.isList (x:=u) (by simpa using hu) λ h' st' sb=>?_
  have I1:Inv X pins σ H { s with heap:=h' }:=I.turned (t':=s.toks) (λ b o hb e=>(sb.2 b hb).trans e) f0 f1 f3 f4 f5;obtain ⟨o,e,c,d⟩:=id st';exact ⟨u,rfl,pT (s:={ s with heap:=h' }) e c d (by decide) ⟨x,H,I1,ru,⟨rfl,λ ys hy=>by rw [I.rf hy hq]; exact hx⟩,st',λ b hb=>(hf b hb).1⟩⟩
 done:=by
  intro X hP hw hK hc i pins s σ H E I hf st hg;subst hP hw hK;obtain ⟨xs,hq,hx⟩:=hg;obtain ⟨its,rv,p,hz⟩:=I.list hq;obtain ⟨f0,f1,f2,f3,f4,f5⟩:=hf it (by simp);have hl:=rv.length;exact wpAny_pyNext_list_end (I.ok.hd hc) st p.isList (by simp; omega) λ h' eb=>⟨rfl,I.turned (t':=s.toks) (λ b o hb e=>eb b o hb e) f0 f1 f3 f4 f5⟩
 self:=λ _ _ _ _ _ st h=>wpAny_pyIter_listiter st h
theorem si {P:Program} {w:World} {K:W.Frag} {tg:Expr} (a it:Addr):Turn P w K tg (Itt K a) [it] it (λ i h=>h.IsTupleIter it a i) where
 mem:=by simp
 obj:=λ i h st b hb=>by
  have e:b=it:=by simpa using hb
  subst e;obtain ⟨o,e,c,d⟩:=st;exact ⟨o,e,λ v z=>by rw [d] at z; cases z⟩
 keep:=λ i h h' st k=>st.at λ o e=>k it (by simp) o e
 item:=by
  intro X hP hw hK hc i pins s σ H E I hf st hg;subst hP hw hK;obtain ⟨xs,x,hq,hx⟩:=hg;obtain ⟨its,rv,p,hz⟩:=I.tuple hq;obtain ⟨u,hu,ru⟩:=rv.get hx;obtain ⟨f0,f1,f2,f3,f4,f5⟩:=hf it (by simp);refine wpAny_pyNext_tuple_item st (show s.heap.IsTuple a its.toArray from p) (x:=u) (by simpa using hu) λ h' st' sb=>?_
  have I1:Inv X pins σ H { s with heap:=h' }:=I.turned (t':=s.toks) (λ b o hb e=>(sb.2 b hb).trans e) f0 f1 f3 f4 f5;obtain ⟨o,e,c,d⟩:=id st';exact ⟨u,rfl,pT (s:={ s with heap:=h' }) e c d (by decide) ⟨x,H,I1,ru,⟨rfl,λ ys hy=>by rw [I.ue hy hq]; exact hx⟩,st',λ b hb=>(hf b hb).1⟩⟩
 done:=by
  intro X hP hw hK hc i pins s σ H E I hf st hg;subst hP hw hK;obtain ⟨xs,hq,hx⟩:=hg;obtain ⟨its,rv,p,hz⟩:=I.tuple hq;obtain ⟨f0,f1,f2,f3,f4,f5⟩:=hf it (by simp);have hl:=rv.length;exact wpAny_pyNext_tuple_end (I.ok.hd hc) st (show s.heap.IsTuple a its.toArray from p) (by simp; omega) λ h' eb=>⟨rfl,I.turned (t':=s.toks) (λ b o hb e=>eb b o hb e) f0 f1 f3 f4 f5⟩
 self:=λ _ _ _ _ _ st h=>wpAny_pyIter_tupleiter st h
theorem sj {P:Program} {w:World} {K:W.Frag} {tg:Expr} (it:Addr) (lo:Int) (n:Nat):Turn P w K tg (Itr lo n) [it] it (λ i h=>IsRangeIter h it (lo+(i:Nat) * 1) ((n:Int) - (i:Nat)) 1) where
 mem:=by simp
 obj:=λ i h st b hb=>by
  have e:b=it:=by simpa using hb
  subst e
  exact ⟨_,st,λ v z=>by
   have z':Data.fields _=Data.cell v:=z
   cases z'⟩
 keep:=λ i h h' st k=>k it (by simp) _ st
 item:=by
  intro X hP hw hK hc i pins s σ H E I hf st hg;subst hP hw hK;obtain ⟨f0,f1,f2,f3,f4,f5⟩:=hf it (by simp);have W:=Walks.range (prog:=X.prog) (w:=X.w) (I.ok.hd hc) it lo 1 n;refine W.item i s _ _ hg st λ v h' tk hv st' kk=>?_
  obtain ⟨t,rfl⟩:=hv;have I1:Inv X pins σ H { s with heap:=h',toks:=tk }:=I.turned (λ b o hb e=>kk b o (by simpa using hb) e) f0 f1 f3 f4 f5;refine ⟨_,rfl,pT (s:={ s with heap:=h',toks:=tk }) (n:="range_iterator") st' rfl rfl (by decide) ⟨.int (lo+i),H,I1,⟨t,?_⟩,⟨rfl,rfl⟩,st',λ b hb=>(hf b hb).1⟩⟩;rw [Int.mul_one]
 done:=by
  intro X hP hw hK hc i pins s σ H E I hf st hg;subst hP hw hK;obtain ⟨f0,f1,f2,f3,f4,f5⟩:=hf it (by simp);exact wpAny_pyNext_range_end (I.ok.hd hc) st (by have:n<=i:=hg; omega) λ h' eb=>⟨rfl,I.turned (t':=s.toks) (λ b o hb e=>eb b o hb e) f0 f1 f3 f4 f5⟩
 self:=λ _ _ _ _ _ st h=>wpAny_pyIter_rangeiter st h
end L2
namespace L2
open PySem PySem.Spec PyProof.Rows
section
variable {X:Cx} {tg:Expr}
def L7 (K:W.Frag) (tl:TE):TI:=λ σ H R=>tl σ H λ x H1=>∃ a,x=.ref a/\(∃ xs,SqL K H1 a xs)/\R (Itl K a) H1
def O9 (K:W.Frag) (tl:TE):TI:=λ σ H R=>tl σ H λ x H1=>∃ a,x=.ref a/\(∃ xs,SqT K H1 a xs)/\R (Itt K a) H1
theorem ph {l:Expr} {tl:TE} (hl:PE X l tl):PI X tg l (L7 X.K tl):=by
 intro pins s σ H R I h;refine thn (hl pins s σ H _ I h) λ v s1 ⟨x,H1,I1,r1,q1⟩=>?_
 obtain ⟨a,e,⟨xs,hq⟩,q⟩:=q1;subst e;cases r1;obtain ⟨its,rv,p,hz⟩:=I1.list hq;refine wpAny_pyIter_list p.isList ?_
 refine ⟨s1.heap.objs.size,[s1.heap.objs.size],_,_,H1,rfl,I1.kept (t':=s1.toks) λ b o e=>Heap.get?_push_of_some _ e,t9 a _,⟨_,Heap.get?_push_size _ rfl,rfl,rfl⟩,λ b hb=>?_,q⟩;have e:b=s1.heap.objs.size:=by simpa using hb
 subst e;exact I1.t4 (Zi _) (I1.hok.fresh (Zi _))
theorem E8 {l:Expr} {tl:TE} (hl:PE X l tl):PI X tg l (O9 X.K tl):=by
 intro pins s σ H R I h;refine thn (hl pins s σ H _ I h) λ v s1 ⟨x,H1,I1,r1,q1⟩=>?_
 obtain ⟨a,e,⟨xs,hq⟩,q⟩:=q1;subst e;cases r1;obtain ⟨its,rv,p,hz⟩:=I1.tuple hq;refine wpAny_pyIter_tuple (show s1.heap.IsTuple a its.toArray from p) ?_
 refine ⟨s1.heap.objs.size,[s1.heap.objs.size],_,_,H1,rfl,I1.kept (t':=s1.toks) λ b o e=>Heap.get?_push_of_some _ e,si a _,⟨_,Heap.get?_push_size _ rfl,rfl,rfl⟩,λ b hb=>?_,q⟩;have e:b=s1.heap.objs.size:=by simpa using hb
 subst e;exact I1.t4 (Zi _) (I1.hok.fresh (Zi _))
theorem ya {pins:List (Addr×Obj)} {σ:St} {H:Hp} {s:Shared} {R:It->Hp->Prop} {E:Value->Shared->Prop} {lo hi:Int} {t u v:Tok} {tk:Nat} (I:Inv X pins σ H s) (h1:-(2 ^ 62)<=lo) (h2:lo < 2 ^ 62) (h3:-(2 ^ 62)<=hi) (h4:hi < 2 ^ 62)
  (q:R (Itr lo (hi - lo).toNat) H):wpAny (model X.prog X.w) X.A (pyIter (.ref s.heap.objs.size)) (PIE X pins σ tg R) E { s with heap:=s.heap.push { cls:=.type "range",data:=.fields #[.int lo t,.int hi u,.int 1 v] },toks:=tk }:=by
 refine wpAny_pyIter_range (IsRange.new ..) (small_one h1 h2 h3 h4) ?_
 have I1:Inv X pins σ H { s with heap:=s.heap.push { cls:=.type "range",data:=.fields #[.int lo t,.int hi u,.int 1 v] },toks:=tk }:=I.kept λ b o e=>Heap.get?_push_of_some _ e
 refine ⟨(s.heap.push { cls:=.type "range",data:=.fields #[.int lo t,.int hi u,.int 1 v] }).objs.size,[(s.heap.push { cls:=.type "range",data:=.fields #[.int lo t,.int hi u,.int 1 v] }).objs.size],_,_,H,rfl,
  I1.kept (t':=tk) λ b o e=>Heap.get?_push_of_some _ e,sj _ lo (hi - lo).toNat,?_,λ b hb=>?_,q⟩
 ·have e1:lo+((0:Nat):Int) * 1=lo:=by simp
  have e2:(((hi - lo).toNat:Nat):Int) - ((0:Nat):Int)=Builtin.Range.rangeSize lo hi 1:=by rw [rangeSize_one]; split <;> omega
  show IsRangeIter _ _ (lo+((0:Nat):Int) * 1) ((((hi - lo).toNat:Nat):Int) - ((0:Nat):Int)) 1;rw [e1,e2];exact Heap.get?_push_size _ rfl
 ·have e:b=(s.heap.push { cls:=.type "range",data:=.fields #[.int lo t,.int hi u,.int 1 v] }).objs.size:=by simpa using hb
  subst e;exact I1.t4 (Zi _) (I1.hok.fresh (Zi _))
def L6 (ta:TA):TI:=λ σ H R=>ta σ H λ vs H1=>∃ j:Int,vs=[.int j]/\-(2 ^ 62)<=j/\j < 2 ^ 62/\R (Itr 0 j.toNat) H1
theorem vd {a:Expr} {ta:TA} {p pos:Pos} (hg:Gl X "range") (hm:X.mg "range"=none) (ha:PA X [a] ta) (hs:starEach [a] X.env=[(false,eval a X.env)]:=by rfl):PI X tg (.Call (.Name "range" p) [a] [] pos) (L6 ta):=by
 intro pins s σ H R I h;refine Call_ (iZ I hg hm boot_range (Yt (thn (ha pos pins s σ H _ I h) λ us s1 ⟨vs,H1,I1,r1,q1⟩=>?_) hs rfl));obtain ⟨j,e,q1,q2,q⟩:=q1;subst e
 cases r1 with
 | cons r rr =>
  cases rr;obtain ⟨t,rfl⟩:=r;exact call_range_1 (ya I1 (by omega) (by omega) q1 q2 (by simpa using q))
def NQ (wi:TI) (g:TG) (tb:TS):TS:=λ D σ H=>wi σ H λ J H1=>∃ W:Nat->Nat->St->Hp->Prop,(∃ m,W 0 m σ H1)/\∀ i m σ H,W i m σ H ->
 (J.stop i H/\D.nx σ H)\/(J.go i H/\∃ N:St->Hp->Prop,(∀ σ' H',N σ' H'->∃ m',m' < m/\W (i+1) m' σ' H')/\∀ x H',J.yld i H x H'->g x σ H' λ σ2 H2=>tb { D with nx:=N,ct:=N,bk:=D.nx } σ2 H2)
def qH (fp:List Addr) (h:Heap):List (Addr×Obj):=fp.filterMap λ b=>(h.get? b).map λ o=>(b,o)
theorem eD (hb:b ∈ fp) (e:h.get? b=some o):(b,o) ∈ qH fp h:=List.mem_filterMap.mpr ⟨b,hb,by rw [e]; rfl⟩
theorem vA (hp:p ∈ qH fp h):p.1 ∈ fp/\h.get? p.1=some p.2:=by
 obtain ⟨b,hb,e⟩:=List.mem_filterMap.mp hp
 cases q:h.get? b with
 | none=>rw [q] at e; cases e
 | some o =>
  rw [q] at e;have e':(b,o)=p:=Zj e;subst e';exact ⟨hb,q⟩
theorem Inv.pinned (I:Inv X pins σ H s) (hf:∀ b ∈ fp,tT X pins H b) (ho:∀ b ∈ fp,∃ o,s.heap.get? b=some o/\∀ v,o.data≠.cell v):Inv X (pins++qH fp s.heap) σ H s :=
 I.gA λ p hp=>(Zg.mp hp).elim (λ z=>I.pin p (Zc _ z)) λ z=>by
  obtain ⟨hb,e⟩:=vA z;obtain ⟨f0,f1,f2,_⟩:=hf p.1 hb;obtain ⟨o,e',d⟩:=ho p.1 hb;rw [e] at e'; cases e'
  exact ⟨e,f0,f1,f2,d⟩
theorem Inv.lX (I:Inv X (pins++pl) σ H s):Inv X pins σ H s:=I.gA λ p hp=>I.pin p (Zc _ (Zp _ hp))
theorem m6 (hp:PassesOwn (model X.prog X.w) X.A X.env X.xe) (hc:X.calm=true) (hi:PI X tg iter wi) (hg:PG X tg g) (hb:PSs X body tb)
  (hs:∀ x,foldedSetIterable iter X.env x=pure x:=by intro _; rfl):PS X (.For tg iter body [] pos) (NQ wi g tb):=by
 intro pins s σ H D I h;refine wpAny_For (thn (hi pins s σ H _ I h) λ v s1 h1=>thn h1 λ itv s2 h2=>?_) hs;obtain ⟨it,fp,tn,J,H2,e,I2,T,st2,f2,W,⟨m0,w0⟩,turn⟩:=h2;subst e;have stat:∀ {H':Hp},(∀ b ∈ fp,H' b=none)->∀ b ∈ fp,tT X pins H' b:=λ hn b hb=>⟨hn b hb,(f2 b hb).2⟩
 refine codeAny_forLoop_any (λ n s'=>∃ i σ' H',Inv X pins σ' H' s'/\tn i s'.heap/\(∀ b ∈ fp,H' b=none)/\W i n σ' H') ?_ m0 ⟨0,σ,H2,I2,st2,λ b hb=>(f2 b hb).1,w0⟩
 rintro n s3 ⟨i,σ3,H3,I3,st3,fr3,w3⟩
 rcases turn i n σ3 H3 w3 with ⟨stop,qn⟩ | ⟨go,N,hN,step⟩
 ·refine Y9 hp (thn (T.done X rfl rfl rfl hc i pins s3 σ3 H3 X.xe I3 (stat fr3) st3 stop) λ r s4 ⟨hr,I4⟩=>?_)
  subst hr;exact wpAny_execs_nil ⟨σ3,H3,I4,qn⟩
 ·refine Y9 hp (thn (T.item X rfl rfl rfl hc i pins s3 σ3 H3 X.xe I3 (stat fr3) st3 go) λ r s4 ⟨u,hr,h4⟩=>?_)
  subst hr;refine Y9 hp (thn h4 λ _ s5 ⟨x,H5,I5,r5,y5,st5,fr5⟩=>?_);have I5':=I5.pinned (stat fr5) (T.obj _ _ st5);refine Y9 hp (thn (hg _ s5 σ3 H5 x u _ I5' r5 (step x H5 y5)) λ _ s6 ⟨σ6,H6,I6,q6⟩=>?_);refine Y9 hp (thn (hb _ s6 σ6 H6 _ I6 q6) λ f s7 q7=>?_)
  have again:∀ {σ7:St} {H7:Hp},Inv X (pins++qH fp s5.heap) σ7 H7 s7->N σ7 H7->∃ m,m < n/\∃ i σ' H',Inv X pins σ' H' s7/\tn i s7.heap/\(∀ b ∈ fp,H' b=none)/\W i m σ' H':=λ {σ7 H7} I7 n7=>by
   obtain ⟨m',hm,w7⟩:=hN σ7 H7 n7;refine ⟨m',hm,i+1,σ7,H7,I7.lX,T.keep _ _ _ st5 λ b hb o e=>(I7.pin (b,o) (Zc _ (Zc _ (eD hb e)))).1,λ b hb=>?_,w7⟩;obtain ⟨o,e,d⟩:=T.obj _ _ st5 b hb;exact (I7.pin (b,o) (Zc _ (Zc _ (eD hb e)))).2.1
  cases f with
  | next=>obtain ⟨σ7,H7,I7,n7⟩:=q7; exact again I7 n7
  | cont=>obtain ⟨σ7,H7,I7,n7⟩:=q7; exact again I7 n7
  | brk=>obtain ⟨σ7,H7,I7,q7⟩:=q7; exact ⟨σ7,H7,I7.lX,q7⟩
  | ret v=>obtain ⟨x7,σ7,H7,I7,r7,q7⟩:=q7; exact ⟨x7,σ7,H7,I7.lX,r7,q7⟩
end
end L2
namespace L2
open PySem PySem.Spec PyProof.Rows
abbrev R2:=V->V->Hp->VK->Prop
def OpR (X:Cx) (f:Value->Value->Sem Value) (r:R2):Prop :=
  ∀ (pins:List (Addr×Obj)) (s:Shared) (σ:St) (H:Hp) (x y:V) (v u:Value) (Q:VK),Inv X pins σ H s->RelV x v->RelV y u->r x y H Q ->
    wpAny (model X.prog X.w) X.A (f v u) (EP X pins σ Q) X.xe s
def UnR (X:Cx) (f:Value->Sem Value) (r:V->Hp->VK->Prop):Prop :=
  ∀ (pins:List (Addr×Obj)) (s:Shared) (σ:St) (H:Hp) (x:V) (v:Value) (Q:VK),Inv X pins σ H s->RelV x v->r x H Q ->
    wpAny (model X.prog X.w) X.A (f v) (EP X pins σ Q) X.xe s
def ee (X:Cx) (f:Value) (r:List V->Hp->VK->Prop):Prop :=
  ∀ (pins:List (Addr×Obj)) (s:Shared) (σ:St) (H:Hp) (xs:List V) (us:List Value) (Q:VK),Inv X pins σ H s->bH xs us->r xs H Q ->
    wpAny (model X.prog X.w) X.A (call f us) (EP X pins σ Q) X.xe s
def tOp (r:R2) (ta tb:TE):TE:=λ σ H Q=>ta σ H λ x H1=>tb σ H1 λ y H2=>r x y H2 Q
def tUn (r:V->Hp->VK->Prop) (ta:TE):TE:=λ σ H Q=>ta σ H λ x H1=>r x H1 Q
def rI (C:Int->Int->Prop) (g:Int->Int->V):R2:=λ x y H Q=>∃ i j,x=.int i/\y=.int j/\C i j/\Q (g i j) H
def rI0 (g:Int->Int->V):R2:=λ x y H Q=>∃ i j,x=.int i/\y=.int j/\Q (g i j) H
def rU (g:Int->V):V->Hp->VK->Prop:=λ x H Q=>∃ i,x=.int i/\Q (g i) H
section
variable {X:Cx} {a b c:Expr} {ta tb tc:TE} {pos:Pos}
theorem Mx (ha:PE X a ta) (hb:PE X b tb) {pins:List (Addr×Obj)} {s:Shared} {σ:St} {H:Hp} {R:V->V->Hp->Prop} (I:Inv X pins σ H s)
  (h:ta σ H λ x H1=>tb σ H1 λ y H2=>R x y H2) {Q:Value->Shared->Prop} {f:Value->Value->Sem Value}
  (hf:∀ v u s2 x y H2,Inv X pins σ H2 s2->RelV x v->RelV y u->R x y H2->wpAny (model X.prog X.w) X.A (f v u) Q X.xe s2) :
  wpAny (model X.prog X.w) X.A (eval a X.env) (λ v s₁=>wpAny (model X.prog X.w) X.A (eval b X.env) (λ u s₂=>wpAny (model X.prog X.w) X.A (f v u) Q X.xe s₂) X.xe s₁) X.xe s:=by
 refine thn (ha pins s σ H _ I h) λ v s1 ⟨x,H1,I1,r1,q1⟩=>?_
 refine thn (hb pins s1 σ H1 _ I1 q1) λ u s2 ⟨y,H2,I2,r2,q2⟩=>?_
 exact hf v u s2 x y H2 I2 r1 r2 q2
theorem B1 {op:Operator} {r:R2} (ho:OpR X (binaryOp op) r) (ha:PE X a ta) (hb:PE X b tb):PE X (.BinOp a op b pos) (tOp r ta tb):=by
 intro pins s σ H Q I h;exact wpAny_BinOp (Mx ha hb I h λ v u s2 x y H2 I2 rx ry q=>ho pins s2 σ H2 x y v u Q I2 rx ry q)
theorem JG (ho:UnR X (unaryOp op) r) (ha:PE X a ta):PE X (.UnaryOp op a pos) (tUn r ta):=by
 intro pins s σ H Q I h;exact UnaryOp_ (thn (ha pins s σ H _ I h) λ v s1 ⟨x,H1,I1,r1,q1⟩=>ho pins s1 σ H1 x v Q I1 r1 q1)
theorem opI {f:Value->Value->Sem Value} {C:Int->Int->Prop} {g:Int->Int->Int}
  (rule:∀ (i j:Int) (t u:Tok) (s:Shared) (Q:Value->Shared->Prop) (E:Value->Shared->Prop),C i j->Q (.int (g i j) s.toks) { s with toks:=s.toks+1 }->wpAny (model X.prog X.w) X.A (f (.int i t) (.int j u)) Q E s) :
  OpR X f (rI C λ i j=>.int (g i j)):=by
 intro pins s σ H x y v u Q I rx ry h;obtain ⟨i,j,rfl,rfl,hc,q⟩:=h;obtain ⟨t,rfl⟩:=rx;obtain ⟨t',rfl⟩:=ry;exact rule i j t t' s _ _ hc ⟨.int (g i j),H,I.tok _,⟨_,rfl⟩,q⟩
theorem MF {f:Value->Value->Sem Value} {g:Int->Int->Int}
  (rule:∀ (i j:Int) (t u:Tok) (s:Shared) (Q:Value->Shared->Prop) (E:Value->Shared->Prop),Q (.int (g i j) s.toks) { s with toks:=s.toks+1 }->wpAny (model X.prog X.w) X.A (f (.int i t) (.int j u)) Q E s) :
  OpR X f (rI0 λ i j=>.int (g i j)):=by
 intro pins s σ H x y v u Q I rx ry h;obtain ⟨i,j,rfl,rfl,q⟩:=h;obtain ⟨t,rfl⟩:=rx;obtain ⟨t',rfl⟩:=ry;exact rule i j t t' s _ _ ⟨.int (g i j),H,I.tok _,⟨_,rfl⟩,q⟩
theorem JU {f:Value->Value->Sem Value} {g:Int->Int->Bool}
  (rule:∀ (i j:Int) (t u:Tok) (s:Shared) (Q:Value->Shared->Prop) (E:Value->Shared->Prop),Q (.bool (g i j)) s->wpAny (model X.prog X.w) X.A (f (.int i t) (.int j u)) Q E s) :
  OpR X f (rI0 λ i j=>.bl (g i j)):=by
 intro pins s σ H x y v u Q I rx ry h;obtain ⟨i,j,rfl,rfl,q⟩:=h;obtain ⟨t,rfl⟩:=rx;obtain ⟨t',rfl⟩:=ry;exact rule i j t t' s _ _ ⟨.bl (g i j),H,I,rfl,q⟩
def Eo (i j:Int):Prop:=0<=j/\j<=1000000/\i.natAbs < 2 ^ 64
def A0 (i j:Int):Prop:=(-(2 ^ 64) < i/\i < 2 ^ 64)\/(-(2 ^ 64) < j/\j < 2 ^ 64)
theorem A0.ok (h:A0 i j):IntMulOk i j:=by
 rcases h with ⟨h1,h2⟩ | ⟨h1,h2⟩
 · exact .of_left (intBits_le_64 h1 h2)
 · exact .of_right (intBits_le_64 h1 h2)
theorem FI:OpR X (binaryOp .Add) (rI0 λ i j=>.int (i+j)):=MF λ _ _ _ _ _ _ _ q=>add_int q
theorem Ao:OpR X (binaryOp .Sub) (rI0 λ i j=>.int (i - j)):=MF λ _ _ _ _ _ _ _ q=>sub_int q
theorem Ck:OpR X (binaryOp .Mod) (rI (λ _ j=>j≠0) λ i j=>.int (i.fmod j)):=opI λ _ _ _ _ _ _ _ hc q=>mod_int' hc q
theorem FA:OpR X (binaryOp .Pow) (rI Eo λ i j=>.int (i ^ j.toNat)):=opI λ _ _ _ _ _ _ _ hc q=>pow_int_small hc.1 hc.2.1 hc.2.2 q
theorem unI {f:Value->Sem Value} {g:Int->Int}
  (rule:∀ (i:Int) (t:Tok) (s:Shared) (Q:Value->Shared->Prop) (E:Value->Shared->Prop),Q (.int (g i) s.toks) { s with toks:=s.toks+1 }->wpAny (model X.prog X.w) X.A (f (.int i t)) Q E s) :
  UnR X f (rU λ i=>.int (g i)):=by
 intro pins s σ H x v Q I rx h;obtain ⟨i,rfl,q⟩:=h;obtain ⟨t,rfl⟩:=rx;exact rule i t s _ _ ⟨.int (g i),H,I.tok _,⟨_,rfl⟩,q⟩
theorem Et:UnR X (unaryOp .USub) (rU λ i=>.int (-i)):=unI λ _ _ _ _ _ q=>neg_int q
end
def Jr:V->V->Bool
 | .non,.non=>true | .non,.int _=>true | .int _,.non=>true | .non,.bl _=>true | .bl _,.non=>true | .non,.str _=>true | .str _,.non=>true
 | .int _,.int _=>true | .bl _,.bl _=>true | .str _,.str _=>true | .byt _,.byt _=>true
 | .int _,.str _=>true | .str _,.int _=>true | .bl _,.str _=>true | .str _,.bl _=>true
 | _,_=>false
def rEq:R2:=λ x y H Q=>Jr x y=true/\Q (.bl (decide (x=y))) H
def rNe:R2:=λ x y H Q=>Jr x y=true/\Q (.bl (!decide (x=y))) H
theorem w6:decide (V.int i=V.int j)=(i == j):=by
 rw [Y4];simp
theorem AV:decide (V.bl i=V.bl j)=(i == j):=by
 rw [Y4];simp
theorem wZ:decide (V.str i=V.str j)=(i == j):=by
 rw [Y4];simp
theorem w9:decide (V.byt i=V.byt j)=(i.toList == j.toList):=by
 rw [Y4];cases i;cases j;simp
section
variable {X:Cx} {a b c:Expr} {ta tb tc:TE} {pos:Pos}
theorem a8 (I:Inv X pins σ H s) (q:Q (.bl k) H) (e:k=k'):EP X pins σ Q (.bool k') s:=by
 subst e;exact ⟨.bl k,H,I,rfl,q⟩
theorem JT:OpR X (compareOp .Eq) rEq:=by
 intro pins s σ H x y v u Q I rx ry h;obtain ⟨hs,q⟩:=h
 cases x with
 | non =>
  cases rx
  cases y with
  | non=>cases ry; exact PySem.EqNone.eq_none_none (a8 I q (by simp))
  | bl j=>cases ry; exact PySem.EqNone.eq_none_bool (a8 I q (by simp))
  | int j=>obtain ⟨t',rfl⟩:=ry; exact PySem.EqNone.eq_none_int (a8 I q (by simp))
  | str j=>obtain ⟨t',rfl⟩:=ry; exact PySem.EqNone.eq_none_str (a8 I q (by simp))
  | _=>exact absurd (show false=true from hs) Zf
 | bl i =>
  cases rx
  cases y with
  | non=>cases ry; exact PySem.EqNone.eq_bool_none (a8 I q (by simp))
  | bl j=>cases ry; exact eq_bool (a8 I q AV)
  | str j=>obtain ⟨t',rfl⟩:=ry; exact PySem.EqMixed.eq_bool_str (a8 I q (by simp))
  | _=>exact absurd (show false=true from hs) Zf
 | int i =>
  obtain ⟨t,rfl⟩:=rx
  cases y with
  | non=>cases ry; exact PySem.EqNone.eq_int_none (a8 I q (by simp))
  | int j=>obtain ⟨t',rfl⟩:=ry; exact eq_int (a8 I q w6)
  | str j=>obtain ⟨t',rfl⟩:=ry; exact PySem.EqMixed.eq_int_str (a8 I q (by simp))
  | _=>exact absurd (show false=true from hs) Zf
 | str i =>
  obtain ⟨t,rfl⟩:=rx
  cases y with
  | non=>cases ry; exact PySem.EqNone.eq_str_none (a8 I q (by simp))
  | bl j=>cases ry; exact PySem.EqMixed.eq_str_bool (a8 I q (by simp))
  | int j=>obtain ⟨t',rfl⟩:=ry; exact PySem.EqMixed.eq_str_int (a8 I q (by simp))
  | str j=>obtain ⟨t',rfl⟩:=ry; exact eq_str (a8 I q wZ)
  | _=>exact absurd (show false=true from hs) Zf
 | byt i =>
  obtain ⟨t,rfl⟩:=rx
  cases y with
  | byt j=>obtain ⟨t',rfl⟩:=ry; exact PySem.W.eq_bytes (a8 I q w9)
  | _=>exact absurd (show false=true from hs) Zf
 | _=>cases y <;> exact absurd (show false=true from hs) Zf
theorem JP:OpR X (compareOp .NotEq) rNe:=by
 intro pins s σ H x y v u Q I rx ry h;obtain ⟨hs,q⟩:=h
 cases x with
 | non =>
  cases rx
  cases y with
  | non=>cases ry; exact PySem.EqNone.ne_none_none (a8 I q (by simp))
  | bl j=>cases ry; exact PySem.EqNone.ne_none_bool (a8 I q (by simp))
  | int j=>obtain ⟨t',rfl⟩:=ry; exact PySem.EqNone.ne_none_int (a8 I q (by simp))
  | str j=>obtain ⟨t',rfl⟩:=ry; exact PySem.EqNone.ne_none_str (a8 I q (by simp))
  | _=>exact absurd (show false=true from hs) Zf
 | bl i =>
  cases rx
  cases y with
  | non=>cases ry; exact PySem.EqNone.ne_bool_none (a8 I q (by simp))
  | bl j=>cases ry; exact ne_bool (a8 I q (Yl not AV))
  | str j=>obtain ⟨t',rfl⟩:=ry; exact PySem.EqMixed.ne_bool_str (a8 I q (by simp))
  | _=>exact absurd (show false=true from hs) Zf
 | int i =>
  obtain ⟨t,rfl⟩:=rx
  cases y with
  | non=>cases ry; exact PySem.EqNone.ne_int_none (a8 I q (by simp))
  | int j=>obtain ⟨t',rfl⟩:=ry; exact ne_int (a8 I q (Yl not w6))
  | str j=>obtain ⟨t',rfl⟩:=ry; exact PySem.EqMixed.ne_int_str (a8 I q (by simp))
  | _=>exact absurd (show false=true from hs) Zf
 | str i =>
  obtain ⟨t,rfl⟩:=rx
  cases y with
  | non=>cases ry; exact PySem.EqNone.ne_str_none (a8 I q (by simp))
  | bl j=>cases ry; exact PySem.EqMixed.ne_str_bool (a8 I q (by simp))
  | int j=>obtain ⟨t',rfl⟩:=ry; exact PySem.EqMixed.ne_str_int (a8 I q (by simp))
  | str j=>obtain ⟨t',rfl⟩:=ry; exact ne_str (a8 I q (Yl not wZ))
  | _=>exact absurd (show false=true from hs) Zf
 | byt i =>
  obtain ⟨t,rfl⟩:=rx
  cases y with
  | byt j=>obtain ⟨t',rfl⟩:=ry; exact PySem.W.ne_bytes (a8 I q (Yl not w9))
  | _=>exact absurd (show false=true from hs) Zf
 | _=>cases y <;> exact absurd (show false=true from hs) Zf
theorem JQ:OpR X (compareOp .Lt) (rI0 λ i j=>.bl (decide (i < j))):=JU λ _ _ _ _ _ _ _ q=>lt_int q
theorem JR:OpR X (compareOp .LtE) (rI0 λ i j=>.bl (decide (i<=j))):=JU λ _ _ _ _ _ _ _ q=>le_int q
theorem JS:OpR X (compareOp .Gt) (rI0 λ i j=>.bl (decide (j < i))):=JU λ _ _ _ _ _ _ _ q=>gt_int q
theorem vo:OpR X (compareOp .Lt) (λ x y H Q=>∃ i j,x=.str i/\y=.str j/\Q (.bl (decide (i.cps.toList < j.cps.toList))) H):=by
 intro pins s σ H x y v u Q I rx ry h;obtain ⟨i,j,rfl,rfl,q⟩:=h;obtain ⟨t,rfl⟩:=rx;obtain ⟨t',rfl⟩:=ry;exact lt_str (a8 I q rfl)
theorem FF:OpR X (compareOp .Is) (λ x y H Q=>y=.non/\Q (.bl (decide (x=.non))) H):=by
 intro pins s σ H x y v u Q I rx ry h;obtain ⟨rfl,q⟩:=h;cases ry;refine is_none_gen (a8 I q ?_)
 cases x <;> first
  | (cases rx; rfl)
  | (obtain ⟨t,rfl⟩:=rx; rfl)
theorem Ci:OpR X (compareOp .IsNot) (λ x y H Q=>y=.non/\Q (.bl (!decide (x=.non))) H):=by
 intro pins s σ H x y v u Q I rx ry h;obtain ⟨rfl,q⟩:=h;cases ry;refine isnot_none_gen (a8 I q ?_)
 cases x <;> first
  | (cases rx; rfl)
  | (obtain ⟨t,rfl⟩:=rx; rfl)
theorem OpR.or (h:OpR X f r) (h':OpR X f r'):OpR X f (λ x y H Q=>r x y H Q\/r' x y H Q):=by
 intro pins s σ H x y v u Q I rx ry q;rcases q with q | q
 · exact h pins s σ H x y v u Q I rx ry q
 · exact h' pins s σ H x y v u Q I rx ry q
theorem Aq (b:Expr) (h:op≠.In:=by decide) (h2:op≠.NotIn:=by decide):behindInMarks op b=false:=by
 have e1:(op == CmpOp.In)=false:=by cases op <;> first | rfl | exact absurd rfl h
 have e2:(op == CmpOp.NotIn)=false:=by cases op <;> first | rfl | exact absurd rfl h2
 cases b <;> simp [behindInMarks,e1,e2]
theorem B5 (ho:OpR X (compareOp op) r) (ha:PE X a ta) (hb:PE X b tb) (hm:behindInMarks op b=false):PE X (.Compare a [op] [b] pos) (tOp r ta tb):=by
 intro pins s σ H Q I h;exact wpAny_Compare1 (Mx ha hb I h λ v u s2 x y H2 I2 rx ry q=>ho pins s2 σ H2 x y v u Q I2 rx ry q) hm
def Ez (t:TE):TT:=λ σ H Q=>t σ H λ x H'=>∃ k,x=.bl k/\Q k H'
theorem Bu (ho:OpR X (compareOp op) r) (ha:PE X a ta) (hb:PE X b tb) (hm:behindInMarks op b=false):PT X (.Compare a [op] [b] pos) (Ez (tOp r ta tb)):=by
 intro pins s σ H Q I h
 refine wpAny_isTrue_Compare1 (thn (ha pins s σ H _ I h) λ v s1 ⟨x,H1,I1,r1,q1⟩=>thn (hb pins s1 σ H1 _ I1 q1) λ u s2 ⟨y,H2,I2,r2,q2⟩ =>
  thn (ho pins s2 σ H2 x y v u _ I2 r1 r2 q2) λ c s3 ⟨z,H3,I3,r3,k,e,q3⟩=>?_) hm
 subst e;cases r3;exact Yj ⟨H3,I3,q3⟩
def ui (r r':R2) (ta tb tc:TE):TE:=λ σ H Q=>ta σ H λ x H1=>tb σ H1 λ y H2=>r x y H2 λ z H3=>∃ k,z=.bl k /\
 (if k=true then tc σ H3 λ w' H4=>r' y w' H4 Q else Q (.bl false) H3)
theorem yF (ho:OpR X (compareOp op) r) (ho':OpR X (compareOp op') r') (ha:PE X a ta) (hb:PE X b tb) (hc:PE X c tc)
  (hm:lastMarks [op,op'] [b,c]=false:=by with_unfolding_all rfl):PE X (.Compare a [op,op'] [b,c] pos) (ui r r' ta tb tc):=by
 intro pins s σ H Q I h
 refine Compare_chain (thn (ha pins s σ H _ I h) λ v s1 ⟨x,H1,I1,r1,q1⟩=>chain_link (thn (hb pins s1 σ H1 _ I1 q1) λ u s2 ⟨y,H2,I2,r2,q2⟩ =>
  thn (ho pins s2 σ H2 x y v u _ I2 r1 r2 q2) λ d s3 ⟨z,H3,I3,r3,k,e,q3⟩=>?_)) hm
 subst e;cases r3;refine Yj ?_
 cases k with
 | false=>exact ite_ff ⟨.bl false,H3,I3,rfl,q3⟩
 | true=>exact ite_tt (chain_last (thn (hc pins s3 σ H3 _ I3 q3) λ w' s4 ⟨z',H4,I4,r4,q4⟩=>ho' pins s4 σ H4 y z' u w' Q I4 r2 r4 q4))
theorem ye (ho:OpR X (compareOp op) r) (ho':OpR X (compareOp op') r') (ha:PE X a ta) (hb:PE X b tb) (hc:PE X c tc)
  (hm:lastMarks [op,op'] [b,c]=false:=by with_unfolding_all rfl):PT X (.Compare a [op,op'] [b,c] pos) (Ez (ui r r' ta tb tc)):=by
 intro pins s σ H Q I h
 refine isTrue_chain (thn (ha pins s σ H _ I h) λ v s1 ⟨x,H1,I1,r1,q1⟩=>test_link (thn (hb pins s1 σ H1 _ I1 q1) λ u s2 ⟨y,H2,I2,r2,q2⟩ =>
  thn (ho pins s2 σ H2 x y v u _ I2 r1 r2 q2) λ d s3 ⟨z,H3,I3,r3,k,e,q3⟩=>?_)) hm
 subst e;cases r3;refine Yj ?_
 cases k with
 | false =>
  obtain ⟨k',e',q'⟩:=q3;cases e';exact ite_ff ⟨H3,I3,q'⟩
 | true =>
  refine ite_tt (test_last (thn (hc pins s3 σ H3 _ I3 q3) λ w' s4 ⟨z',H4,I4,r4,q4⟩=>thn (ho' pins s4 σ H4 y z' u w' _ I4 r2 r4 q4) λ d' s5 ⟨z2,H5,I5,r5,k2,e2,q5⟩=>?_));subst e2;cases r5;exact Yj ⟨H5,I5,q5⟩
theorem rg:(sizeLine:Nat) < 2 ^ 63:=by rw [Y3]; decide
theorem sI:OpR X (binaryOp .Add) (λ x y H Q=>∃ i j,x=.str i/\y=.str j/\i.length+j.length<=sizeLine/\Q (.str (i++j)) H):=by
 intro pins s σ H x y v u Q I rx ry h;obtain ⟨i,j,rfl,rfl,hz,q⟩:=h;obtain ⟨t,rfl⟩:=rx;obtain ⟨t',rfl⟩:=ry;exact add_str (λ t' tk=>⟨.str (i++j),H,I.tok _,⟨_,rfl⟩,q⟩) hz
theorem vals1 (r:bH [x] us):∃ u,us=[u]/\RelV x u:=by
 cases r with
 | cons r1 r2=>cases r2; exact ⟨_,rfl,r1⟩
theorem vals2 (r:bH [x,y] us):∃ u w',us=[u,w']/\RelV x u/\RelV y w':=by
 cases r with
 | cons r1 r2 =>
  cases r2 with
  | cons r3 r4=>cases r4; exact ⟨_,_,rfl,r1,r3⟩
def Pp (K:W.Frag) (x:V) (H:Hp) (n:Nat):Prop :=
 match x with
 | .str y=>y.length<=sizeLine/\n=y.length
 | .byt y=>y.size<=sizeLine/\n=y.size
 | .ref p=>(∃ xs,SqL K H p xs/\n=xs.length)\/∃ xs,SqT K H p xs/\n=xs.length
 | _=>False
theorem zM:ee X (.builtin "len") (λ xs H Q=>∃ x n,xs=[x]/\Pp X.K x H n/\Q (.int n) H):=by
 intro pins s σ H xs us Q I r h;obtain ⟨x,n,rfl,e,q⟩:=h;obtain ⟨u,rfl,rx⟩:=vals1 r;have hl:=rg;have hs:sizeLine=16777216:=Y3
 cases x with
 | str y =>
  obtain ⟨t,rfl⟩:=rx;obtain ⟨hy,e'⟩:y.length<=sizeLine/\n=y.length:=e;subst e';exact len_str (by omega) ⟨.int _,H,I.tok _,⟨_,rfl⟩,q⟩
 | byt y =>
  obtain ⟨t,rfl⟩:=rx;obtain ⟨hy,e'⟩:y.size<=sizeLine/\n=y.size:=e;subst e';exact PySem.W.len_bytes (by omega) ⟨.int _,H,I.tok _,⟨_,rfl⟩,q⟩
 | ref p =>
  cases rx;have e':(∃ xs,SqL X.K H p xs/\n=xs.length)\/∃ xs,SqT X.K H p xs/\n=xs.length:=e
  rcases e' with ⟨xs,hx,e'⟩ | ⟨xs,hx,e'⟩
  ·subst e'
   obtain ⟨its,r',pl,hz⟩:=I.list hx;have hlen:=r'.length;exact Calls.call_len_list pl.isList (by simp only [Zs]; omega) ⟨.int xs.length,H,I.tok _,⟨_,by simp only [Zs]; rw [hlen]⟩,q⟩
  ·subst e'
   obtain ⟨its,r',pl,hz⟩:=I.tuple hx;have hlen:=r'.length;exact len_tuple pl (by simp only [Zs]; omega) ⟨.int xs.length,H,I.tok _,⟨_,by simp only [Zs]; rw [hlen]⟩,q⟩
 | _=>exact (show False from e).elim
end
end L2
namespace L2
open PySem PySem.Spec PyProof.Rows
structure DY (h:Heap) (x dx C:Addr) (mA:Str->Option Value):Prop where
 obj:h.get? x=some (PySem.W.instObj C dx)
 ns:h.Ns1 dx mA
 ne:dx≠x
theorem vW {h:Heap} {dx:Addr} {mA:Str->Option Value} (n:h.Ns1 dx mA):∃ od,h.get? dx=some od/\∀ name,PySem.W.lookIn name od=some (mA name):=by
 obtain ⟨o,es,ep,ho,hd,hk,_,hm⟩:=n;refine ⟨o,ho,λ name=>?_⟩;have e:=hm name;unfold nsFind findBy at e;rw [<- Array.find?_toList] at e;unfold PySem.W.lookIn;rw [hd];dsimp only;split
 ·rename_i y q
  rw [q] at e;exact Yl some e
 ·rename_i q
  rw [q] at e
  have a:es.toList.any (·.refKey)=false:=by
   rw [List.any_eq_false];intro y hy;obtain ⟨z,t,hkey⟩:=hk y (Array.mem_toList_iff.mp hy);simp [DictEntry.refKey,hkey]
  have a':¬ es.toList.any (·.refKey)=true:=by rw [a]; exact Zf
  rw [if_neg a'];exact Yl some e
theorem DY.look (I:DY h x dx C mA):∃ od,PySem.W.InstAt h x (PySem.W.instObj C dx) C (some od)/\∀ name,PySem.W.lookIn name od=some (mA name) :=
 let ⟨od,ho,hl⟩:=vW I.ns
 ⟨od,⟨I.obj,rfl,rfl,ho⟩,hl⟩
section
variable {prog:Program} {w:World} {A:Around} {E:Value->Shared->Prop} {s:Shared} {K:W.Frag} {x dx C f:Addr} {mA:Str->Option Value} {name:Str} {v:Value}
theorem get_map (X:K.In s.heap) (I:DY s.heap x dx C mA) (hg:PySem.W.plainGet K C name=true) (hh:PySem.W.hasDictIn K C=true)
  (ha:W.findIn K (.ref C) name=some none) (hv:mA name=some v) (hv':PySem.W.handedIn v=true) (h:Q v { s with toks:=s.toks+1 }) :
  wpAny (model prog w) A (getAttr (.ref x) name expr) Q E s:=by
 obtain ⟨od,J,hl⟩:=I.look;exact PySem.W.get_value X J (PySem.W.plainGet_of hg).1 (PySem.W.findObj_own hh ha rfl (by rw [hl,hv])) hv' h
theorem zm (X:K.In s.heap) (I:DY s.heap x dx C mA) (hg:PySem.W.plainGet K C name=true)
  (hf:W.findIn K (.ref C) name=some (some (.ref f))) (ht:PySem.W.isFn K (.ref f)=true) (hv:mA name=none) (h:Q (.ref f,[.ref x]) s) :
  wpAny (model prog w) A (getMethod (.ref x) name pl) Q E s:=by
 obtain ⟨od,J,hl⟩:=I.look;exact PySem.W.method_fn X J (PySem.W.plainGet_of hg).1 (PySem.W.plainGet_of hg).2 hf (beq_iff_eq.mp ht) (by show (PySem.W.lookIn name od).map (·.isSome)=some false; rw [hl,hv]; rfl) h
theorem Bg (X:K.In s.heap) (I:DY s.heap x dx C mA)
  (hs:W.findIn K (.ref C) "__setattr__"=some (some (.builtin "object.__setattr__"))) (hp:PySem.W.plainOver K C=true) (ht:PySem.W.takerIn K C name=some none) (hh:PySem.W.hasDictIn K C=true)
  (hw:PySem.Within mA ns) (hsz:ns.length<=sizeLine)
  (h:∀ h',DY h' x dx C (λ y=>if y=name then some v else mA y)->Heap.SameBut dx s.heap h'->Q () { s with heap:=h',toks:=s.toks+2 }) :
  wpAny (model prog w) A (setAttr (.ref x) name v) Q E s:=by
 obtain ⟨od,J,hl⟩:=I.look;refine PySem.W.set_plain X J hs (PySem.W.osa_open (s:={ s with toks:=s.toks+1 }) (r:=none) X J hp ht λ b=>?_);obtain ⟨cd,hc,hd'⟩:=PySem.W.any_some hh;have hx:s.heap.get? x=some ⟨.ref C,some dx,.plain,#[]⟩:=I.obj;refine Zu (Z7 (Zu (Zu (wpAny_loadPart hx (Zu (PySem.W.Looks.here (s:={ s with toks:=s.toks+1 }) (PySem.W.looks_clsIn X hc) ?_))))));rw [hd'];refine Z7 (a:=some dx) (Zu (Z7 (Zu ?_)));refine wpAny_nsSet1 (s:={ s with toks:=s.toks+1 }) I.ns λ h' hn2 hs2=>?_
 obtain ⟨oD,esD,epD,hoD,hdD,hcD⟩:=hn2.count (PySem.Within.cons name v hw);refine Zu (wpAny_lookBehind hoD (by rw [hdD]; exact pastItsLine_dict (Z3 hcD (by rw [Zz]; omega))) ?_);exact Z7 (h _ ⟨(hs2.2 _ (Ne.symm I.ne)).trans I.obj,hn2,I.ne⟩ hs2)
theorem yV (X:K.In s.heap) (hm:PySem.W.makesIn K C=true)
  (hi:W.findIn K (.ref C) "__init__"=some (some (.ref f))) (hf:PySem.W.typeIn K (.ref f)=some (.type "function"))
  (h : codeAny (model prog w) (A.under (.builtin "type.__call__" ⟨.ref C::vs,kw⟩)) (.call (.ref f) ⟨.ref (s.heap.objs.size+1)::vs,kw⟩) (PySem.W.InitBack (s.heap.objs.size+1) R)
    { s with heap:=(s.heap.push PySem.W.emptyDict).push (PySem.W.instObj C s.heap.objs.size) }) :
  codeAny (model prog w) A (.call (.ref C) ⟨vs,kw⟩) R s:=by
 obtain ⟨hh,g,d,t,os⟩:=s;exact PySem.W.make_core (PySem.W.makes_of X hm) (PySem.W.looks_findIn X hi) (λ self=>PySem.W.bind_fn X self hf) (.inl rfl) h
end
def kR (f:Str) (v:V):List (Str×V)->List (Str×V)
 | []=>[(f,v)]
 | (g,x)::r=>if g=f then (g,v)::r else (g,x)::kR f v r
theorem jV (f g:Str) (v:V):∀ fs:List (Str×V),(kR f v fs).lookup g=if g=f then some v else fs.lookup g
 | []=>by
  show List.lookup g [(f,v)]=_
  by_cases h:g=f
  ·have hb:(g == f)=true:=beq_iff_eq.mpr h
   simp only [List.lookup,hb,if_pos h]
  ·have hb:(g == f)=false:=Y5.mpr h
   simp only [List.lookup,hb,if_neg h]
 | (k,x)::r=>by
  have ih:=jV f g v r;rw [show kR f v ((k,x)::r)=(if k=f then (k,v)::r else (k,x)::kR f v r) from rfl]
  by_cases hk:k=f
  ·rw [if_pos hk]
   by_cases h:g=k
   ·have hb:(g == k)=true:=beq_iff_eq.mpr h
    simp only [List.lookup,hb,if_pos (h.trans hk)]
   ·have hb:(g == k)=false:=Y5.mpr h
    simp only [List.lookup,hb,if_neg (λ e:g=f=>h (e.trans hk.symm))]
  ·rw [if_neg hk]
   by_cases h:g=k
   ·have hb:(g == k)=true:=beq_iff_eq.mpr h
    simp only [List.lookup,hb,if_neg (λ e:g=f=>hk (h.symm.trans e))]
   ·have hb:(g == k)=false:=Y5.mpr h
    simp only [List.lookup,hb];exact ih
theorem jX (f:Str) (v:V):∀ fs:List (Str×V),f ∈ (kR f v fs).map (·.1)/\∀ g,g ∈ fs.map (·.1)->g ∈ (kR f v fs).map (·.1)
 | []=>⟨by simp [kR],λ g h=>by simp at h⟩
 | (k,x)::r=>by
  obtain ⟨i1,i2⟩:=jX f v r;rw [show kR f v ((k,x)::r)=(if k=f then (k,v)::r else (k,x)::kR f v r) from rfl]
  by_cases hk:k=f
  ·rw [if_pos hk]
   subst hk;exact ⟨by simp,λ g h=>by simpa using h⟩
  ·rw [if_neg hk]
   refine ⟨?_,λ g h=>?_⟩
   ·rw [Zh]
    exact Zd _ i1
   ·rw [Zh] at h ⊢
    rcases Zl.mp h with e | e
    · exact Zl.mpr (.inl e)
    · exact Zd _ (i2 g e)
theorem jW (f:Str) (v:V):∀ fs:List (Str×V),(kR f v fs).length<=fs.length+1
 | []=>by simp [kR]
 | (k,x)::r=>by
  have ih:=jW f v r;rw [show kR f v ((k,x)::r)=(if k=f then (k,v)::r else (k,x)::kR f v r) from rfl]
  by_cases hk:k=f
  · rw [if_pos hk,Zz,Zz]; omega
  · rw [if_neg hk,Zz,Zz]; omega
theorem oK.some_of (r:oK (some v) o):∃ u,o=some u/\RelV v u:=by
 cases o with
 | none=>exact (show False from r).elim
 | some u=>exact ⟨u,rfl,r⟩
theorem oK.none_of (r:oK none o):o=none:=by
 cases o with
 | none=>rfl
 | some u=>exact (show False from r).elim
theorem wG (r:RelV v u):PySem.W.handedIn u=true:=by
 cases v with
 | non=>cases (show u=Value.none from r); rfl
 | bl b=>cases (show u=Value.bool b from r); rfl
 | int i=>obtain ⟨t,e⟩:=(show ∃ t,u=Value.int i t from r); cases e; rfl
 | str x=>obtain ⟨t,e⟩:=(show ∃ t,u=Value.str x t from r); cases e; rfl
 | byt b=>obtain ⟨t,e⟩:=(show ∃ t,u=Value.bytes b t from r); cases e; rfl
 | flt b=>obtain ⟨t,e⟩:=(show ∃ t,u=Value.float b t from r); cases e; rfl
 | ref a=>cases (show u=Value.ref a from r); rfl
 | ty n=>cases (show u=Value.type n from r); rfl
section
variable {P:Program} {w:World} {H H':Hp} {h h':Heap} {a C dx:Addr} {fs fs':List (Str×V)}
theorem mf (hok:HOk P w H h) (e:H a=some (.ins C dx fs)):∃ mA,DY h a dx C mA/\(∀ f,oK (fs.lookup f) (mA f))/\PySem.Within mA (fs.map (·.1))/\fs.length<=1000/\H dx=some (.own a):=by
 obtain ⟨d,z,ne,ob,mA,n,r,q⟩:=(show cc P w H h a (.ins C dx fs) from hok a _ e)
 exact ⟨mA,⟨ob,n,ne⟩,r,q,z,d⟩
end
structure Cls (K:W.Frag) (C:Addr):Prop where
 pg:PySem.W.plainGet K C Str.empty=true
 hd:PySem.W.hasDictIn K C=true
 po:PySem.W.plainOver K C=true
 sa:W.findIn K (.ref C) "__setattr__"=some (some (.builtin "object.__setattr__"))
theorem Cls.get {K:W.Frag} {C:Addr} (c:Cls K C) (f:Str):PySem.W.plainGet K C f=true:=c.pg
def b7 (K:W.Frag) (C:Addr) (f:Str):Prop:=W.findIn K (.ref C) f=some none
theorem b7.Jf {K:W.Frag} {C:Addr} {f:Str} (n:b7 K C f):PySem.W.takerIn K C f=some none:=by
 unfold PySem.W.takerIn;rw [show W.findIn K (.ref C) f=some none from n];rfl
structure El (K:W.Frag) (C:Addr) (m:Str) (f:Addr):Prop where
 at_:W.findIn K (.ref C) m=some (some (.ref f))
 fn:PySem.W.isFn K (.ref f)=true
 kp:W.keepIn K (.ref f)=true
section
variable {X:Cx} {pins:List (Addr×Obj)} {σ:St} {H:Hp} {s:Shared} {a C dx:Addr} {fs:List (Str×V)} {f:Str} {v:V} {A:Around} {E:Value->Shared->Prop}
theorem tj (I:Inv X pins σ H s) (e:H a=some (.ins C dx fs)) (c:Cls X.K C) (n:b7 X.K C f) (l:fs.lookup f=some v)
  (h:∀ u s',Inv X pins σ H s'->RelV v u->Q u s'):wpAny (model X.prog X.w) A (getAttr (.ref a) f b) Q E s:=by
 obtain ⟨mA,O,r,_,_,_⟩:=mf I.hok e;obtain ⟨u,hu,ru⟩:=oK.some_of (v:=v) (o:=mA f) (by rw [<- l]; exact r f);exact get_map I.kIn O (c.get f) c.hd n hu (wG ru) (h u _ (I.tok _) ru)
theorem tf (I:Inv X pins σ H s) (e:H a=some (.ins C dx fs)) (c:Cls X.K C) (k:El X.K C m g) (l:fs.lookup m=none)
  (h:Q (.ref g,[.ref a]) s):wpAny (model X.prog X.w) A (getMethod (.ref a) m pl) Q E s:=by
 obtain ⟨mA,O,r,_,_,_⟩:=mf I.hok e;have hn:mA m=none:=oK.none_of (by rw [<- l]; exact r m);exact zm I.kIn O (c.get m) k.at_ k.fn hn h
theorem sv (I:Inv X pins σ H s) (e:H a=some (.ins C dx fs)) (c:Cls X.K C) (n:b7 X.K C f) (hl:fs.length < 1000) (ry:RelV y u)
  (h:∀ s',Inv X pins σ (upd H a (.ins C dx (kR f y fs))) s'->Q () s'):wpAny (model X.prog X.w) A (setAttr (.ref a) f u) Q E s:=by
 obtain ⟨mA,O,r,wi,_,ho⟩:=mf I.hok e;have hz:(fs.map (·.1)).length<=sizeLine:=by rw [Za,Y3]; omega
 refine Bg I.kIn O c.sa c.po n.Jf c.hd wi hz λ h' O' sb=>h _ ?_
 have hd:∃ o,h'.get? dx=some o:=let ⟨o,_,_,e',_⟩:=O'.ns; ⟨o,e'⟩
 refine I.write (x:=a) (e:=dx) (by rw [e]; exact True.intro) (.inr ho) (λ b q hb z=>(sb.2 b hb).trans z) hd ?_
 refine ⟨by rw [ar O.ne]; exact ho,?_,O.ne,O'.obj,_,O'.ns,λ g=>?_,λ g hg=>?_⟩
 · have:=jW f y fs; omega
 ·show oK ((kR f y fs).lookup g) (if g=f then some u else mA g)
  rw [jV]
  by_cases q:g=f
  · rw [if_pos q,if_pos q]; exact ry
  · rw [if_neg q,if_neg q]; exact r g
 ·by_cases q:g=f
  · rw [q]; exact (jX f y fs).1
  ·refine (jX f y fs).2 g (wi g λ z=>hg ?_)
   show (if g=f then some u else mA g)=none;rw [if_neg q]; exact z
theorem Inv.made (I:Inv X pins σ H s):Inv X pins σ (upd (upd H s.heap.objs.size (.own (s.heap.objs.size+1))) (s.heap.objs.size+1) (.ins C s.heap.objs.size []))
  { s with heap:=(s.heap.push PySem.W.emptyDict).push (PySem.W.instObj C s.heap.objs.size) }:=by
 have e1:(s.heap.push PySem.W.emptyDict).get? s.heap.objs.size=some PySem.W.emptyDict:=Heap.get?_push_size s.heap rfl
 have e2:((s.heap.push PySem.W.emptyDict).push (PySem.W.instObj C s.heap.objs.size)).get? (s.heap.objs.size+1)=some (PySem.W.instObj C s.heap.objs.size):=by
  have:=Heap.get?_push_size (s.heap.push PySem.W.emptyDict) (o:=PySem.W.instObj C s.heap.objs.size) rfl
  rwa [Heap.size_push] at this
 have e3:(s.heap.push PySem.W.emptyDict).Ns s.heap.objs.size (λ _=>none):=⟨PySem.W.emptyDict,#[],_,e1,rfl,(λ e he=>absurd he (by simp)),λ _=>rfl⟩
 have I1:=I.laid (a:=s.heap.objs.size) (o:=.own (s.heap.objs.size+1)) (h':=s.heap.push PySem.W.emptyDict) (t':=s.toks) (λ b u q=>Heap.get?_push_of_some _ q) (Zi _) ⟨_,e1⟩;refine I1.laid (a:=s.heap.objs.size+1) (o:=.ins C s.heap.objs.size []) (t':=s.toks) (λ b u q=>Heap.get?_push_of_some _ q) (Nat.le_of_eq (Heap.size_push _ _)) ?_
 have ne:s.heap.objs.size≠s.heap.objs.size+1:=Zx (Xu _);refine ⟨by rw [ar ne,av],Z1 _,ne,e2,λ _=>none,(Heap.Ns1.of_empty e3).at λ o q=>Heap.get?_push_of_some _ q,λ _=>True.intro,λ y hy=>absurd rfl hy⟩
theorem DX (hb:attributeBase e f env (eval e env)=eval e env)
  (h:wpAny (model prog w) A (eval e env) (λ o s₁=>wpAny (model prog w) A (getAttr o f true) Q E s₁) E s):wpAny (model prog w) A (eval (.Attribute e f pos) env) Q E s :=
 Attribute_any_ h (by rw [arm_eval_Attribute,hb])
end
def NR (K:W.Frag) (ta:TE) (f:Str):TE:=λ σ H Q=>ta σ H λ x H1=>∃ a C dx fs v,x=.ref a/\H1 a=some (.ins C dx fs)/\Cls K C/\b7 K C f/\fs.lookup f=some v/\Q v H1
def N2 (K:W.Frag) (ta tv:TE) (f:Str):TS:=λ D σ H=>tv σ H λ y H1=>ta σ H1 λ x H2=>∃ a C dx fs,x=.ref a/\H2 a=some (.ins C dx fs)/\Cls K C/\b7 K C f/\fs.length < 1000 /\
 D.nx σ (upd H2 a (.ins C dx (kR f y fs)))
section
variable {X:Cx} {o e value:Expr} {f:Str} {pos pos' tpos:Pos} {ta tv:TE}
theorem Al (he:PE X e ta) (hb:attributeBase e f X.env (eval e X.env)=eval e X.env):PE X (.Attribute e f pos) (NR X.K ta f):=by
 intro pins s σ H Q I h;refine DX hb (thn (he pins s σ H _ I h) λ u s1 ⟨x,H1,I1,rx,a,C,dx,fs,v,ex,ea,c,n,l,q⟩=>?_);subst ex;obtain rfl:u=Value.ref a:=rx;exact tj I1 ea c n l λ u' s2 I2 ru=>⟨v,H1,I2,ru,q⟩
theorem Ag (ha:PE X o ta) (hv:PE X value tv) (hs:swapsWith value (some (.Attribute o f pos')) pos.line X.env=pure false):PS X (.Assign [.Attribute o f pos'] value pos) (N2 X.K ta tv f):=by
 intro pins s σ H D I h;refine plainObj_wpAny_Assign_Attribute (thn (hv pins s σ H _ I h) λ u s1 ⟨y,H1,I1,ry,q⟩=>thn (ha pins s1 σ H1 _ I1 q) λ ov s2 ⟨x,H2,I2,rx,a,C,dx,fs,ex,ea,c,n,l,q2⟩=>?_) hs;subst ex;obtain rfl:ov=Value.ref a:=rx;exact sv I2 ea c n l ry λ s3 I3=>⟨σ,_,I3,q2⟩
end
section
variable {X:Cx} {pins:List (Addr×Obj)} {σ:St} {H:Hp} {s:Shared} {A:Around} {E:Value->Shared->Prop} {Q:Value->Shared->Prop} {c:Value} {b:Bool}
inductive tR (K:W.Frag) (H:Hp):V->Value->Prop where
 | non:tR K H .non (.type "NoneType")
 | bl (x:Bool):tR K H (.bl x) (.type "bool")
 | int (i:Int):tR K H (.int i) (.type "int")
 | str (x:Str):tR K H (.str x) (.type "str")
 | flt (x:UInt64):tR K H (.flt x) (.type "float")
 | lst {a:Addr} {xs:List V} (e:H a=some (.lst xs)):tR K H (.ref a) (.type "list")
 | frz {a:Addr} {o:Obj} {xs:List V} (e:H a=some (.frz o (.lst xs))):tR K H (.ref a) (.type "list")
 | tup {a:Addr} {xs:List V} (e:H a=some (.tup xs)):tR K H (.ref a) (.type "tuple")
 | dK {a:Addr} {kvs:List (Key×V)} (e:H a=some (.dK kvs)):tR K H (.ref a) (.type "dict")
 | dT {a:Addr} {kvs:List (List Key×V)} (e:H a=some (.dT kvs)):tR K H (.ref a) (.type "dict")
 | ins {a C dx:Addr} {fs:List (Str×V)} (e:H a=some (.ins C dx fs)) (cl:Cls K C) (ha:W.findIn K (.ref C) "__class__"=some (some (.builtin "object.__class__")))
  (hn:PySem.W.specialIn K (.builtin "object.__class__") "__get__"=some (some (.builtin "getset_descriptor.__get__"))) (htk:PySem.W.takesIn K (.builtin "object.__class__")=some true)
  (hm:PySem.W.mroIn K C (.type "object")=some true):tR K H (.ref a) (.ref C)
theorem wu (I:Inv X pins σ H s) (rx:RelV x u) (ty:tR X.K H x t) (e:PySem.W.kitOne X.K t c=some b) (h:∀ tk,Q (.bool b) { s with toks:=tk }) :
  wpAny (model X.prog X.w) A (call (.builtin "isinstance") [u,c]) Q E s:=by
 cases ty with
 | non=>cases (show u=Value.none from rx); exact Yn PySem.W.kitx_none I.kIn True.intro e (λ z=>nomatch z) h
 | bl y=>cases (show u=Value.bool y from rx); exact Yn PySem.W.kitx_bool I.kIn True.intro e (λ z=>nomatch z) h
 | int i=>obtain ⟨t,q⟩:=(show ∃ t,u=Value.int i t from rx); cases q; exact Yn PySem.W.kitx_int I.kIn True.intro e (λ z=>nomatch z) h
 | str y=>obtain ⟨t,q⟩:=(show ∃ t,u=Value.str y t from rx); cases q; exact Yn PySem.W.kitx_str I.kIn True.intro e (λ z=>nomatch z) h
 | flt y=>obtain ⟨t,q⟩:=(show ∃ t,u=Value.float y t from rx); cases q; exact Yn PySem.W.kitx_float I.kIn True.intro e (λ z=>nomatch z) h
 | @lst a xs ea =>
  cases (show u=Value.ref a from rx);obtain ⟨_,_,n,_,h1⟩:=(show cc X.prog X.w H s.heap a (.lst xs) from I.hok a _ ea)
  exact Yn PySem.W.kitx_list I.kIn ⟨_,h1,rfl⟩ e (λ z=>nomatch z) h
 | @frz a ob xs ea =>
  cases (show u=Value.ref a from rx);obtain ⟨_,_,_,n,_,h1⟩:=(show cc X.prog X.w H s.heap a (.frz ob (.lst xs)) from I.hok a _ ea)
  exact Yn PySem.W.kitx_list I.kIn ⟨_,h1,rfl⟩ e (λ z=>nomatch z) h
 | @tup a xs ea =>
  cases (show u=Value.ref a from rx);obtain ⟨_,_,_,p⟩:=(show cc X.prog X.w H s.heap a (.tup xs) from I.hok a _ ea)
  obtain ⟨o,h1,h2,_⟩:=p;exact Yn PySem.W.kitx_tuple I.kIn ⟨o,h1,h2⟩ e (λ z=>nomatch z) h
 | @dK a kvs ea =>
  cases (show u=Value.ref a from rx);obtain ⟨_,_,vs,_,p⟩:=(show cc X.prog X.w H s.heap a (.dK kvs) from I.hok a _ ea)
  obtain ⟨o,es,ep,h1,h2,_⟩:=p;exact Yn PySem.W.kitx_dict I.kIn ⟨o,h1,h2.1⟩ e (λ z=>nomatch z) h
 | @dT a kvs ea =>
  cases (show u=Value.ref a from rx);obtain ⟨_,_,xs,_,o,es,ep,h1,h2,_⟩:=(show cc X.prog X.w H s.heap a (.dT kvs) from I.hok a _ ea)
  exact Yn PySem.W.kitx_dict I.kIn ⟨o,h1,h2.1⟩ e (λ z=>nomatch z) h
 | @ins a C dx fs ea cl ha hn htk hm =>
  cases (show u=Value.ref a from rx);obtain ⟨mA,O,_⟩:=mf I.hok ea;obtain ⟨od,J,_⟩:=O.look;exact Yn (PySem.W.kitx_own (cl.get _) cl.hd ha hn htk hm) I.kIn J e (λ z=>nomatch z) h
end
end L2
namespace L2
open PySem PySem.Spec PyProof.Rows
structure dQ (k:Nat) (A:Around):Prop where
 hd:A.handled=none
 dp:A.depth+3 * k+5 < recursionLimit
 un:A.units+16 * k+200 < cLine
theorem dQ.mono (r:dQ k A) (h:j<=k):dQ j A:=⟨r.hd,by have:=r.dp; omega,by have:=r.un; omega⟩
theorem dQ.deeper (r:dQ (k+1) A) (env:Env):dQ k (A.deeper env) :=
 ⟨r.hd,by have:=r.dp; show A.depth+1+3 * k+5 < _; omega,by have:=r.un; show A.units+3+16 * k+200 < _; omega⟩
theorem sS {A:Around} {C:Addr} {us:List Value} {kw:List (Str×Value)}:(A.under (.builtin "type.__call__" ⟨.ref C::us,kw⟩)).depth=A.depth+1:=by
 first | rfl | simp [Around.under,Code.weight,Code.isCreation,Code.isGuard,Code.isCaller,Code.frames,Code.isFrame,guardIds]
theorem sR {A:Around} {C:Addr} {us:List Value} {kw:List (Str×Value)}:(A.under (.builtin "type.__call__" ⟨.ref C::us,kw⟩)).units=A.units+1:=by
 first | rfl | simp [Around.under,Code.cUnits,Code.frames,Code.isFrame]
theorem dQ.make (r:dQ (k+1) A) (C:Addr) (us:List Value) (kw:List (Str×Value)):dQ k (A.under (.builtin "type.__call__" ⟨.ref C::us,kw⟩)) :=
 ⟨r.hd,by have:=r.dp; rw [sS]; omega,by have:=r.un; rw [sR]; omega⟩
theorem dQ.depth (r:dQ k A):A.depth < recursionLimit:=by have:=r.dp; omega
theorem dQ.units (r:dQ k A):A.units+64 < cLine:=by have:=r.un; omega
def MB:TA:=λ _ H Q=>Q [] H
def Ba (ta:TE) (tr:TA):TA:=λ σ H Q=>ta σ H λ x H1=>tr σ H1 λ xs H2=>Q (x::xs) H2
section
variable {X:Cx} {e:Expr} {es:List Expr} {te:TE} {t:TA} {pos:Pos}
theorem cf:PA X [] MB:=λ _ _ _ _ H Q I h=>Calls.spliced_nil ⟨[],H,I,.nil,h⟩
theorem aG (ha:PE X e te) (hr:PA X es t) (hs:starEach (e::es) X.env=(false,eval e X.env)::starEach es X.env:=by rfl):PA X (e::es) (Ba te t):=by
 intro pos pins s σ H Q I h;rw [hs];show wpAny _ _ (spliced ((false,eval e X.env)::backTo pos (starEach es X.env))) _ _ s;refine Calls.spliced_cons (thn (ha pins s σ H _ I h) λ u s1 ⟨x,H1,I1,r1,q1⟩=>?_);exact thn (hr pos pins s1 σ H1 _ I1 q1) λ us s2 ⟨xs,H2,I2,r2,q2⟩=>⟨x::xs,H2,I2,.cons r1 r2,q2⟩
def NI (t:TA):TE:=λ σ H Q=>t σ H λ xs H1=>xs.length<=sizeLine/\∀ p,H1 p=none->Q (.ref p) (upd H1 p (.tup xs))
def NO (t:TA):TE:=λ σ H Q=>t σ H λ xs H1=>xs.length<=sizeLine/\∀ p,H1 p=none->Q (.ref p) (upd H1 p (.lst xs))
theorem Ai {x1} (h:PA X es t):PE X (.Tuple es x1 pos) (NI t):=by
 intro pins s σ H Q I hq;refine wpAny_Tuple_spliced (thn (h pos pins s σ H _ I hq) λ us s1 ⟨xs,H1,I1,r,z,q⟩=>⟨by rw [<- r.length]; exact z,?_⟩);have hf:H1 s1.heap.objs.size=none:=I1.hok.fresh (Zi _);refine ⟨.ref s1.heap.objs.size,upd H1 s1.heap.objs.size (.tup xs),I1.laid (t':=s1.toks) (λ b u e=>Heap.get?_push_of_some _ e) (Zi _) ?_,rfl,q _ hf⟩;exact ⟨z,us,r,⟨_,Heap.get?_push_size _ rfl,rfl,_,rfl⟩⟩
theorem Ak (h:PA X es t):PE X (.List es pos) (NO t):=by
 intro pins s σ H Q I hq;refine wpAny_List_spliced (thn (h pos pins s σ H _ I hq) λ us s1 ⟨xs,H1,I1,r,z,q⟩=>⟨by rw [<- r.length]; exact z,?_⟩);have hf:H1 s1.heap.objs.size=none:=I1.hok.fresh (Zi _);refine ⟨.ref s1.heap.objs.size,upd H1 s1.heap.objs.size (.lst xs),I1.laid (t':=s1.toks) (λ b u e=>Heap.get?_push_of_some _ e) (Zi _) ?_,rfl,q _ hf⟩;exact ⟨z,us,0,r,Heap.get?_push_size _ rfl⟩
end
abbrev Sp:=List V->Hp->VK->XK->Prop
abbrev CXT:=List Env->Hp->Shared->XK->Value->Shared->Prop
structure D0 (P:Program) (w:World) (K:W.Frag) (mg:Str->Option Value) (base:Heap) (A:Around) (outer:List Env) (s:Shared) (H:Hp):Prop where
 frames:A.frames=some outer
 mod:Mod K mg base
 bs:∀ b o,base.get? b=some o->s.heap.get? b=some o/\H b=none
 bsz:base.objs.size<=s.heap.objs.size
 tX:s.heap.FunFrames base outer
 frf:∀ b ∈ frs outer,H b=none
 hok:HOk P w H s.heap
 bare:AllBare s.gens
def CE (outer:List Env) (P:Program) (w:World) (H:Hp) (s:Shared) (Q:VK) (u:Value) (s':Shared):Prop :=
 ∃ v H',s'.os=s.os/\AllBare s'.gens/\Un (frs outer) [] H H' s.heap s'.heap/\HOk P w H' s'.heap/\RelV v u/\Q v H'
def CR (CX:CXT) (outer:List Env) (P:Program) (w:World) (H:Hp) (s:Shared) (Q:VK) (E:XK) (r:Result) (s':Shared):Prop :=
 match r with
 | .ok (.ret u)=>CE outer P w H s Q u s'
 | .ok _=>False
 | .error e=>CX outer H s E e s'
structure fj (P:Program) (w:World) (K:W.Frag) (mg:Str->Option Value) (base:Heap) (CX:CXT) (k:Nat) (f:Addr) (fd:FuncData) (ps:List Str) (sp:Sp):Prop where
 len:∀ vs H Q E,sp vs H Q E->vs.length=ps.length
 run:∀ (A:Around) (outer:List Env) (s:Shared) (H:Hp) (args:Args) (us:List Value) (vs:List V) (Q:VK) (E:XK),dQ k A->D0 P w K mg base A outer s H->BindsTo s fd args (ps.zip us)->bH vs us->sp vs H Q E ->
  codeAny (model P w) A (.call (.ref f) args) (CR CX outer P w H s Q E) s
theorem fj.mono {P:Program} {w:World} {K:W.Frag} {mg:Str->Option Value} {base:Heap} {CX:CXT} {j k:Nat} {f:Addr} {fd:FuncData} {ps:List Str} {sp:Sp} (F:fj P w K mg base CX j f fd ps sp) (h:j<=k) :
 fj P w K mg base CX k f fd ps sp:=⟨F.len,λ A outer s H args us vs Q E hr=>F.run A outer s H args us vs Q E (hr.mono h)⟩
theorem fj.imp {P:Program} {w:World} {K:W.Frag} {mg:Str->Option Value} {base:Heap} {CX:CXT} {k:Nat} {f:Addr} {fd:FuncData} {ps:List Str} {sp sp':Sp} (F:fj P w K mg base CX k f fd ps sp)
  (h:∀ vs H Q E,sp' vs H Q E->sp vs H Q E):fj P w K mg base CX k f fd ps sp' :=
 ⟨λ vs H Q E q=>F.len vs H Q E (h _ _ _ _ q),λ A outer s H args us vs Q E hr he hb hv hs=>F.run A outer s H args us vs Q E hr he hb hv (h _ _ _ _ hs)⟩
theorem D0.make {P:Program} {w:World} {K:W.Frag} {mg:Str->Option Value} {base:Heap} {A:Around} {outer:List Env} {s:Shared} {H:Hp} (e:D0 P w K mg base A outer s H) (C:Addr) (us:List Value) (kw:List (Str×Value)) :
 D0 P w K mg base (A.under (.builtin "type.__call__" ⟨.ref C::us,kw⟩)) outer s H:=⟨by first | exact e.frames | (simpa [Around.under,Code.envs,Code.isFrame,pushEnvs] using e.frames),e.mod,e.bs,e.bsz,e.tX,e.frf,e.hok,e.bare⟩
section
variable {X:Cx} {pins:List (Addr×Obj)} {σ:St} {H:Hp} {s s':Shared}
theorem Inv.NF (I:Inv X pins σ H s):D0 X.prog X.w X.K X.mg X.base X.A X.stack s H :=
 ⟨I.ok.frames,I.ok.mod,I.bs,Z3 I.ok.bsz I.sz,I.stack,I.uk,I.hok,I.bare⟩
theorem Inv.after (I:Inv X pins σ H s) (h:CE X.stack X.prog X.w H s Q u s'):EP X pins σ Q u s':=by
 obtain ⟨v,H',os,bare,un,hok,r,q⟩:=h;obtain ⟨hh,g,d,t,os'⟩:=s';obtain rfl:os'=s.os:=os;exact ⟨v,H',I.call (h':=hh) (g':=g) (d':=d) (t':=t) (ch:=[]) un hok bare (λ b z=>absurd z (by simp)),r,q⟩
end
def Bd (sp:Sp) (dvs:List V) (E:XK) (t:TA):TE:=λ σ H Q=>t σ H λ vs H1=>sp (vs++dvs) H1 Q E
def EA (C:Addr) (m:Str) (sp:Sp) (dvs:List V) (E:XK) (ta:TE) (t:TA):TE:=λ σ H Q=>ta σ H λ x H1=>∃ a dx fs,x=.ref a/\H1 a=some (.ins C dx fs)/\fs.lookup m=none /\
 t σ H1 λ vs H2=>sp (x::(vs++dvs)) H2 Q E
def Jm (C:Addr) (sp:Sp) (dvs:List V) (E:XK) (t:TA):TE:=λ σ H Q=>t σ H λ vs H1=>∀ x dx,H1 x=none->H1 dx=none->dx≠x ->
 sp (.ref x::(vs++dvs)) (upd (upd H1 dx (.own x)) x (.ins C dx [])) (λ v H2=>v=.non/\Q (.ref x) H2) E
def Binds (K:W.Frag) (fd:FuncData) (ps:List Str) (ds:List Value):Prop :=
 ∀ (s:Shared) (us:List Value),K.In s.heap->(us++ds).length=ps.length->BindsTo s fd ⟨us,[]⟩ (ps.zip (us++ds))
theorem Binds.all {K:W.Frag} {fd:FuncData} {ps:List Str} (h:∀ us:List Value,us.length=ps.length->bindArgs fd ⟨us,[]⟩=pure (ps.zip us)):Binds K fd ps []:=λ s us _ hl=>by
 rw [Z2] at hl ⊢;exact .of_eq (h us hl)
def lU (CX:CXT) (X:Cx) (E:XK):Prop:=∀ (pins:List (Addr×Obj)) (σ:St) (H:Hp) (s:Shared) (e:Value) (s':Shared),Inv X pins σ H s->CX X.stack H s E e s'->X.xe e s'
section
variable {X:Cx} {CX:CXT} {k:Nat} {f C:Addr} {fd:FuncData} {ps:List Str} {sp:Sp} {dvs:List V} {ds:List Value} {E:XK} {x m:Str} {p pos apos:Pos} {e o:Expr} {es:List Expr} {ta:TE} {t:TA}
theorem Ab (F:fj X.prog X.w X.K X.mg X.base CX k f fd ps sp) (hr:dQ k X.A) (hb:Binds X.K fd ps ds) (hd:bH dvs ds) (hx:lU CX X E)
  (I:Inv X pins σ H s) (r:bH vs us) (h:sp (vs++dvs) H Q E):wpAny (model X.prog X.w) X.A (call (.ref f) us) (EP X pins σ Q) X.xe s:=by
 have r2:bH (vs++dvs) (us++ds):=r.append hd;have hl:(us++ds).length=ps.length:=by rw [<- r2.length]; exact F.len _ _ _ _ h
 refine wpAny_call (codeAny_mono (F.run X.A X.stack s H ⟨us,[]⟩ (us++ds) (vs++dvs) Q E hr I.NF (hb s us I.kIn hl) r2 h) λ r s' hq=>?_)
 cases r with
 | error e=>exact hx pins σ H s e s' I hq
 | ok fl =>
  cases fl with
  | ret u=>exact I.after hq
  | next=>exact False.elim hq
  | brk=>exact False.elim hq
  | cont=>exact False.elim hq
theorem fu (F:fj X.prog X.w X.K X.mg X.base CX k f fd ps sp) (hr:dQ k X.A) (hg:Gl X x) (hm:X.mg x=some (.ref f)) (hk:W.keepIn X.K (.ref f)=true) (hb:Binds X.K fd ps ds) (hd:bH dvs ds) (hx:lU CX X E)
  (ha:PA X (e::es) t) (hdb:(x == ("__debug__":Str))=false:=by decide) (he:starEach (e::es) X.env=(false,eval e X.env)::starEach es X.env:=by rfl) (hpl:(backTo pos (starEach es X.env)).any (·.1)=false:=by rfl) :
  PE X (.Call (.Name x p) (e::es) [] pos) (Bd sp dvs E t):=by
 intro pins s σ H Q I h;refine Y7 (pM I hg hm ?_ hdb);refine PySem.W.callWith_K (h₀:=X.base) I.ok.mod.kin hk (thn (ha pos pins s σ H _ I h) λ us s1 ⟨vs,H1,I1,r,q⟩=>⟨I1.kIn,?_⟩) he hpl;exact Ab F hr hb hd hx I1 r q
theorem vj (he:PE X o ta) (c:Cls X.K C) (hm:El X.K C m f) (F:fj X.prog X.w X.K X.mg X.base CX k f fd ps sp) (hr:dQ k X.A) (hb:Binds X.K fd ps ds) (hd:bH dvs ds) (hx:lU CX X E) (ha:PA X (e::es) t)
  (hst:starEach (e::es) X.env=(false,eval e X.env)::starEach es X.env:=by rfl) (hpl:(backTo pos (starEach es X.env)).any (·.1)=false:=by rfl)
  (ht:eval (.Call (.Attribute o m apos) (e::es) [] pos) X.env=(do
    let ov <- eval o X.env
    standAt apos.atName
    let (f,first) <- holding [ov] (getMethod ov m pl)
    callWith pos f first (backTo pos (starEach (e::es) X.env)) (backToKw pos (keywordEach [] X.env))):=by rfl) :
  PE X (.Call (.Attribute o m apos) (e::es) [] pos) (EA C m sp dvs E ta t):=by
 intro pins s σ H Q I h;refine PySem.W.methodCall_KW (pl:=pl) (thn (he pins s σ H _ I h) λ u s1 ⟨x,H1,I1,rx,a,dx,fs,ex,ea,l,q⟩=>?_) ht;subst ex;obtain rfl:u=Value.ref a:=rx;refine tf I1 ea c hm l ?_
 refine PySem.W.callWith_K (first:=[.ref a]) (h₀:=X.base) I.ok.mod.kin hm.kp (thn (ha pos pins s1 σ H1 _ I1 q) λ us s2 ⟨vs,H2,I2,r,q2⟩=>⟨I2.kIn,?_⟩) hst hpl;exact Ab (us:=.ref a::us) (vs:=.ref a::vs) F hr hb hd hx I2 (.cons rfl r) q2
structure Mk (K:W.Frag) (C f:Addr):Prop where
 makes:PySem.W.makesIn K C=true
 init:W.findIn K (.ref C) "__init__"=some (some (.ref f))
 fn:PySem.W.isFn K (.ref f)=true
 kp:W.keepIn K (.ref C)=true
theorem xZ (M:Mk X.K C f) (F:fj X.prog X.w X.K X.mg X.base CX k f fd ps sp) (hr:dQ (k+1) X.A) (hb:Binds X.K fd ps ds) (hd:bH dvs ds)
  (hx:lU CX X E) (I:Inv X pins σ H s) (r:bH vs us)
  (h:∀ x dx,H x=none->H dx=none->dx≠x->sp (.ref x::(vs++dvs)) (upd (upd H dx (.own x)) x (.ins C dx [])) (λ v H2=>v=.non/\Q (.ref x) H2) E) :
  wpAny (model X.prog X.w) X.A (call (.ref C) us) (EP X pins σ Q) X.xe s:=by
 have hq:=h (s.heap.objs.size+1) s.heap.objs.size (I.hok.fresh (Nat.le_succ _)) (I.hok.fresh (Zi _)) (Zx (Xu _));have I2:=Inv.made (C:=C) I;have r2:bH (V.ref (s.heap.objs.size+1)::(vs++dvs)) (Value.ref (s.heap.objs.size+1)::(us++ds)):=.cons rfl (r.append hd)
 have hl:(Value.ref (s.heap.objs.size+1)::us++ds).length=ps.length:=by
  have e:=r2.length;rw [F.len _ _ _ _ hq] at e;exact e.symm
 refine wpAny_call (yV (f:=f) I.kIn M.makes M.init (beq_iff_eq.mp M.fn) (codeAny_mono (F.run _ X.stack _ _ ⟨Value.ref (s.heap.objs.size+1)::us,[]⟩ (Value.ref (s.heap.objs.size+1)::(us++ds)) _ _ E (hr.make C us [])
  (I2.NF.make C us []) (hb _ (Value.ref (s.heap.objs.size+1)::us) I2.kIn hl) r2 hq) λ r s' hq'=>?_))
 cases r with
 | error e=>exact hx pins σ _ _ e s' I2 hq'
 | ok fl =>
  cases fl with
  | ret u =>
   obtain ⟨v,H',I3,rv,ev,q3⟩:=I2.after hq';subst ev;exact ⟨rv,⟨V.ref (s.heap.objs.size+1),H',I3,rfl,q3⟩⟩
  | next=>exact False.elim hq'
  | brk=>exact False.elim hq'
  | cont=>exact False.elim hq'
theorem vk (M:Mk X.K C f) (F:fj X.prog X.w X.K X.mg X.base CX k f fd ps sp) (hr:dQ (k+1) X.A) (hg:Gl X x) (hm:X.mg x=some (.ref C)) (hb:Binds X.K fd ps ds) (hd:bH dvs ds) (hx:lU CX X E)
  (ha:PA X (e::es) t) (hdb:(x == ("__debug__":Str))=false:=by decide) (he:starEach (e::es) X.env=(false,eval e X.env)::starEach es X.env:=by rfl) (hpl:(backTo pos (starEach es X.env)).any (·.1)=false:=by rfl) :
  PE X (.Call (.Name x p) (e::es) [] pos) (Jm C sp dvs E t):=by
 intro pins s σ H Q I h;refine Y7 (pM I hg hm ?_ hdb);refine PySem.W.callWith_K (h₀:=X.base) I.ok.mod.kin M.kp (thn (ha pos pins s σ H _ I h) λ us s1 ⟨vs,H1,I1,r,q⟩=>⟨I1.kIn,?_⟩) he hpl;exact xZ M F hr hb hd hx I1 r q
end
structure dF (N P:List Str) (sc:Scope):Prop where
 kind:sc.kind=.function
 co:sc.isCoroutine=false
 gen:sc.isGenerator=false
 nd:N.Nodup
 pre:N.take P.length=P
 par:∀ x ∈ P,sc.names.lookup x=some .local\/sc.names.lookup x=some .cell
 Ga:∀ y ∈ sc.names,y.2≠.free
theorem oy {kindOf:Str->Option NameKind} {x:Str}:∀ {binds:List (Str×Value)} {m:Str->Option Value},(∀ v,(x,v) ∉ binds)->bindL kindOf binds m x=m x
 | [],_,_=>rfl
 | (n,v)::r,m,h=>by
  unfold bindL;rw [oy λ w hw=>h w (Zd _ hw)];split
  ·have:x≠n:=by rintro rfl; exact h v Ze
   simp [this]
  · rfl
theorem oA {kindOf:Str->Option NameKind} {x:Str}:∀ {binds:List (Str×Value)} {m:Str->Option Value},(∀ v,(x,v) ∉ binds)->bindC kindOf binds m x=m x
 | [],_,_=>rfl
 | (n,v)::r,m,h=>by
  unfold bindC;rw [oA λ w hw=>h w (Zd _ hw)];split
  · rfl
  ·have:x≠n:=by rintro rfl; exact h v Ze
   simp [this]
theorem oz {kindOf:Str->Option NameKind} {x:Str} {v:Value}:∀ {P:List Str} {vs:List Value} {i:Nat} {m:Str->Option Value},P.Nodup->P[i]?=some x->vs[i]?=some v->kindOf x=some .local ->
  bindL kindOf (P.zip vs) m x=some v
 | [],_,_,_,_,h,_,_=>by simp at h
 | _::_,[],_,_,_,_,h,_=>by simp at h
 | p::P,w::vs,0,m,nd,h1,h2,hk=>by
  simp at h1 h2; subst h1; subst h2
  show bindL kindOf ((p,w)::P.zip vs) m p=_;unfold bindL;rw [oy λ v hv=>(Zv.mp nd).1 (List.of_mem_zip hv).1,if_pos hk];simp
 | p::P,w::vs,i+1,m,nd,h1,h2,hk=>by
  show bindL kindOf ((p,w)::P.zip vs) m x=_;unfold bindL;exact oz (i:=i) (Zv.mp nd).2 (by simpa using h1) (by simpa using h2) hk
theorem oB {kindOf:Str->Option NameKind} {x:Str} {v:Value}:∀ {P:List Str} {vs:List Value} {i:Nat} {m:Str->Option Value},P.Nodup->P[i]?=some x->vs[i]?=some v->kindOf x≠some .local ->
  bindC kindOf (P.zip vs) m x=some v
 | [],_,_,_,_,h,_,_=>by simp at h
 | _::_,[],_,_,_,_,h,_=>by simp at h
 | p::P,w::vs,0,m,nd,h1,h2,hk=>by
  simp at h1 h2; subst h1; subst h2
  show bindC kindOf ((p,w)::P.zip vs) m p=_;unfold bindC;rw [oA λ v hv=>(Zv.mp nd).1 (List.of_mem_zip hv).1,if_neg hk];simp
 | p::P,w::vs,i+1,m,nd,h1,h2,hk=>by
  show bindC kindOf ((p,w)::P.zip vs) m x=_;unfold bindC;exact oB (i:=i) (Zv.mp nd).2 (by simpa using h1) (by simpa using h2) hk
def start (N:List Str) (vs:List V):St:=vs.map some++List.replicate (N.length - vs.length) none
def zI (CX:CXT) (P:Program) (w:World) (K:W.Frag) (mg:Str->Option Value) (base:Heap) (N:List Str) (qual:Str) (scope:Scope) (f:Addr) (cd:Value) (A:Around) (outer:List Env) (s:Shared) (H:Hp) (E:XK):Cx where
 prog:=P
 w:=w
 K:=K
 mg:=mg
 base:=base
 A:=A.deeper (envOfC qual scope s.heap.objs.size f cd)
 N:=N
 s₀:=s
 H₀:=H
 env:=envOfC qual scope s.heap.objs.size f cd
 outer:=outer
 stack:=envOfC qual scope s.heap.objs.size f cd::outer
 ex:=[]
 calm:=true
 fn:=λ _=>true
 pn:=[]
 xe:=λ e s'=>wpAny (model P w) (A.deeper (envOfC qual scope s.heap.objs.size f cd)) (leaving (envOfC qual scope s.heap.objs.size f cd) e) (λ _ s''=>CX outer H s E e s'') (λ e' s''=>CX outer H s E e' s'') s'
theorem rV {sc:Scope} {n:Nat} {x:Str} (h:sc.names.lookup x=some .cell):∃ c,(cellsFrom n sc.names []).lookup x=some c:=by
 have q:=PySem.W.cellsFrom_some sc.names n [] (.inl h);exact Y1.mp q
theorem wy {CX:CXT} {P:Program} {w:World} {K:W.Frag} {mg:Str->Option Value} {base:Heap} {N ps:List Str} {qual:Str} {scope:Scope} {f:Addr} {cd:Value} {A:Around} {outer:List Env} {s s1:Shared} {H:Hp} {E:XK} {us:List Value} {vs:List V}
  (S:dF N ps scope) (hd:A.handled=none) (e0:D0 P w K mg base A outer s H) (hl:vs.length=ps.length) (r:bH vs us)
  (x:InCallC s s.heap.objs.size (bindL (envOfC qual scope s.heap.objs.size f cd).kindOf (ps.zip us) λ _=>none) (cellsFrom (s.heap.objs.size+1) scope.names []) (bindC (envOfC qual scope s.heap.objs.size f cd).kindOf (ps.zip us) λ _=>none) s1) :
  Inv (zI CX P w K mg base N qual scope f cd A outer s H E) [] (start N vs) H s1:=by
 have hpl:ps.length<=N.length:=by have:=Yl List.length S.pre; rw [Yg] at this; omega
 obtain ⟨h1,tk,rfl,hk⟩:=x.done;have noA:∀ b:Addr,b ∉ (zI CX P w K mg base N qual scope f cd A outer s H E).ex:=λ b z=>absurd (show b ∈ ([]:List Addr) from z) (by simp)
 refine ⟨⟨e0.mod,S.kind,rfl,rfl,Zi _,λ y z c h1 h2=>?_,λ y hy=>?_,λ y c _ h=>?_,λ _=>hd,Around.frames_deeper e0.frames,.inr ⟨rfl,rfl⟩,λ b z=>absurd z (noA b),e0.bs,e0.bsz,λ b _ _=>noA b,λ b z=>absurd z (noA b),e0.tX,e0.frf⟩,
  rfl,e0.bare,Un.kept hk,⟨_,x.toInCall.ns,λ i y v h1 h2 h3=>?_⟩,λ y c h=>⟨_,x.cell y c h⟩,e0.hok.fresh (Zi _),λ y c h=>?_,λ p hp=>absurd (show p ∈ ([]:List (Addr×Obj)) from hp) (by simp),e0.hok.kept hk,?_⟩
 · exact name_of_addr x.apart (Yq h1) (Yq h2)
 ·have hy:scope.names.lookup y=some .cell\/scope.names.lookup y=some .free:=hy
  rcases hy with hy | hy
  · exact rV hy
  · exact absurd rfl (S.Ga _ (Yq hy))
 · exact Y0 (x.above y c (Yq h))
 ·have hi:i < vs.length:=by
   unfold start at h2
   by_cases hi:i < vs.length
   · exact hi
   ·rw [List.getElem?_append_right (by simpa using hi)] at h2
    rw [List.getElem?_replicate] at h2;split at h2 <;> cases h2
  have ha:vs[i]?=some v:=by
   unfold start at h2;rw [List.getElem?_append_left (by simpa using hi),List.getElem?_map] at h2
   cases e:vs[i]? with
   | none=>rw [e] at h2; cases h2
   | some a=>rw [e] at h2; cases h2; rfl
  obtain ⟨u,hu,rv⟩:=r.get ha
  have hp:ps[i]?=some y:=by
   rw [<- S.pre,List.getElem?_take_of_lt (by omega)]; exact h1
  have ndP:ps.Nodup:=by rw [<- S.pre]; exact S.nd.sublist (List.take_sublist _ _)
  refine ⟨u,rv,?_⟩;rcases S.par y (List.mem_of_getElem? hp) with k | k
  · exact .inl ⟨k,oz ndP hp hu k⟩
  ·obtain ⟨c,e⟩:=rV (n:=s.heap.objs.size+1) k
   refine .inr ⟨.inl k,c,e,?_⟩;have q:=x.cell y c e;rw [oB ndP hp hu (by show scope.names.lookup y≠_; rw [k]; decide)] at q;exact q
 · exact e0.hok.fresh (Y0 (x.above y c (Yq h)))
 ·unfold start
  show _=N.length;rw [Zt,Za,List.length_replicate];omega
theorem Mh {CX:CXT} {P:Program} {w:World} {K:W.Frag} {mg:Str->Option Value} {base:Heap} {k:Nat} {f:Addr} {name qual:Str} {params:Arguments} {body:List Stmt} {scope:Scope} {dV kV doc pm cdv ct oc:Value} {an od:Option Addr}
  {osl:Array (Option Value)} {N ps:List Str} {sp:Sp} (lk:K.lookup f=some ⟨oc,od,.func (PySem.W.fnOf name qual params body scope dV kV doc pm an cdv ct),osl⟩) (hcd:PySem.W.codeIn K cdv qual=true) (S:dF N ps scope)
  (len:∀ vs H Q E,sp vs H Q E->vs.length=ps.length)
  (hbody:∀ (A:Around) (outer:List Env) (s:Shared) (H:Hp) (vs:List V) (Q:VK) (E:XK),dQ k (A.deeper (envOfC qual scope s.heap.objs.size f cdv))->sp vs H Q E ->
    ∃ t,PSs (zI CX P w K mg base N qual scope f cdv A outer s H E) body t/\t { nx:=λ _ H'=>Q .non H',rt:=Q } (start N vs) H) :
  fj P w K mg base CX (k+1) f (PySem.W.fnOf name qual params body scope dV kV doc pm an cdv ct) ps sp:=by
 refine ⟨len,λ A outer s H args us vs Q E hr e0 hb r hsp=>?_⟩;have hl:=len _ _ _ _ hsp;have KX:K.In s.heap:=e0.mod.kin.keeps λ b o e=>(e0.bs b o e).1
 have lim:s.heap.NoLimit:=e0.mod.nolimit.keeps λ b o e=>(e0.bs b o e).1
 have hkind:∀ y ∈ ps.zip us,scope.names.lookup y.1=some .local\/(scope.names.lookup y.1=some .cell/\((cellsFrom (s.heap.objs.size+1) scope.names []).lookup y.1).isSome=true):=λ ⟨n,v⟩ hy=>by
  rcases S.par n (List.of_mem_zip hy).1 with q | q
  · exact .inl q
  · exact .inr ⟨q,PySem.W.cellsFrom_some _ _ _ (.inl q)⟩
 refine codeAny_call_function hr.depth (KX _ _ lk) rfl S.co S.gen rfl (PySem.W.codeRec_of KX hcd) (hb _ _ _ _ ?_);refine wpAny_newFunctionEnv_cells S.kind hkind λ env he s1 x=>?_
 subst he;refine ⟨lim.keeps x.toInCall.keep,codeAny_func ?_⟩;obtain ⟨t,ht,hq⟩:=hbody A outer s H vs Q E (hr.deeper _) hsp;have I:Inv (zI CX P w K mg base N qual scope f cdv A outer s H E) [] (start N vs) H s1:=wy S hr.hd e0 hl r x;refine Ys (ht [] s1 (start N vs) H _ I hq) (λ fl s' hs=>?_) λ e s' hs=>hs
 have fin:∀ {σ':St} {H':Hp} {v:V} {u:Value},Inv (zI CX P w K mg base N qual scope f cdv A outer s H E) [] σ' H' s'->RelV v u->Q v H'->CE outer P w H s Q u s' :=
  λ {σ' H' v u} J rv q=>⟨v,H',J.os,J.bare,J.base,J.hok,rv,q⟩
 cases fl with
 | ret u =>
  obtain ⟨v,σ',H',J,rv,q⟩:=hs;exact fin J rv q
 | next =>
  obtain ⟨σ',H',J,q⟩:=hs;exact fin (v:=V.non) (u:=Value.none) J rfl q
 | brk =>
  obtain ⟨_,_,_,q⟩:=hs;exact False.elim q
 | cont =>
  obtain ⟨_,_,_,q⟩:=hs;exact False.elim q
end L2
namespace L2
open PySem PySem.Spec PyProof.Rows
section
variable {X:Cx} {x:Str} {p pos:Pos} {e:Expr} {es:List Expr} {t:TA} {id T:String} {r:List V->Hp->VK->Prop}
def tCB (r:List V->Hp->VK->Prop) (t:TA):TE:=λ σ H Q=>t σ H λ vs H1=>r vs H1 Q
theorem qM (hc:ee X (.builtin id) r) (hg:Gl X x) (hm:X.mg x=none) (hv:bootBuiltins x=some (.builtin id)) (ha:PA X (e::es) t) (hn:x≠"__name__":=by decide) (hdb:(x == ("__debug__":Str))=false:=by decide)
  (he:starEach (e::es) X.env=(false,eval e X.env)::starEach es X.env:=by rfl) (hpl:(backTo pos (starEach es X.env)).any (·.1)=false:=by rfl):PE X (.Call (.Name x p) (e::es) [] pos) (tCB r t):=by
 intro pins s σ H Q I h;refine Y7 (iZ I hg hm hv ?_ hn hdb);exact PyProof.Rows.callWith_builtin1 (thn (ha pos pins s σ H _ I h) λ us s1 ⟨vs,H1,I1,r1,q1⟩=>hc pins s1 σ H1 vs us Q I1 r1 q1) he hpl
theorem m8 (hc:ee X (.type T) r) (hg:Gl X x) (hm:X.mg x=none) (hv:bootBuiltins x=some (.type T)) (ha:PA X (e::es) t) (hn:x≠"__name__":=by decide) (hdb:(x == ("__debug__":Str))=false:=by decide)
  (he:starEach (e::es) X.env=(false,eval e X.env)::starEach es X.env:=by rfl) (hpl:(backTo pos (starEach es X.env)).any (·.1)=false:=by rfl):PE X (.Call (.Name x p) (e::es) [] pos) (tCB r t):=by
 intro pins s σ H Q I h;refine Y7 (iZ I hg hm hv ?_ hn hdb);exact Yt (thn (ha pos pins s σ H _ I h) λ us s1 ⟨vs,H1,I1,r1,q1⟩=>hc pins s1 σ H1 vs us Q I1 r1 q1) he hpl
end
end L2
namespace HT
open PySem PyProof.Rows
section
variable {prog:Program} {w:World} {A:Around} {E:Value->Shared->Prop} {s:Shared}
def sIx (n d:Nat):Option Int->Nat
 | none=>d
 | some v=>if v < 0 then (v+(n:Int)).toNat else min v.toNat n
theorem qD (n d:Nat):sIx n d none=d:=rfl
theorem oX (n d k:Nat):sIx n d (some (k:Int))=min k n:=by
 show (if (k:Int) < 0 then ((k:Int)+(n:Int)).toNat else min (k:Int).toNat n)=min k n;rw [if_neg (by omega),Int.toNat_natCast]
end
end HT
namespace L2
open PySem PySem.Spec PyProof.Rows
abbrev TO:=St->Hp->(Option Int->Hp->Prop)->Prop
def PO (X:Cx) (e:Option Expr) (t:TO):Prop :=
  ∀ (pins:List (Addr×Obj)) (s:Shared) (σ:St) (H:Hp) (Q:Option Int->Hp->Prop),Inv X pins σ H s->t σ H Q ->
    wpAny (model X.prog X.w) X.A (evalPart e X.env) (λ u s'=>∃ o H',Inv X pins σ H' s'/\IsPart u o/\Q o H') X.xe s
def A8:TO:=λ _ H Q=>Q none H
def Ji (t:TE):TO:=λ σ H Q=>t σ H λ x H1=>∃ i,x=.int i/\Q (some i) H1
section
variable {X:Cx} {e:Expr} {te:TE} {lo hi:Option Expr} {tl th:TO} {pos p2:Pos}
theorem BL:PO X none A8:=by
 intro pins s σ H Q I h;rw [evalPart_none];exact Z7 ⟨none,H,I,.none,h⟩
theorem BK (h:PE X e te):PO X (some e) (Ji te):=by
 intro pins s σ H Q I hw;rw [evalPart_some];refine thn (h pins s σ H _ I hw) λ u s1 ⟨x,H1,I1,r1,q1⟩=>?_
 obtain ⟨i,rfl,q⟩:=q1;obtain ⟨t,rfl⟩:=r1;exact ⟨some i,H1,I1,.int i t,q⟩
def SlR (X:Cx) (r:V->Option Int->Option Int->Hp->VK->Prop):Prop :=
  ∀ (pins:List (Addr×Obj)) (s:Shared) (σ:St) (H:Hp) (x:V) (v vl vu:Value) (lo hi:Option Int) (sl:Addr) (Q:VK),Inv X pins σ H s->RelV x v->s.heap.IsSliceOf sl vl vu .none->IsPart vl lo->IsPart vu hi->r x lo hi H Q ->
    ∃ T id,typeLookup (.type T) "__getitem__"=pure (some (.builtin id))/\s.TypeIs v T/\wpAny (model X.prog X.w) X.A (getItem v (.ref sl)) (EP X pins σ Q) X.xe s
def tSl (r:V->Option Int->Option Int->Hp->VK->Prop) (te:TE) (tl th:TO):TE:=λ σ H Q=>te σ H λ x H1=>tl σ H1 λ l H2=>th σ H2 λ u H3=>r x l u H3 Q
theorem qJ (hr:SlR X r) (he:PE X e te) (hl:PO X lo tl) (hu:PO X hi th):PE X (.Subscript e (.Slice lo hi none p2) pos) (tSl r te tl th):=by
 intro pins s σ H Q I h;refine Subscript_ (thn (he pins s σ H _ I h) λ v s1 ⟨x,H1,I1,r1,q1⟩=>?_);refine wpAny_Slice (thn (hl pins s1 σ H1 _ I1 q1) λ vl s2 ⟨l,H2,I2,pl,q2⟩=>thn (hu pins s2 σ H2 _ I2 q2) λ vu s3 ⟨u,H3,I3,pu,q3⟩=>?_);rw [evalPart_none];refine Z7 ?_
 have I4:Inv X pins σ H3 { s3 with heap:=s3.heap.push { cls:=.type "slice",data:=.fields #[vl,vu,.none] } }:=I3.kept (t':=s3.toks) λ b ob q=>Heap.get?_push_of_some _ q
 obtain ⟨T,id,hT,ht,hg⟩:=hr pins { s3 with heap:=s3.heap.push { cls:=.type "slice",data:=.fields #[vl,vu,.none] } } σ H3 x v vl vu l u s3.heap.objs.size Q I4 r1 (Heap.IsSliceOf.new ..) pl pu q3;show wpAny (model X.prog X.w) X.A (subscriptTail e (.Slice lo hi none p2) v (.ref s3.heap.objs.size)) (EP X pins σ Q) X.xe { s3 with heap:=s3.heap.push { cls:=.type "slice",data:=.fields #[vl,vu,.none] } };exact tail_any (ops:=[.ref s3.heap.objs.size,v]) ht hT hg (by with_unfolding_all rfl)
def Ej (xs:List V) (lo hi:Option Int):List V:=(xs.drop (HT.sIx xs.length 0 lo)).take (HT.sIx xs.length xs.length hi - HT.sIx xs.length 0 lo)
theorem qc (xs:List V) (lo hi:Option Int):(Ej xs lo hi).length<=xs.length:=by
 unfold Ej;rw [Yg,Yz];omega
end
end L2
namespace L2
open PySem PySem.Spec PyProof.Rows
def ixN (n:Nat) (i:Int):Option Nat:=if 0<=i then (if i < n then some i.toNat else none) else if -(n:Int)<=i then some (i+n).toNat else none
def atI {α:Type} (xs:List α) (i:Int):Option α:=(ixN xs.length i).bind λ j=>xs[j]?
theorem Dl (h:ixN n i=some j):seqIndex? i n=some j/\j < n/\-(n:Int)<=i/\i < n:=by
 unfold ixN at h
 by_cases h0:0<=i
 ·rw [if_pos h0] at h
  by_cases h1:i < n
  ·rw [if_pos h1] at h
   have e:i.toNat=j:=Zj h;exact ⟨by rw [seqIndex_of h0 h1,e],by omega,by omega,h1⟩
  · rw [if_neg h1] at h; cases h
 ·rw [if_neg h0] at h
  by_cases h1:-(n:Int)<=i
  ·rw [if_pos h1] at h
   have e:(i+n).toNat=j:=Zj h;exact ⟨by rw [seqIndex_neg (by omega) h1,e],by omega,h1,by omega⟩
  · rw [if_neg h1] at h; cases h
theorem qo {α:Type} {xs:List α} {v:α} (h:atI xs i=some v):∃ j,seqIndex? i xs.length=some j/\xs[j]?=some v/\j < xs.length/\-(xs.length:Int)<=i/\i < xs.length:=by
 unfold atI at h
 cases e:ixN xs.length i with
 | none=>rw [e] at h; cases h
 | some j =>
  rw [e] at h;obtain ⟨h1,h2,h3,h4⟩:=Dl e;exact ⟨j,h1,h,h2,h3,h4⟩
theorem iG {α:Type} {xs:List α} {j:Nat} {v:α} (h:xs[j]?=some v):atI xs (j:Int)=some v:=by
 have hj:j < xs.length:=(List.getElem?_eq_some_iff.mp h).1
 have e:ixN xs.length (j:Int)=some j:=by
  unfold ixN;rw [if_pos (by omega),if_pos (by omega)]; simp
 unfold atI; rw [e]; exact h
def qr (b:Expr):Prop:=∀ o i,subscripted b false o i=operate [o,i] (getItem o i)
def IxR (X:Cx) (r:R2):Prop :=
  ∀ (value slice:Expr) (pins:List (Addr×Obj)) (s:Shared) (σ:St) (H:Hp) (x y:V) (v u:Value) (Q:VK),Inv X pins σ H s->RelV x v->RelV y u->r x y H Q ->
    subscripted slice false v u=operate [v,u] (getItem v u)->wpAny (model X.prog X.w) X.A (subscriptTail value slice v u) (EP X pins σ Q) X.xe s
def MtR (X:Cx) (id:String) (r:V->List V->Hp->VK->Prop):Prop :=
  ∀ (pins:List (Addr×Obj)) (s:Shared) (σ:St) (H:Hp) (x:V) (xs:List V) (v:Value) (us:List Value) (Q:VK),Inv X pins σ H s->RelV x v->bH xs us->r x xs H Q ->
    wpAny (model X.prog X.w) X.A (call (.builtin id) (v::us)) (EP X pins σ Q) X.xe s
section
variable {X:Cx} {a b:Expr} {ta tb:TE} {pos:Pos}
theorem IxR.or (h:IxR X r) (h':IxR X r'):IxR X (λ x y H Q=>r x y H Q\/r' x y H Q):=by
 intro value slice pins s σ H x y v u Q I rx ry q hs;rcases q with q | q
 · exact h value slice pins s σ H x y v u Q I rx ry q hs
 · exact h' value slice pins s σ H x y v u Q I rx ry q hs
theorem Fe (hr:IxR X r) (ha:PE X a ta) (hb:PE X b tb) (hs:qr b):PE X (.Subscript a b pos) (tOp r ta tb):=by
 intro pins s σ H Q I h;exact Subscript_ (Mx ha hb I h λ v u s2 x y H2 I2 rx ry q=>hr a b pins s2 σ H2 x y v u Q I2 rx ry q (hs _ _))
def Oj (K:W.Frag):R2:=λ x y H Q=>∃ p xs i v,x=.ref p/\y=.int i/\SqL K H p xs/\atI xs i=some v/\Q v H
def Oh (K:W.Frag):R2:=λ x y H Q=>∃ p xs i v,x=.ref p/\y=.int i/\SqT K H p xs/\atI xs i=some v/\Q v H
def Oi:R2:=λ x y H Q=>∃ z i c,x=.str z/\y=.int i/\z.length<=sizeLine/\atI z.cps.toList i=some c/\Q (.str ⟨#[c]⟩) H
theorem wo:IxR X (Oj X.K):=by
 intro value slice pins s σ H x y v u Q I rx ry h hs;obtain ⟨p,xs,i,z,rfl,rfl,hq,he,q⟩:=h;cases rx;obtain ⟨t,rfl⟩:=ry;obtain ⟨its,r,pl,hz⟩:=I.list hq;obtain ⟨j,h1,h2,h3,h4,h5⟩:=qo he;obtain ⟨w,ew,rw'⟩:=r.get h2;have hl:=r.length;have hn:=rg;have fin:EP X pins σ Q w s:=⟨z,H,I,rw',q⟩
 by_cases h0:0<=i
 ·have hj:i.toNat=j:=by
   rw [seqIndex_of h0 h5] at h1;exact Zj h1
  exact item_listR pl.isList h0 (by omega) (by rw [hj]; simpa using ew) fin hs
 ·have hj:(i+(its.toArray.size:Int)).toNat=j:=by
   rw [seqIndex_neg (by omega) h4] at h1;rw [Zs,<- hl];exact Zj h1
  exact subscriptTail_builtinR (x:=w) pl.isList.typeIs slot_list_getitem.lookup
   (wpAny_getItem_list_neg (Q:=λ r s'=>r=w/\EP X pins σ Q r s') pl.isList (by omega) (by rw [Zs] <;> omega) (by omega) (by rw [hj]; simpa using ew) ⟨rfl,fin⟩) hs
theorem GH:IxR X (Oh X.K):=by
 intro value slice pins s σ H x y v u Q I rx ry h hs;obtain ⟨p,xs,i,z,rfl,rfl,hq,he,q⟩:=h;cases rx;obtain ⟨t,rfl⟩:=ry;obtain ⟨its,r,pl,hz⟩:=I.tuple hq;obtain ⟨j,h1,h2,h3,h4,h5⟩:=qo he;obtain ⟨w,ew,rw'⟩:=r.get h2;have hl:=r.length;have hn:=rg;have fin:EP X pins σ Q w s:=⟨z,H,I,rw',q⟩
 exact subscriptTail_builtinR (x:=w) pl.typeIs slot_tuple_getitem.lookup
  (getItem_tuple (j:=j) (Q:=λ r s'=>r=w/\EP X pins σ Q r s') pl (by omega) (by omega) (by rw [Zs,<- hl]; exact h1) (by simpa using ew) ⟨rfl,fin⟩) hs
theorem GI:IxR X Oi:=by
 intro value slice pins s σ H x y v u Q I rx ry h hs;obtain ⟨z,i,c,rfl,rfl,hz,he,q⟩:=h;obtain ⟨t,rfl⟩:=rx;obtain ⟨t',rfl⟩:=ry;obtain ⟨j,h1,h2,h3,h4,h5⟩:=qo he;have hl:z.cps.toList.length=z.length:=by simp [Str.length]
 rw [hl] at h1 h4 h5;have hn:=rg
 exact tail_any (typeIs_str s z t) slot_str_getitem.lookup (getItem_str (c:=c) (by
  have e1:decide (i < -(2 ^ 63:Int))=false:=Zo (by omega);have e2:decide (i ≥ 2 ^ 63)=false:=Zo (by omega)
  rw [e1,e2,Bool.or_false]) (by rw [h1]; simpa using h2) ⟨.str ⟨#[c]⟩,H,I.tok _,⟨_,rfl⟩,q⟩) hs
theorem mZ (lo hi:Option Int) (n:Nat):(sliceBounds lo hi none n).1=((HT.sIx n 0 lo:Nat):Int)/\(sliceBounds lo hi none n).2.1=((HT.sIx n n hi:Nat):Int)/\(sliceBounds lo hi none n).2.2=1:=by
 refine ⟨?_,?_,rfl⟩
 ·cases lo with
  | none=>simp [sliceBounds,HT.sIx]
  | some i =>
   simp only [sliceBounds,HT.sIx,Option.getD_none,show (1:Int) > 0 by decide,if_true]
   by_cases h:i < 0
   · simp only [h,if_true] <;> omega
   · simp only [h,if_false] <;> omega
 ·cases hi with
  | none=>simp [sliceBounds,HT.sIx]
  | some i =>
   simp only [sliceBounds,HT.sIx,Option.getD_none,show (1:Int) > 0 by decide,if_true]
   by_cases h:i < 0
   · simp only [h,if_true] <;> omega
   · simp only [h,if_false] <;> omega
theorem l3 (its:List Value) (lo hi:Option Int):slicePick its.toArray lo hi none=((its.drop (HT.sIx its.length 0 lo)).take (HT.sIx its.length its.length hi - HT.sIx its.length 0 lo)).toArray:=by
 obtain ⟨h1,h2,h3⟩:=mZ lo hi its.toArray.size;unfold slicePick;rw [h1,h2,h3];simp only [sliceRange_one,pick_run,Zs] <;> rfl
def Oc (K:W.Frag):V->Option Int->Option Int->Hp->VK->Prop:=λ x lo hi H Q=>∃ a xs,x=.ref a/\SqL K H a xs/\∀ p,H p=none->Q (.ref p) (upd H p (.lst (Ej xs lo hi)))
theorem Bf:SlR X (Oc X.K):=by
 intro pins s σ H x v vl vu lo hi sl Q I rx hs pl pu h;obtain ⟨a,xs,rfl,hx,q⟩:=h;cases rx;obtain ⟨its,r,ht,hz⟩:=I.list hx;have hlen:=r.length;refine ⟨"list",_,slot_list_getitem.lookup,ht.isList.typeIs,?_⟩;refine wpAny_getItem_list_slice ht.isList hs pl pu .none (by simp) ?_ (by rw [Zs] <;> omega)
 rw [l3,<- hlen];refine ⟨.ref s.heap.objs.size,_,I.laid (t':=s.toks) (o:=.lst (Ej xs lo hi)) (λ b ob q=>Heap.get?_push_of_some _ q) (Zi _) ?_,rfl,q _ (I.hok.fresh (Zi _))⟩;exact ⟨Z3 (qc xs lo hi) hz,_,0,(r.drop (HT.sIx xs.length 0 lo)).take (HT.sIx xs.length xs.length hi - HT.sIx xs.length 0 lo),Heap.get?_push_size _ rfl⟩
def kY:V->Bool
 | .non=>true
 | .bl _=>true
 | .int _=>true
 | .str _=>true
 | _=>false
def eqV:V->V->Bool
 | .non,.non=>true
 | .bl a,.bl b=>a == b
 | .bl a,.int b=>(if a then 1 else 0) == b
 | .int a,.bl b=>a == (if b then 1 else 0)
 | .int a,.int b=>a == b
 | .str a,.str b=>a == b
 | _,_=>false
theorem G4 (ry:RelV y u) (rx:RelV x v) (fy:kY y=true) (fx:kY x=true):SeqAt.EqAt A s u v (eqV y x):=by
 cases y with
 | non =>
  cases ry
  cases x with
  | non=>cases rx; exact SeqAt.EqAt.same _
  | bl b=>cases rx; exact SeqAt.EqAt.none_bool b
  | int b=>obtain ⟨t,rfl⟩:=rx; exact SeqAt.EqAt.none_int b t
  | str b=>obtain ⟨t,rfl⟩:=rx; exact SeqAt.EqAt.none_str b t
  | _=>exact absurd (show false=true from fx) Zf
 | bl a =>
  cases ry
  cases x with
  | non=>cases rx; exact SeqAt.EqAt.bool_none a
  | bl b=>cases rx; exact SeqAt.EqAt.bool_bool a b
  | int b=>obtain ⟨t,rfl⟩:=rx; exact SeqAt.EqAt.bool_int a b t
  | str b=>obtain ⟨t,rfl⟩:=rx; exact SeqAt.EqAt.bool_str a b t
  | _=>exact absurd (show false=true from fx) Zf
 | int a =>
  obtain ⟨t',rfl⟩:=ry
  cases x with
  | non=>cases rx; exact SeqAt.EqAt.int_none a t'
  | bl b=>cases rx; exact SeqAt.EqAt.int_bool a t' b
  | int b=>obtain ⟨t,rfl⟩:=rx; exact SeqAt.EqAt.int_int a t' b t
  | str b=>obtain ⟨t,rfl⟩:=rx; exact SeqAt.EqAt.int_str a t' b t
  | _=>exact absurd (show false=true from fx) Zf
 | str a =>
  obtain ⟨t',rfl⟩:=ry
  cases x with
  | non=>cases rx; exact SeqAt.EqAt.str_none a t'
  | bl b=>cases rx; exact SeqAt.EqAt.str_bool a t' b
  | int b=>obtain ⟨t,rfl⟩:=rx; exact SeqAt.EqAt.str_int a t' b t
  | str b=>obtain ⟨t,rfl⟩:=rx; exact SeqAt.EqAt.str_str a t' b t
  | _=>exact absurd (show false=true from fx) Zf
 | _=>exact absurd (show false=true from fy) Zf
def eqU (x:V) (u:Value):Bool:=match u with
 | .none=>eqV .non x
 | .bool b=>eqV (.bl b) x
 | .int i _=>eqV (.int i) x
 | .str z _=>eqV (.str z) x
 | _=>false
theorem AO (r:RelV y u) (f:kY y=true):eqU x u=eqV y x:=by
 cases y with
 | non=>cases r; rfl
 | bl b=>cases r; rfl
 | int i=>obtain ⟨t,rfl⟩:=r; rfl
 | str z=>obtain ⟨t,rfl⟩:=r; rfl
 | _=>exact absurd (show false=true from f) Zf
theorem kF:∀ {xs:List V} {us:List Value},bH xs us->xs.all kY=true->us.any (eqU x)=xs.any λ y=>eqV y x
 | _,_,.nil,_=>rfl
 | y::xs,u::us,.cons r t,f=>by
  rw [List.all_cons,Yh] at f;rw [Y2,Y2,AO r f.1,kF t f.2]
theorem hU (rx:RelV x v) (fx:kY x=true):∀ {xs:List V} {us:List Value},bH xs us->xs.all kY=true->∀ u ∈ us,SeqAt.EqAt A s u v (eqU x u)
 | _,_,.nil,_=>λ u hu=>by cases hu
 | y::xs,u::us,.cons r t,f=>λ u' hu=>by
  rw [List.all_cons,Yh] at f;rcases Zl.mp hu with rfl | hu
  · rw [AO r f.1]; exact G4 r rx f.1 fx
  · exact hU rx fx t f.2 u' hu
def inV (x:V) (xs:List V):Bool:=xs.any λ y=>eqV y x
def rIn (K:W.Frag) (neg:Bool):R2:=λ x y H Q=>∃ p xs,y=.ref p/\(SqL K H p xs\/SqT K H p xs)/\kY x=true/\xs.all kY=true/\Q (.bl (if neg then !inV x xs else inV x xs)) H
theorem vv:OpR X (compareOp .In) (rIn X.K false):=by
 intro pins s σ H x y v u Q I rx ry h;obtain ⟨p,xs,rfl,hq,fx,fs,q⟩:=h;cases ry;rcases hq with hq | hq
 ·obtain ⟨its,r,pl,hz⟩:=I.list hq
  refine SeqAt.in_listAt (eqU x) pl.isList (λ w hw=>hU rx fx r fs w (by simpa using hw)) ⟨.bl _,H,I,rfl,?_⟩;rw [show its.toArray.any (eqU x)=its.any (eqU x) by simp,kF r fs];exact q
 ·obtain ⟨its,r,pl,hz⟩:=I.tuple hq
  refine SeqAt.in_tupleAt (eqU x) pl (λ w hw=>hU rx fx r fs w (by simpa using hw)) ⟨.bl _,H,I,rfl,?_⟩;rw [show its.toArray.any (eqU x)=its.any (eqU x) by simp,kF r fs];exact q
theorem ni:OpR X (compareOp .NotIn) (rIn X.K true):=by
 intro pins s σ H x y v u Q I rx ry h;obtain ⟨p,xs,rfl,hq,fx,fs,q⟩:=h;cases ry;rcases hq with hq | hq
 ·obtain ⟨its,r,pl,hz⟩:=I.list hq
  refine SeqAt.notIn_listAt (eqU x) pl.isList (λ w hw=>hU rx fx r fs w (by simpa using hw)) ⟨.bl _,H,I,rfl,?_⟩;rw [show its.toArray.any (eqU x)=its.any (eqU x) by simp,kF r fs];exact q
 ·obtain ⟨its,r,pl,hz⟩:=I.tuple hq
  refine SeqAt.notIn_tupleAt (eqU x) pl (λ w hw=>hU rx fx r fs w (by simpa using hw)) ⟨.bl _,H,I,rfl,?_⟩;rw [show its.toArray.any (eqU x)=its.any (eqU x) by simp,kF r fs];exact q
theorem oj:ee X (.type "list") (λ xs H Q=>∃ p ys,xs=[.ref p]/\(SqL X.K H p ys\/SqT X.K H p ys)/\∀ l,H l=none->Q (.ref l) (upd H l (.lst ys))):=by
 intro pins s σ H xs us Q I r h;obtain ⟨p,ys,rfl,hq,q⟩:=h;obtain ⟨u,rfl,rx⟩:=vals1 r;cases rx
 have fin:∀ (its:List Value),bH ys its->ys.length<=sizeLine->∀ (h':Heap) (c':Nat),(∀ b o',s.heap.get? b=some o'->h'.get? b=some o') ->
   h'.get? s.heap.objs.size=some { cls:=.type "list",dict:=none,data:=.seq its.toArray c',slots:=#[] }->EP X pins σ Q (.ref s.heap.objs.size) { s with heap:=h' }:=λ its r' hz h' c' kp e =>
  ⟨.ref s.heap.objs.size,_,I.laid (t':=s.toks) kp (Zi _) (show cc X.prog X.w _ h' _ (.lst ys) from ⟨hz,its,c',r',e⟩),rfl,q _ (I.hok.fresh (Zi _))⟩
 rcases hq with hq | hq
 ·obtain ⟨its,r',pl,hz⟩:=I.list hq
  have hlen:=r'.length;obtain ⟨o,ho,hc,n,hd⟩:=pl.isList;exact call_list_seq p (.inl rfl) ho hc hd (λ h' c' kp e=>fin its r' hz h' c' kp e) (by simp only [Zs] <;> omega)
 ·obtain ⟨its,r',pl,hz⟩:=I.tuple hq
  have hlen:=r'.length;obtain ⟨o,ho,hc,n,hd⟩:=pl;exact call_list_seq p (.inr rfl) ho hc hd (λ h' c' kp e=>fin its r' hz h' c' kp e) (by simp only [Zs] <;> omega)
theorem mD:ee X (.type "tuple") (λ xs H Q=>∃ p ys,xs=[.ref p]/\((SqL X.K H p ys/\∀ l,H l=none->Q (.ref l) (upd H l (.tup ys)))\/(SqT X.K H p ys/\Q (.ref p) H))):=by
 intro pins s σ H xs us Q I r h;obtain ⟨p,ys,rfl,h⟩:=h;obtain ⟨u,rfl,rx⟩:=vals1 r;cases rx;rcases h with ⟨hq,q⟩ | ⟨hq,q⟩
 ·obtain ⟨its,r',pl,hz⟩:=I.list hq
  have hlen:=r'.length;refine call_tuple_list pl.isList (λ h' kp=>?_) (by simp only [Zs] <;> omega);have I1:Inv X pins σ H { s with heap:=h' }:=I.kept (t':=s.toks) kp
  have I2:Inv X pins σ (upd H h'.objs.size (.tup ys)) { s with heap:=h'.push { cls:=.type "tuple",data:=.seq its.toArray } } :=
   I1.laid (t':=s.toks) (λ b o e=>Heap.get?_push_of_some _ e) (Zi _) (show cc X.prog X.w _ _ _ (.tup ys) from ⟨hz,its,r',IsTup.new _ _⟩)
  exact ⟨.ref h'.objs.size,_,I2,rfl,q _ (I1.hok.fresh (Zi _))⟩
 ·obtain ⟨its,r',pl,hz⟩:=I.tuple hq
  exact call_tuple_same pl ⟨.ref p,H,I,rfl,q⟩
def tyV (K:W.Frag) (T:String) (x:V) (H:Hp):Prop:=match x with
 | .str _=>T="str"
 | .int _=>T="int"
 | .ref p=>(T="list"/\∃ xs,SqL K H p xs)\/(T="tuple"/\∃ o,K.lookup p=some o/\o.cls=.type "tuple"/\o.dict=none) \/
  (T="dict"/\((∃ kvs,H p=some (.dK kvs))\/∃ kvs,H p=some (.dT kvs)))\/(T="set"/\∃ S n,H p=some (.set S n))
 | _=>False
theorem zX (I:Inv X pins σ H s) (r:RelV x v) (ty:tyV X.K T x H) :
  s.TypeIs v T/\∀ a,v=.ref a->∃ ob,s.heap.get? a=some ob/\ob.dict=none:=by
 cases x with
 | str z =>
  obtain ⟨t,rfl⟩:=r;cases (show T="str" from ty);exact ⟨typeIs_str s z t,λ _ e=>nomatch e⟩
 | int i =>
  obtain ⟨t,rfl⟩:=r;cases (show T="int" from ty);exact ⟨typeIs_int s i t,λ _ e=>nomatch e⟩
 | ref p =>
  cases r;rcases ty with ⟨rfl,xs,hq⟩ | ⟨rfl,o,hk,hc,hd⟩ | ⟨rfl,hk⟩ | ⟨rfl,S,n,hk⟩
  ·obtain ⟨its,_,pl,_⟩:=I.list hq
   refine ⟨pl.isList.typeIs,λ a e=>?_⟩;cases e;obtain ⟨o,n,e,c,hd,_⟩:=pl;exact ⟨o,e,hd⟩
  ·refine ⟨⟨o,I.kIn p o hk,hc⟩,λ a e=>?_⟩
   cases e;exact ⟨o,I.kIn _ o hk,hd⟩
  ·have z:∃ o,s.heap.get? p=some o/\o.ExactDict:=by
    rcases hk with ⟨kvs,hk⟩ | ⟨kvs,hk⟩
    ·obtain ⟨_,_,_,_,o,_,_,e,ex,_⟩:=I.hok p _ hk
     exact ⟨o,e,ex⟩
    ·obtain ⟨_,_,_,_,o,_,_,e,ex,_⟩:=I.hok p _ hk
     exact ⟨o,e,ex⟩
   obtain ⟨o,e,ex⟩:=z;refine ⟨⟨o,e,ex.1⟩,λ a e2=>?_⟩;cases e2;exact ⟨o,e,ex.2.1⟩
  ·obtain ⟨o,_,_,_,e,ex,_⟩:=I.hok p _ hk
   refine ⟨⟨o,e,ex.1⟩,λ a e2=>?_⟩;cases e2;exact ⟨o,e,ex.2.1⟩
 | _=>exact False.elim ty
def NT (K:W.Frag) (T:String) (r:V->List V->Hp->VK->Prop) (to:TE):TE:=λ σ H Q=>to σ H λ x H1=>tyV K T x H1/\r x [] H1 Q
def tBM (K:W.Frag) (T:String) (r:V->List V->Hp->VK->Prop) (to:TE) (t:TA):TE:=λ σ H Q=>to σ H λ x H1=>tyV K T x H1/\t σ H1 λ xs H2=>r x xs H2 Q
variable {o e:Expr} {es:List Expr} {to:TE} {t:TA} {name:Str} {apos cpos:Pos} {T id:String} {r:V->List V->Hp->VK->Prop}
theorem Fh (pa:PlainAttrs T) (slot:Slot T name id) (hty:typeOf (.builtin id)=pure (.type "method_descriptor")) (hm:MtR X id r) (ho:PE X o to)
  (hbase:attributeBase o name X.env (eval o X.env)=eval o X.env:=by rfl) (hline:(apos.endLine == cpos.line)=true:=by rfl):PE X (.Call (.Attribute o name apos) [] [] cpos) (NT X.K T r to):=by
 intro pins s σ H Q I h;refine wpAny_Call_method0_late hbase hline (thn (ho pins s σ H _ I h) λ v s1 ⟨x,H1,I1,r1,ty,q1⟩=>?_);obtain ⟨h1,h2⟩:=zX I1 r1 ty;exact ⟨T,id,pa,slot,hty,h1,h2,Calls.callWith_builtin rfl (PySem.evalArgs_none (hm pins s1 σ H1 x [] v [] Q I1 r1 .nil q1))⟩
theorem pk (pa:PlainAttrs T) (slot:Slot T name id) (hty:typeOf (.builtin id)=pure (.type "method_descriptor")) (hm:MtR X id r) (ho:PE X o to) (ha:PA X (e::es) t)
  (hbase:attributeBase o name X.env (eval o X.env)=eval o X.env:=by rfl)
  (hfew:((backTo cpos (starEach (e::es) X.env)).all (λ x=>!x.1)&&(backToKw cpos (keywordEach [] X.env)).all (λ x=>x.1.isSome)
    && decide ((e::es).length+([]:List Keyword).length+(if ([]:List Keyword).isEmpty then 0 else 1) < 30))=true:=by rfl)
  (hline:(apos.endLine == cpos.line)=true:=by rfl) (hs:starEach (e::es) X.env=(false,eval e X.env)::starEach es X.env:=by rfl) (hplain:(backTo cpos (starEach es X.env)).any (·.1)=false:=by rfl) :
  PE X (.Call (.Attribute o name apos) (e::es) [] cpos) (tBM X.K T r to t):=by
 intro pins s σ H Q I h;refine wpAny_Call_method_late hbase hfew hline rfl (thn (ho pins s σ H _ I h) λ v s1 ⟨x,H1,I1,r1,ty,q1⟩=>?_);obtain ⟨h1,h2⟩:=zX I1 r1 ty;refine ⟨T,id,pa,slot,hty,h1,h2,?_⟩;have hA:=ha cpos pins s1 σ H1 _ I1 q1;rw [hs] at hA ⊢;refine Calls.callWith_builtin (by show (false||(backTo cpos (starEach es X.env)).any (·.1))=false; rw [hplain] <;> rfl) (Calls.evalArgs_plain ?_);exact thn hA λ us s2 ⟨vs,H2,I2,r2,q2⟩=>hm pins s2 σ H2 x vs v us Q I2 r1 r2 q2
/- xs.append(e),list.index on a module's tuple .. are MtR facts of 06m -/
end
end L2
namespace L2
open PySem PySem.Spec PyProof.Rows
def MtM (X:Cx) (id:String) (r:V->List V->Hp->VK->Prop):Prop :=
  ∀ (pins:List (Addr×Obj)) (s:Shared) (σ:St) (H:Hp) (x:V) (xs:List V) (v:Value) (us:List Value) (Q:VK),Inv X pins σ H s->RelV x v->bH xs us->r x xs H Q ->
    wpAny (model X.prog X.w) X.A (call (.builtin id) (v::us)) (EP X pins σ Q) X.xe s
theorem bH.one:∀ {x:V} {us:List Value},bH [x] us->∃ u,us=[u]/\RelV x u
 | _,_,.cons r .nil=>⟨_,rfl,r⟩
theorem bH.zero:∀ {us:List Value},bH [] us->us=[]
 | _,.nil=>rfl
theorem bH.dropLast (h:bH xs us):bH xs.dropLast us.dropLast:=by
 induction h with
 | nil=>exact .nil
 | cons r t ih =>
  cases t with
  | nil=>exact .nil
  | cons q t'=>exact .cons r ih
theorem bH.reverse (h:bH xs us):bH xs.reverse us.reverse:=by
 induction h with
 | nil=>exact .nil
 | cons r t ih=>rw [Xp,Xp]; exact bH.append ih (.cons r .nil)
theorem bH.rep (h:bH xs us):∀ k:Nat,bH (List.replicate k xs).flatten (List.replicate k us).flatten
 | 0=>.nil
 | k+1=>by
  rw [Z9,Z9,Xa,Xa];exact bH.append h (bH.rep h k)
theorem tE {α:Type} (l:List α):l.eraseIdx (l.length - 1)=l.dropLast:=by
 induction l with
 | nil=>rfl
 | cons a r ih =>
  cases r with
  | nil=>rfl
  | cons b r =>
   have e:(a::b::r).length - 1=((b::r).length - 1)+1:=by
    have h1:(a::b::r).length=r.length+2:=rfl;have h2:(b::r).length=r.length+1:=rfl;omega
   rw [e,List.eraseIdx_cons_succ,ih]
   all_goals rfl
theorem foldl_rep (its:List Value):∀ (k:Nat) (acc:List Value),
  List.foldl (λ x1 x2=>x1++x2) acc.toArray (List.replicate k its.toArray)=(acc++(List.replicate k its).flatten).toArray
 | 0,acc=>by simp
 | k+1,acc=>by
  have e:acc.toArray++its.toArray=(acc++its).toArray:=by simp
  have e2:(acc++its)++(List.replicate k its).flatten=acc++(List.replicate (k+1) its).flatten:=by
   rw [Z9,Xa,List.append_assoc]
  rw [<- e2,<- foldl_rep its k (acc++its),<- e,Z9,List.foldl_cons]
section
variable {X:Cx} {pins:List (Addr×Obj)} {σ:St} {H:Hp} {s:Shared} {l b:Addr} {xs ys zs:List V}
theorem Inv.IM {its its':List Value} {n:Nat} {f:Array Value->Array Value} {t':Nat} (I:Inv X pins σ H s) (hH:H l=some (.lst xs))
  (e:s.heap.get? l=some { cls:=.type "list",data:=.seq its.toArray n }) (hf:f its.toArray=its'.toArray) (hv:bH ys its') (hz:ys.length<=sizeLine) :
  Inv X pins σ (upd H l (.lst ys)) { s with heap:=s.heap.update l (Obj.mapSeq f),toks:=t' }:=by
 have q:=PySem.IsL.update e f;rw [hf] at q;refine I.write (x:=l) (e:=l) (by rw [hH]; exact trivial) (.inl rfl) (λ b' u hb hu=>(Heap.get?_update_other s.heap (Obj.mapSeq f) (Ne.symm hb)).trans hu) ⟨_,q⟩ ?_
 exact ⟨hz,its',_,hv,q⟩
theorem Inv.NA (I:Inv X pins σ H s) (hv:bH ys its) (hz:ys.length<=sizeLine) :
  Inv X pins σ (upd H s.heap.objs.size (.lst ys)) { s with heap:=s.heap.push { cls:=.type "list",data:=.seq its.toArray },toks:=t' } :=
 I.laid (λ _ _ q=>Heap.get?_push_of_some _ q) (Zi _) ⟨hz,its,0,hv,Heap.get?_push_size _ rfl⟩
theorem Inv.fresh (I:Inv X pins σ H s):H s.heap.objs.size=none:=I.hok.fresh (Zi _)
theorem Inv.Ax (I:Inv X pins σ H s) (hH:H l=some (.lst xs)):xs.length<=sizeLine/\∃ (its:List Value) (n:Nat),bH xs its/\xs.length=its.length/\s.heap.get? l=some { cls:=.type "list",data:=.seq its.toArray n }:=by
 obtain ⟨z,its,n,r,e⟩:=I.hok l _ hH;exact ⟨z,its,n,r,r.length,e⟩
theorem qU (h:n<=sizeLine):Builtin.List.listTooLong n=false:=by
 unfold Builtin.List.listTooLong;exact Zo (by omega)
end
section
variable {X:Cx}
def Bl:V->List V->Hp->VK->Prop:=λ x vs H Q=>∃ l xs y,x=.ref l/\vs=[y]/\H l=some (.lst xs)/\xs.length < sizeLine/\Q .non (upd H l (.lst (xs++[y])))
theorem jU:MtM X "list.append" Bl:=by
 intro pins s σ H x vs v us Q I rx rv h;obtain ⟨l,xs,y,rfl,rfl,hH,hz,q⟩:=h;cases rx;obtain ⟨u,rfl,ru⟩:=rv.one;obtain ⟨z,its,n,r,hl,e⟩:=I.Ax hH;refine Xr F.slot_list_append ⟨_,e,rfl⟩ F.entry_list_append (F.args_list_append_2 _ _) (PySem.list_append l its.toArray n u (by rw [Zs]; omega)) ⟨e,?_⟩;refine ⟨.non,_,I.IM (its':=its++[u]) hH e (by simp) (r.append (.cons ru .nil)) ?_,rfl,q⟩;rw [Zt,List.length_singleton];omega
def Bk:V->List V->Hp->VK->Prop:=λ x vs H Q=>∃ l b xs zs,x=.ref l/\vs=[.ref b]/\H l=some (.lst xs)/\H b=some (.lst zs)/\xs.length+zs.length<=sizeLine/\Q .non (upd H l (.lst (xs++zs)))
theorem vL:MtM X "list.extend" Bk:=by
 intro pins s σ H x vs v us Q I rx rv h;obtain ⟨l,b,xs,zs,rfl,rfl,hH,hB,hz,q⟩:=h;cases rx;obtain ⟨u,rfl,ru⟩:=rv.one;cases ru;obtain ⟨z,its,n,r,hl,e⟩:=I.Ax hH;obtain ⟨z2,its2,n2,r2,hl2,e2⟩:=I.Ax hB;have hsz:its.toArray.size+its2.toArray.size<=sizeLine:=by rw [Zs,Zs]; omega
 have hlong:¬ (!its.toArray.isEmpty&&Builtin.List.listTooLong (its.toArray.size+its2.toArray.size))=true:=by
  rw [qU hsz,Bool.and_false];exact Zf
 refine Xr F.slot_list_extend ⟨_,e,rfl⟩ F.entry_list_extend (F.args_list_extend_2 _ _)
  (AutoSeq1.list_extend_list_list_0 l its.toArray n b its2.toArray n2 hlong (by rw [Zs]; omega) (by omega)) ⟨e,e2,?_⟩
 refine ⟨.non,_,I.IM (its':=its++its2) hH e (by simp) (r.append r2) ?_,rfl,q⟩;rw [Zt];omega
def Of:V->List V->Hp->VK->Prop:=λ x vs H Q=>∃ l xs y,x=.ref l/\vs=[]/\H l=some (.lst xs)/\xs[xs.length - 1]?=some y/\Q y (upd H l (.lst xs.dropLast))
theorem Gg:MtM X "list.pop" Of:=by
 intro pins s σ H x vs v us Q I rx rv h;obtain ⟨l,xs,y,rfl,rfl,hH,hy,q⟩:=h;cases rx;have hus:=rv.zero;subst hus;obtain ⟨z,its,n,r,hl,e⟩:=I.Ax hH;obtain ⟨u,hu,ru⟩:=r.get hy
 have hy':its.toArray[its.toArray.size - 1]?=some u:=by
  show its.toArray[its.length - 1]?=some u;rw [<- Array.getElem?_toList,<- hl];exact hu
 refine Xr F.slot_list_pop ⟨_,e,rfl⟩ F.entry_list_pop (F.args_list_pop_1 _) (MeetsSeq.list_pop_last l its.toArray n u hy' (by rw [Zs]; omega)) ⟨e,?_⟩;refine ⟨y,_,I.IM (its':=its.dropLast) hH e ?_ r.dropLast ?_,ru,q⟩
 ·show its.toArray.eraseIdxIfInBounds (its.toArray.size - 1)=its.dropLast.toArray
  rw [Zs,List.eraseIdxIfInBounds_toArray,tE]
 ·rw [List.length_dropLast]
  omega
def Om:R2:=λ x y H Q=>∃ l b xs zs,x=.ref l/\y=.ref b/\H l=some (.lst xs)/\H b=some (.lst zs)/\xs.length+zs.length<=sizeLine/\∀ p,H p=none->Q (.ref p) (upd H p (.lst (xs++zs)))
theorem FH:OpR X (binaryOp .Add) Om:=by
 intro pins s σ H x y v u Q I rx ry h;obtain ⟨l,b,xs,zs,rfl,rfl,hH,hB,hz,q⟩:=h;cases rx;cases ry;obtain ⟨z,its,n,r,hl,e⟩:=I.Ax hH;obtain ⟨z2,its2,n2,r2,hl2,e2⟩:=I.Ax hB;refine PySem.P.add_list e e2 ?_ (by rw [Zs,Zs]; omega)
 have ea:its.toArray++its2.toArray=(its++its2).toArray:=by simp
 rw [ea];exact ⟨.ref _,_,I.NA (t':=s.toks) (r.append r2) (by rw [Zt]; omega),rfl,q _ I.fresh⟩
def Oe:R2:=λ x y H Q=>∃ l k xs,x=.ref l/\y=.int k/\H l=some (.lst xs)/\-(2 ^ 63)<=k/\k < 2 ^ 63/\xs.length * k.toNat<=sizeLine /\
 ∀ p,H p=none->Q (.ref p) (upd H p (.lst (List.replicate k.toNat xs).flatten))
theorem len_rep {α:Type} (xs:List α) (k:Nat):(List.replicate k xs).flatten.length=k * xs.length:=by
 induction k with
 | zero=>simp
 | succ k ih=>rw [Z9,Xa,Zt,ih,Nat.succ_mul,Nat.add_comm]
theorem Fz:OpR X (binaryOp .Mult) Oe:=by
 intro pins s σ H x y v u Q I rx ry h;obtain ⟨l,k,xs,rfl,rfl,hH,h1,h2,hz,q⟩:=h;cases rx;obtain ⟨t,rfl⟩:=ry;obtain ⟨z,its,n,r,hl,e⟩:=I.Ax hH;have hlen:its.toArray.size * k.toNat<=sizeLine:=by rw [Zs,<- hl]; exact hz
 have hcap:¬ its.toArray.size * k.toNat > (2 ^ 63 - 1) / 8:=by
  have:(sizeLine:Nat)<=(2 ^ 63 - 1) / 8:=by decide
  omega
 have hfit:¬ (!Builtin.List.listFitsIndex k)=true:=by
  rw [fitsIndex_both h1 h2];exact Zf
 have hlong:¬ Builtin.List.listTooLong (its.toArray.size * k.toNat)=true:=by
  rw [qU hlen];exact Zf
 have hnew:List.foldl (λ x1 x2=>x1++x2) #[] (List.replicate (if its.toArray.isEmpty=true then 0 else k.toNat) its.toArray)=(List.replicate k.toNat its).flatten.toArray:=by
  have f0:∀ m:Nat,List.foldl (λ x1 x2=>x1++x2) #[] (List.replicate m its.toArray)=(List.replicate m its).flatten.toArray:=λ m=>by
    have:=foldl_rep its m [];rw [List.nil_append] at this;exact this
  rw [f0]
  cases its with
  | nil=>simp
  | cons a r'=>rw [if_neg (by simp)]
 refine wpAny_binaryOp_repeat_ref (T:="list") (U:="int") (by decide) ⟨_,e,rfl⟩ (λ s'=>typeIs_int s' k t) noFill_list_mul F.fills_int_mul F.slot_int_rmul repeat_list F.slot_int_index.lookup
  (Xr F.slot_int_rmul (typeIs_int s k t) F.entry_int_rmul (F.args_int_rmul_2 _ _) (int___rmul___int_list k t l its.toArray n)
    ⟨e,rfl,⟨_,e,rfl⟩,Xr F.slot_list_mul ⟨_,e,rfl⟩ F.entry_list_mul (F.args_list_mul_2 _ _) (AutoListH.list___mul___list_int_3 l its.toArray n k t hfit hcap hlong) ⟨e,?_⟩⟩)
 rw [hnew];exact ⟨.ref _,_,I.NA (t':=s.toks) (r.rep k.toNat) (by rw [len_rep,Nat.mul_comm]; exact hz),rfl,q _ I.fresh⟩
end
end L2
namespace Att
open PySem PySem.W PySem.Calls PyProof.Rows
theorem jY:∀ (ns:List Int) (vs:List Value),WellAll P h vs (ns.map WData.int)->IntsAre vs ns:=by
 intro ns
 induction ns with
 | nil =>
  intro vs w;rw [List.map_nil] at w;cases w;exact .nil
 | cons n ns ih =>
  intro vs w;rw [Zh] at w
  cases w with
  | cons a b =>
   cases a;exact .cons _ _ (ih _ b)
theorem uu {l:OpenLaw} {n:Nat} (hn:l.most=some n) {P:Params} {h:Heap} {args:List WData} {vals:List Value}
  (hpre:l.row.toRowW.claim.pre args=true) (hwl:WellAll P h vals args) :
  ∃ a vs ns,vals=[Value.ref a]/\args=[WData.list (ns.map WData.int)]/\h.get? a=some { cls:=.type "list",data:=.seq vs.toArray }/\IntsAre vs ns/\ns.length<=n:=by
 have hsh:WShape.hasAll [] args [.list .int]=true:=(pre_splitW hpre).1;have hc:l.pre.holds [] { args:=args }=true:=(pre_splitW hpre).2;obtain ⟨d,r,rfl,h1,h2⟩:=hasAllW_cons hsh;obtain rfl:=hasAllW_nil h2;obtain ⟨xs,rfl,h3⟩:=hasW_list h1;obtain ⟨ns,rfl⟩:=items_int h3
 have hlen:ns.length<=n:=by
  unfold OpenLaw.pre at hc
  have h4:(WTm.not (.lt (.lit (.int (n:Int))) (.len (.arg 0)))).holds [] { args:=[.list (ns.map .int)] }=true:=by
   have h4:=(holds_andW hc).1;rw [hn] at h4;exact h4
  have h5:=condW_of h4 (w_not (w_lt w_lit (w_len_list (w_arg rfl))));rw [Za] at h5;refine Nat.le_of_not_lt λ q=>?_
  have q':(n:Int) < ((ns.length:Nat):Int):=by omega
  first
   | (rw [Zq q'] at h5; exact absurd h5 (by decide))
   | (simp at h5; omega)
 cases hwl with
 | cons w1 w2 =>
  cases w2
  cases w1 with
  | list ho hall=>exact ⟨_,_,ns,rfl,rfl,ho,jY ns _ hall,hlen⟩
theorem u0 (l:OpenLaw) (args:List WData):l.row.toRowW.claim.post args (.bool true) args=true :=
 postW_of (r:=l.row.toRowW) (X:=(true == true))
  (show WShape.has [] (.bool true) .bool=true by first | rfl | decide | simp [WShape.has,WShape.arms,WShape.armsAll])
  (show (WTm.eq .res (.lit (.bool true))).value [] { args:=args,res:=some (.bool true),after:=args }=some (.bool (true == true)) from w_eq_bool (w_res rfl) w_lit) rfl
theorem ql {l:OpenLaw} {n:Nat} {q:Program} {loose:List Str} {XP:(Str->Option Value)->Heap->Prop} {YP:World->Heap->Prop} {d:DefRec}
  (hn:l.most=some n) (hdf:d.params.defaults=[])
  (call:∀ (w:World) (s₀ s₁:Shared) (mg mb:Str->Option Value) (fa:Addr) (o:Obj) (pm cd doc:Value) (a:Addr) (vs:List Value) (ns:List Int),
    Ground q loose [] XP w s₀ mg mb s₁.heap->YP w s₁.heap ->
    s₁.heap.get? fa=some o->o.data=.func (docDef d.name d.params d.body d.scope pm cd doc)->s₁.heap.CodeRec cd d.name->mg d.name=some (.ref fa) ->
    s₁.heap.get? a=some { cls:=.type "list",data:=.seq vs.toArray }->IntsAre vs ns->ns.length<=n->s₁.gens=#[] ->
    codeAny (model l.prog w) callerA (.call (.ref fa) ⟨[.ref a],[]⟩) (λ r s'=>r=.ok (.ret (.bool true))/\OldK s₁.heap s'.heap/\s'.os=s₁.os/\AllBare s'.gens) s₁) :
  WalkO q loose XP YP l.row.toRowW d [] (λ f vs=>PySem.call f vs):=by
 intro w s₀ s₁ mg mb G Y fa o pm cd doc dV kV ho hd hcd hD hmg hg args vals as hpre hlay hrd hwl hlo;obtain rfl:dV=.none:=Dflts.none hD hdf;obtain rfl:kV=.none:=Dflts.noKw hD;obtain ⟨a,vs,ns,rfl,rfl,hobj,hints,hlen⟩:=uu hn hpre hwl;refine enter_call (codeAny_mono (call w s₀ s₁ mg mb fa o pm cd doc a vs ns G Y ho (fd_plain hd) hcd hmg hobj hints hlen hg) λ r s' hq=>?_);obtain ⟨rfl,h2,h3,h4⟩:=hq;exact ⟨.inl ⟨.bool true,.bool true,[],rfl,λ _=>rfl,.bool true,u0 l _,λ _=>⟨List.Pairwise.nil,λ _ hm=>(nomatch hm)⟩⟩,h2,h3,h4⟩
end Att
namespace L2
open PySem PySem.Spec PyProof.Rows
theorem mU:∀ {vs:List Value} {ns:List Int},IntsAre vs ns->bH (ns.map V.int) vs
 | _,_,.nil=>.nil
 | _,_,.cons n t h=>.cons ⟨t,rfl⟩ (mU h)
def IX (H:Hp):Prop:=∀ b,H b=none\/∃ o xs,H b=some (.frz o (.lst xs))
theorem zd {P:Program} {w:World} {K:W.Frag} {mg mb:Str->Option Value} {CX:CXT} {k:Nat} {fa a:Addr} {fd:FuncData} {x:Str} {sp:Sp} {s₁:Shared} {vs:List Value} {ns:List Int}
  (KX:K.In s₁.heap) (hns:s₁.heap.Ns mainGlobals mg) (hb:s₁.heap.Ns builtinsNs mb) (hbb:∀ x:Str,x≠"__name__"->mb x=bootBuiltins x) (hlim:s₁.heap.NoLimit) (hg:s₁.gens=#[])
  (ha:s₁.heap.get? a=some { cls:=.type "list",data:=.seq vs.toArray }) (hi:IntsAre vs ns) (hl:ns.length<=sizeLine) (hr:dQ k callerA)
  (F:∀ base:Heap,K.In base->base.Ns mainGlobals mg->fj P w K mg base CX k fa fd [x] sp) (hbind:∀ (s:Shared) (u:Value),BindsTo s fd ⟨[u],[]⟩ [(x,u)])
  (hsp:∀ H:Hp,IX H->SqL K H a (ns.map V.int)->sp [.ref a] H (λ v _=>v=.bl true) λ _ _ _=>False)
  (hCX:∀ H e s',CX [] H s₁ (λ _ _ _=>False) e s'->False) :
  codeAny (model P w) callerA (.call (.ref fa) ⟨[.ref a],[]⟩) (λ r s'=>r=.ok (.ret (.bool true))/\OldK s₁.heap s'.heap/\s'.os=s₁.os/\AllBare s'.gens) s₁:=by
 have rv:=mU hi;have lenV:=hi.length
 have core:∀ H:Hp,IX H->SqL K H a (ns.map V.int)->HOk P w H s₁.heap->(∀ b,H b≠none->b=a)->(H a≠none->K.lookup a=none) ->
   codeAny (model P w) callerA (.call (.ref fa) ⟨[.ref a],[]⟩) (λ r s'=>r=.ok (.ret (.bool true))/\OldK s₁.heap s'.heap/\s'.os=s₁.os/\AllBare s'.gens) s₁:=by
  intro H hO hS hok hA hK;have base_of:∀ {b:Addr} {o:Obj},s₁.heap.get? b=some o->H b=none->(zh s₁.heap H).get? b=some o:=λ e n=>zg e n
  have noA:∀ {b:Addr} {o:Obj} {es:Array DictEntry} {ep:Nat},s₁.heap.get? b=some o->o.data=.dict es ep->H b=none:=λ {b o es ep} e d=>by
   cases q:H b with
   | none=>rfl
   | some u =>
    have e':b=a:=hA b (by rw [q]; simp);subst e';rw [ha] at e; cases e
    have d':Data.seq vs.toArray _=Data.dict es ep:=d;cases d'
  have nsK:∀ {b:Addr} {m:Str->Option Value},s₁.heap.Ns b m->(zh s₁.heap H).Ns b m:=λ {b m} ⟨o,es,ep,e,d,r⟩=>⟨o,es,ep,base_of e (noA e d),d,r⟩
  have hKb:K.In (zh s₁.heap H):=λ b o e=>base_of (KX b o e) (by
   cases q:H b with
   | none=>rfl
   | some u =>
    have e':b=a:=hA b (by rw [q]; simp);subst e'
    rw [hK (by rw [q]; simp)] at e; cases e)
  have hM:Mod K mg (zh s₁.heap H):=⟨hKb,nsK hns,⟨mb,nsK hb,hbb⟩,let ⟨mc,h1,h2⟩:=hlim; ⟨mc,nsK h1,h2⟩⟩
  have e0:D0 P w K mg (zh s₁.heap H) callerA [] s₁ H:=⟨rfl,hM,λ b o e=>Cp e,Nat.le_of_eq (wF _ _),trivial,λ b hb=>absurd (show b ∈ ([]:List Addr) from hb) (by simp),hok,.of_eq hg⟩
  refine codeAny_mono ((F _ hKb (nsK hns)).run callerA [] s₁ H ⟨[.ref a],[]⟩ [.ref a] [.ref a] _ _ hr e0 (hbind s₁ (.ref a)) (.cons rfl .nil) (hsp H hO hS)) λ r s' h=>?_
  cases r with
  | error e=>exact (hCX H e s' h).elim
  | ok fl =>
   cases fl with
   | next=>exact False.elim h
   | brk=>exact False.elim h
   | cont=>exact False.elim h
   | ret u =>
    obtain ⟨v,H',os,bare,un,hok',r',q⟩:=h;have q':v=.bl true:=q;subst q';obtain rfl:u=Value.bool true:=r';refine ⟨rfl,OldK.of_keep λ b o e=>?_,os,bare⟩
    cases q:H b with
    | none=>exact un.keep b o e q (by intro z; exact absurd (show b ∈ ([]:List Addr) from z) (by simp)) (by simp)
    | some u =>
     rcases hO b with z | ⟨ob,xs,z⟩
     · rw [q] at z; cases z
     ·have z2:=un.tY b ob _ z
      obtain ⟨e1,_⟩:=hok b _ z;obtain ⟨e2,_⟩:=hok' b _ z2;rw [e] at e1; cases e1
      exact e2
 cases hk:K.lookup a with
 | some o =>
  have e:=KX a o hk;rw [ha] at e;cases e;refine core (λ _=>none) (λ _=>.inl rfl) (.inr ⟨_,vs.toArray,_,hk,rfl,rfl,rfl,by rw [Zs,lenV]; exact hl,by simpa using rv⟩) (λ b u z=>by have z':(none:Option HO)=some u:=z; cases z') (λ b z=>absurd rfl z) λ z=>absurd rfl z
 | none =>
  refine core (λ b=>if b=a then some (.frz { cls:=.type "list",data:=.seq vs.toArray } (.lst (ns.map V.int))) else none) (λ b=>?_) (.inl (.inr ⟨{ cls:=.type "list",data:=.seq vs.toArray },if_pos rfl⟩)) (λ b u z=>?_) (λ b z=>?_) λ _=>hk
  ·by_cases hb:b=a
   · exact .inr ⟨_,_,if_pos hb⟩
   · exact .inl (if_neg hb)
  ·by_cases hb:b=a
   ·have z':=(if_pos hb).symm.trans z
    cases z';subst hb;exact ⟨ha,by rw [Za]; exact hl,vs,_,rv,ha⟩
   ·have z':=(if_neg hb).symm.trans z
    cases z'
  ·by_cases hb:b=a
   · exact hb
   · exact absurd (if_neg hb) z
end L2
namespace L2
open PySem PySem.Spec PyProof.Rows
abbrev KOf {K:W.Frag} {h:Heap} (_:K.In h):W.Frag:=K
theorem A1 {l:PySem.W.OpenLaw} {n k:Nat} {q:Program} {loose:List Str} {XP:(Str->Option Value)->Heap->Prop} {YP:World->Heap->Prop} {d:DefRec} {K:Params->W.Frag} {CX:World->CXT} {sp:World->Sp} {x:Str}
    (hn:l.most=some n) (hn2:n<=sizeLine) (hdf:d.params.defaults=[]) (hr:dQ k callerA)
    (hY:∀ (w:World) (h:Heap),YP w h->(K w.params).In h)
    (F : ∀ (w:World) (mg:Str->Option Value) (fa:Addr) (h:Heap),(K w.params).In h->h.Ns mainGlobals mg->mg d.name=some (.ref fa) ->
      ∃ fd:FuncData,(∀ (s:Shared) (u:Value),BindsTo s fd ⟨[u],[]⟩ [(x,u)]) /\
        ∀ base:Heap,(K w.params).In base->base.Ns mainGlobals mg->fj l.prog w (K w.params) mg base (CX w) k fa fd [x] (sp w))
    (hsp:∀ (w:World) (H:Hp) (a:Addr) (ns:List Int),ns.length<=n->IX H->SqL (K w.params) H a (ns.map V.int)->sp w [.ref a] H (λ v _=>v=.bl true) λ _ _ _=>False)
    (hCX:∀ (w:World) (H:Hp) (s:Shared) (e:Value) (s':Shared),CX w [] H s (λ _ _ _=>False) e s'->False) :
    PySem.W.WalkO q loose XP YP l.row.toRowW d [] (λ f vs=>PySem.call f vs):=by
  refine Att.ql hn hdf λ w s₀ s₁ mg mb fa o pm cd doc a vs ns G Y ho hd hcd hmg hobj hints hlen hg=>?_
  have KX:=hY w _ Y;obtain ⟨fd,hb,hF⟩:=F w mg fa _ KX G.T.g hmg;exact zd KX G.T.g G.T.b G.T.builtins G.T.nolimit hg hobj hints (Z3 hlen hn2) hr hF hb (λ H hO hS=>hsp w H a ns hlen hO hS) λ H e s'=>hCX w H s₁ e s'
theorem xN {l:PySem.W.OpenLaw} {n k:Nat} {q:Program} {loose:List Str} {XP:(Str->Option Value)->Heap->Prop} {YP:World->Heap->Prop} {d:DefRec} {K:Params->W.Frag} {CX:CXT} {sp:W.Frag->Sp} {x:Str}
    (hn:l.most=some n) (hn2:n<=sizeLine) (hdf:d.params.defaults=[]) (hr:dQ k callerA)
    (hY:∀ (w:World) (h:Heap),YP w h->(K w.params).In h)
    (F : ∀ (w:World) (mg:Str->Option Value) (fa:Addr) (h:Heap),(K w.params).In h->h.Ns mainGlobals mg->mg d.name=some (.ref fa) ->
      ∃ fd:FuncData,(∀ (s:Shared) (u:Value),BindsTo s fd ⟨[u],[]⟩ [(x,u)]) /\
        ∀ base:Heap,(K w.params).In base->base.Ns mainGlobals mg->fj l.prog w (K w.params) mg base CX k fa fd [x] (sp (K w.params)))
    (hsp:∀ (K:W.Frag) (H:Hp) (a:Addr) (ns:List Int),ns.length<=n->IX H->SqL K H a (ns.map V.int)->sp K [.ref a] H (λ v _=>v=.bl true) λ _ _ _=>False)
    (hCX:∀ (H:Hp) (s:Shared) (e:Value) (s':Shared),CX [] H s (λ _ _ _=>False) e s'->False) :
    PySem.W.WalkO q loose XP YP l.row.toRowW d [] (λ f vs=>PySem.call f vs) :=
  A1 (K:=K) (CX:=λ _=>CX) (sp:=λ w=>sp (K w.params)) hn hn2 hdf hr hY F (λ w H a ns h1 h2 h3=>hsp (K w.params) H a ns h1 h2 h3) λ _ H s e s'=>hCX H s e s'
end L2
/- THE LAST THEOREM (shape; LID,My.* are yours):
   My.Adr: a structure of the addresses that your layer names (classes,functions); My.Txt K t: a structure (Prop) of the equations over K;
   My.txt_mk:{K} {implicit addresses ..} (e1:nsIn K mainGlobals "law"=some (some (.ref f))) (e2:K.lookup f=some ⟨oc,od,.func (fnOf "law" "law" params body scope dV kV doc pm an cdv ct),sl⟩) (e3:codeIn K cdv "law"=true) ..:∃ t,My.Txt K t
(the tactic k_is has no namespace: write k_is) -/
namespace L2
open PySem PySem.Spec PyProof.Rows
def inClass (s:Stmt) (j:Nat):Stmt:=match s with
 | .ClassDef _ _ _ body _ _ _ _ _ _ _=>body.getD j (.Pass ⟨0,0,0,0⟩)
 | _=>.Pass ⟨0,0,0,0⟩
def cp (s:Stmt):Arguments:=match s with
 | .FunctionDef _ a _ _ _ _ _ _ _ _=>a
 | _=>{ posonlyargs:=[],args:=[],vararg:=none,kwonlyargs:=[],kw_defaults:=[],kwarg:=none,defaults:=[] }
def bL (s:Stmt):List Stmt:=match s with
 | .FunctionDef _ _ b _ _ _ _ _ _ _=>b
 | _=>[]
def aI (s:Stmt):Scope:=match s with
 | .FunctionDef _ _ _ _ _ _ sc _ _ _=>sc
 | _=>{ kind:=.function,names:=[],isGenerator:=false,isCoroutine:=false }
abbrev CX0:CXT:=λ _ _ _ _ _ _=>False
abbrev E0:XK:=λ _ _ _=>False
theorem jf:lU CX0 X E0:=λ _ _ _ _ _ _ _ h=>h.elim
structure Fun (K:W.Frag) (x qual:Str) (st:Stmt) (f:Addr) (fd:FuncData):Prop where
 ex:∃ (oc:Value) (od:Option Addr) (kV doc pm:Value) (an:Option Addr) (cdv ct:Value) (osl:Array (Option Value)),
  fd=PySem.W.fnOf x qual (cp st) (bL st) (aI st) .none kV doc pm an cdv ct/\K.lookup f=some ⟨oc,od,.func fd,osl⟩/\PySem.W.codeIn K cdv qual=true
 kp:W.keepIn K (.ref f)=true
section
variable {P:Program} {w:World} {K:W.Frag} {mg:Str->Option Value} {base:Heap}
theorem Fun.ok {x qual:Str} {st:Stmt} {f:Addr} {fd:FuncData} {N ps:List Str} {k:Nat} {sp:Sp} (F:Fun K x qual st f fd) (S:dF N ps (aI st)) (len:∀ vs H Q E,sp vs H Q E->vs.length=ps.length)
  (hbody:∀ (cdv:Value) (A:Around) (outer:List Env) (s:Shared) (H:Hp) (vs:List V) (Q:VK) (E:XK),dQ k (A.deeper (envOfC qual (aI st) s.heap.objs.size f cdv))->sp vs H Q E ->
    ∃ t,PSs (zI CX0 P w K mg base N qual (aI st) f cdv A outer s H E).nox (bL st) t/\t { nx:=λ _ H'=>Q .non H',rt:=Q } (start N vs) H):fj P w K mg base CX0 (k+1) f fd ps sp:=by
 obtain ⟨oc,od,kV,doc,pm,an,cdv,ct,osl,rfl,lk,hcd⟩:=F.ex;refine Mh lk hcd S len λ A outer s H vs Q E hr hsp=>?_
 obtain ⟨t,h,q⟩:=hbody cdv A outer s H vs Q E hr hsp;exact ⟨t,h.nox,q⟩
theorem Fun.binds {x qual:Str} {st:Stmt} {f:Addr} {fd:FuncData} {ps:List Str} (F:Fun K x qual st f fd)
  (h:∀ (kV doc pm:Value) (an:Option Addr) (cdv ct:Value) (us:List Value),us.length=ps.length->bindArgs (PySem.W.fnOf x qual (cp st) (bL st) (aI st) .none kV doc pm an cdv ct) ⟨us,[]⟩=pure (ps.zip us)):Binds K fd ps []:=by
 obtain ⟨oc,od,kV,doc,pm,an,cdv,ct,osl,rfl,lk,hcd⟩:=F.ex;exact .all (h kV doc pm an cdv ct)
theorem j4 {x qual:Str} {st:Stmt} {f:Addr} {oc:Value} {od an:Option Addr} {osl:Array (Option Value)} {kV doc pm cdv ct:Value} (l:K.lookup f=some ⟨oc,od,.func (PySem.W.fnOf x qual (cp st) (bL st) (aI st) .none kV doc pm an cdv ct),osl⟩)
 (c:PySem.W.codeIn K cdv qual=true) (k:W.keepIn K (.ref f)=true):Fun K x qual st f (PySem.W.fnOf x qual (cp st) (bL st) (aI st) .none kV doc pm an cdv ct):=⟨⟨oc,od,kV,doc,pm,an,cdv,ct,osl,rfl,l,c⟩,k⟩
end
theorem fF (hr:dQ k A):A.units+1 < cLine:=Nat.lt_of_le_of_lt (Nat.add_le_add_left (by decide:1<=64) _) hr.units
section
variable {X:Cx}
theorem pv (i:Nat) (hN:X.N[i]?=some x:=by rfl) (hv:Vis X.env.scope x:=by first | exact Or.inl rfl | exact Or.inr (Or.inl rfl) | exact Or.inr (Or.inr rfl)) (hd:(x == ("__debug__":Str))=false:=by decide)
 (hcd:(x == ("__classdict__":Str))=false:=by decide):PE X (.Name x pos) (MA i):=iS hN hv hd hcd
end
theorem AF {A B:Prop} (h:B):if false=true then A else B:=by
 rw [if_neg Zf];exact h
theorem AE {A B:Prop} (h:A):if true=true then A else B:=by
 rw [if_pos rfl];exact h
def bp (H H':Hp):Prop:=∀ b o,H b=some o->H' b=some o
theorem bp.refl (H:Hp):bp H H:=λ _ _ h=>h
theorem bp.trans (a:bp H H1) (b:bp H1 H2):bp H H2:=λ c o h=>b c o (a c o h)
theorem bp.free (e:bp H H') (h:H' l=Option.none):H l=Option.none:=by
 cases q:H l with
 | none=>rfl
 | some o =>
  rw [e l o q] at h;cases h
theorem bp.seq {K:W.Frag} {H H':Hp} {a:Addr} {xs:List V} (e:bp H H') (h:SqL K H a xs):SqL K H' a xs:=by
 rcases h with (h | ⟨o,h⟩) | h
 · exact .inl (.inl (e _ _ h))
 · exact .inl (.inr ⟨o,e _ _ h⟩)
 · exact .inr h
end L2
end
section
namespace HD17
open PySem PySem.W PySem.W.X PyProof.Rows L2
abbrev hp:Program:=PySem.Challenge.pw_stylehouse_k17_chains
abbrev hl:OpenLaw:=PySem.Challenge.rw_stylehouse_k17_chains
def top (i:Nat):Stmt:=PySem.Challenge.pw_stylehouse_k17_chains.main.body.getD i (.Pass ⟨0,0,0,0⟩)
noncomputable abbrev tL (o:Params->Obj) (P:Params):BT:=.node (o P) .nil .nil
noncomputable abbrev tN (o:Params->Obj) (l r:Params->BT) (P:Params):BT:=.node (o P) (l P) (r P)
noncomputable abbrev tZ (_:Params):BT:=.nil
noncomputable abbrev dE (P:Params) (n:Str) (t:Nat) (v:Value):DictEntry:=⟨PyData.keyHash P n,.str n t,v⟩
noncomputable abbrev oF (y:String) (l:List Value) (_:Params):Obj:=⟨.type y,none,.fields ⟨l⟩,⟨[]⟩⟩
noncomputable abbrev oQ (y:String) (l:List Value) (n:Nat) (_:Params):Obj:=⟨.type y,none,.seq ⟨l⟩ n,⟨[]⟩⟩
noncomputable abbrev oD (y:String) (l:List DictEntry) (n:Nat):Obj:=⟨.type y,none,.dict ⟨l⟩ n,⟨[]⟩⟩
noncomputable abbrev oM (y:String) (n q:Str) (s:Stmt) (g:Nat) (c:List (Str×Addr)) (d k dc pm:Value) (an:Option Addr) (cd ct:Value) (b:Nat):Obj:=⟨.type y,none,.func ⟨n,q,cp s,.stmts (bL s),aI s,g,c,d,k,dc,pm,an,cd,ct,b⟩,⟨[]⟩⟩
noncomputable abbrev oC (y:String) (n:Str) (a:Nat) (q:Str) (b:Nat) (f:Str) (c i1 i2 i3 i4 i5 r1:Nat) (o:Bool) (i6 r2:Nat) (v1 v2 v3 v4:Value) (i7 i8:Nat) (g:Str) (d:Nat):Obj:=⟨.type y,none,.fields ⟨[.str n a,.str q b,.str f c,.int (.ofNat i1) 0,.int (.ofNat i2) 0,.int (.ofNat i3) 0,.int (.ofNat i4) 0,.int (.ofNat i5) 0,.ref r1,.bool o,.int (.ofNat i6) 0,.ref r2,v1,v2,v3,v4,.int (.ofNat i7) 0,.int (.ofNat i8) 0,.str g d]⟩,⟨[]⟩⟩
noncomputable abbrev vI (i t:Nat):Value:=.int (.ofNat i) t
noncomputable abbrev vS (s:Str) (t:Nat):Value:=.str s t
noncomputable abbrev vR (a:Nat):Value:=.ref a
noncomputable abbrev y0:String:=PySem.W.SL.s2766695959194262286x5
noncomputable abbrev y1:String:=PySem.W.SL.s5856160107412720595x4
noncomputable abbrev y2:String:=PySem.W.SL.s658472552662922059x5
noncomputable abbrev y3:String:=PySem.W.SL.s14018661285674007319x4
noncomputable abbrev y4:String:=PySem.W.SL.s7097527257260152453x26
noncomputable abbrev y5:String:=PySem.W.SL.s7174869446012820540x8
noncomputable abbrev y6:String:=PySem.W.SL.s11030030927630378310x26
noncomputable abbrev y7:String:=PySem.W.SL.s10062305145149207511x16
noncomputable abbrev y8:String:=PySem.W.SL.s17162191345867700912x4
noncomputable abbrev y9:String:=PySem.W.SL.s2742458400755230247x6
noncomputable abbrev y10:String:=PySem.W.SL.s11443829558043349243x14
noncomputable abbrev y11:String:=PySem.W.SL.s14755015743595814543x17
noncomputable abbrev y12:String:=PySem.W.SL.s6511155373996960695x17
noncomputable abbrev y13:String:=PySem.W.SL.s12411053484034534018x21
noncomputable abbrev y14:String:=PySem.W.SL.s10220274742760427390x26
noncomputable abbrev y15:String:=PySem.W.SL.s4290257624100764138x5
noncomputable abbrev y16:String:=PySem.W.SL.s4860613602091757760x24
noncomputable abbrev y17:String:=PySem.W.SL.s6070975301684473832x10
noncomputable abbrev y18:String:=PySem.W.SL.s5946037652744460706x9
noncomputable abbrev y19:String:=PySem.W.SL.s4278001404047624695x13
noncomputable abbrev y20:String:=PySem.W.SL.s4209523147560561109x18
noncomputable def n0:Str:="<module>"
noncomputable def n1:Str:="/claim/cut.py"
noncomputable def n2:Str:="__main__"
noncomputable def n3:Str:="__name__"
noncomputable def n4:Str:="stylehouse.patterns"
noncomputable def n5:Str:="__doc__"
noncomputable def n6:Str:="__package__"
noncomputable def n7:Str:="__loader__"
noncomputable def n8:Str:="__spec__"
noncomputable def n9:Str:="__annotations__"
noncomputable def n10:Str:="__builtins__"
noncomputable def n11:Str:="__file__"
noncomputable def n12:Str:="__cached__"
noncomputable def n13:Str:="_wall"
noncomputable def n14:Str:="row_of"
noncomputable def n15:Str:="ahead"
noncomputable def n16:Str:="holders_of"
noncomputable def n17:Str:="depth_of"
noncomputable def n18:Str:="spot_of"
noncomputable def n19:Str:="Trait"
noncomputable def n20:Str:="trait_of"
noncomputable def n21:Str:="has_trait"
noncomputable def n22:Str:="is_counted"
noncomputable def n23:Str:="fits"
noncomputable def n24:Str:="fitted"
noncomputable def n25:Str:="chain_of"
noncomputable def n26:Str:="reaches"
noncomputable def n27:Str:="link_of"
noncomputable def n28:Str:="joined_to"
noncomputable def n29:Str:="k"
noncomputable def n30:Str:="tree"
noncomputable def n31:Str:="box"
noncomputable def n32:Str:="holder"
noncomputable def n33:Str:="stylehouse.walks"
noncomputable def n34:Str:="row"
noncomputable def n35:Str:="found"
noncomputable def n36:Str:="__module__"
noncomputable def n37:Str:="stylehouse.traits"
noncomputable def n38:Str:="__qualname__"
noncomputable def n39:Str:="__firstlineno__"
noncomputable def n40:Str:="__init__"
noncomputable def n41:Str:="weight"
noncomputable def n42:Str:="__static_attributes__"
noncomputable def n43:Str:="self"
noncomputable def n44:Str:="told"
noncomputable def n45:Str:="Trait.__init__"
noncomputable def n46:Str:="Trait.fits"
noncomputable def n47:Str:="Trait.weight"
noncomputable def n48:Str:="__dict__"
noncomputable def n49:Str:="__weakref__"
noncomputable def n50:Str:="place"
noncomputable def n51:Str:="first"
noncomputable def n52:Str:="step"
noncomputable def n53:Str:="pattern"
noncomputable def n54:Str:="known"
noncomputable def n55:Str:="chain"
noncomputable def n56:Str:="key"
noncomputable def n57:Str:="one"
noncomputable def n58:Str:="join"
noncomputable def n59:Str:="stylehouse.errors"
noncomputable def n60:Str:="has_all"
noncomputable def n61:Str:="HouseError"
noncomputable def n62:Str:="NoBox"
noncomputable def n63:Str:="NoPlace"
noncomputable def n64:Str:="traits"
noncomputable def n65:Str:="stylehouse.tree"
noncomputable def n66:Str:="NoName"
noncomputable def n67:Str:="TooMuch"
noncomputable def n68:Str:="LONGEST_NAME"
noncomputable def n69:Str:="is_name"
noncomputable def n70:Str:="MOST_BOXES"
noncomputable def n71:Str:="MOST_DEEP"
noncomputable def n72:Str:="stylehouse.names"
noncomputable def n73:Str:="Tree"
noncomputable def n74:Str:="check_name"
noncomputable def n75:Str:="enter"
noncomputable def n76:Str:="check"
noncomputable def n77:Str:="put"
noncomputable def n78:Str:="cut"
noncomputable def n79:Str:="move"
noncomputable def n80:Str:="mark"
noncomputable def n81:Str:="bare"
noncomputable def n82:Str:="write"
noncomputable def n83:Str:="dress"
noncomputable def n84:Str:="stands"
noncomputable def n85:Str:="name_of"
noncomputable def n86:Str:="marks_of"
noncomputable def n87:Str:="words_of"
noncomputable def n88:Str:="rows_of"
noncomputable def n89:Str:="holder_of"
noncomputable def n90:Str:="boxes_of"
noncomputable def n91:Str:="name"
noncomputable def n92:Str:="Tree.__init__"
noncomputable def n93:Str:="Tree.enter"
noncomputable def n94:Str:="Tree.check"
noncomputable def n95:Str:="Tree.put"
noncomputable def n96:Str:="Tree.cut"
noncomputable def n97:Str:="Tree.move"
noncomputable def n98:Str:="word"
noncomputable def n99:Str:="Tree.mark"
noncomputable def LV:Str:="Tree.bare"
noncomputable def Ny:Str:="words"
noncomputable def LU:Str:="Tree.write"
noncomputable def Nw:Str:="rows"
noncomputable def LS:Str:="Tree.dress"
noncomputable def LR:Str:="Tree.stands"
noncomputable def LQ:Str:="Tree.name_of"
noncomputable def LP:Str:="Tree.marks_of"
noncomputable def LO:Str:="Tree.words_of"
noncomputable def LL:Str:="Tree.rows_of"
noncomputable def LK:Str:="Tree.holder_of"
noncomputable def LJ:Str:="Tree.boxes_of"
noncomputable def O6:Str:="boxes"
noncomputable def O5:Str:="given"
noncomputable def O4:Str:="holders"
noncomputable def O3:Str:="marks"
noncomputable def O2:Str:="names"
noncomputable def lE:Str:="law_stylehouse_k17_chains"
noncomputable def CV:Str:="check_place"
noncomputable def CU:Str:="_law_cell"
noncomputable def CT:Str:="_law_mix"
noncomputable def CS:Str:="_law_name"
noncomputable def CQ:Str:="_law_pool"
noncomputable def CP:Str:="_law_whole"
noncomputable def CO:Str:="_law_same_row"
noncomputable def CN:Str:="_law_under"
noncomputable def CM:Str:="_law_many"
noncomputable def CL:Str:="_law_grow"
noncomputable def CK:Str:="_law_has"
noncomputable def CJ:Str:="_law_plain"
noncomputable def CI:Str:="_law_trait"
noncomputable def CH:Str:="_law_all"
noncomputable def CG:Str:="_law_leads"
noncomputable def CF:Str:="_law_reached"
noncomputable def CD:Str:="_law_pattern"
noncomputable def CC:Str:="_law_ends"
noncomputable def CB:Str:="_law_chained"
noncomputable def CA:Str:="law"
noncomputable def Nv:Str:="_law_script"
noncomputable def IL:Str:="_law_k"
noncomputable def IK:Str:="_law_cell_here"
noncomputable def IJ:Str:="_law_way"
noncomputable def Nu:Str:="_law_first"
noncomputable def O1:Str:="_law_at"
noncomputable def O0:Str:="_law_letters"
noncomputable def Cz:Str:="_law_one"
noncomputable def II:Str:="_law_draw"
noncomputable def LI:Str:="_law_place"
noncomputable def OZ:Str:="_law_sign"
noncomputable def OY:Str:="_law_two"
noncomputable def OX:Str:="_law_three"
noncomputable def Nt:Str:="_law_found"
noncomputable def OW:Str:="_law_due"
noncomputable def Cy:Str:="_law_rows"
noncomputable def Ed:Str:="_law_box"
noncomputable def OV:Str:="_law_told"
noncomputable def OU:Str:="_law_todo"
noncomputable def OT:Str:="_law_most"
noncomputable def OS:Str:="_law_tree"
noncomputable def Ec:Str:="_law_facts"
noncomputable def Gf:Str:="_law_marks"
noncomputable def Nr:Str:="_law_pool_here"
noncomputable def OR:Str:="_law_number"
noncomputable def Nq:Str:="_law_holder"
noncomputable def OQ:Str:="_law_name_here"
noncomputable def OP:Str:="_law_trait_here"
noncomputable def Np:Str:="_law_kind"
noncomputable def OO:Str:="_law_row"
noncomputable def ON:Str:="_law_every"
noncomputable def OM:Str:="_law_traits"
noncomputable def OL:Str:="_law_join"
noncomputable def OK:Str:="_law_far"
noncomputable def OJ:Str:="_law_step"
noncomputable def OI:Str:="_law_early"
noncomputable def OH:Str:="_law_pattern_here"
noncomputable def OG:Str:="_law_chain"
noncomputable abbrev oN (n q:Str) (s:Stmt) (_:Params):Obj:=⟨.none,none,.func ⟨n,q,cp s,.stmts (bL s),aI s,0,[],.none,.none,.none,.none,none,.none,.none,0⟩,⟨[]⟩⟩
def tri:List Nat->List Value
 | a::b::r=>.int (.ofNat a) 0::.int (.ofNat 0) 0::.ref b::tri r
 | _=>[]
noncomputable abbrev oR (l:List Nat) (_:Params):Obj:=⟨.none,none,.fields ⟨tri l⟩,⟨[]⟩⟩
noncomputable abbrev oE (n q:Str) (t l a r s:Nat) (_:Params):Obj:=oC y1 n t q (t+1) n1 (t+2) l a 0 0 3 r true 181 (r+1) .none (.ref (r+2)) (.ref (r+3)) (.ref (r+4)) s l n1 (s+1)
noncomputable abbrev oG (n q:Str) (s:Stmt) (m:Str) (t r:Nat) (_:Params):Obj:=oM y5 n q s 3 [] .none .none .none (.str m t) none (.ref r) .none 0
noncomputable def o0:=oQ y0 [] 0
noncomputable def o1 (P:Params):Obj:=⟨.none,none,(.fields ⟨[]⟩),⟨[]⟩⟩
noncomputable def o2 (P:Params):Obj:=oC y1 n0 182 n0 183 n1 184 1 0 0 0 0 11 false 181 12 .none .none .none .none 185 1 n1 186
noncomputable def o3 (P:Params):Obj:=⟨(.type y2),none,.plain,⟨[(some (vR 13)),(some (vR 3)),(some (vR 3)),none,(some (vS n2 164)),none,(some (vR 0))]⟩⟩
noncomputable def o4 (P:Params):Obj:=oD y3 [dE P n3 165 (vS n4 310),dE P n5 166 .none,dE P n6 167 .none,dE P n7 168 (.builtin y4),dE P n8 169 .none,dE P n9 170 (vR 6),dE P n10 171 (vR 4),dE P n11 173 (vS n1 172),dE P n12 174 .none,dE P n13 193 (vR 21),dE P n14 204 (vR 28),dE P n15 213 (vR 35),dE P n16 223 (vR 42),dE P n17 231 (vR 49),dE P n18 240 (vR 56),dE P n19 287 (vR 87),dE P n20 294 (vR 98),dE P n21 300 (vR 103),dE P n22 309 (vR 110),dE P n23 320 (vR 117),dE P n24 326 (vR 122),dE P n25 338 (vR 129),dE P n26 350 (vR 136),dE P n27 362 (vR 143),dE P n28 371 (vR 150)] 25
noncomputable def o5:=oR [1,20,5,27,8,34,11,41,18,48,20,55,24,62,34,97,36,102,51,109,56,116,58,121,61,128,69,135,74,142,79,149]
noncomputable def o6:=oQ y0 [vS n29 190] 0
noncomputable def o7:=oN n13 n13 (top 0)
noncomputable def o8:=oE n13 n13 187 1 1 15 191
noncomputable def o9:=oG n13 n13 (top 0) n2 164 20
noncomputable def o10:=oQ y0 [vS n30 199,vS n31 200,vS n32 201] 0
noncomputable def o11:=oN n14 n14 (top 2)
noncomputable def o12:=oE n14 n14 196 5 2 22 202
noncomputable def o13:=oG n14 n14 (top 2) n33 194 27
noncomputable def o14:=oQ y0 [vS n30 208,vS n31 209,vS n34 210] 0
noncomputable def o15:=oN n15 n15 (top 3)
noncomputable def o16:=oE n15 n15 205 8 2 29 211
noncomputable def o17:=oG n15 n15 (top 3) n33 194 34
noncomputable def o18:=oQ y0 [vS n30 217,vS n31 218,vS n35 219,vS n32 220] 0
noncomputable def o19:=oN n16 n16 (top 4)
noncomputable def o20:=oE n16 n16 214 11 2 36 221
noncomputable def o21:=oG n16 n16 (top 4) n33 194 41
noncomputable def o22:=oQ y0 [vS n30 227,vS n31 228] 0
noncomputable def o23:=oN n17 n17 (top 5)
noncomputable def o24:=oE n17 n17 224 18 2 43 229
noncomputable def o25:=oG n17 n17 (top 5) n33 194 48
noncomputable def o26:=oQ y0 [vS n30 235,vS n31 236,vS n34 237] 0
noncomputable def o27:=oN n18 n18 (top 6)
noncomputable def o28:=oE n18 n18 232 20 2 50 238
noncomputable def o29:=oG n18 n18 (top 6) n33 194 55
noncomputable def o30:=oF y6 [(.builtin y7),(.type y8)]
noncomputable def o31 (P:Params):Obj:=oD y3 [dE P n36 250 (vS n37 241),dE P n38 252 (vS n19 251),dE P n39 254 (vI 24 253),dE P n40 262 (vR 70),dE P n23 271 (vR 77),dE P n41 278 (vR 84),dE P n42 280 (vR 85)] 7
noncomputable def o32 (P:Params):Obj:=⟨.none,none,(.fields ⟨[vI 26 0,vI 4 0,vR 69,vI 29 0,vI 4 0,vR 76,vI 32 0,vI 4 0,vR 83]⟩),⟨[]⟩⟩
noncomputable def o33 (P:Params):Obj:=oC y1 n19 245 n19 246 n1 247 24 0 0 0 0 60 false 181 61 .none .none .none .none 248 24 n1 249
noncomputable def o34 (P:Params):Obj:=⟨(.type y2),none,.plain,⟨[(some (vR 62)),(some (vR 3)),(some (vR 59)),none,(some (vS n37 241)),none,(some (vR 0))]⟩⟩
noncomputable def o35:=oQ y0 [vS n43 258,vS n44 259] 0
noncomputable def o36:=oN n40 n45 (inClass (top 8) 0)
noncomputable def o37:=oE n40 n45 255 26 2 64 260
noncomputable def o38:=oG n40 n45 (inClass (top 8) 0) n37 241 69
noncomputable def o39:=oQ y0 [vS n43 266,vS n30 267,vS n31 268] 0
noncomputable def o40:=oN n23 n46 (inClass (top 8) 1)
noncomputable def o41:=oE n23 n46 263 29 3 71 269
noncomputable def o42:=oG n23 n46 (inClass (top 8) 1) n37 241 76
noncomputable def o43:=oQ y0 [vS n43 275] 0
noncomputable def o44:=oN n41 n47 (inClass (top 8) 2)
noncomputable def o45:=oE n41 n47 272 32 1 78 276
noncomputable def o46:=oG n41 n47 (inClass (top 8) 2) n37 241 83
noncomputable def o47:=oQ y0 [vS n44 279] 0
noncomputable def o48 (P:Params):Obj:=oD y3 [dE P n36 250 (vS n37 241),dE P n39 254 (vI 24 253),dE P n40 262 (vR 70),dE P n23 271 (vR 77),dE P n41 278 (vR 84),dE P n42 280 (vR 85),dE P n48 282 (vR 88),dE P n49 284 (vR 89),dE P n5 285 .none] 4
noncomputable def o49 (P:Params):Obj:=⟨(.type y8),none,(.cls ⟨n19,[(.type y9)],[vR 87,(.type y9)],86,n19,true,[],[],false,none,false⟩),⟨[none,none,(some (vS n19 243)),(some (vS n19 251)),(some (.builtin y10)),(some (.bool true))]⟩⟩
noncomputable def o50:=oF y11 [vS n48 281,vR 87,(.builtin y12),(.builtin y13)]
noncomputable def o51:=oF y11 [vS n49 283,vR 87,(.builtin y14),.none]
noncomputable def o52:=oF y15 [vR 87,vR 87,vR 87]
noncomputable def o53:=oF y6 [(.builtin y16),vR 87]
noncomputable def o54:=oQ y0 [vS n44 291] 0
noncomputable def o55:=oN n20 n20 (top 9)
noncomputable def o56:=oE n20 n20 288 34 1 92 292
noncomputable def o57:=oG n20 n20 (top 9) n37 241 97
noncomputable def o58:=oN n21 n21 (top 10)
noncomputable def o59 (P:Params):Obj:=oC y1 n21 295 n21 296 n1 297 36 3 0 0 3 99 true 181 100 .none .none .none (vR 101) 298 36 n1 299
noncomputable def o60:=oG n21 n21 (top 10) n37 241 102
noncomputable def o61:=oQ y0 [vS n50 304,vS n51 305,vS n52 306] 0
noncomputable def o62:=oN n22 n22 (top 11)
noncomputable def o63:=oE n22 n22 301 51 3 104 307
noncomputable def o64:=oG n22 n22 (top 11) n37 241 109
noncomputable def o65:=oQ y0 [vS n30 315,vS n53 316,vS n31 317] 0
noncomputable def o66:=oN n23 n23 (top 13)
noncomputable def o67:=oE n23 n23 312 56 3 111 318
noncomputable def o68:=oG n23 n23 (top 13) n4 310 116
noncomputable def o69:=oN n24 n24 (top 14)
noncomputable def o70 (P:Params):Obj:=oC y1 n24 321 n24 322 n1 323 58 3 0 0 3 118 true 181 119 .none .none .none (vR 120) 324 58 n1 325
noncomputable def o71:=oG n24 n24 (top 14) n4 310 121
noncomputable def o72:=oQ y0 [vS n30 330,vS n53 331,vS n31 332,vS n54 333,vS n55 334,vS n50 335] 0
noncomputable def o73:=oN n25 n25 (top 15)
noncomputable def o74:=oE n25 n25 327 61 3 123 336
noncomputable def o75:=oG n25 n25 (top 15) n4 310 128
noncomputable def o76:=oQ y0 [vS n30 342,vS n53 343,vS n50 344,vS n31 345,vS n54 346,vS n56 347] 0
noncomputable def o77:=oN n26 n26 (top 16)
noncomputable def o78:=oE n26 n26 339 69 5 130 348
noncomputable def o79:=oG n26 n26 (top 16) n4 310 135
noncomputable def o80:=oQ y0 [vS n30 354,vS n53 355,vS n50 356,vS n31 357,vS n54 358,vS n57 359] 0
noncomputable def o81:=oN n27 n27 (top 17)
noncomputable def o82:=oE n27 n27 351 74 5 137 360
noncomputable def o83:=oG n27 n27 (top 17) n4 310 142
noncomputable def o84:=oQ y0 [vS n30 366,vS n58 367,vS n31 368] 0
noncomputable def o85:=oN n28 n28 (top 18)
noncomputable def o86:=oE n28 n28 363 79 3 144 369
noncomputable def o87:=oG n28 n28 (top 18) n4 310 149
noncomputable def o88 (P:Params):Obj:=oD y3 [dE P n3 165 (vS n59 382),dE P n5 166 .none,dE P n6 167 .none,dE P n7 168 (.builtin y4),dE P n8 169 .none,dE P n9 170 (vR 6),dE P n10 171 (vR 4),dE P n11 173 (vS n1 172),dE P n12 174 .none,dE P n13 193 (vR 21),dE P n14 204 (vR 28),dE P n15 213 (vR 35),dE P n16 223 (vR 42),dE P n17 231 (vR 49),dE P n18 240 (vR 56),dE P n19 287 (vR 87),dE P n20 294 (vR 98),dE P n21 300 (vR 103),dE P n22 309 (vR 110),dE P n23 320 (vR 117),dE P n24 326 (vR 122),dE P n25 338 (vR 129),dE P n26 350 (vR 136),dE P n27 362 (vR 143),dE P n28 371 (vR 150),dE P n60 381 (vR 157),dE P n61 401 (vR 167),dE P n62 417 (vR 180),dE P n63 433 (vR 192)] 29
noncomputable def o89:=oR [1,20,5,27,8,34,11,41,18,48,20,55,24,62,34,97,36,102,51,109,56,116,58,121,61,128,69,135,74,142,79,149,87,156,93,163,95,176,97,188]
noncomputable def o90:=oQ y0 [vS n30 375,vS n31 376,vS n64 377,vS n44 378] 0
noncomputable def o91:=oN n60 n60 (top 19)
noncomputable def o92:=oE n60 n60 372 87 3 151 379
noncomputable def o93:=oG n60 n60 (top 19) n4 310 156
noncomputable def o94:=oQ y0 [(.type y17)] 0
noncomputable def o95 (P:Params):Obj:=oD y3 [dE P n36 391 (vS n59 382),dE P n38 393 (vS n61 392),dE P n39 395 (vI 93 394),dE P n42 396 (vR 165)] 4
noncomputable def o96 (P:Params):Obj:=oC y1 n61 386 n61 387 n1 388 93 0 0 0 0 161 false 181 162 .none .none .none .none 389 93 n1 390
noncomputable def o97 (P:Params):Obj:=⟨(.type y2),none,.plain,⟨[(some (vR 163)),(some (vR 3)),(some (vR 160)),none,(some (vS n59 382)),none,(some (vR 0))]⟩⟩
noncomputable def o98 (P:Params):Obj:=oD y3 [dE P n36 391 (vS n59 382),dE P n39 395 (vI 93 394),dE P n42 396 (vR 165),dE P n49 398 (vR 168),dE P n5 399 .none] 3
noncomputable def o99 (P:Params):Obj:=⟨(.type y8),none,(.cls ⟨n61,[(.type y17)],[vR 167,(.type y17),(.type y18),(.type y19),(.type y9)],166,n61,true,[],[vR 180,vR 192],false,none,false⟩),⟨[(some (vR 158)),none,(some (vS n61 384)),(some (vS n61 392)),(some (.builtin y20)),(some (.bool true))]⟩⟩
noncomputable def Eb:=oF y11 [vS n49 397,vR 167,(.builtin y14),.none]
noncomputable def F9:=oF y15 [vR 167,vR 167,vR 167]
noncomputable def F8:=oF y6 [(.builtin y16),vR 167]
noncomputable def mP:=oQ y0 [vR 167] 0
noncomputable def F7 (P:Params):Obj:=oD y3 [dE P n36 409 (vS n59 382),dE P n38 411 (vS n62 410),dE P n39 413 (vI 95 412),dE P n42 414 (vR 178)] 4
noncomputable def F6 (P:Params):Obj:=oC y1 n62 404 n62 405 n1 406 95 0 0 0 0 174 false 181 175 .none .none .none .none 407 95 n1 408
noncomputable def F5 (P:Params):Obj:=⟨(.type y2),none,.plain,⟨[(some (vR 176)),(some (vR 3)),(some (vR 173)),none,(some (vS n59 382)),none,(some (vR 0))]⟩⟩
noncomputable def Ea (P:Params):Obj:=oD y3 [dE P n36 409 (vS n59 382),dE P n39 413 (vI 95 412),dE P n42 414 (vR 178),dE P n5 415 .none] 2
noncomputable def D9 (P:Params):Obj:=⟨(.type y8),none,(.cls ⟨n62,[vR 167],[vR 180,vR 167,(.type y17),(.type y18),(.type y19),(.type y9)],179,n62,true,[],[],false,none,false⟩),⟨[(some (vR 171)),none,(some (vS n62 402)),(some (vS n62 410)),(some (.builtin y20)),(some (.bool true))]⟩⟩
noncomputable def F4:=oF y15 [vR 180,vR 180,vR 180]
noncomputable def F3:=oF y6 [(.builtin y16),vR 180]
noncomputable def F2 (P:Params):Obj:=oD y3 [dE P n36 425 (vS n59 382),dE P n38 427 (vS n63 426),dE P n39 429 (vI 97 428),dE P n42 430 (vR 190)] 4
noncomputable def F0 (P:Params):Obj:=oC y1 n63 420 n63 421 n1 422 97 0 0 0 0 186 false 181 187 .none .none .none .none 423 97 n1 424
noncomputable def FZ (P:Params):Obj:=⟨(.type y2),none,.plain,⟨[(some (vR 188)),(some (vR 3)),(some (vR 185)),none,(some (vS n59 382)),none,(some (vR 0))]⟩⟩
noncomputable def D8 (P:Params):Obj:=oD y3 [dE P n36 425 (vS n59 382),dE P n39 429 (vI 97 428),dE P n42 430 (vR 190),dE P n5 431 .none] 2
noncomputable def D7 (P:Params):Obj:=⟨(.type y8),none,(.cls ⟨n63,[vR 167],[vR 192,vR 167,(.type y17),(.type y18),(.type y19),(.type y9)],191,n63,true,[],[],false,none,false⟩),⟨[(some (vR 183)),none,(some (vS n63 418)),(some (vS n63 426)),(some (.builtin y20)),(some (.bool true))]⟩⟩
noncomputable def FY:=oF y15 [vR 192,vR 192,vR 192]
noncomputable def FX:=oF y6 [(.builtin y16),vR 192]
noncomputable def OD (P:Params):Obj:=oD y3 [dE P n3 165 (vS n65 476),dE P n5 166 .none,dE P n6 167 .none,dE P n7 168 (.builtin y4),dE P n8 169 .none,dE P n9 170 (vR 6),dE P n10 171 (vR 4),dE P n11 173 (vS n1 172),dE P n12 174 .none,dE P n13 193 (vR 21),dE P n14 204 (vR 28),dE P n15 213 (vR 35),dE P n16 223 (vR 42),dE P n17 231 (vR 49),dE P n18 240 (vR 56),dE P n19 287 (vR 87),dE P n20 294 (vR 98),dE P n21 300 (vR 103),dE P n22 309 (vR 110),dE P n23 320 (vR 117),dE P n24 326 (vR 122),dE P n25 338 (vR 129),dE P n26 350 (vR 136),dE P n27 362 (vR 143),dE P n28 371 (vR 150),dE P n60 381 (vR 157),dE P n61 401 (vR 167),dE P n62 417 (vR 180),dE P n63 433 (vR 192),dE P n66 449 (vR 204),dE P n67 465 (vR 216),dE P n68 469 (vI 8 468),dE P n69 475 (vR 223),dE P n70 479 (vI 90 478),dE P n71 481 (vI 12 480)] 35
noncomputable def OC:=oR [1,20,5,27,8,34,11,41,18,48,20,55,24,62,34,97,36,102,51,109,56,116,58,121,61,128,69,135,74,142,79,149,87,156,93,163,95,176,97,188,99,200,101,212,105,222]
noncomputable def FW (P:Params):Obj:=⟨(.type y8),none,(.cls ⟨n61,[(.type y17)],[vR 167,(.type y17),(.type y18),(.type y19),(.type y9)],166,n61,true,[],[vR 180,vR 192,vR 204,vR 216],false,none,false⟩),⟨[(some (vR 158)),none,(some (vS n61 384)),(some (vS n61 392)),(some (.builtin y20)),(some (.bool true))]⟩⟩
noncomputable def IG (P:Params):Obj:=oD y3 [dE P n36 441 (vS n59 382),dE P n38 443 (vS n66 442),dE P n39 445 (vI 99 444),dE P n42 446 (vR 202)] 4
noncomputable def IF (P:Params):Obj:=oC y1 n66 436 n66 437 n1 438 99 0 0 0 0 198 false 181 199 .none .none .none .none 439 99 n1 440
noncomputable def IE (P:Params):Obj:=⟨(.type y2),none,.plain,⟨[(some (vR 200)),(some (vR 3)),(some (vR 197)),none,(some (vS n59 382)),none,(some (vR 0))]⟩⟩
noncomputable def FV (P:Params):Obj:=oD y3 [dE P n36 441 (vS n59 382),dE P n39 445 (vI 99 444),dE P n42 446 (vR 202),dE P n5 447 .none] 2
noncomputable def FU (P:Params):Obj:=⟨(.type y8),none,(.cls ⟨n66,[vR 167],[vR 204,vR 167,(.type y17),(.type y18),(.type y19),(.type y9)],203,n66,true,[],[],false,none,false⟩),⟨[(some (vR 195)),none,(some (vS n66 434)),(some (vS n66 442)),(some (.builtin y20)),(some (.bool true))]⟩⟩
noncomputable def ID:=oF y15 [vR 204,vR 204,vR 204]
noncomputable def IC:=oF y6 [(.builtin y16),vR 204]
noncomputable def IB (P:Params):Obj:=oD y3 [dE P n36 457 (vS n59 382),dE P n38 459 (vS n67 458),dE P n39 461 (vI 101 460),dE P n42 462 (vR 214)] 4
noncomputable def IA (P:Params):Obj:=oC y1 n67 452 n67 453 n1 454 101 0 0 0 0 210 false 181 211 .none .none .none .none 455 101 n1 456
noncomputable def Iz (P:Params):Obj:=⟨(.type y2),none,.plain,⟨[(some (vR 212)),(some (vR 3)),(some (vR 209)),none,(some (vS n59 382)),none,(some (vR 0))]⟩⟩
noncomputable def FT (P:Params):Obj:=oD y3 [dE P n36 457 (vS n59 382),dE P n39 461 (vI 101 460),dE P n42 462 (vR 214),dE P n5 463 .none] 2
noncomputable def FR (P:Params):Obj:=⟨(.type y8),none,(.cls ⟨n67,[vR 167],[vR 216,vR 167,(.type y17),(.type y18),(.type y19),(.type y9)],215,n67,true,[],[],false,none,false⟩),⟨[(some (vR 207)),none,(some (vS n67 450)),(some (vS n67 458)),(some (.builtin y20)),(some (.bool true))]⟩⟩
noncomputable def Iy:=oF y15 [vR 216,vR 216,vR 216]
noncomputable def Iw:=oF y6 [(.builtin y16),vR 216]
noncomputable def Iv:=oN n69 n69 (top 28)
noncomputable def FQ (P:Params):Obj:=oC y1 n69 470 n69 471 n1 472 105 1 0 0 3 219 true 181 220 .none .none .none (vR 221) 473 105 n1 474
noncomputable def FP:=oG n69 n69 (top 28) n72 466 222
noncomputable def OB (P:Params):Obj:=oD y3 [dE P n3 165 (vS n65 476),dE P n5 166 .none,dE P n6 167 .none,dE P n7 168 (.builtin y4),dE P n8 169 .none,dE P n9 170 (vR 6),dE P n10 171 (vR 4),dE P n11 173 (vS n1 172),dE P n12 174 .none,dE P n13 193 (vR 21),dE P n14 204 (vR 28),dE P n15 213 (vR 35),dE P n16 223 (vR 42),dE P n17 231 (vR 49),dE P n18 240 (vR 56),dE P n19 287 (vR 87),dE P n20 294 (vR 98),dE P n21 300 (vR 103),dE P n22 309 (vR 110),dE P n23 320 (vR 117),dE P n24 326 (vR 122),dE P n25 338 (vR 129),dE P n26 350 (vR 136),dE P n27 362 (vR 143),dE P n28 371 (vR 150),dE P n60 381 (vR 157),dE P n61 401 (vR 167),dE P n62 417 (vR 180),dE P n63 433 (vR 192),dE P n66 449 (vR 204),dE P n67 465 (vR 216),dE P n68 469 (vI 8 468),dE P n69 475 (vR 223),dE P n70 479 (vI 90 478),dE P n71 481 (vI 12 480),dE P n73 655 (vR 352),dE P n74 662 (vR 363)] 37
noncomputable def OA:=oR [1,20,5,27,8,34,11,41,18,48,20,55,24,62,34,97,36,102,51,109,56,116,58,121,61,128,69,135,74,142,79,149,87,156,93,163,95,176,97,188,99,200,101,212,105,222,114,229,205,362]
noncomputable def LF (P:Params):Obj:=oD y3 [dE P n36 489 (vS n65 476),dE P n38 491 (vS n73 490),dE P n39 493 (vI 114 492),dE P n40 501 (vR 237),dE P n75 511 (vR 244),dE P n76 519 (vR 251),dE P n77 530 (vR 258),dE P n78 538 (vR 265),dE P n79 548 (vR 272),dE P n80 557 (vR 279),dE P n81 566 (vR 286),dE P n82 575 (vR 293),dE P n83 584 (vR 300),dE P n84 592 (vR 307),dE P n85 600 (vR 314),dE P n86 608 (vR 321),dE P n87 616 (vR 328),dE P n88 624 (vR 335),dE P n89 632 (vR 342),dE P n90 640 (vR 349),dE P n42 648 (vR 350)] 21
noncomputable def LD (P:Params):Obj:=⟨.none,none,(.fields ⟨[vI 116 0,vI 4 0,vR 236,vI 127 0,vI 4 0,vR 243,vI 138 0,vI 4 0,vR 250,vI 142 0,vI 4 0,vR 257,vI 154 0,vI 4 0,vR 264,vI 157 0,vI 4 0,vR 271,vI 160 0,vI 4 0,vR 278,vI 168 0,vI 4 0,vR 285,vI 171 0,vI 4 0,vR 292,vI 178 0,vI 4 0,vR 299,vI 181 0,vI 4 0,vR 306,vI 184 0,vI 4 0,vR 313,vI 188 0,vI 4 0,vR 320,vI 192 0,vI 4 0,vR 327,vI 195 0,vI 4 0,vR 334,vI 198 0,vI 4 0,vR 341,vI 202 0,vI 4 0,vR 348]⟩),⟨[]⟩⟩
noncomputable def LC (P:Params):Obj:=oC y1 n73 484 n73 485 n1 486 114 0 0 0 0 227 false 181 228 .none .none .none .none 487 114 n1 488
noncomputable def LB (P:Params):Obj:=⟨(.type y2),none,.plain,⟨[(some (vR 229)),(some (vR 3)),(some (vR 226)),none,(some (vS n65 476)),none,(some (vR 0))]⟩⟩
noncomputable def LA:=oQ y0 [vS n43 497,vS n91 498] 0
noncomputable def Lz:=oN n40 n92 (inClass (top 32) 0)
noncomputable def Iu:=oE n40 n92 494 116 2 231 499
noncomputable def Ir:=oG n40 n92 (inClass (top 32) 0) n65 476 236
noncomputable def Ly:=oQ y0 [vS n43 505,vS n32 506,vS n91 507,vS n31 508] 0
noncomputable def Lx:=oN n75 n93 (inClass (top 32) 1)
noncomputable def Iq:=oE n75 n93 502 127 3 238 509
noncomputable def Ip:=oG n75 n93 (inClass (top 32) 1) n65 476 243
noncomputable def Lw:=oQ y0 [vS n43 515,vS n31 516] 0
noncomputable def Lv:=oN n76 n94 (inClass (top 32) 2)
noncomputable def Io:=oE n76 n94 512 138 2 245 517
noncomputable def Im:=oG n76 n94 (inClass (top 32) 2) n65 476 250
noncomputable def Lu:=oQ y0 [vS n43 523,vS n32 524,vS n50 525,vS n91 526,vS n31 527] 0
noncomputable def Ls:=oN n77 n95 (inClass (top 32) 3)
noncomputable def Il:=oE n77 n95 520 142 4 252 528
noncomputable def Ik:=oG n77 n95 (inClass (top 32) 3) n65 476 257
noncomputable def Lr:=oQ y0 [vS n43 534,vS n31 535] 0
noncomputable def Lq:=oN n78 n96 (inClass (top 32) 4)
noncomputable def Ij:=oE n78 n96 531 154 2 259 536
noncomputable def Ii:=oG n78 n96 (inClass (top 32) 4) n65 476 264
noncomputable def Lp:=oQ y0 [vS n43 542,vS n31 543,vS n32 544,vS n50 545] 0
noncomputable def Lo:=oN n79 n97 (inClass (top 32) 5)
noncomputable def Ih:=oE n79 n97 539 157 4 266 546
noncomputable def Ig:=oG n79 n97 (inClass (top 32) 5) n65 476 271
noncomputable def Ln:=oQ y0 [vS n43 552,vS n31 553,vS n98 554] 0
noncomputable def Lm:=oN n80 n99 (inClass (top 32) 6)
noncomputable def Ie:=oE n80 n99 549 160 3 273 555
noncomputable def Ib:=oG n80 n99 (inClass (top 32) 6) n65 476 278
noncomputable def Ll:=oQ y0 [vS n43 561,vS n31 562,vS n98 563] 0
noncomputable def Lk:=oN n81 LV (inClass (top 32) 7)
noncomputable def Ia:=oE n81 LV 558 168 3 280 564
noncomputable def HZ:=oG n81 LV (inClass (top 32) 7) n65 476 285
noncomputable def Lj:=oQ y0 [vS n43 570,vS n31 571,vS Ny 572] 0
noncomputable def Li:=oN n82 LU (inClass (top 32) 8)
noncomputable def HY:=oE n82 LU 567 171 3 287 573
noncomputable def HX:=oG n82 LU (inClass (top 32) 8) n65 476 292
noncomputable def Lh:=oQ y0 [vS n43 579,vS n31 580,vS Nw 581] 0
noncomputable def Lg:=oN n83 LS (inClass (top 32) 9)
noncomputable def HW:=oE n83 LS 576 178 3 294 582
noncomputable def HV:=oG n83 LS (inClass (top 32) 9) n65 476 299
noncomputable def Le:=oQ y0 [vS n43 588,vS n31 589] 0
noncomputable def Ld:=oN n84 LR (inClass (top 32) 10)
noncomputable def HU:=oE n84 LR 585 181 2 301 590
noncomputable def HS:=oG n84 LR (inClass (top 32) 10) n65 476 306
noncomputable def Lc:=oQ y0 [vS n43 596,vS n31 597] 0
noncomputable def Lb:=oN n85 LQ (inClass (top 32) 11)
noncomputable def HR:=oE n85 LQ 593 184 2 308 598
noncomputable def HQ:=oG n85 LQ (inClass (top 32) 11) n65 476 313
noncomputable def La:=oQ y0 [vS n43 604,vS n31 605] 0
noncomputable def K9:=oN n86 LP (inClass (top 32) 12)
noncomputable def HP:=oE n86 LP 601 188 2 315 606
noncomputable def HN:=oG n86 LP (inClass (top 32) 12) n65 476 320
noncomputable def K8:=oQ y0 [vS n43 612,vS n31 613] 0
noncomputable def K7:=oN n87 LO (inClass (top 32) 13)
noncomputable def HM:=oE n87 LO 609 192 2 322 614
noncomputable def HL:=oG n87 LO (inClass (top 32) 13) n65 476 327
noncomputable def K6:=oQ y0 [vS n43 620,vS n31 621] 0
noncomputable def K5:=oN n88 LL (inClass (top 32) 14)
noncomputable def HK:=oE n88 LL 617 195 2 329 622
noncomputable def HJ:=oG n88 LL (inClass (top 32) 14) n65 476 334
noncomputable def K4:=oQ y0 [vS n43 628,vS n31 629] 0
noncomputable def K3:=oN n89 LK (inClass (top 32) 15)
noncomputable def HI:=oE n89 LK 625 198 2 336 630
noncomputable def HH:=oG n89 LK (inClass (top 32) 15) n65 476 341
noncomputable def K2:=oQ y0 [vS n43 636,vS n31 637] 0
noncomputable def K1:=oN n90 LJ (inClass (top 32) 16)
noncomputable def HG:=oE n90 LJ 633 202 2 343 638
noncomputable def HF:=oG n90 LJ (inClass (top 32) 16) n65 476 348
noncomputable def HE:=oQ y0 [vS O6 641,vS O5 642,vS O4 643,vS O3 644,vS O2 645,vS Nw 646,vS Ny 647] 0
noncomputable def HD (P:Params):Obj:=oD y3 [dE P n36 489 (vS n65 476),dE P n39 493 (vI 114 492),dE P n40 501 (vR 237),dE P n75 511 (vR 244),dE P n76 519 (vR 251),dE P n77 530 (vR 258),dE P n78 538 (vR 265),dE P n79 548 (vR 272),dE P n80 557 (vR 279),dE P n81 566 (vR 286),dE P n82 575 (vR 293),dE P n83 584 (vR 300),dE P n84 592 (vR 307),dE P n85 600 (vR 314),dE P n86 608 (vR 321),dE P n87 616 (vR 328),dE P n88 624 (vR 335),dE P n89 632 (vR 342),dE P n90 640 (vR 349),dE P n42 648 (vR 350),dE P n48 650 (vR 353),dE P n49 652 (vR 354),dE P n5 653 .none] 4
noncomputable def HC (P:Params):Obj:=⟨(.type y8),none,(.cls ⟨n73,[(.type y9)],[vR 352,(.type y9)],351,n73,true,[],[],false,none,false⟩),⟨[none,none,(some (vS n73 482)),(some (vS n73 490)),(some (.builtin y10)),(some (.bool true))]⟩⟩
noncomputable def HB:=oF y11 [vS n48 649,vR 352,(.builtin y12),(.builtin y13)]
noncomputable def Hz:=oF y11 [vS n49 651,vR 352,(.builtin y14),.none]
noncomputable def K0:=oF y15 [vR 352,vR 352,vR 352]
noncomputable def KZ:=oF y6 [(.builtin y16),vR 352]
noncomputable def KY:=oQ y0 [vS n91 659] 0
noncomputable def KW:=oN n74 n74 (top 33)
noncomputable def Hy:=oE n74 n74 656 205 1 357 660
noncomputable def Hx:=oG n74 n74 (top 33) n65 476 362
noncomputable def KS (P:Params):Obj:=oD y3 [dE P n3 165 (vS lE 671),dE P n5 166 .none,dE P n6 167 .none,dE P n7 168 (.builtin y4),dE P n8 169 .none,dE P n9 170 (vR 6),dE P n10 171 (vR 4),dE P n11 173 (vS n1 172),dE P n12 174 .none,dE P n13 193 (vR 21),dE P n14 204 (vR 28),dE P n15 213 (vR 35),dE P n16 223 (vR 42),dE P n17 231 (vR 49),dE P n18 240 (vR 56),dE P n19 287 (vR 87),dE P n20 294 (vR 98),dE P n21 300 (vR 103),dE P n22 309 (vR 110),dE P n23 320 (vR 117),dE P n24 326 (vR 122),dE P n25 338 (vR 129),dE P n26 350 (vR 136),dE P n27 362 (vR 143),dE P n28 371 (vR 150),dE P n60 381 (vR 157),dE P n61 401 (vR 167),dE P n62 417 (vR 180),dE P n63 433 (vR 192),dE P n66 449 (vR 204),dE P n67 465 (vR 216),dE P n68 469 (vI 8 468),dE P n69 475 (vR 223),dE P n70 479 (vI 90 478),dE P n71 481 (vI 12 480),dE P n73 655 (vR 352),dE P n74 662 (vR 363),dE P CV 670 (vR 370),dE P CU 680 (vR 377),dE P CT 689 (vR 384),dE P CS 695 (vR 389),dE P CQ 710 (vR 396),dE P CP 717 (vR 403),dE P CO 726 (vR 410),dE P CN 737 (vR 417),dE P CM 747 (vR 424),dE P CL 766 (vR 431),dE P CK 781 (vR 438),dE P CJ 794 (vR 445),dE P CI 800 (vR 450),dE P CH 812 (vR 457),dE P CG 825 (vR 464),dE P CF 838 (vR 471),dE P CD 844 (vR 476),dE P CC 850 (vR 481),dE P CB 864 (vR 488),dE P CA 870 (vR 493)] 57
noncomputable def Nn:=oR [1,20,5,27,8,34,11,41,18,48,20,55,24,62,34,97,36,102,51,109,56,116,58,121,61,128,69,135,74,142,79,149,87,156,93,163,95,176,97,188,99,200,101,212,105,222,114,229,205,362,208,369,212,376,216,383,219,388,223,395,232,402,234,409,241,416,249,423,254,430,273,437,297,444,314,449,321,456,326,463,340,470,349,475,362,480,367,487,377,492]
noncomputable def Nm:=oQ y0 [vS n50 666,vS n34 667] 0
noncomputable def Nl:=oN CV CV (top 34)
noncomputable def KR:=oE CV CV 663 208 2 364 668
noncomputable def KQ:=oG CV CV (top 34) n65 476 369
noncomputable def Nk:=oQ y0 [vS Nv 676,vS IL 677] 0
noncomputable def Nj:=oN CU CU (top 36)
noncomputable def KP:=oE CU CU 673 212 2 371 678
noncomputable def KO:=oG CU CU (top 36) lE 671 376
noncomputable def Ni:=oQ y0 [vS IK 684,vS IJ 685,vS Nu 686] 0
noncomputable def Nh:=oN CT CT (top 37)
noncomputable def KN:=oE CT CT 681 216 2 378 687
noncomputable def KL:=oG CT CT (top 37) lE 671 383
noncomputable def Ng:=oN CS CS (top 38)
noncomputable def KJ (P:Params):Obj:=oC y1 CS 690 CS 691 n1 692 219 2 0 0 3 385 true 181 386 .none .none .none (vR 387) 693 219 n1 694
noncomputable def KI:=oG CS CS (top 38) lE 671 388
noncomputable def Nc:=oQ y0 [vS Nv 699,vS O1 700,vS O0 701,vS Cz 702,vS II 703,vS LI 704,vS OZ 705,vS OY 706,vS OX 707] 0
noncomputable def Nb:=oN CQ CQ (top 39)
noncomputable def KH:=oE CQ CQ 696 223 2 390 708
noncomputable def KG:=oG CQ CQ (top 39) lE 671 395
noncomputable def Na:=oQ y0 [vS Nt 714] 0
noncomputable def M9:=oN CP CP (top 40)
noncomputable def KD:=oE CP CP 711 232 1 397 715
noncomputable def KC:=oG CP CP (top 40) lE 671 402
noncomputable def M8:=oQ y0 [vS Nt 721,vS OW 722,vS IL 723] 0
noncomputable def M7:=oN CO CO (top 41)
noncomputable def KA:=oE CO CO 718 234 2 404 724
noncomputable def Kz:=oG CO CO (top 41) lE 671 409
noncomputable def M6:=oQ y0 [vS Cy 730,vS Ed 731,vS OV 732,vS OU 733,vS Cz 734] 0
noncomputable def M5:=oN CN CN (top 42)
noncomputable def Ky:=oE CN CN 727 241 2 411 735
noncomputable def Kx:=oG CN CN (top 42) lE 671 416
noncomputable def M4:=oQ y0 [vS IK 741,vS IJ 742,vS OT 743,vS II 744] 0
noncomputable def M3:=oN CM CM (top 43)
noncomputable def Kw:=oE CM CM 738 249 3 418 745
noncomputable def Kv:=oG CM CM (top 43) lE 671 423
noncomputable def M2:=oQ y0 [vS OS 751,vS Cy 752,vS Ec 753,vS Gf 754,vS Nr 755,vS IK 756,vS IJ 757,vS II 758,vS OR 759,vS Nq 760,vS LI 761,vS OQ 762,vS IL 763] 0
noncomputable def M1:=oN CL CL (top 44)
noncomputable def Ku:=oE CL CL 748 254 7 425 764
noncomputable def Kt:=oG CL CL (top 44) lE 671 430
noncomputable def M0:=oQ y0 [vS Cy 770,vS Ec 771,vS Gf 772,vS OP 773,vS Ed 774,vS Np 775,vS Cz 776,vS OO 777,vS LI 778] 0
noncomputable def MZ:=oN CK CK (top 45)
noncomputable def Ks:=oE CK CK 767 273 5 432 779
noncomputable def Kr:=oG CK CK (top 45) lE 671 437
noncomputable def MY:=oQ y0 [vS IK 785,vS IJ 786,vS Nr 787,vS II 788,vS Np 789,vS Nu 790,vS ON 791] 0
noncomputable def MX:=oN CJ CJ (top 46)
noncomputable def Kq:=oE CJ CJ 782 297 3 439 792
noncomputable def Kp:=oG CJ CJ (top 46) lE 671 444
noncomputable def MW:=oN CI CI (top 47)
noncomputable def Ko (P:Params):Obj:=oC y1 CI 795 CI 796 n1 797 314 4 0 0 3 446 true 181 447 .none .none .none (vR 448) 798 314 n1 799
noncomputable def Km:=oG CI CI (top 47) lE 671 449
noncomputable def MV:=oQ y0 [vS Cy 804,vS Ec 805,vS Gf 806,vS OM 807,vS Ed 808,vS Cz 809] 0
noncomputable def MU:=oN CH CH (top 48)
noncomputable def Kl:=oE CH CH 801 321 5 451 810
noncomputable def Kk:=oG CH CH (top 48) lE 671 456
noncomputable def MT:=oQ y0 [vS Cy 816,vS Ec 817,vS OL 818,vS Cz 819,vS Ed 820,vS Nq 821,vS OK 822] 0
noncomputable def MS:=oN CG CG (top 49)
noncomputable def Kj:=oE CG CG 813 326 5 458 823
noncomputable def Ki:=oG CG CG (top 49) lE 671 463
noncomputable def MR:=oQ y0 [vS Cy 829,vS Ec 830,vS Gf 831,vS OJ 832,vS OI 833,vS Ed 834,vS Cz 835] 0
noncomputable def MQ:=oN CF CF (top 50)
noncomputable def Kh:=oE CF CF 826 340 6 465 836
noncomputable def Kg:=oG CF CF (top 50) lE 671 470
noncomputable def MP:=oN CD CD (top 51)
noncomputable def Kf (P:Params):Obj:=oC y1 CD 839 CD 840 n1 841 349 4 0 0 3 472 true 181 473 .none .none .none (vR 474) 842 349 n1 843
noncomputable def Ke:=oG CD CD (top 51) lE 671 475
noncomputable def MO:=oN CC CC (top 52)
noncomputable def Kc (P:Params):Obj:=oC y1 CC 845 CC 846 n1 847 362 4 0 0 3 477 true 181 478 .none .none .none (vR 479) 848 362 n1 849
noncomputable def Kb:=oG CC CC (top 52) lE 671 480
noncomputable def MN:=oQ y0 [vS Cy 854,vS Ec 855,vS Gf 856,vS OH 857,vS OG 858,vS Ed 859,vS IL 860,vS Cz 861] 0
noncomputable def MM:=oN CB CB (top 53)
noncomputable def Ka:=oE CB CB 851 367 6 482 862
noncomputable def J9:=oG CB CB (top 53) lE 671 487
noncomputable def ML:=oN CA CA (top 54)
noncomputable def J8 (P:Params):Obj:=oC y1 CA 865 CA 866 n1 867 377 1 0 0 3 489 true 181 490 .none .none .none (vR 491) 868 377 n1 869
noncomputable def J7:=oG CA CA (top 54) lE 671 492
noncomputable def lf0:Life:=⟨[],[],[],0,[],[],false,⟨[]⟩,[],0,false,false,false,(.ofNat 0),[(.ofNat 2000),(.ofNat 10),(.ofNat 10)],false,0,true,[],[],0,false⟩
noncomputable def hcd:Value:=(vR 13)
noncomputable def hq:Pos:=⟨0,0,0,0⟩
noncomputable def hE:Env:={ scope:=hp.main.scope,locals:=mainNs,globals:=mainNs,cells:=[],code:=hcd,frame:=some 14 }
noncomputable def hC:Code:=.body (behindTheImports hp) hE
noncomputable def hB:List Frame:=[topFrame hq]
noncomputable def hAn:Option Value:=(some (vR 6))
noncomputable def hA (P:Params):Heap:=⟨⟨(boot_o_0 P::boot_o_1 P::boot_o_2 P::boot_o_3 P::boot_o_4 P::boot_o_5 P::boot_o_6 P::boot_o_7 P::boot_o_8 P::boot_o_9 P::boot_o_10 P::o0 P::o1 P::o2 P::o3 P::[])⟩,lf0⟩
noncomputable def tr1:=(tN boot_o_0 (tN boot_o_1 (tN boot_o_3 (tL boot_o_7) (tL o0)) (tN boot_o_5 (tL boot_o_9) (tL o2))) (tN boot_o_2 (tN boot_o_4 (tL boot_o_8) (tL o1)) (tN boot_o_6 (tL boot_o_10) (tL o3))))
noncomputable def S1 (w:World) (os:OsState):SharedT:=⟨tr1 w.params,15,lf0,⟨[]⟩,⟨0,0,0,0⟩,187,os⟩
noncomputable def tr2:=(tN boot_o_0 (tN boot_o_1 (tN o4 (tN boot_o_7 (tN o0 (tN o14 (tN o34 (tL o73) tZ) (tL o0)) (tN o23 (tN o1 (tL o83) tZ) (tL o0))) (tN o1 (tN o0 (tN o0 (tL o78) tZ) (tL o60)) (tN o28 (tL o49) (tL o1)))) (tN o0 (tN o7 (tN o17 (tN o0 (tL o1) tZ) (tL o0)) (tN o1 (tN o45 (tL o0) tZ) (tL o66))) (tN o12 (tN o0 (tN o40 (tL o80) tZ) (tL o0)) (tN o31 (tL o53) (tL o0))))) (tN boot_o_5 (tN boot_o_9 (tN o6 (tN o15 (tN o1 (tL o75) tZ) (tL o56)) (tN o25 (tN o0 (tL o1) tZ) (tL o65))) (tN o0 (tN o20 (tN o39 (tL o0) tZ) (tL o1)) (tN o0 (tL o51) (tL o70)))) (tN o2 (tN o9 (tN o1 (tN o37 (tL o0) tZ) (tL o58)) (tN o0 (tN o47 (tL o86) tZ) (tL o68))) (tN o0 (tN o22 (tN o42 (tL o81) tZ) (tL o63)) (tN o32 (tL o1) (tL o72)))))) (tN boot_o_2 (tN boot_o_4 (tN boot_o_8 (tN o1 (tN o0 (tN o0 (tL o74) tZ) (tL o55)) (tN o24 (tN o43 (tL o0) tZ) (tL o1))) (tN o10 (tN o19 (tN o1 (tL o79) tZ) (tL o0)) (tN o29 (tL o50) (tL o69)))) (tN o5 (tN o8 (tN o0 (tN o36 (tL o76) tZ) (tL o1)) (tN o26 (tN o46 (tL o85) tZ) (tL o67))) (tN o13 (tN o1 (tN o41 (tL o0) tZ) (tL o62)) (tN o0 (tL o0) (tL o1))))) (tN boot_o_6 (tN boot_o_10 (tN o0 (tN o16 (tN o35 (tL o0) tZ) (tL o57)) (tN o0 (tN o44 (tL o84) tZ) (tL o0))) (tN o11 (tN o21 (tN o0 (tL o1) tZ) (tL o61)) (tN o30 (tL o52) (tL o71)))) (tN o3 (tN o0 (tN o18 (tN o38 (tL o77) tZ) (tL o59)) (tN o27 (tN o48 (tL o87) tZ) (tL o0))) (tN o1 (tN o0 (tN o0 (tL o82) tZ) (tL o64)) (tN o33 (tL o54) (tL o0)))))))
noncomputable def S2 (w:World) (os:OsState):SharedT:=⟨tr2 w.params,151,lf0,⟨[]⟩,⟨0,0,0,0⟩,372,os⟩
noncomputable def tr3:=(tN boot_o_0 (tN boot_o_1 (tN o88 (tN boot_o_7 (tN o0 (tN o14 (tN o34 (tL o73) (tL D8)) (tN o0 (tL o30) tZ)) (tN o23 (tN o1 (tL o83) tZ) (tN o0 (tL o1) tZ))) (tN o1 (tN o0 (tN o0 (tL o78) tZ) (tN o60 (tL o99) tZ)) (tN o28 (tN o49 (tL o0) tZ) (tN o1 (tL mP) tZ)))) (tN o0 (tN o7 (tN o17 (tN o0 (tL o1) tZ) (tN o0 (tL o96) tZ)) (tN o1 (tN o45 (tL o0) tZ) (tN o66 (tL Ea) tZ))) (tN o12 (tN o0 (tN o40 (tL o80) tZ) (tN o0 (tL mP) tZ)) (tN o31 (tN o53 (tL o91) tZ) (tN o0 (tL o1) tZ))))) (tN boot_o_5 (tN boot_o_9 (tN o6 (tN o15 (tN o1 (tL o75) (tL FY)) (tN o56 (tL o0) tZ)) (tN o25 (tN o0 (tL o1) tZ) (tN o65 (tL F5) tZ))) (tN o0 (tN o20 (tN o39 (tL o0) tZ) (tN o1 (tL F9) tZ)) (tN o0 (tN o51 (tL o90) tZ) (tN o70 (tL F2) tZ)))) (tN o2 (tN o9 (tN o1 (tN o37 (tL o0) tZ) (tN o58 (tL o0) tZ)) (tN o0 (tN o47 (tL o86) tZ) (tN o68 (tL F4) tZ))) (tN o0 (tN o22 (tN o42 (tL o81) tZ) (tN o63 (tL F7) tZ)) (tN o32 (tN o1 (tL o93) tZ) (tN o72 (tL FZ) tZ)))))) (tN boot_o_2 (tN boot_o_4 (tN boot_o_8 (tN o1 (tN o0 (tN o0 (tL o74) (tL D7)) (tN o55 (tL o95) tZ)) (tN o24 (tN o43 (tL o0) tZ) (tN o1 (tL F6) tZ))) (tN o10 (tN o19 (tN o1 (tL o79) tZ) (tN o0 (tL Eb) tZ)) (tN o29 (tN o50 (tL o1) tZ) (tN o69 (tL o30) tZ)))) (tN o89 (tN o8 (tN o0 (tN o36 (tL o76) tZ) (tN o1 (tL o97) tZ)) (tN o26 (tN o46 (tL o85) tZ) (tN o67 (tL D9) tZ))) (tN o13 (tN o1 (tN o41 (tL o0) tZ) (tN o62 (tL o30) tZ)) (tN o0 (tN o0 (tL o92) tZ) (tN o1 (tL F0) tZ))))) (tN boot_o_6 (tN boot_o_10 (tN o0 (tN o16 (tN o35 (tL o0) (tL FX)) (tN o57 (tL o1) tZ)) (tN o0 (tN o44 (tL o84) tZ) (tN o0 (tL o0) tZ))) (tN o11 (tN o21 (tN o0 (tL o1) tZ) (tN o61 (tL F8) tZ)) (tN o30 (tN o52 (tL o0) tZ) (tN o71 (tL o0) tZ)))) (tN o3 (tN o0 (tN o18 (tN o38 (tL o77) tZ) (tN o59 (tL o98) tZ)) (tN o27 (tN o48 (tL o87) tZ) (tN o0 (tL F3) tZ))) (tN o1 (tN o0 (tN o0 (tL o82) tZ) (tN o64 (tL o0) tZ)) (tN o33 (tN o54 (tL o94) tZ) (tN o0 (tL o0) tZ)))))))
noncomputable def S3 (w:World) (os:OsState):SharedT:=⟨tr3 w.params,195,lf0,⟨[]⟩,⟨0,0,0,0⟩,434,os⟩
noncomputable def tr4:=(tN boot_o_0 (tN boot_o_1 (tN OD (tN boot_o_7 (tN o0 (tN o14 (tN o34 (tL o73) (tL D8)) (tN o0 (tL o30) (tL FP))) (tN o23 (tN o1 (tL o83) (tL mP)) (tN o0 (tL o1) tZ))) (tN o1 (tN o0 (tN o0 (tL o78) (tL o1)) (tN o60 (tL FW) tZ)) (tN o28 (tN o49 (tL o0) (tL FT)) (tN o1 (tL mP) tZ)))) (tN o0 (tN o7 (tN o17 (tN o0 (tL o1) (tL mP)) (tN o0 (tL o96) tZ)) (tN o1 (tN o45 (tL o0) (tL o1)) (tN o66 (tL Ea) tZ))) (tN o12 (tN o0 (tN o40 (tL o80) (tL FV)) (tN o0 (tL mP) tZ)) (tN o31 (tN o53 (tL o91) (tL o0)) (tN o0 (tL o1) tZ))))) (tN boot_o_5 (tN boot_o_9 (tN o6 (tN o15 (tN o1 (tL o75) (tL FY)) (tN o56 (tL o0) tZ)) (tN o25 (tN o0 (tL o1) (tL IB)) (tN o65 (tL F5) tZ))) (tN o0 (tN o20 (tN o39 (tL o0) (tL IE)) (tN o1 (tL F9) tZ)) (tN o0 (tN o51 (tL o90) (tL Iy)) (tN o70 (tL F2) tZ)))) (tN o2 (tN o9 (tN o1 (tN o37 (tL o0) (tL IG)) (tN o58 (tL o0) tZ)) (tN o0 (tN o47 (tL o86) (tL Iz)) (tN o68 (tL F4) tZ))) (tN o0 (tN o22 (tN o42 (tL o81) (tL ID)) (tN o63 (tL F7) tZ)) (tN o32 (tN o1 (tL o93) (tL Iv)) (tN o72 (tL FZ) tZ)))))) (tN boot_o_2 (tN boot_o_4 (tN boot_o_8 (tN o1 (tN o0 (tN o0 (tL o74) (tL D7)) (tN o55 (tL o95) tZ)) (tN o24 (tN o43 (tL o0) (tL o30)) (tN o1 (tL F6) tZ))) (tN o10 (tN o19 (tN o1 (tL o79) (tL IF)) (tN o0 (tL Eb) tZ)) (tN o29 (tN o50 (tL o1) (tL FR)) (tN o69 (tL o30) tZ)))) (tN OC (tN o8 (tN o0 (tN o36 (tL o76) (tL o30)) (tN o1 (tL o97) tZ)) (tN o26 (tN o46 (tL o85) (tL IA)) (tN o67 (tL D9) tZ))) (tN o13 (tN o1 (tN o41 (tL o0) (tL FU)) (tN o62 (tL o30) tZ)) (tN o0 (tN o0 (tL o92) (tL o1)) (tN o1 (tL F0) tZ))))) (tN boot_o_6 (tN boot_o_10 (tN o0 (tN o16 (tN o35 (tL o0) (tL FX)) (tN o57 (tL o1) tZ)) (tN o0 (tN o44 (tL o84) (tL o0)) (tN o0 (tL o0) tZ))) (tN o11 (tN o21 (tN o0 (tL o1) (tL o0)) (tN o61 (tL F8) tZ)) (tN o30 (tN o52 (tL o0) (tL Iw)) (tN o71 (tL o0) tZ)))) (tN o3 (tN o0 (tN o18 (tN o38 (tL o77) (tL o0)) (tN o59 (tL o98) tZ)) (tN o27 (tN o48 (tL o87) (tL o0)) (tN o0 (tL F3) tZ))) (tN o1 (tN o0 (tN o0 (tL o82) (tL IC)) (tN o64 (tL o0) tZ)) (tN o33 (tN o54 (tL o94) (tL FQ)) (tN o0 (tL o0) tZ)))))))
noncomputable def S4 (w:World) (os:OsState):SharedT:=⟨tr4 w.params,224,lf0,⟨[]⟩,⟨0,0,0,0⟩,482,os⟩
noncomputable def tr5:=(tN boot_o_0 (tN boot_o_1 (tN OB (tN boot_o_7 (tN o0 (tN o14 (tN o34 (tN o73 (tL o0) tZ) (tN D8 (tL K9) tZ)) (tN o0 (tN o30 (tL o0) tZ) (tN FP (tL HD) tZ))) (tN o23 (tN o1 (tN o83 (tL Ih) tZ) (tN mP (tL HJ) tZ)) (tN o0 (tN o1 (tL Le) tZ) (tL o1)))) (tN o1 (tN o0 (tN o0 (tN o78 (tL Lq) tZ) (tN o1 (tL HM) tZ)) (tN o60 (tN FW (tL o1) tZ) (tN o0 (tL KY) tZ))) (tN o28 (tN o49 (tN o0 (tL Ib) tZ) (tN FT (tL o0) tZ)) (tN o1 (tN mP (tL o0) tZ) (tL Lw))))) (tN o0 (tN o7 (tN o17 (tN o0 (tN o1 (tL o0) tZ) (tN mP (tL o1) tZ)) (tN o0 (tN o96 (tL Li) tZ) (tN o0 (tL K0) tZ))) (tN o1 (tN o45 (tN o0 (tL Ln) tZ) (tN o1 (tL o0) tZ)) (tN o66 (tN Ea (tL HS) tZ) (tL Iq)))) (tN o12 (tN o0 (tN o40 (tN o80 (tL o1) tZ) (tN FV (tL K6) tZ)) (tN o0 (tN mP (tL HW) tZ) (tN Lz (tL Hx) tZ))) (tN o31 (tN o53 (tN o91 (tL o0) tZ) (tN o0 (tL K1) tZ)) (tN o0 (tN o1 (tL o0) tZ) (tL Im)))))) (tN boot_o_5 (tN boot_o_9 (tN o6 (tN o15 (tN o1 (tN o75 (tL Il) tZ) (tN FY (tL HN) tZ)) (tN o56 (tN o0 (tL Lj) tZ) (tN o30 (tL HB) tZ))) (tN o25 (tN o0 (tN o1 (tL o0) tZ) (tN IB (tL o1) tZ)) (tN o65 (tN F5 (tL Ld) tZ) (tL o0)))) (tN o0 (tN o20 (tN o39 (tN o0 (tL Ii) tZ) (tN IE (tL o0) tZ)) (tN o1 (tN F9 (tL o0) tZ) (tN LA (tL KW) tZ))) (tN o0 (tN o51 (tN o90 (tL o1) tZ) (tN Iy (tL K2) tZ)) (tN o70 (tN F2 (tL HR) tZ) (tL Lv))))) (tN o2 (tN o9 (tN o1 (tN o37 (tN o0 (tL Lr) tZ) (tN IG (tL o0) tZ)) (tN o58 (tN o0 (tL HX) tZ) (tN LC (tL o0) tZ))) (tN o0 (tN o47 (tN o86 (tL Lm) tZ) (tN Iz (tL HI) tZ)) (tN o68 (tN F4 (tL o1) tZ) (tL o0)))) (tN o0 (tN o22 (tN o42 (tN o81 (tL o0) tZ) (tN ID (tL K5) tZ)) (tN o63 (tN F7 (tL o0) tZ) (tL Ir))) (tN o32 (tN o1 (tN o93 (tL Ia) tZ) (tN Iv (tL HF) tZ)) (tN o72 (tN FZ (tL La) tZ) (tL o1))))))) (tN boot_o_2 (tN boot_o_4 (tN boot_o_8 (tN o1 (tN o0 (tN o0 (tN o74 (tL Ls) tZ) (tN D7 (tL HP) tZ)) (tN o55 (tN o95 (tL o1) tZ) (tN o0 (tL HC) tZ))) (tN o24 (tN o43 (tN o0 (tL Ig) tZ) (tN o30 (tL o0) tZ)) (tN o1 (tN F6 (tL o0) tZ) (tL Ly)))) (tN o10 (tN o19 (tN o1 (tN o79 (tL Ij) tZ) (tN IF (tL HL) tZ)) (tN o0 (tN Eb (tL Lh) tZ) (tN o1 (tL o0) tZ))) (tN o29 (tN o50 (tN o1 (tL o0) tZ) (tN FR (tL o1) tZ)) (tN o69 (tN o30 (tL Lb) tZ) (tL o0))))) (tN OA (tN o8 (tN o0 (tN o36 (tN o76 (tL o1) tZ) (tN o30 (tL K8) tZ)) (tN o1 (tN o97 (tL HY) tZ) (tN LD (tL KZ) tZ))) (tN o26 (tN o46 (tN o85 (tL o0) tZ) (tN IA (tL K3) tZ)) (tN o67 (tN D9 (tL o0) tZ) (tL Ip)))) (tN o13 (tN o1 (tN o41 (tN o0 (tL Lp) tZ) (tN FU (tL o0) tZ)) (tN o62 (tN o30 (tL HV) tZ) (tL Iu))) (tN o0 (tN o0 (tN o92 (tL Lk) tZ) (tN o1 (tL HG) tZ)) (tN o1 (tN F0 (tL o1) tZ) (tL o0)))))) (tN boot_o_6 (tN boot_o_10 (tN o0 (tN o16 (tN o35 (tN o0 (tL Ik) tZ) (tN FX (tL o0) tZ)) (tN o57 (tN o1 (tL o0) tZ) (tN LF (tL Hz) tZ))) (tN o0 (tN o44 (tN o84 (tL o1) tZ) (tN o0 (tL K4) tZ)) (tN o0 (tN o0 (tL HU) tZ) (tL Lx)))) (tN o11 (tN o21 (tN o0 (tN o1 (tL o0) tZ) (tN o0 (tL o1) tZ)) (tN o61 (tN F8 (tL Lg) tZ) (tN o0 (tL Hy) tZ))) (tN o30 (tN o52 (tN o0 (tL Ll) tZ) (tN Iw (tL o0) tZ)) (tN o71 (tN o0 (tL HQ) tZ) (tL Io))))) (tN o3 (tN o0 (tN o18 (tN o38 (tN o77 (tL o0) tZ) (tN o0 (tL K7) tZ)) (tN o59 (tN o98 (tL o0) tZ) (tN LB (tL o1) tZ))) (tN o27 (tN o48 (tN o87 (tL Ie) tZ) (tN o0 (tL HH) tZ)) (tN o0 (tN F3 (tL Lc) tZ) (tL o1)))) (tN o1 (tN o0 (tN o0 (tN o82 (tL Lo) tZ) (tN IC (tL HK) tZ)) (tN o64 (tN o0 (tL o1) tZ) (tL o0))) (tN o33 (tN o54 (tN o94 (tL HZ) tZ) (tN FQ (tL HE) tZ)) (tN o0 (tN o0 (tL o0) tZ) (tL Lu))))))))
noncomputable def S5 (w:World) (os:OsState):SharedT:=⟨tr5 w.params,364,lf0,⟨[]⟩,⟨0,0,0,0⟩,663,os⟩
noncomputable def tr6:=(tN boot_o_0 (tN boot_o_1 (tN KS (tN boot_o_7 (tN o0 (tN o14 (tN o34 (tN o73 (tL o0) (tL KN)) (tN D8 (tL K9) (tL o1))) (tN o0 (tN o30 (tL o0) (tL M5)) (tN FP (tL HD) (tL MO)))) (tN o23 (tN o1 (tN o83 (tL Ih) (tL Na)) (tN mP (tL HJ) (tL Kj))) (tN o0 (tN o1 (tL Le) (tL Kt)) (tN o1 (tL o0) tZ)))) (tN o1 (tN o0 (tN o0 (tN o78 (tL Lq) (tL o1)) (tN o1 (tL HM) (tL MU))) (tN o60 (tN FW (tL o1) (tL Kw)) (tN o0 (tL KY) (tL Ka)))) (tN o28 (tN o49 (tN o0 (tL Ib) (tL o0)) (tN FT (tL o0) (tL Kg))) (tN o1 (tN mP (tL o0) (tL o0)) (tN Lw (tL Nj) tZ))))) (tN o0 (tN o7 (tN o17 (tN o0 (tN o1 (tL o0) (tL Ng)) (tN mP (tL o1) (tL o0))) (tN o0 (tN o96 (tL Li) (tL o1)) (tN o0 (tL K0) (tL o1)))) (tN o1 (tN o45 (tN o0 (tL Ln) (tL KC)) (tN o1 (tL o0) (tL MR))) (tN o66 (tN Ea (tL HS) (tL o0)) (tN Iq (tL o0) tZ)))) (tN o12 (tN o0 (tN o40 (tN o80 (tL o1) (tL KH)) (tN FV (tL K6) (tL o1))) (tN o0 (tN mP (tL HW) (tL M2)) (tN Lz (tL Hx) (tL ML)))) (tN o31 (tN o53 (tN o91 (tL o0) (tL o0)) (tN o0 (tL K1) (tL Kf))) (tN o0 (tN o1 (tL o0) (tL MX)) (tN Im (tL o1) tZ)))))) (tN boot_o_5 (tN boot_o_9 (tN o6 (tN o15 (tN o1 (tN o75 (tL Il) (tL o0)) (tN FY (tL HN) (tL Ko))) (tN o56 (tN o0 (tL Lj) (tL Kx)) (tN o30 (tL HB) (tL Kb)))) (tN o25 (tN o0 (tN o1 (tL o0) (tL M9)) (tN IB (tL o1) (tL o0))) (tN o65 (tN F5 (tL Ld) (tL o1)) (tN o0 (tL KR) tZ)))) (tN o0 (tN o20 (tN o39 (tN o0 (tL Ii) (tL o0)) (tN IE (tL o0) (tL Kk))) (tN o1 (tN F9 (tL o0) (tL o0)) (tN LA (tL KW) (tL o0)))) (tN o0 (tN o51 (tN o90 (tL o1) (tL KA)) (tN Iy (tL K2) (tL o1))) (tN o70 (tN F2 (tL HR) (tL MY)) (tN Lv (tL KO) tZ))))) (tN o2 (tN o9 (tN o1 (tN o37 (tN o0 (tL Lr) (tL KI)) (tN IG (tL o0) (tL MV))) (tN o58 (tN o0 (tL HX) (tL o0)) (tN LC (tL o0) (tL o0)))) (tN o0 (tN o47 (tN o86 (tL Lm) (tL o1)) (tN Iz (tL HI) (tL MQ))) (tN o68 (tN F4 (tL o1) (tL Ks)) (tN o0 (tL Nk) tZ)))) (tN o0 (tN o22 (tN o42 (tN o81 (tL o0) (tL o0)) (tN ID (tL K5) (tL o0))) (tN o63 (tN F7 (tL o0) (tL M1)) (tN Ir (tL o1) (tL J7)))) (tN o32 (tN o1 (tN o93 (tL Ia) (tL M6)) (tN Iv (tL HF) (tL o0))) (tN o72 (tN FZ (tL La) (tL Kp)) (tN o1 (tL o0) tZ))))))) (tN boot_o_2 (tN boot_o_4 (tN boot_o_8 (tN o1 (tN o0 (tN o0 (tN o74 (tL Ls) (tL KL)) (tN D7 (tL HP) (tL MW))) (tN o55 (tN o95 (tL o1) (tL Ky)) (tN o0 (tL HC) (tL Kc)))) (tN o24 (tN o43 (tN o0 (tL Ig) (tL o0)) (tN o30 (tL o0) (tL Ki))) (tN o1 (tN F6 (tL o0) (tL o0)) (tN Ly (tL Nl) tZ)))) (tN o10 (tN o19 (tN o1 (tN o79 (tL Ij) (tL Nc)) (tN IF (tL HL) (tL Kl))) (tN o0 (tN Eb (tL Lh) (tL Kv)) (tN o1 (tL o0) (tL J9)))) (tN o29 (tN o50 (tN o1 (tL o0) (tL M7)) (tN FR (tL o1) (tL o0))) (tN o69 (tN o30 (tL Lb) (tL o1)) (tN o0 (tL KP) tZ))))) (tN Nn (tN o8 (tN o0 (tN o36 (tN o76 (tL o1) (tL KJ)) (tN o30 (tL K8) (tL o1))) (tN o1 (tN o97 (tL HY) (tL M4)) (tN LD (tL KZ) (tL MN)))) (tN o26 (tN o46 (tN o85 (tL o0) (tL o0)) (tN IA (tL K3) (tL o0))) (tN o67 (tN D9 (tL o0) (tL MZ)) (tN Ip (tL o1) tZ)))) (tN o13 (tN o1 (tN o41 (tN o0 (tL Lp) (tL KG)) (tN FU (tL o0) (tL MT))) (tN o62 (tN o30 (tL HV) (tL o0)) (tN Iu (tL o0) (tL J8)))) (tN o0 (tN o0 (tN o92 (tL Lk) (tL o1)) (tN o1 (tL HG) (tL Ke))) (tN o1 (tN F0 (tL o1) (tL Kq)) (tN o0 (tL Ni) tZ)))))) (tN boot_o_6 (tN boot_o_10 (tN o0 (tN o16 (tN o35 (tN o0 (tL Ik) (tL o1)) (tN FX (tL o0) (tL Km))) (tN o57 (tN o1 (tL o0) (tL o0)) (tN LF (tL Hz) (tL o0)))) (tN o0 (tN o44 (tN o84 (tL o1) (tL KD)) (tN o0 (tL K4) (tL o1))) (tN o0 (tN o0 (tL HU) (tL M0)) (tN Lx (tL KQ) tZ)))) (tN o11 (tN o21 (tN o0 (tN o1 (tL o0) (tL Nb)) (tN o0 (tL o1) (tL o0))) (tN o61 (tN F8 (tL Lg) (tL o1)) (tN o0 (tL Hy) (tL o1)))) (tN o30 (tN o52 (tN o0 (tL Ll) (tL Kz)) (tN Iw (tL o0) (tL MP))) (tN o71 (tN o0 (tL HQ) (tL o0)) (tN Io (tL o0) tZ))))) (tN o3 (tN o0 (tN o18 (tN o38 (tN o77 (tL o0) (tL o0)) (tN o0 (tL K7) (tL o0))) (tN o59 (tN o98 (tL o0) (tL M3)) (tN LB (tL o1) (tL MM)))) (tN o27 (tN o48 (tN o87 (tL Ie) (tL M8)) (tN o0 (tL HH) (tL Kh))) (tN o0 (tN F3 (tL Lc) (tL Kr)) (tN o1 (tL o0) tZ)))) (tN o1 (tN o0 (tN o0 (tN o82 (tL Lo) (tL o1)) (tN IC (tL HK) (tL MS))) (tN o64 (tN o0 (tL o1) (tL Ku)) (tN o0 (tL Nm) tZ))) (tN o33 (tN o54 (tN o94 (tL HZ) (tL o0)) (tN FQ (tL HE) (tL o1))) (tN o0 (tN o0 (tL o0) (tL o0)) (tN Lu (tL Nh) tZ))))))))
noncomputable def S6 (w:World) (os:OsState):SharedT:=⟨tr6 w.params,494,lf0,⟨[]⟩,⟨0,0,0,0⟩,871,os⟩
noncomputable def hF (P:Params):Heap:=⟨⟨(boot_o_0 P::boot_o_1 P::boot_o_2 P::KS P::boot_o_4 P::boot_o_5 P::boot_o_6 P::boot_o_7 P::boot_o_8 P::boot_o_9 P::boot_o_10 P::o0 P::Nn P::o2 P::o3 P::o0 P::o1 P::o6 P::o0 P::o7 P::o8 P::o9 P::o0 P::o1 P::o10 P::o0 P::o11 P::o12 P::o13 P::o0 P::o1 P::o14 P::o0 P::o15 P::o16 P::o17 P::o0 P::o1 P::o18 P::o0 P::o19 P::o20 P::o21 P::o0 P::o1 P::o22 P::o0 P::o23 P::o24 P::o25 P::o0 P::o1 P::o26 P::o0 P::o27 P::o28 P::o29 P::o0 P::o30 P::o31 P::o0 P::o32 P::o33 P::o34 P::o0 P::o1 P::o35 P::o0 P::o36 P::o37 P::o38 P::o0 P::o1 P::o39 P::o0 P::o40 P::o41 P::o42 P::o0 P::o1 P::o43 P::o0 P::o44 P::o45 P::o46 P::o47 P::o48 P::o49 P::o50 P::o51 P::o52 P::o53 P::o0 P::o1 P::o54 P::o0 P::o55 P::o56 P::o57 P::o0 P::o1 P::o58 P::o59 P::o60 P::o0 P::o1 P::o61 P::o0 P::o62 P::o63 P::o64 P::o0 P::o1 P::o65 P::o0 P::o66 P::o67 P::o68 P::o0 P::o1 P::o69 P::o70 P::o71 P::o0 P::o1 P::o72 P::o0 P::o73 P::o74 P::o75 P::o0 P::o1 P::o76 P::o0 P::o77 P::o78 P::o79 P::o0 P::o1 P::o80 P::o0 P::o81 P::o82 P::o83 P::o0 P::o1 P::o84 P::o0 P::o85 P::o86 P::o87 P::o0 P::o1 P::o90 P::o0 P::o91 P::o92 P::o93 P::o94 P::o30 P::o95 P::o0 P::o1 P::o96 P::o97 P::o0 P::o98 P::FW P::Eb P::F9 P::F8 P::mP P::o30 P::F7 P::o0 P::o1 P::F6 P::F5 P::o0 P::Ea P::D9 P::F4 P::F3 P::mP P::o30 P::F2 P::o0 P::o1 P::F0 P::FZ P::o0 P::D8 P::D7 P::FY P::FX P::mP P::o30 P::IG P::o0 P::o1 P::IF P::IE P::o0 P::FV P::FU P::ID P::IC P::mP P::o30 P::IB P::o0 P::o1 P::IA P::Iz P::o0 P::FT P::FR P::Iy P::Iw P::o0 P::o1 P::Iv P::FQ P::FP P::o0 P::o30 P::LF P::o0 P::LD P::LC P::LB P::o0 P::o1 P::LA P::o0 P::Lz P::Iu P::Ir P::o0 P::o1 P::Ly P::o0 P::Lx P::Iq P::Ip P::o0 P::o1 P::Lw P::o0 P::Lv P::Io P::Im P::o0 P::o1 P::Lu P::o0 P::Ls P::Il P::Ik P::o0 P::o1 P::Lr P::o0 P::Lq P::Ij P::Ii P::o0 P::o1 P::Lp P::o0 P::Lo P::Ih P::Ig P::o0 P::o1 P::Ln P::o0 P::Lm P::Ie P::Ib P::o0 P::o1 P::Ll P::o0 P::Lk P::Ia P::HZ P::o0 P::o1 P::Lj P::o0 P::Li P::HY P::HX P::o0 P::o1 P::Lh P::o0 P::Lg P::HW P::HV P::o0 P::o1 P::Le P::o0 P::Ld P::HU P::HS P::o0 P::o1 P::Lc P::o0 P::Lb P::HR P::HQ P::o0 P::o1 P::La P::o0 P::K9 P::HP P::HN P::o0 P::o1 P::K8 P::o0 P::K7 P::HM P::HL P::o0 P::o1 P::K6 P::o0 P::K5 P::HK P::HJ P::o0 P::o1 P::K4 P::o0 P::K3 P::HI P::HH P::o0 P::o1 P::K2 P::o0 P::K1 P::HG P::HF P::HE P::HD P::HC P::HB P::Hz P::K0 P::KZ P::o0 P::o1 P::KY P::o0 P::KW P::Hy P::Hx P::o0 P::o1 P::Nm P::o0 P::Nl P::KR P::KQ P::o0 P::o1 P::Nk P::o0 P::Nj P::KP P::KO P::o0 P::o1 P::Ni P::o0 P::Nh P::KN P::KL P::o0 P::o1 P::Ng P::KJ P::KI P::o0 P::o1 P::Nc P::o0 P::Nb P::KH P::KG P::o0 P::o1 P::Na P::o0 P::M9 P::KD P::KC P::o0 P::o1 P::M8 P::o0 P::M7 P::KA P::Kz P::o0 P::o1 P::M6 P::o0 P::M5 P::Ky P::Kx P::o0 P::o1 P::M4 P::o0 P::M3 P::Kw P::Kv P::o0 P::o1 P::M2 P::o0 P::M1 P::Ku P::Kt P::o0 P::o1 P::M0 P::o0 P::MZ P::Ks P::Kr P::o0 P::o1 P::MY P::o0 P::MX P::Kq P::Kp P::o0 P::o1 P::MW P::Ko P::Km P::o0 P::o1 P::MV P::o0 P::MU P::Kl P::Kk P::o0 P::o1 P::MT P::o0 P::MS P::Kj P::Ki P::o0 P::o1 P::MR P::o0 P::MQ P::Kh P::Kg P::o0 P::o1 P::MP P::Kf P::Ke P::o0 P::o1 P::MO P::Kc P::Kb P::o0 P::o1 P::MN P::o0 P::MM P::Ka P::J9 P::o0 P::o1 P::ML P::J8 P::J7 P::[])⟩,lf0⟩
noncomputable def SA (w:World) (os:OsState):Shared:=⟨hA w.params,⟨[]⟩,⟨0,0,0,0⟩,187,os⟩
noncomputable def SF (w:World) (os:OsState):Shared:=⟨hF w.params,⟨[]⟩,⟨0,0,0,0⟩,871,os⟩
noncomputable def S0 (w:World) (os:OsState):Shared:=⟨boot_heap w.params,⟨[]⟩,boot_drawn,boot_toks,os⟩
noncomputable def NY:List Stmt:=[top 0,top 1,top 2,top 3,top 4,top 5,top 6,top 7,top 8,top 9,top 10,top 11,top 12,top 13,top 14,top 15,top 16,top 17,top 18]
noncomputable def NX:List Stmt:=[top 19,top 20,top 21,top 22,top 23]
noncomputable def NW:List Stmt:=[top 24,top 25,top 26,top 27,top 28,top 29,top 30,top 31]
noncomputable def NV:List Stmt:=[top 32,top 33]
noncomputable def NU:List Stmt:=[top 34,top 35,top 36,top 37,top 38,top 39,top 40,top 41,top 42,top 43,top 44,top 45,top 46,top 47,top 48,top 49,top 50,top 51,top 52,top 53,top 54]
noncomputable def hV:Program:={ hp with main:={ hp.main with body:=[top 0,top 2,top 3,top 4,top 5,top 6,top 8,top 9,top 10,top 11,top 13,top 14,top 15,top 16,top 17,top 18,top 19,top 21,top 22,top 23,top 24,top 25,top 27,top 28,top 30,top 31,top 32,top 33,top 34,top 36,top 37,top 38,top 39,top 40,top 41,top 42,top 43,top 44,top 45,top 46,top 47,top 48,top 49,top 50,top 51,top 52,top 53,top 54] } }
noncomputable def hAs:List Addr:=0::1::2::3::4::5::6::7::8::9::10::13::14::20::21::27::28::34::35::41::42::48::49::55::56::69::70::76::77::83::84::85::86::87::88::89::97::98::102::103::109::110::116::117::121::122::128::129::135::136::142::143::149::150::156::157::165::166::167::168::178::179::180::190::191::192::202::203::204::214::215::216::222::223::236::237::243::244::250::251::257::258::264::265::271::272::278::279::285::286::292::293::299::300::306::307::313::314::320::321::327::328::334::335::341::342::348::349::350::351::352::353::354::362::363::369::370::376::377::383::384::388::389::395::396::402::403::409::410::416::417::423::424::430::431::437::438::444::445::449::450::456::457::463::464::470::471::475::476::480::481::487::488::492::493::[]
noncomputable def hK:Params->W.Frag:=λ P=>((nat_lit 0,boot_o_0 P)::(nat_lit 1,boot_o_1 P)::(nat_lit 2,boot_o_2 P)::(nat_lit 3,KS P)::(nat_lit 4,boot_o_4 P)::(nat_lit 5,boot_o_5 P)::(nat_lit 6,boot_o_6 P)::(nat_lit 7,boot_o_7 P)::(nat_lit 8,boot_o_8 P)::(nat_lit 9,boot_o_9 P)::(nat_lit 10,boot_o_10 P)::(nat_lit 13,o2 P)::(nat_lit 14,o3 P)::(nat_lit 20,o8 P)::(nat_lit 21,o9 P)::(nat_lit 27,o12 P)::(nat_lit 28,o13 P)::(nat_lit 34,o16 P)::(nat_lit 35,o17 P)::(nat_lit 41,o20 P)::(nat_lit 42,o21 P)::(nat_lit 48,o24 P)::(nat_lit 49,o25 P)::(nat_lit 55,o28 P)::(nat_lit 56,o29 P)::(nat_lit 69,o37 P)::(nat_lit 70,o38 P)::(nat_lit 76,o41 P)::(nat_lit 77,o42 P)::(nat_lit 83,o45 P)::(nat_lit 84,o46 P)::(nat_lit 85,o47 P)::(nat_lit 86,o48 P)::(nat_lit 87,o49 P)::(nat_lit 88,o50 P)::(nat_lit 89,o51 P)::(nat_lit 97,o56 P)::(nat_lit 98,o57 P)::(nat_lit 102,o59 P)::(nat_lit 103,o60 P)::(nat_lit 109,o63 P)::(nat_lit 110,o64 P)::(nat_lit 116,o67 P)::(nat_lit 117,o68 P)::(nat_lit 121,o70 P)::(nat_lit 122,o71 P)::(nat_lit 128,o74 P)::(nat_lit 129,o75 P)::(nat_lit 135,o78 P)::(nat_lit 136,o79 P)::(nat_lit 142,o82 P)::(nat_lit 143,o83 P)::(nat_lit 149,o86 P)::(nat_lit 150,o87 P)::(nat_lit 156,o92 P)::(nat_lit 157,o93 P)::(nat_lit 165,o0 P)::(nat_lit 166,o98 P)::(nat_lit 167,FW P)::(nat_lit 168,Eb P)::(nat_lit 178,o0 P)::(nat_lit 179,Ea P)::(nat_lit 180,D9 P)::(nat_lit 190,o0 P)::(nat_lit 191,D8 P)::(nat_lit 192,D7 P)::(nat_lit 202,o0 P)::(nat_lit 203,FV P)::(nat_lit 204,FU P)::(nat_lit 214,o0 P)::(nat_lit 215,FT P)::(nat_lit 216,FR P)::(nat_lit 222,FQ P)::(nat_lit 223,FP P)::(nat_lit 236,Iu P)::(nat_lit 237,Ir P)::(nat_lit 243,Iq P)::(nat_lit 244,Ip P)::(nat_lit 250,Io P)::(nat_lit 251,Im P)::(nat_lit 257,Il P)::(nat_lit 258,Ik P)::(nat_lit 264,Ij P)::(nat_lit 265,Ii P)::(nat_lit 271,Ih P)::(nat_lit 272,Ig P)::(nat_lit 278,Ie P)::(nat_lit 279,Ib P)::(nat_lit 285,Ia P)::(nat_lit 286,HZ P)::(nat_lit 292,HY P)::(nat_lit 293,HX P)::(nat_lit 299,HW P)::(nat_lit 300,HV P)::(nat_lit 306,HU P)::(nat_lit 307,HS P)::(nat_lit 313,HR P)::(nat_lit 314,HQ P)::(nat_lit 320,HP P)::(nat_lit 321,HN P)::(nat_lit 327,HM P)::(nat_lit 328,HL P)::(nat_lit 334,HK P)::(nat_lit 335,HJ P)::(nat_lit 341,HI P)::(nat_lit 342,HH P)::(nat_lit 348,HG P)::(nat_lit 349,HF P)::(nat_lit 350,HE P)::(nat_lit 351,HD P)::(nat_lit 352,HC P)::(nat_lit 353,HB P)::(nat_lit 354,Hz P)::(nat_lit 362,Hy P)::(nat_lit 363,Hx P)::(nat_lit 369,KR P)::(nat_lit 370,KQ P)::(nat_lit 376,KP P)::(nat_lit 377,KO P)::(nat_lit 383,KN P)::(nat_lit 384,KL P)::(nat_lit 388,KJ P)::(nat_lit 389,KI P)::(nat_lit 395,KH P)::(nat_lit 396,KG P)::(nat_lit 402,KD P)::(nat_lit 403,KC P)::(nat_lit 409,KA P)::(nat_lit 410,Kz P)::(nat_lit 416,Ky P)::(nat_lit 417,Kx P)::(nat_lit 423,Kw P)::(nat_lit 424,Kv P)::(nat_lit 430,Ku P)::(nat_lit 431,Kt P)::(nat_lit 437,Ks P)::(nat_lit 438,Kr P)::(nat_lit 444,Kq P)::(nat_lit 445,Kp P)::(nat_lit 449,Ko P)::(nat_lit 450,Km P)::(nat_lit 456,Kl P)::(nat_lit 457,Kk P)::(nat_lit 463,Kj P)::(nat_lit 464,Ki P)::(nat_lit 470,Kh P)::(nat_lit 471,Kg P)::(nat_lit 475,Kf P)::(nat_lit 476,Ke P)::(nat_lit 480,Kc P)::(nat_lit 481,Kb P)::(nat_lit 487,Ka P)::(nat_lit 488,J9 P)::(nat_lit 492,J8 P)::(nat_lit 493,J7 P)::[])
noncomputable abbrev hX:Shared->Bool:=λ s=>xlAt hV [] s&&recOk (RowW.records (OpenRow.toRowW (OpenLaw.row hl))) s
end HD17
end
section
namespace HD17
open PySem PySem.W PySem.W.X PyProof.Rows L2
set_option maxHeartbeats 0
theorem Mc:∀ w,(λ os=>topGo treeTable hp w 11 hAn 12 (S0 w os) (topStub hp))=λ os=>some (SA w os,⟨denote treeTable hC,hC,⟨0,0,0,0⟩,hB⟩):=by
 rewrite [PySem.W.Fast.te15667345088766844465,Z0,PySem.W.Fast.te11892475500146522536]
 intro w; kernel_rfl
theorem Me:∀ w,(λ os=>segRun treeTable hp w 11 hAn 1 1 (SA w os) (blockOf (behindTheImports hp) hE hC ⟨0,0,0,0⟩ hB))=λ os=>some (Flow.next,(S1 w os).abs,hC,⟨0,0,0,0⟩):=by
 rewrite [PySem.W.Fast.te14374325043358763698,Z0]
 intro w; kernel_rfl
theorem Pf:∀ w,(λ os=>segRunT treeTable hp w 11 hAn 1 774 (S1 w os) (piecesOf NY hE hC ⟨0,0,0,0⟩ hB))=λ os=>some (Flow.next,S2 w os,hC,⟨79,0,86,27⟩):=by
 rewrite [Yk,Z0]
 intro w; kernel_rfl
theorem Pe:∀ w,(λ os=>segRunT treeTable hp w 11 hAn 1 654 (S2 w os) (piecesOf NX hE hC ⟨79,0,86,27⟩ hB))=λ os=>some (Flow.next,S3 w os,hC,⟨97,0,98,8⟩):=by
 rewrite [Yk,Z0]
 intro w; kernel_rfl
theorem Pd:∀ w,(λ os=>segRunT treeTable hp w 11 hAn 1 498 (S3 w os) (piecesOf NW hE hC ⟨97,0,98,8⟩ hB))=λ os=>some (Flow.next,S4 w os,hC,⟨113,0,113,9⟩):=by
 rewrite [Yk,Z0]
 intro w; kernel_rfl
theorem Pc:∀ w,(λ os=>segRunT treeTable hp w 11 hAn 1 781 (S4 w os) (piecesOf NV hE hC ⟨113,0,113,9⟩ hB))=λ os=>some (Flow.next,S5 w os,hC,⟨205,0,207,67⟩):=by
 rewrite [Yk,Z0]
 intro w; kernel_rfl
theorem Pb:∀ w,(λ os=>segRunT treeTable hp w 11 hAn 1 646 (S5 w os) (piecesOf NU hE hC ⟨205,0,207,67⟩ hB))=λ os=>some (Flow.next,S6 w os,hC,⟨377,0,405,15⟩):=by
 rewrite [Yk,Z0]
 intro w; kernel_rfl
theorem Md:∀ w,(λ os=>topRun treeTable hp w 11 hAn 2 (S6 w os).abs ⟨doneF .next,hC,⟨377,0,405,15⟩,hB⟩)=λ os=>some (SF w os):=by
 rewrite [PySem.W.Fast.te14082659384304107361,Z0]
 intro w; kernel_rfl
theorem Mb (w:World) (os:OsState):topRun treeTable hp w 11 hAn (12+(1+(774+(654+(498+(781+(646+(2)))))))) (S0 w os) (topStub hp)=some (SF w os):=go_top (congrFun (Mc w) os) (piece_block (congrFun (Me w) os) (piece_app (segRun_of (congrFun (Pf w) os)) (piece_app (segRun_of (congrFun (Pe w) os)) (piece_app (segRun_of (congrFun (Pd w) os)) (piece_app (segRun_of (congrFun (Pc w) os)) (piece_app (segRun_of (congrFun (Pb w) os)) (congrFun (Md w) os)))))))
theorem GO:∀ w:World,((boot_heap w.params).isNs mainGlobals&&(⟨[]⟩:Array GenState).size == 0,(boot_heap w.params).objs.size,(boot_heap w.params).nsMap mainGlobals "__annotations__")=(true,11,hAn):=by
 rewrite [PySem.W.Fast.te8920871248978507458]
 intro w; kernel_rfl
theorem GQ:∀ w:World,(λ os=>((staticsOk (importedModules hp.main.body) (boot_heap w.params) (hF w.params)&&namesBound hp (hF w.params)&&gensDone (SF w os)&&laidKept (boot_heap w.params) (hF w.params)),openSeen hV [] (importedModules hp.main.body) hX true (SF w os),obsZ hAs (SF w os)))=λ _=>(true,openGood hV [],valZ hK 494 871 w):=by
 rewrite [PySem.W.Fast.te5923862056798008813,PySem.W.Fast.te4187177175401517315]
 intro w; kernel_rfl
theorem GR:LeftO hp hV [] hX (obsZ hAs) (valZ hK 494 871) 6822:=LeftO.of_pieces (boot_open (p:=hp) (N:=6822) (by kernel_rfl) (by decide) (λ _=>by kernel_rfl)) GO Mb (by decide) GQ
theorem GP:PySem.Challenge.rw_stylehouse_k17_chains.wellSaid=true:=by kernel_rfl
theorem GS (said:(OpenLaw.row PySem.Challenge.rw_stylehouse_k17_chains).wellSaid=true) (hw:(OpenRow.toRowW (OpenLaw.row PySem.Challenge.rw_stylehouse_k17_chains)).promised) {d:DefRec} {kwd:List (Str×Expr)} (hdef:defOf hV (OpenLaw.row PySem.Challenge.rw_stylehouse_k17_chains).name=some (d,kwd)) (hp':(OpenLaw.row PySem.Challenge.rw_stylehouse_k17_chains).prog.theDef (OpenLaw.row PySem.Challenge.rw_stylehouse_k17_chains).name=some (d.params,d.body,d.scope)) (hk:kwWritten? d.params.kwonlyargs d.params.kw_defaults=some kwd) (call:WalkX hV [] (XL hV []) (obsZ hAs) (valZ hK 494 871) (OpenRow.toRowW (OpenLaw.row PySem.Challenge.rw_stylehouse_k17_chains)) d kwd λ f vs=>PySem.call f vs):(OpenLaw.row PySem.Challenge.rw_stylehouse_k17_chains).Holds :=
 holds_openX (q:=hV) (loose:=[]) (Xt:=hX) (XP:=XL hV []) (Yf:=obsZ hAs) (Ya:=valZ hK 494 871) (N:=6822) GR (λ s e=>xl_of s (Bool.and_eq_true_iff.mp e).1) XL.keeps hdef hp' hk (λ s e=>recFacts_of (Bool.and_eq_true_iff.mp e).2) rfl said (by decide +kernel) ⟨rfl,rfl,rfl,rfl,rfl,by decide +kernel⟩ hw call
end HD17
end
section
namespace L2
open PySem PySem.Spec PyProof.Rows
section
variable {X:Cx}
def Sz (i:Int):Prop:=i.natAbs < 2 ^ 4000
theorem Sz.bits (h:Sz i):Builtin.Int.intBits i<=2 ^ 20:=Z3 (PySem.intBits_le_iff.mpr h) (by decide)
theorem Sz.log (h:Sz i):i.natAbs.log2 < 9000:=by
 by_cases z:i.natAbs=0
 · rw [z]; decide
 · exact (Nat.log2_lt z).mpr (Nat.lt_trans h (Nat.pow_lt_pow_right (by decide) (by decide)))
theorem Cm:OpR X (binaryOp .FloorDiv) (rI (λ _ j=>j≠0/\Sz j) λ i j=>.int (i.fdiv j)):=opI λ _ _ _ _ _ _ _ hc q=>floordiv_int hc.1 q (.inl (PyProof.noPylong_of_log2 hc.2.log))
end
open PySem.W in
mutual
inductive RdD (K:W.Frag) (H:Hp):V->Dat->Prop where
 | non:RdD K H .non .none
 | int (i:Int):RdD K H (.int i) (.int i)
 | str (x:Str):RdD K H (.str x) (.str x)
 | tup {a:Addr} {xs:List V} {ds:List Dat} (h:SqT K H a xs) (r:xB K H xs ds):RdD K H (.ref a) (.tuple ds)
 | lst {a:Addr} {xs:List V} {ds:List Dat} (h:SqL K H a xs) (r:xB K H xs ds):RdD K H (.ref a) (.list ds)
inductive xB (K:W.Frag) (H:Hp):List V->List Dat->Prop where
 | nil:xB K H [] []
 | cons {x:V} {d:Dat} {xs:List V} {ds:List Dat} (h:RdD K H x d) (r:xB K H xs ds):xB K H (x::xs) (d::ds)
end
section
open PySem.W
variable {X:Cx} {pins:List (Addr×Obj)} {σ:St} {H:Hp} {s:Shared}
mutual
theorem RdD.reads (I:Inv X pins σ H s):∀ {v:V} {d:Dat} {u:Value},RdD X.K H v d->RelV v u->∃ as,Reads s.heap u (kqdP d) as
 | _,_,u,.non,rv=>by cases (show u=Value.none from rv); exact ⟨_,Reads.none⟩
 | _,_,u,.int i,rv=>by obtain ⟨t,rfl⟩:=(show ∃ t,u=Value.int i t from rv); exact ⟨_,Reads.int i t⟩
 | _,_,u,.str x,rv=>by obtain ⟨t,rfl⟩:=(show ∃ t,u=Value.str x t from rv); exact ⟨_,Reads.str x t⟩
 | _,_,u,@RdD.tup _ _ a xs ds h r,rv=>by
  cases (show u=Value.ref a from rv);obtain ⟨its,vs,p,_⟩:=I.tuple h;obtain ⟨as,q⟩:=xB.reads I r vs;obtain ⟨o,h1,h2,n,h3⟩:=p;rw [kqdP];exact ⟨as,reads_tuple_at h1 h2 h3 (by simpa using q)⟩
 | _,_,u,@RdD.lst _ _ a xs ds h r,rv=>by
  cases (show u=Value.ref a from rv);obtain ⟨its,vs,p,_⟩:=I.list h;obtain ⟨as,q⟩:=xB.reads I r vs;obtain ⟨o,h1,h2,n,h3⟩:=p.isList;rw [kqdP];exact ⟨a::as,reads_list_at h1 h2 h3 (by simpa using q)⟩
theorem xB.reads (I:Inv X pins σ H s):∀ {vs:List V} {ds:List Dat} {us:List Value},xB X.K H vs ds->bH vs us->∃ as,ReadsAll s.heap us (kqdPs ds) as
 | _,_,_,.nil,.nil=>by rw [kqdPs]; exact ⟨_,ReadsAll.nil⟩
 | _,_,_,.cons h r,.cons rv rs=>by
  obtain ⟨as,q⟩:=RdD.reads I h rv;obtain ⟨bs,p⟩:=xB.reads I r rs;rw [kqdPs];exact ⟨_,ReadsAll.cons q p⟩
end
theorem f7 (h:kqdOk 9 d=true):SeqAt.shaped (kqdP d)=true:=by
 have la:=kqd_lay 9 d h;unfold SeqAt.shaped;rw [la.1,Bool.true_and];exact Zq (Z3 la.2 (by decide))
open Classical in
theorem wU (h:kqdOk 9 d=true) (h':kqdOk 9 e=true):PyData.eqv (kqdP d) (kqdP e)=decide (d=e):=by
 have q:=kqd_eqv 9 d e 9 h h'
 by_cases hq:d=e
 · rw [Zq hq]; exact q.mpr hq
 · rw [Zo hq]; exact Bool.eq_false_iff.mpr λ x=>hq (q.mp x)
open Classical in
noncomputable def eqD (d e:Dat):Bool:=decide (d=e)
open Classical in
theorem zw (h:d=e):eqD d e=true:=Zq h
open Classical in
theorem wV (h:d≠e):eqD d e=false:=Zo h
def Ol (K:W.Frag):R2:=λ x y H Q=>∃ d e,RdD K H x d/\RdD K H y e/\kqdOk 9 d=true/\kqdOk 9 e=true/\Q (.bl (eqD d e)) H
def Og (K:W.Frag):R2:=λ x y H Q=>∃ d e,RdD K H x d/\RdD K H y e/\kqdOk 9 d=true/\kqdOk 9 e=true/\Q (.bl (!eqD d e)) H
theorem FG (hu:X.A.units+64 < cLine):OpR X (compareOp .Eq) (Ol X.K):=by
 intro pins s σ H x y v u Q I rx ry h;obtain ⟨d,e,hd,he,kd,ke,q⟩:=h;obtain ⟨as,ra⟩:=hd.reads I rx;obtain ⟨bs,rb⟩:=he.reads I ry;refine eq_dataH ra rb (f7 kd) (f7 ke) hu ⟨.bl _,H,I,rfl,?_⟩;rw [wU kd ke];exact q
theorem FE (hu:X.A.units+64 < cLine):OpR X (compareOp .NotEq) (Og X.K):=by
 intro pins s σ H x y v u Q I rx ry h;obtain ⟨d,e,hd,he,kd,ke,q⟩:=h;obtain ⟨as,ra⟩:=hd.reads I rx;obtain ⟨bs,rb⟩:=he.reads I ry;refine ne_dataH ra rb (f7 kd) (f7 ke) hu ⟨.bl _,H,I,rfl,?_⟩;rw [wU kd ke];exact q
end
theorem bp.tup {K:W.Frag} {H H':Hp} {a:Addr} {xs:List V} (e:bp H H') (h:SqT K H a xs):SqT K H' a xs:=by
 rcases h with (h | ⟨o,h⟩) | h
 · exact .inl (.inl (e _ _ h))
 · exact .inl (.inr ⟨o,e _ _ h⟩)
 · exact .inr h
theorem az (h:H p=none) (o:HO):bp H (upd H p o):=λ b u q=>by rw [ar (dg q h)]; exact q
end L2
end
section
namespace L2
open PySem PySem.Spec PyProof.Rows
section
variable {prog:Program} {w:World} {A:Around} {R:Result->Shared->Prop} {s:Shared}
theorem og (I:Nat->Shared->Prop)
  (turn:∀ n s,I n s->wpAny (model prog w) A (pyNext it) (λ r s₁=>match r with
    | none=>R (.ok .next) s₁
    | some v=>wpAny (model prog w) A (letOwnedTupleGo target it v) (λ _ s₁'=>wpAny (model prog w) A (assign target env v) (λ _ s₂=>wpAny (model prog w) A (eval elt env) (λ x s₃ =>
     wpAny (model prog w) A (call (.builtin "list.append") [acc,x]) (λ _ s₄=>∃ m,m < n/\I m s₄) (λ _ _=>False) s₃) (λ _ _=>False) s₂) (λ _ _=>False) s₁') (λ _ _=>False) s₁) (λ _ _=>False) s)
  (n:Nat) (h:I n s) :
  codeAny (model prog w) A (.compLoop (.ListComp elt [⟨target,iter,[],0⟩] scope pos) 0 it acc env) R s:=by
 refine codeAny_loop rfl I (λ n s hI=>?_) n h;refine wpAny_noted ?_
 rw [compTurn_list1];refine Zu (wpAny_standAt (Zu (Ys (turn n s hI) (λ r s₁ h₁=>?_) λ _ _ h'=>h'.elim)))
 cases r with
 | none=>exact Z7 h₁
 | some v =>
  refine Zu (Ys h₁ (λ _ s₁' h₁'=>?_) λ _ _ h'=>h'.elim)
  exact Zu (Ys h₁' (λ _ s₂ h₂=>Zu (Zu (Ys h₂ (λ x s₃ h₃=>Zu (Ys h₃
    (λ _ s₄ h₄=>Z7 (Z7 ⟨rfl,h₄⟩)) λ _ _ h'=>h'.elim)) λ _ _ h'=>h'.elim))) λ _ _ h'=>h'.elim)
end
def bO (X:Cx) (scope:Scope) (cl:List (Str×Addr)) (N:List Str) (s:Shared) (H:Hp) (fp:List Addr) (C:Addr):Cx where
 prog:=X.prog
 w:=X.w
 K:=X.K
 mg:=X.mg
 base:=X.base
 A:=X.A
 N:=N
 s₀:=s
 H₀:=H
 env:=compEnvC scope cl C X.env
 outer:=X.stack
 stack:=X.stack
 ex:=fp
 calm:=X.calm
 fn:=λ _=>false
 pn:=[]
 xe:=λ _ _=>False
structure cw (X:Cx) (scope:Scope) (cl:List (Str×Addr)) (x:Str) (cs:List (Str×Nat)):Prop where
 Ha:closureFor scope X.env=pure cl
 kind:scope.kind=.function
 qW:∀ y ∈ scope.names,y.2≠.cell
 names:∀ y ∈ scope.names,y.2=.local->scope.names.lookup y.1=some .local
 own:scope.names.lookup x=some .local
 sub:∀ y c,cl.lookup y=some c->X.env.cells.lookup y=some c
 has:∀ y,((relabel scope X.env).names.lookup y=some .cell\/(relabel scope X.env).names.lookup y=some .free)->∃ c,cl.lookup y=some c
 Ms:∀ p ∈ cs,X.N[p.2]?=some p.1/\(X.env.kindOf p.1=some .cell\/X.env.kindOf p.1=some .free)/\((relabel scope X.env).names.lookup p.1=some .cell\/(relabel scope X.env).names.lookup p.1=some .free)
 nd:(x::cs.map (·.1)).Nodup
def aL (σ:St) (cs:List (Str×Nat)):St:=cs.map λ p=>(σ[p.2]?).join
section
variable {X:Cx} {pins:List (Addr×Obj)} {σ:St} {H:Hp} {s:Shared} {scope:Scope} {cl:List (Str×Addr)} {x:Str} {cs:List (Str×Nat)} {fp:List Addr} {C:Addr} {h':Heap} {t':Nat}
theorem lO (O:cw X scope cl x cs) (I:Inv X pins σ H s) (f2:∀ b ∈ fp,tT X pins H b) (there:∀ b ∈ fp,b < s.heap.objs.size) (hC:s.heap.objs.size<=C)
  (old:∀ b o,s.heap.get? b=some o->h'.get? b=some o) (hn:h'.Ns C λ _=>none) :
  Inv (bO X scope cl (x::cs.map (·.1)) s H fp C) [] (none::aL σ cs) H { s with heap:=h',toks:=t' }:=by
 refine ⟨⟨I.ok.mod,O.kind,I.ok.glob,I.ok.blt,hC,λ y z c h1 h2=>I.ok.inj y z c (O.sub y c h1) (O.sub z c h2),λ y hy=>O.has y hy,λ _ _ h=>absurd (h) Zf,I.ok.hd,I.ok.frames,.inl rfl,
   λ b hb=>⟨Zx (Zy (there b hb) hC),λ y c e=>(f2 b hb).2.2.2.2.1 y c (O.sub y c e)⟩,I.bs,Z3 I.ok.bsz I.sz,λ b o e hb=>?_,λ b hb z=>?_,I.stack,I.uk⟩,
  rfl,I.bare,Un.kept old,⟨_,hn,λ i y v e1 e2 e3=>?_⟩,λ y c e=>?_,I.hok.fresh hC,λ y c e=>I.j5 y c (O.sub y c e),λ p hp=>absurd (show p ∈ ([]:List (Addr×Obj)) from hp) (by simp),I.hok.kept old,?_⟩
 ·rcases (f2 b hb).2.2.2.1 with z | z
  · exact I.ok.Gb b o e z
  · exact absurd (Zy (Zr e) (Z3 I.ok.bsz z)) (Yw _)
 · exact (Zl.mp (I.mY b z)).elim (f2 b hb).2.1 (f2 b hb).2.2.1
 ·cases i with
  | zero=>simp at e2
  | succ j =>
   have e1':(cs.map (·.1))[j]?=some y:=by simpa [bO] using e1
   have e2':(aL σ cs)[j]?=some (some v):=by simpa using e2
   unfold aL at e2';rw [List.getElem?_map] at e1' e2'
   cases q:cs[j]? with
   | none=>rw [q] at e1'; cases e1'
   | some p =>
    rw [q] at e1' e2';have ey:p.1=y:=by simpa using e1'
    have ev:(σ[p.2]?).join=some v:=by simpa using e2'
    have ev':σ[p.2]?=some (some v):=by
     cases z:σ[p.2]? with
     | none=>rw [z] at ev; cases ev
     | some o=>rw [z] at ev; exact Yl some ev
    obtain ⟨c1,c2,c3⟩:=O.Ms p (List.mem_of_getElem? q);subst ey;obtain ⟨m,hm,hl⟩:=I.loc
    obtain ⟨u,ru,lk⟩:=hl p.2 p.1 v c1 ev' (by
     rcases c2 with c2 | c2
     · exact .inr (.inl c2)
     · exact .inr (.inr c2))
    obtain ⟨c',ec'⟩:=O.has p.1 c3;refine ⟨u,ru,.inr ⟨c3,c',ec',?_⟩⟩;rcases lk with ⟨k,_⟩ | ⟨_,c,ec,o,ho,hd⟩
    ·rcases c2 with c2 | c2
     · rw [c2] at k; cases k
     · rw [c2] at k; cases k
    ·have:=O.sub p.1 c' ec'
     rw [ec] at this;cases this;exact ⟨o,old _ o ho,hd⟩
 ·obtain ⟨v,o,ho,hd⟩:=I.cell y c (O.sub y c e)
  exact ⟨v,o,old c o ho,hd⟩
 · simp [bO,aL]
end
def ED (J:It) (te:TE) (cs:List (Str×Nat)) (σ:St) (Q:VK) (H1:Hp):Prop:=∃ W:Nat->Nat->List V->Hp->Prop,(∃ m,W 0 m [] H1)/\∀ i m ys H',W i m ys H' ->
 (J.stop i H'/\ys.length<=sizeLine/\∀ p,H' p=none->Q (.ref p) (upd H' p (.lst ys))) \/
 (J.go i H'/\ys.length < sizeLine/\∀ v H2,J.yld i H' v H2->te (some v::aL σ cs) H2 λ y H3=>∃ m',m' < m/\W (i+1) m' (ys++[y]) H3)
def Bc (wi:TI) (te:TE) (cs:List (Str×Nat)):TE:=λ σ H Q=>wi σ H λ J H1=>ED J te cs σ Q H1
section
variable {X:Cx}
theorem lP {elt iter:Expr} {x:Str} {px pos:Pos} {scope:Scope} {cl:List (Str×Addr)} {cs:List (Str×Nat)} {te:TE} {pins:List (Addr×Obj)} {σ:St} {H:Hp} {s:Shared} {Q:VK} {it:Addr} {fp:List Addr} {tn:Nat->Heap->Prop} {J:It}
  {RR:Value->Addr->Result->Shared->Prop} {E:Value->Shared->Prop} (hc:X.calm=true) (O:cw X scope cl x cs) (he:∀ s H fp C,PE (bO X scope cl (x::cs.map (·.1)) s H fp C) elt te)
  (I:Inv X pins σ H s) (T:Turn X.prog X.w X.K (.Name x px) J fp it tn) (st:tn 0 s.heap) (f2:∀ b ∈ fp,tT X pins H b)
  (h : ∃ W:Nat->Nat->List V->Hp->Prop,(∃ m,W 0 m [] H)/\∀ i m ys H',W i m ys H' ->
    (J.stop i H'/\ys.length<=sizeLine/\∀ p,H' p=none->Q (.ref p) (upd H' p (.lst ys))) \/
    (J.go i H'/\ys.length < sizeLine/\∀ v H2,J.yld i H' v H2->te (some v::aL σ cs) H2 λ y H3=>∃ m',m' < m/\W (i+1) m' (ys++[y]) H3))
  (hRR:∀ D C s' H' ys,s.heap.objs.size<=D->s.heap.objs.size<=C->D≠C->(∃ m,s'.heap.Ns C m)->Inv X pins σ (upd H' D (.lst ys)) s'->H' C=none->Q (.ref D) (upd H' D (.lst ys))->RR (.ref D) C (.ok .next) s') :
  wpAny (model X.prog X.w) X.A (newList []) (λ acc s₃=>wpAny (model X.prog X.w) X.A (newFunctionEnv scope X.env.globals cl [] X.env.qual none .none (some X.env)) (λ cenv s₄ =>
    codeAny (model X.prog X.w) X.A (.compStart (.ListComp elt [⟨.Name x px,iter,[],0⟩] scope pos) 0 (.ref it) acc { cenv with scope:=relabel scope X.env }) (RR acc cenv.locals) s₄) E s₃) E s:=by
 obtain ⟨W,⟨m0,w0⟩,turn⟩:=h;refine wpAny_newObj_type (wpAny_newFunctionEnv O.qW (by intro y hy; simp at hy) (λ h₁ hns₁ hsb₁=>?_) O.kind);generalize hH2:s.heap.push { cls:=.type "list",dict:=none,data:=.seq ([]:List Value).toArray }=H2 at hns₁ hsb₁ ⊢
 have hC:H2.objs.size=s.heap.objs.size+1:=by rw [<- hH2,Heap.size_push]
 have hDC:s.heap.objs.size≠H2.objs.size:=by rw [hC]; exact Zx (Xu _)
 have hCle:s.heap.objs.size<=H2.objs.size:=by rw [hC]; exact Nat.le_succ _
 have neC:∀ b,b < s.heap.objs.size->b≠H2.objs.size:=λ b hb=>by rw [hC]; exact Zx (Nat.lt_succ_of_lt hb)
 have old:∀ b o,s.heap.get? b=some o->h₁.get? b=some o:=λ b o e=>hsb₁.extBut b o (neC b (Zr e)) (Heap.get?_push_of_some _ (hH2 ▸ Heap.get?_push_of_some _ e))
 have hacc:=hsb₁.extBut _ _ hDC (Heap.get?_push_of_some _ (hH2 ▸ Heap.get?_push_size _ rfl))
 have there:∀ b ∈ fp,b < s.heap.objs.size:=λ b hb=>by
  obtain ⟨o,e,_⟩:=T.obj _ _ st b hb;exact Zr e
 have hns:h₁.Ns H2.objs.size λ _=>none:=by
  have e:(λ x=>List.lookup x ([]:List (Str×Value)).reverse)=λ _=>none:=by funext y; rfl
  rw [e] at hns₁
  exact hns₁
 generalize hD:s.heap.objs.size=D at hDC hCle hacc;generalize hCC:H2.objs.size=C at hDC hCle hns ⊢;have FD:=I.t4 (b:=D) (by rw [<- hD]; exact Zi _) (I.hok.fresh (by rw [<- hD]; exact Zi _));have nfpD:∀ b ∈ fp,b≠D:=λ b hb=>by rw [<- hD]; exact Zx (there b hb)
 have nfpC:∀ b ∈ fp,b≠C:=λ b hb=>Zx (Zy (there b hb) (by rw [hD]; exact hCle))
 have st1:=T.keep _ _ _ st λ b _ o e=>old b o e
 have I1:Inv (bO X scope cl (x::cs.map (·.1)) s H fp C) [] (none::aL σ cs) H { s with heap:=h₁,toks:=s.toks+([]:List (Str×Value)).length } :=
  lO O I f2 there (by rw [hD]; exact hCle) old hns
 generalize hY:bO X scope cl (x::cs.map (·.1)) s H fp C=Y at I1
 have pgx:PG Y (.Name x px) (nN 0):=by
  subst hY;exact gB O.nd rfl (.inl (Xs O.own)) (.inr (Xs O.own))
 have peY:PE Y elt te:=by subst hY; exact he _ _ _ _
 have Yx:Y.prog=X.prog/\Y.w=X.w/\Y.K=X.K/\Y.A=X.A/\Y.env=compEnvC scope cl C X.env/\Y.calm=X.calm/\Y.xe=(λ _ _=>False)/\Y.pn=[]/\Y.ex=fp/\Y.fs=frs X.stack/\Y.s₀=s/\Y.H₀=H:=by subst hY; exact ⟨rfl,rfl,rfl,rfl,rfl,rfl,rfl,rfl,rfl,rfl,rfl,rfl⟩
 obtain ⟨y1,y2,y3,y4,y5,y6,y7,y8,y9,y10,y11,y12⟩:=Yx;have nstk:∀ b,b≠X.env.locals->b ∉ X.fs->b ∉ Y.fs:=λ b h1 h2 z=>by rw [y10] at z; exact (Zl.mp (I.mY b z)).elim h1 h2
 have yl:Y.env.locals=C:=by rw [y5]; rfl
 have yc:∀ z c,Y.env.cells.lookup z=some c->X.env.cells.lookup z=some c:=λ z c e=>by rw [y5] at e; exact O.sub z c e
 have stat:∀ {ps:List (Addr×Obj)} {H':Hp},(∀ b ∈ fp,H' b=none)->(∀ p ∈ ps,p.1=D)->∀ b ∈ fp,tT Y ps H' b:=λ {ps H'} hn hp b hb =>
  ⟨hn b hb,by rw [yl]; exact nfpC b hb,nstk b (f2 b hb).2.1 (f2 b hb).2.2.1,.inl (by rw [y9]; exact hb),λ z c e=>(f2 b hb).2.2.2.2.1 z c (yc z c e),λ p hq=>by
    rw [y8,List.nil_append] at hq;rw [hp p hq]
    exact Ne.symm (nfpD b hb)⟩
 have pinD:∀ {σ':St} {H':Hp} {s':Shared} {ob:Obj},Inv Y [] σ' H' s'->H' D=none->s'.heap.get? D=some ob->(∀ v,ob.data≠.cell v)->Inv Y [(D,ob)] σ' H' s':=λ {σ' H' s' ob} I' hn e hd =>
  I'.gA λ p hp=>by
    have e1:p=(D,ob):=by simpa using hp
    subst e1;exact ⟨e,hn,by rw [yl]; exact hDC,nstk D FD.2.1 FD.2.2.1,hd⟩
 have loop:∀ s₃:Shared,s₃={ s with heap:=h₁,toks:=s.toks+([]:List (Str×Value)).length } ->
    codeAny (model X.prog X.w) X.A (.compLoop (.ListComp elt [⟨.Name x px,iter,[],0⟩] scope pos) 0 (.ref it) (.ref D) (compEnvC scope cl C X.env)) (RR (.ref D) C) s₃:=by
  rintro s₃ rfl
  refine og (λ n s'=>∃ i o H' ys its k,Inv Y [] (o::aL σ cs) H' s'/\tn i s'.heap/\(∀ b ∈ fp,H' b=none)/\H' D=none/\s'.heap.get? D=some { cls:=.type "list",data:=.seq (its:List Value).toArray k }/\bH ys its/\W i n ys H') ?_ m0
    ⟨0,none,H,[],[],0,I1,st1,λ b hb=>(f2 b hb).1,FD.1,hacc,.nil,w0⟩
  rintro n s3 ⟨i,o,H3,ys,its,k,I3,st3,fr3,frD,e3,vs3,w3⟩
  have I3p:=pinD I3 frD e3 (by intro v z; cases z)
  have onlyD:∀ p ∈ [(D,({ cls:=.type "list",data:=.seq its.toArray k }:Obj))],p.1=D:=λ p hp=>by
    have e1:=Zn.mp hp;rw [e1]
  rcases turn i n ys H3 w3 with ⟨stop,hz,q⟩ | ⟨go,hz,step⟩
  · have dn:=T.done Y y1 y2 y3 (by rw [y6]; exact hc) i _ s3 (o::aL σ cs) H3 (λ _ _=>False) I3p (stat fr3 onlyD) st3 stop
    rw [y4] at dn;refine thn dn λ r s4 ⟨hr,I4⟩=>?_
    subst hr;obtain ⟨e4,_⟩:=I4.pin (D,_) (Zc _ (Zn.mpr rfl));have b4:=I4.base;rw [y9,y10,y11,y12] at b4;have hk4:=I4.hok;rw [y1,y2] at hk4;have hCn:H3 C=none:=by have:=I4.free; rw [yl] at this; exact this
    refine hRR D C s4 H3 ys (by rw [<- hD]; exact Zi _) (by rw [hD]; exact hCle) hDC (by obtain ⟨m,hm,_⟩:=I4.loc; rw [yl] at hm; exact ⟨m,hm⟩) ?_ hCn (q D frD);have neD:∀ b o,s.heap.get? b=some o->b≠D:=λ b o e=>by rw [<- hD]; exact Zx (Zr e)
    have neDH:∀ b u,H b=some u->b≠D:=λ b u e=>by rw [<- hD]; exact Zx (I.hok.lt e)
    refine I.Hc (by have:=I4.os; rw [y11] at this; exact this) ⟨b4.keep,b4.slot,λ b o e n hx=>?_,b4.there,λ b xs e=>?_,λ b o u e=>?_,λ b ps e=>?_⟩ (λ b u e=>?_) I4.bare λ b hb=>?_
    · rw [ar (neD b o e)]; exact b4.free b o e n hx
    · rw [ar (neDH b _ e)]; exact b4.ud b xs e
    · rw [ar (neDH b _ e)]; exact b4.tY b o u e
    · rw [ar (neDH b _ e)]; exact b4.ug b ps e
    ·have t1:∀ c u,H3 c=some u->upd H3 D (.lst ys) c=some u:=λ c u z=>by
      rw [ar (λ zz=>by rw [zz,frD] at z; cases z)];exact z
     by_cases hb:b=D
     ·subst hb
      rw [av] at e;cases e;exact ⟨hz,its,k,vs3,e4⟩
     ·rw [ar hb] at e
      exact (hk4 b u e).xF (λ _ _ _ z=>z) (λ c z=>t1 c _ z) λ c xs z=>t1 c _ z
    · exact ⟨(f2 b hb).2.2.2.1,(f2 b hb).2.1,(f2 b hb).2.2.2.2.1,(f2 b hb).2.2.2.2.2⟩
  · have im:=T.item Y y1 y2 y3 (by rw [y6]; exact hc) i _ s3 (o::aL σ cs) H3 (λ _ _=>False) I3p (stat fr3 onlyD) st3 go
    rw [y4] at im;refine thn im λ r s4 ⟨u,hr,h4⟩=>?_
    subst hr;refine thn h4 λ _ s5 ⟨v,H5,I5,r5,y5',st5,fr5⟩=>?_
    have I5':=I5.pinned (stat fr5 onlyD) (T.obj _ _ st5);have as:=pgx _ s5 (o::aL σ cs) H5 v u _ I5' r5 (show nN 0 v (o::aL σ cs) H5 (λ σ' H'=>σ'=some v::aL σ cs/\H'=H5) from ⟨rfl,rfl⟩);rw [y1,y2,y4,y5,y7] at as;refine thn as λ _ s6 ⟨σ6,H6,I6,e6,e6'⟩=>?_
    subst e6 e6';have el:=peY _ s6 _ H6 _ I6 (step v H6 y5');rw [y1,y2,y4,y5,y7] at el;refine thn el λ u7 s7 ⟨y7',H7,I7,r7,m',hm',w7⟩=>?_
    obtain ⟨e7,n7,_⟩:=I7.pin (D,_) (Zc _ (Zp _ (Zn.mpr rfl)));have hl3:=vs3.length;refine Xr F.slot_list_append ⟨_,e7,rfl⟩ F.entry_list_append (F.args_list_append_2 _ _) (PySem.list_append D its.toArray k u7 (by rw [Zs]; omega)) ⟨e7,?_⟩;obtain ⟨k',up⟩:∃ k',(s7.heap.update D (Obj.mapSeq (·.push u7))).get? D=some { cls:=.type "list",data:=.seq (its.toArray.push u7) k' }:=⟨_,PySem.IsL.update e7 (·.push u7)⟩
    have fpk:∀ b ∈ fp,∀ o,s5.heap.get? b=some o->s7.heap.get? b=some o/\H7 b=none:=λ b hb o e=>by
     obtain ⟨z1,z2,_⟩:=I7.pin (b,o) (Zc _ (Zc _ (eD hb e)));exact ⟨z1,z2⟩
    have I7n:Inv Y [] (some v::aL σ cs) H7 s7:=I7.gA λ p hp=>absurd hp (by simp)
    refine ⟨m',hm',i+1,some v,H7,ys++[y7'],its++[u7],k',?_,?_,?_,n7,?_,vs3.append (.cons r7 .nil),w7⟩
    ·refine I7n.turned (λ b o hb e=>(Heap.get?_update_other s7.heap (Obj.mapSeq (·.push u7)) (Ne.symm hb)).trans e) n7 (by rw [yl]; exact hDC) (.inr (by rw [y11,<- hD]; exact Zi _)) (λ z c e=>FD.2.2.2.2.1 z c (yc z c e)) λ p hp=>?_
     rw [y8] at hp;exact absurd hp (by simp)
    ·refine T.keep _ _ _ st5 λ b hb o e=>?_
     exact (Heap.get?_update_other s7.heap (Obj.mapSeq (·.push u7)) (Ne.symm (nfpD b hb))).trans (fpk b hb o e).1
    ·intro b hb
     obtain ⟨o',e',_⟩:=T.obj _ _ st5 b hb;exact (fpk b hb o' e').2
    ·rw [List.push_toArray] at up
     exact up
 exact codeAny_compStart_list (loop _ rfl) (T.self _ 0 _ _ _ st1 (loop _ rfl))
theorem B4 {elt iter:Expr} {x:Str} {px pos:Pos} {scope:Scope} {cl:List (Str×Addr)} {cs:List (Str×Nat)} {wi:TI} {te:TE} (hc:X.calm=true) (O:cw X scope cl x cs) (hi:PI X (.Name x px) iter wi)
  (he:∀ s H fp C,PE (bO X scope cl (x::cs.map (·.1)) s H fp C) elt te) (hs:∀ x,foldedSetIterable iter X.env x=pure x:=by intro _; rfl) :
  PE X (.ListComp elt [⟨.Name x px,iter,[],0⟩] scope pos) (Bc wi te cs):=by
 intro pins s σ H Q I h;rw [eval_ListComp];refine wpAny_comprehension_free rfl hs O.Ha O.kind O.names (thn (hi pins s σ H _ I h) λ v s1 h1=>thn h1 λ itv s2 h2=>?_);obtain ⟨it,fp,tn,J,H2,rfl,I2,T,st2,f2,hw⟩:=h2;refine lP hc O he I2 T st2 f2 hw λ D C s' H' ys hD hC hDC ⟨m,hm⟩ I' hn q=>?_
 refine ⟨m,hm,λ h' hs'=>?_⟩;have hn':upd H' D (.lst ys) C=none:=by rw [ar (Ne.symm hDC)]; exact hn
 have FC:=I2.t4 hC hn';exact ⟨.ref D,upd H' D (.lst ys),I'.turned (λ b o hb e=>(hs'.2 b hb).trans e) hn' FC.2.1 FC.2.2.2.1 FC.2.2.2.2.1 FC.2.2.2.2.2,rfl,q⟩
theorem uX {elt iter:Expr} {x y:Str} {px py pos spos:Pos} {i:Nat} {scope:Scope} {cl:List (Str×Addr)} {cs:List (Str×Nat)} {wi:TI} {te:TE} (hN:X.N.Nodup) (hy:X.N[i]?=some y) (hx:Loc X.env.scope y)
  (hc:X.calm=true) (O:cw X scope cl x cs) (hi:PI X (.Name x px) iter wi)
  (he:∀ s H fp C,PE (bO X scope cl (x::cs.map (·.1)) s H fp C) elt te) (hs:∀ x,foldedSetIterable iter X.env x=pure x:=by intro _; rfl)
  (hsw:swapsWith (.ListComp elt [⟨.Name x px,iter,[],0⟩] scope pos) (some (.Name y py)) spos.line X.env=pure true:=by rfl)
  (hf:X.fn y=true\/X.env.scope.names.lookup y=some .local:=by first | exact .inl rfl | exact .inr rfl | assumption) :
  PS X (.Assign [.Name y py] (.ListComp elt [⟨.Name x px,iter,[],0⟩] scope pos) spos) (MC (Bc wi te cs) (nN i)):=by
 intro pins s σ H Dd I h;rw [exec_Assign_Name_used _ _ _ _ hsw];refine Zu (wpAny_standAt (Zu ?_))
 refine Zu (Ys (wpAny_comprehension_free rfl hs O.Ha O.kind O.names (thn (hi pins s σ H _ I h) λ v s1 h1=>thn h1 λ itv s2 h2=>?_))
  (λ _ s' hq=>Z7 (Z7 hq)) λ _ _ e=>e)
 obtain ⟨it,fp,tn,J,H2,rfl,I2,T,st2,f2,hw⟩:=h2;refine lP (Q:=λ v H1=>nN i v σ H1 Dd.nx) hc O he I2 T st2 f2 hw λ D C s' H' ys hD hC hDC ⟨m,hm⟩ I' hn q=>?_
 have hn':upd H' D (.lst ys) C=none:=by rw [ar (Ne.symm hDC)]; exact hn
 have FC:=I2.t4 hC hn';refine wpAny_assign_Name (mX I' hN hy hx (v:=.ref D) rfl (λ s'' I'' ⟨a,hsb,ha⟩=>?_) hf)
 have na:C≠a:=by
  rcases ha with ha | ha
  · rw [ha]; exact FC.2.1
  · exact Ne.symm (FC.2.2.2.2.1 y a ha)
 refine ⟨m,hm.sameBut hsb na,λ h' hs'=>?_⟩;exact ⟨σ.set i (some (.ref D)),upd H' D (.lst ys),I''.turned (λ b o hb e=>(hs'.2 b hb).trans e) hn' FC.2.1 FC.2.2.2.1 FC.2.2.2.2.1 FC.2.2.2.2.2,q⟩
end
theorem DN (h1:scope.kind=.function) (h2:∀ y ∈ scope.names,y.2≠.cell) (h3:∀ y ∈ scope.names,y.2≠.free) (h4:∀ y ∈ scope.names,y.2=.local->scope.names.lookup y.1=some .local) (h5:scope.names.lookup x=some .local) :
  cw X scope [] x [] where
 Ha:=closureFor_none h3
 kind:=h1
 qW:=h2
 names:=h4
 own:=h5
 sub:=λ _ _ e=>by cases e
 has := λ y hy=>by
  have rel:(relabel scope X.env).names=scope.names:=by
   exact map_eq_self λ z hz=>by
    obtain ⟨n,k⟩:=z;have:(k == NameKind.free)=false:=by simpa using h3 _ hz
    simp [this]
  rw [rel] at hy;rcases hy with hy | hy
  · exact absurd rfl (h2 _ (Yq hy))
  · exact absurd rfl (h3 _ (Yq hy))
 Ms:=λ _ h=>by cases h
 nd:=by simp
section
variable {κ:Type} [DecidableEq κ]
def cL (kvs:List (κ×V)) (k:κ):Option V:=(kvs.find? λ kv=>decide (kv.1=k)).map (·.2)
def putK (kvs:List (κ×V)) (k:κ) (v:V):List (κ×V) :=
 if (kvs.any λ kv=>decide (kv.1=k))=true then kvs.map (λ kv=>if kv.1=k then (kv.1,v) else kv) else kvs++[(k,v)]
theorem bR {p:κ×V} {r:List (κ×V)} {k:κ} (e:p.1=k):cL (p::r) k=some p.2:=by simp [cL,List.find?_cons,e]
theorem bS {p:κ×V} {r:List (κ×V)} {k:κ} (e:¬ p.1=k):cL (p::r) k=cL r k:=by simp [cL,List.find?_cons,e]
theorem gW (k:κ):∀ kvs:List (κ×V),(kvs.any λ kv=>decide (kv.1=k))=(cL kvs k).isSome
 | []=>rfl
 | p::r=>by
  rw [Y2]
  by_cases e:p.1=k
  · simp only [bR e,Zq e,Bool.true_or,Option.isSome_some]
  · rw [bS e,Zo e,Bool.false_or]; exact gW k r
theorem qx (k j:κ) (y:V):∀ kvs:List (κ×V),cL (kvs.map λ kv=>if kv.1=k then (kv.1,y) else kv) j=(cL kvs j).map λ x=>if j=k then y else x
 | []=>rfl
 | p::r=>by
  have ih:=qx k j y r;rw [Zh]
  by_cases h:p.1=k
  ·rw [if_pos h]
   by_cases e:p.1=j
   · rw [bR (p:=(p.1,y)) e,bR e,Xn,if_pos (e.symm.trans h)]
   · rw [bS (p:=(p.1,y)) e,bS e,ih]
  ·rw [if_neg h]
   by_cases e:p.1=j
   · rw [bR (p:=p) e,bR e,Xn,if_neg (λ z=>h (e.trans z))]
   · rw [bS (p:=p) e,bS e,ih]
theorem mV (k j:κ) (y:V):∀ kvs:List (κ×V),cL kvs k=none->cL (kvs++[(k,y)]) j=if j=k then some y else cL kvs j
 | [],_=>by
  by_cases e:k=j
  · rw [if_pos e.symm]; exact bR (p:=(k,y)) e
  · rw [if_neg (λ z=>e z.symm)]; exact bS (p:=(k,y)) e
 | p::r,hn=>by
  rw [List.cons_append];have hk:¬ p.1=k:=λ z=>by rw [bR z] at hn; cases hn
  rw [bS hk] at hn;have ih:=mV k j y r hn
  by_cases e:p.1=j
  · rw [bR e,bR e,if_neg (λ z=>hk (e.trans z))]
  · rw [bS e,bS e,ih]
theorem xP (kvs:List (κ×V)) (k j:κ) (y:V):cL (putK kvs k y) j=if j=k then some y else cL kvs j:=by
 unfold putK
 by_cases a:(kvs.any λ kv=>decide (kv.1=k))=true
 ·rw [if_pos a,qx]
  rw [gW] at a
  by_cases e:j=k
  ·obtain ⟨x,hx⟩:=Y1.mp a
   rw [if_pos e,e,hx,Xn,if_pos rfl]
  ·rw [if_neg e]
   cases cL kvs j with
   | none=>rfl
   | some x=>rw [Xn,if_neg e]
 ·rw [if_neg a]
  refine mV k j y kvs ?_
  rw [gW] at a
  cases q:cL kvs k with
  | none=>rfl
  | some x=>rw [q] at a; exact (a rfl).elim
theorem gD (kvs:List (κ×V)) (k:κ) (v:V):(putK kvs k v).length<=kvs.length+1:=by
 unfold putK;split
 · rw [Za]; omega
 · rw [Zt,Zz,List.length_nil]; omega
theorem oK.fE {o:Option V} {u:Option Value} (r:oK o u):o.isSome=u.isSome:=by
 cases o with
 | none=>cases u with
  | none=>rfl
  | some _=>exact (show False from r).elim
 | some _=>cases u with
  | none=>exact (show False from r).elim
  | some _=>rfl
theorem KV.val {kvs:List (κ×V)} {vs:List (κ×Value)} (r:KV kvs vs) (k:κ):oK (cL kvs k) (valueAt vs k):=by
 unfold KV at r
 induction r with
 | nil=>exact True.intro
 | @cons p q ps qs h t ih =>
  obtain ⟨h1,h2⟩:=h
  by_cases e:p.1=k
  ·have e':q.1=k:=h1.symm.trans e
   have b:valueAt (q::qs) k=some q.2:=by simp [valueAt,List.find?_cons,e']
   rw [bR e,b]; exact h2
  ·have e':¬ q.1=k:=λ z=>e (h1.trans z)
   have b:valueAt (q::qs) k=valueAt qs k:=by simp [valueAt,List.find?_cons,e']
   rw [bS e,b]; exact ih
theorem KV.any {kvs:List (κ×V)} {vs:List (κ×Value)} (r:KV kvs vs) (k:κ):(kvs.any λ kv=>decide (kv.1=k))=vs.any λ kv=>decide (kv.1=k):=by
 unfold KV at r
 induction r with
 | nil=>rfl
 | cons h t ih=>rw [Y2,Y2,ih,h.1]
theorem KV.Jw {kvs:List (κ×V)} {vs:List (κ×Value)} (r:KV kvs vs) (k:κ) {y:V} {u:Value} (ry:RelV y u) :
  KV (kvs.map λ kv=>if kv.1=k then (kv.1,y) else kv) (vs.map λ kv=>if kv.1=k then (kv.1,u) else kv):=by
 unfold KV at r ⊢
 induction r with
 | nil=>exact .nil
 | @cons p q ps qs h t ih =>
  rw [Zh,Zh];refine .cons ?_ ih;obtain ⟨h1,h2⟩:=h
  by_cases e:p.1=k
  · rw [if_pos e,if_pos (h1.symm.trans e)]; exact ⟨h1,ry⟩
  · rw [if_neg e,if_neg (λ z=>e (h1.trans z))]; exact ⟨h1,h2⟩
theorem KV.put {kvs:List (κ×V)} {vs:List (κ×Value)} (r:KV kvs vs) (k:κ) {y:V} {u:Value} (ry:RelV y u):KV (putK kvs k y) (stored vs k u):=by
 unfold putK stored;rw [r.any k]
 by_cases e:(vs.any λ kv=>decide (kv.1=k))=true
 · rw [if_pos e,if_pos e]; exact r.Jw k ry
 · rw [if_neg e,if_neg e]; exact Paired.snoc r ⟨rfl,ry⟩
theorem KV.length {kvs:List (κ×V)} {vs:List (κ×Value)} (r:KV kvs vs):kvs.length=vs.length:=Paired.length r
end
theorem sW {P:Program} {w:World} {k:Key} {u:Value} (r:RelV (kV k) u):(bK P w).is k u=true:=by
 cases k with
 | inl i=>obtain ⟨t,e⟩:=(show ∃ t,u=Value.int i t from r); subst e; exact pH P w i t
 | inr x=>obtain ⟨t,e⟩:=(show ∃ t,u=Value.str x t from r); subst e; exact pG P w x t
theorem nK {P:Program} {w:World}:∀ {ks:List Key} {us:List Value},bH (ks.map kV) us->ItemsAre (bK P w) ks us
 | [],_,r=>by rw [List.map_nil] at r; cases r; exact .nil
 | k::ks,_,r=>by
  rw [Zh] at r
  cases r with
  | cons h t=>exact .cons (sW h) (nK t)
abbrev KT (H:Hp):List (List Key×V)->List (List Key×Addr×Value)->Prop:=Paired λ p q=>p.1=q.1/\H q.2.1=some (.tup (p.1.map kV))/\RelV p.2 q.2.2
theorem KT.val {H:Hp} {kvs:List (List Key×V)} {xs:List (List Key×Addr×Value)} (r:KT H kvs xs) (k:List Key):oK (cL kvs k) ((atKey xs k).map (·.2)):=by
 induction r with
 | nil=>exact True.intro
 | @cons p q ps qs h t ih =>
  obtain ⟨h1,_,h2⟩:=h
  by_cases e:p.1=k
  ·have e':q.1=k:=h1.symm.trans e
   have b:atKey (q::qs) k=some q.2:=by simp [atKey,List.find?_cons,e']
   rw [bR e,b]; exact h2
  ·have e':¬ q.1=k:=λ z=>e (h1.trans z)
   have b:atKey (q::qs) k=atKey qs k:=by simp [atKey,List.find?_cons,e']
   rw [bS e,b]; exact ih
theorem KT.Jw {H:Hp} {kvs:List (List Key×V)} {xs:List (List Key×Addr×Value)} (r:KT H kvs xs) (k:List Key) {y:V} {u:Value} (ry:RelV y u) :
  KT H (kvs.map λ kv=>if kv.1=k then (kv.1,y) else kv) (xs.map (putAt k u)):=by
 induction r with
 | nil=>exact .nil
 | @cons p q ps qs h t ih =>
  rw [Zh,Zh];refine .cons ?_ ih;obtain ⟨h1,h2,h3⟩:=h;unfold putAt
  by_cases e:p.1=k
  · rw [if_pos e,if_pos (h1.symm.trans e)]; exact ⟨h1,h2,ry⟩
  · rw [if_neg e,if_neg (λ z=>e (h1.trans z))]; exact ⟨h1,h2,h3⟩
theorem KT.put {H:Hp} {kvs:List (List Key×V)} {xs:List (List Key×Addr×Value)} (r:KT H kvs xs) (k:List Key) {b:Addr} {y:V} {u:Value} (hb:H b=some (.tup (k.map kV))) (ry:RelV y u) :
  KT H (putK kvs k y) (storedH xs k b u):=by
 have e:(kvs.any λ kv=>decide (kv.1=k))=(atKey xs k).isSome:=by
  rw [gW,(r.val k).fE,Option.isSome_map]
 unfold putK storedH;rw [e]
 by_cases q:(atKey xs k).isSome=true
 · rw [if_pos q,if_pos q]; exact r.Jw k ry
 · rw [if_neg q,if_neg q]; exact Paired.snoc r ⟨rfl,hb,ry⟩
theorem KT.keeps {H H':Hp} {kvs:List (List Key×V)} {xs:List (List Key×Addr×Value)} (r:KT H kvs xs) (ht:∀ b ys,H b=some (.tup ys)->H' b=some (.tup ys)):KT H' kvs xs :=
 Paired.LW r λ _ _ z=>⟨z.1,ht _ _ z.2.1,z.2.2⟩
section
variable {P:Program} {w:World} {H:Hp} {h:Heap} {a:Addr}
theorem ER {u:HO} (ok:HOk P w H h) (e:Rd H a u):cc P w H h a u:=e.ok ok
theorem tF {kvs:List (Key×V)} (ok:HOk P w H h) (e:Rd H a (.dK kvs)):kvs.length<=sizeLine/\(a == sysModules)=false/\∃ vs,KV kvs vs/\h.DictOf (bK P w) a vs :=
 show cc P w H h a (.dK kvs) from ER ok e
theorem zC {kvs:List (Key×V)} (ok:HOk P w H h) (e:H a=some (.dK kvs)):kvs.length<=sizeLine/\(a == sysModules)=false/\∃ vs,KV kvs vs/\h.DictOf (bK P w) a vs:=tF ok (.inl e)
theorem nG {ks:List Key} (ok:HOk P w H h) (e:H a=some (.tup (ks.map kV))):(tupleKind (bK P w)).is h ks a:=by
 obtain ⟨_,its,r,o,h1,h2,n,h3⟩:=(show cc P w H h a (.tup (ks.map kV)) from ok a _ e)
 exact ⟨o,its.toArray,n,h1,h2,h3,by simpa using nK r⟩
theorem wX {kvs:List (List Key×V)} (ok:HOk P w H h) (e:Rd H a (.dT kvs)):kvs.length<=sizeLine/\(a == sysModules)=false /\
  ∃ xs,KT H kvs xs/\h.DictOfH (tupleKind (bK P w)) a xs:=by
 obtain ⟨z,y,xs,r,o,es,ep,h1,h2,h3,h4,h5⟩:=(show cc P w H h a (.dT kvs) from ER ok e)
 refine ⟨z,y,xs,r,o,es,ep,h1,h2,h3,h4,λ x hx=>?_,h5⟩
 have all:∀ {l:List (List Key×V)} {m:List (List Key×Addr×Value)},KT H l m->∀ x ∈ m,(tupleKind (bK P w)).is h x.1 x.2.1:=by
  intro l m q
  induction q with
  | nil=>intro x hx; exact nomatch hx
  | @cons p q ps qs hq t ih =>
   intro x hx;rcases Zl.mp hx with e | hx
   ·subst e
    exact nG ok (by rw [<- hq.1]; exact hq.2.1)
   · exact ih x hx
 exact all r x hx
theorem Mn {kvs:List (List Key×V)} (ok:HOk P w H h) (e:H a=some (.dT kvs)):kvs.length<=sizeLine/\(a == sysModules)=false /\
 ∃ xs,KT H kvs xs/\h.DictOfH (tupleKind (bK P w)) a xs:=wX ok (.inl e)
end
def mR (H:Hp) (a:Addr) (y:V) (r:Option V):Prop :=
 (∃ kvs k,Rd H a (.dK kvs)/\y=kV k/\r=cL kvs k)\/∃ kvs k b,Rd H a (.dT kvs)/\y=.ref b/\H b=some (.tup (k.map kV))/\r=cL kvs k
def zV (H:Hp) (a:Addr) (y v:V) (H':Hp):Prop :=
 (∃ kvs k,H a=some (.dK kvs)/\y=kV k/\kvs.length < sizeLine/\H'=upd H a (.dK (putK kvs k v))) \/
 ∃ kvs k b,H a=some (.dT kvs)/\y=.ref b/\H b=some (.tup (k.map kV))/\kvs.length < sizeLine/\H'=upd H a (.dT (putK kvs k v))
theorem mR.k {H:Hp} {a:Addr} {kvs:List (Key×V)} {k:Key} (e:H a=some (.dK kvs)):mR H a (kV k) (cL kvs k):=.inl ⟨kvs,k,.inl e,rfl,rfl⟩
theorem mR.t {H:Hp} {a b:Addr} {kvs:List (List Key×V)} {k:List Key} (e:H a=some (.dT kvs)) (eb:H b=some (.tup (k.map kV))):mR H a (.ref b) (cL kvs k):=.inr ⟨kvs,k,b,.inl e,rfl,eb,rfl⟩
theorem zV.k {H:Hp} {a:Addr} {kvs:List (Key×V)} {k:Key} {v:V} (e:H a=some (.dK kvs)) (hl:kvs.length < sizeLine):zV H a (kV k) v (upd H a (.dK (putK kvs k v))):=.inl ⟨kvs,k,e,rfl,hl,rfl⟩
theorem zV.t {H:Hp} {a b:Addr} {kvs:List (List Key×V)} {k:List Key} {v:V} (e:H a=some (.dT kvs)) (eb:H b=some (.tup (k.map kV))) (hl:kvs.length < sizeLine) :
 zV H a (.ref b) v (upd H a (.dT (putK kvs k v))):=.inr ⟨kvs,k,b,e,rfl,eb,hl,rfl⟩
section
variable {X:Cx} {pins:List (Addr×Obj)} {σ:St} {H:Hp} {s:Shared} {a:Addr} {y v:V} {u r:Value} {o:Option V} {A:Around} {E:Value->Shared->Prop}
theorem Inv.big (I:Inv X pins σ H s):sysModules < s.heap.objs.size:=by
 have h:mainGlobals < s.heap.objs.size:=(I.mod.glob.keeps I.bk).lt;exact Nat.lt_trans (by decide) h
theorem xb {Q:Value->Shared->Prop} (hu:A.units+1 < cLine) (I:Inv X pins σ H s) (g:mR H a y (some v)) (ry:RelV y u) (h:∀ w' s',Inv X pins σ H s'->RelV v w'->Q w' s') :
  wpAny (model X.prog X.w) A (getItem (.ref a) u) Q E s:=by
 rcases g with ⟨kvs,k,e,ey,l⟩ | ⟨kvs,k,b,e,ey,eb,l⟩
 ·subst ey
  obtain ⟨z,hd,vs,rel,dd⟩:=tF I.hok e;obtain ⟨w',hw,rw'⟩:=oK.some_of (v:=v) (o:=valueAt vs k) (by rw [l]; exact rel.val k);exact wpAny_getItem_of (sW ry) dd.mapOf hw (h w' _ (I.tok _) rw')
 ·subst ey
  cases (show u=Value.ref b from ry);obtain ⟨z,hd,xs,rel,dd⟩:=wX I.hok e;obtain ⟨w',hw,rw'⟩:=oK.some_of (v:=v) (o:=(atKey xs k).map (·.2)) (by rw [l]; exact rel.val k);obtain ⟨p,hp,hp2⟩:=Zm hw;refine wpAny_getItem_heap (tupleKind_room_in1 hu) (nG I.hok eb) dd hp ?_
  rw [hp2];exact h w' _ (I.tok _) rw'
theorem Pk {Q:Value->Shared->Prop} (hu:A.units+1 < cLine) (I:Inv X pins σ H s) (g:mR H a y o) (ry:RelV y u) (h:∀ s',Inv X pins σ H s'->Q (.bool o.isSome) s') :
  wpAny (model X.prog X.w) A (compareOp .In u (.ref a)) Q E s:=by
 rcases g with ⟨kvs,k,e,ey,l⟩ | ⟨kvs,k,b,e,ey,eb,l⟩
 ·subst ey
  obtain ⟨z,hd,vs,rel,dd⟩:=tF I.hok e;refine wpAny_in_of (sW ry) hd dd.mapOf ?_
  rw [<- (rel.val k).fE,<- l];exact h _ (I.tok _)
 ·subst ey
  cases (show u=Value.ref b from ry);obtain ⟨z,hd,xs,rel,dd⟩:=wX I.hok e;refine wpAny_in_heap (tupleKind_room_in1 hu) (nG I.hok eb) hd dd ?_
  have q:=(rel.val k).fE;rw [Option.isSome_map] at q;rw [<- q,<- l];exact h _ (I.tok _)
theorem DJ {Q:Value->Shared->Prop} (hu:A.units+1 < cLine) (I:Inv X pins σ H s) (g:mR H a y o) (ry:RelV y u) (h:∀ s',Inv X pins σ H s'->Q (.bool (!o.isSome)) s') :
  wpAny (model X.prog X.w) A (compareOp .NotIn u (.ref a)) Q E s:=by
 rcases g with ⟨kvs,k,e,ey,l⟩ | ⟨kvs,k,b,e,ey,eb,l⟩
 ·subst ey
  obtain ⟨z,hd,vs,rel,dd⟩:=tF I.hok e;refine wpAny_notIn_of (sW ry) hd dd.mapOf ?_
  rw [<- (rel.val k).fE,<- l];exact h _ (I.tok _)
 ·subst ey
  cases (show u=Value.ref b from ry);obtain ⟨z,hd,xs,rel,dd⟩:=wX I.hok e;refine wpAny_notIn_heap (tupleKind_room_in1 hu) (nG I.hok eb) hd dd ?_
  have q:=(rel.val k).fE;rw [Option.isSome_map] at q;rw [<- q,<- l];exact h _ (I.tok _)
theorem qb {h':Heap} {t':Nat} {ob:HO} (I:Inv X pins σ H s) (mu:Mut (H a)) (hs:Heap.SameBut a s.heap h') (he:∃ q,h'.get? a=some q) (new:cc X.prog X.w (upd H a ob) h' a ob) :
  Inv X pins σ (upd H a ob) { s with heap:=h',toks:=t' } :=
 I.write (x:=a) (e:=a) mu (.inl rfl) (λ b q hb z=>(hs.2 b hb).trans z) he new
theorem AU {P:Program} {w:World} {H':Hp} {h':Heap} {kvs:List (Key×V)} {vs:List (Key×Value)} (z:kvs.length<=sizeLine) (hd:(a == sysModules)=false) (rel:KV kvs vs) (dd:h'.DictOf (bK P w) a vs) :
 cc P w H' h' a (.dK kvs):=⟨z,hd,vs,rel,dd⟩
theorem xa {H':Hp} {Q:Unit->Shared->Prop} (hu:A.units+1 < cLine) (I:Inv X pins σ H s) (g:zV H a y v H') (ry:RelV y u) (rv:RelV v r) (h:∀ s',Inv X pins σ H' s'->Q () s') :
  wpAny (model X.prog X.w) A (setItem (.ref a) u r) Q E s:=by
 rcases g with ⟨kvs,k,e,ey,l,eH⟩ | ⟨kvs,k,b,e,ey,eb,l,eH⟩
 ·subst ey eH
  obtain ⟨z,hd,vs,rel,dd⟩:=zC I.hok e;have hz:vs.length<=sizeLine:=by rw [<- rel.length]; exact z
  have hl:(putK kvs k v).length<=sizeLine:=by have:=gD kvs k v; omega
  refine wpAny_setItem_pairs (hsz:=hz) (sW ry) dd λ h' dd' hs=>h _ ?_
  have he:∃ q,h'.get? a=some q:=let ⟨q,_,_,hq,_⟩:=dd'; ⟨q,hq⟩
  exact qb I (by rw [e]; exact True.intro) hs he (AU hl hd (rel.put k rv) dd')
 ·subst ey eH
  cases (show u=Value.ref b from ry);obtain ⟨z,hd,xs,rel,dd⟩:=Mn I.hok e;have hz:xs.length<=sizeLine:=by rw [<- Paired.length rel]; exact z
  have hl:(putK kvs k v).length<=sizeLine:=by have:=gD kvs k v; omega
  refine wpAny_setItem_heap (hsz:=hz) (tupleKind_room_in1 hu) (nG I.hok eb) dd λ h' dd' hs=>h _ ?_
  obtain ⟨q,es,ep,hq,h2,h3,h4,_,h5⟩:=dd';refine qb I (by rw [e]; exact True.intro) hs ⟨q,hq⟩ ⟨hl,hd,_,(rel.put k eb rv).keeps λ c ys ec=>?_,q,es,ep,hq,h2,h3,h4,h5⟩;rw [ar (LG ec e (λ z=>nomatch z))];exact ec
end
section
variable {X:Cx} {pins:List (Addr×Obj)} {σ:St} {H:Hp} {s:Shared} {a:Addr} {kvs:List (Key×V)} {k:Key} {u:Value} {A:Around} {E:Value->Shared->Prop}
theorem Mo {Q:Value->Shared->Prop} (I:Inv X pins σ H s) (e:Rd H a (.dK kvs)) (h:∀ t s',Inv X pins σ H s'->Q (.int kvs.length t) s'):wpAny (model X.prog X.w) A (call (.builtin "len") [.ref a]) Q E s:=by
 obtain ⟨z,hd,vs,rel,dd⟩:=tF I.hok e;refine call_len_dict hd dd (by rw [<- rel.length]; rw [Y3] at z; omega) ?_
 rw [<- rel.length];exact h _ _ (I.tok _)
end
def Ek (i:Expr):Prop:=∀ ov iv,subscripted i false ov iv=operate [ov,iv] (getItem ov iv)
theorem Be {prog:Program} {w:World} {A:Around} {E:Value->Shared->Prop} {s:Shared} {env:Env} {value slice:Expr} {pos:Pos} {T id:String} {Q:Value->Shared->Prop}
  (hl:typeLookup (.type T) "__getitem__"=pure (some (.builtin id))) (hs:Ek slice)
  (h:wpAny (model prog w) A (eval value env) (λ o s₁=>wpAny (model prog w) A (eval slice env) (λ i s₂=>s₂.TypeIs o T/\wpAny (model prog w) A (getItem o i) Q E s₂) E s₁) E s) :
  wpAny (model prog w) A (eval (.Subscript value slice pos) env) Q E s:=by
 refine Subscript_ (Ys h (λ o s₁ h₁=>Ys h₁ (λ i s₂ h₂=>?_) λ _ _ x=>x) λ _ _ x=>x);obtain ⟨hT,h₂⟩:=h₂;unfold subscriptTail;refine Zu ?_
 rw [getitemInPython_of_ne hT.not_modules];refine Zu (wpAny_specialOf hT hl ?_)
 have fin:wpAny (model prog w) A (subscripted slice false o i) (λ r s₃=>wpAny (model prog w) A (letTemporaryGo value o r >>= λ _=>pure r) Q E s₃) E s₂:=by
  rw [hs o i];exact wpAny_operating (Ys h₂ (λ r s₃ h₃=>Zu (wpAny_letTemporaryGo (Z7 h₃))) λ _ _ x=>x)
 first
  | exact Z7 (Zu fin)
  | exact Zu (Z7 (Zu fin))
  | exact Zu fin
theorem p9 {X:Cx} {pins:List (Addr×Obj)} {σ:St} {H:Hp} {s:Shared} {a:Addr} {y:V} {o:Option V} (I:Inv X pins σ H s) (g:mR H a y o):s.TypeIs (.ref a) "dict":=by
 rcases g with ⟨kvs,k,e,_,_⟩ | ⟨kvs,k,b,e,_,_,_⟩
 ·obtain ⟨_,_,vs,_,dd⟩:=tF I.hok e
  exact dd.typeIs
 ·obtain ⟨_,_,xs,_,dd⟩:=wX I.hok e
  exact dd.typeIs
def Jp (td ty:TE):TE:=λ σ H Q=>td σ H λ x H1=>ty σ H1 λ y H2=>∃ a v,x=.ref a/\mR H2 a y (some v)/\Q v H2
def NS (ty td:TE):TE:=λ σ H Q=>ty σ H λ y H1=>td σ H1 λ x H2=>∃ a o,x=.ref a/\mR H2 a y o/\Q (.bl o.isSome) H2
def A9 (ty td:TE):TE:=λ σ H Q=>ty σ H λ y H1=>td σ H1 λ x H2=>∃ a o,x=.ref a/\mR H2 a y o/\Q (.bl (!o.isSome)) H2
def Jv (td ty tv:TE):TS:=λ D σ H=>tv σ H λ v H1=>td σ H1 λ x H2=>ty σ H2 λ y H3=>∃ a H4,x=.ref a/\zV H3 a y v H4/\D.nx σ H4
section
variable {X:Cx} {o i e value:Expr} {pos pos' tpos:Pos} {td ty tv:TE}
theorem pj (hu:X.A.units+1 < cLine) (ho:PE X o td) (hi:PE X i ty) (hs:Ek i):PE X (.Subscript o i pos) (Jp td ty):=by
 intro pins s σ H Q I h;refine Be PySem.F.slot_dict_getitem.lookup hs (thn (ho pins s σ H _ I h) λ u s1 ⟨x,H1,I1,rx,q1⟩=>thn (hi pins s1 σ H1 _ I1 q1) λ iv s2 ⟨y,H2,I2,ry,a,v,ex,g,q2⟩=>?_);subst ex;obtain rfl:u=Value.ref a:=rx;exact ⟨p9 I2 g,xb hu I2 g ry λ w' s3 I3 rw'=>⟨v,H2,I3,rw',q2⟩⟩
theorem Fy (hu:X.A.units+1 < cLine) (hi:PE X i ty) (ho:PE X o td):PC X .In i o (NS ty td):=by
 intro pins s σ H Q I h;refine thn (hi pins s σ H _ I h) λ iv s1 ⟨y,H1,I1,ry,q1⟩=>thn (ho pins s1 σ H1 _ I1 q1) λ u s2 ⟨x,H2,I2,rx,a,ov,ex,g,q2⟩=>?_
 subst ex;obtain rfl:u=Value.ref a:=rx;exact Pk hu I2 g ry λ s3 I3=>⟨.bl ov.isSome,H2,I3,rfl,q2⟩
theorem m9 (hu:X.A.units+1 < cLine) (hi:PE X i ty) (ho:PE X o td):PC X .NotIn i o (A9 ty td):=by
 intro pins s σ H Q I h;refine thn (hi pins s σ H _ I h) λ iv s1 ⟨y,H1,I1,ry,q1⟩=>thn (ho pins s1 σ H1 _ I1 q1) λ u s2 ⟨x,H2,I2,rx,a,ov,ex,g,q2⟩=>?_
 subst ex;obtain rfl:u=Value.ref a:=rx;exact DJ hu I2 g ry λ s3 I3=>⟨.bl (!ov.isSome),H2,I3,rfl,q2⟩
theorem uZ (hu:X.A.units+1 < cLine) (ho:PE X o td) (hi:PE X i ty) (hv:PE X value tv) (hs:swapsWith value (some (.Subscript o i pos')) pos.line X.env=pure false) :
  PS X (.Assign [.Subscript o i pos'] value pos) (Jv td ty tv):=by
 intro pins s σ H D I h;refine wpAny_Assign_Subscript (thn (hv pins s σ H _ I h) λ r s1 ⟨v,H1,I1,rv,q1⟩=>thn (ho pins s1 σ H1 _ I1 q1) λ u s2 ⟨x,H2,I2,rx,q2⟩=>thn (hi pins s2 σ H2 _ I2 q2) λ iv s3 ⟨y,H3,I3,ry,a,H4,ex,g,q3⟩=>?_) hs;subst ex;obtain rfl:u=Value.ref a:=rx;exact xa hu I3 g ry rv λ s4 I4=>⟨σ,H4,I4,q3⟩
end
theorem rQ {P:Program} {w:World} {H:Hp} (h:Heap) (hb:sysModules < h.objs.size):cc P w H (h.push { cls:=.type "dict",data:=.dict #[] }) h.objs.size (.dK []) :=
 ⟨Z1 _,Y5.mpr (Ne.symm (Zx hb)),[],.nil,Heap.DictOf.new h⟩
theorem zB {P:Program} {w:World} {H:Hp} (h:Heap) (hb:sysModules < h.objs.size):cc P w H (h.push { cls:=.type "dict",data:=.dict #[] }) h.objs.size (.dT []) :=
 ⟨Z1 _,Y5.mpr (Ne.symm (Zx hb)),[],.nil,_,#[],0,Heap.get?_push_size _ rfl,⟨rfl,rfl,rfl⟩,rfl,rfl,Xg⟩
def EC:TE:=λ _ H Q=>∀ p,H p=none->Q (.ref p) (upd H p (.dK []))
def EB:TE:=λ _ H Q=>∀ p,H p=none->Q (.ref p) (upd H p (.dT []))
section
variable {X:Cx} {pos:Pos}
theorem yE:PE X (.Dict [] [] pos) EC:=λ pins s σ H Q I h =>
 wpAny_Dict_empty ⟨.ref s.heap.objs.size,_,I.laid (a:=s.heap.objs.size) (o:=.dK []) (t':=s.toks) (λ _ _ q=>Heap.get?_push_of_some _ q) (Zi _) (rQ s.heap I.big),rfl,h _ (I.hok.fresh (Zi _))⟩
theorem qK:PE X (.Dict [] [] pos) EB:=λ pins s σ H Q I h =>
 wpAny_Dict_empty ⟨.ref s.heap.objs.size,_,I.laid (a:=s.heap.objs.size) (o:=.dT []) (t':=s.toks) (λ _ _ q=>Heap.get?_push_of_some _ q) (Zi _) (zB s.heap I.big),rfl,h _ (I.hok.fresh (Zi _))⟩
end
def uh:List (TE×TE)->St->Hp->(List (V×V)->Hp->Prop)->Prop
 | [],_,H,Q=>Q [] H
 | (tk,tv)::r,σ,H,Q=>tk σ H λ x H1=>tv σ H1 λ y H2=>uh r σ H2 λ ps H3=>Q ((x,y)::ps) H3
abbrev VV:List (V×V)->List (Value×Value)->Prop:=Paired λ p q=>RelV p.1 q.1/\RelV p.2 q.2
def PPs (X:Cx) (pos:Pos) (keys:List (Option Expr)) (values:List Expr) (trs:List (TE×TE)):Prop :=
  ∀ (pins:List (Addr×Obj)) (s:Shared) (σ:St) (H:Hp) (Q:List (V×V)->Hp->Prop),Inv X pins σ H s->uh trs σ H Q ->
    wpAny (model X.prog X.w) X.A (evalPairs (pairTrees keys values X.env pos)) (λ vs s'=>∃ ps H',Inv X pins σ H' s'/\VV ps vs/\Q ps H') X.xe s
theorem BJ {X:Cx} {pos:Pos}:PPs X pos [] [] []:=λ pins s σ H Q I h=>pairTrees_nil_walk ⟨[],H,I,.nil,h⟩
theorem yt {X:Cx} {pos:Pos} {k v:Expr} {ks:List (Option Expr)} {vs:List Expr} {tk tv:TE} {trs:List (TE×TE)} (hk:PE X k tk) (hv:PE X v tv) (hr:PPs X pos ks vs trs) :
  PPs X pos (some k::ks) (v::vs) ((tk,tv)::trs):=λ pins s σ H Q I h =>
 pairTrees_cons_walk (thn (hk pins s σ H _ I h) λ u s1 ⟨x,H1,I1,rx,q1⟩=>thn (hv pins s1 σ H1 _ I1 q1) λ w2 s2 ⟨y,H2,I2,ry,q2⟩ =>
  thn (hr pins s2 σ H2 _ I2 q2) λ ws s3 ⟨ps,H3,I3,rel,q3⟩=>⟨(x,y)::ps,H3,I3,.cons ⟨rx,ry⟩ rel,q3⟩)
def nv (kvs more:List (Key×V)):List (Key×V):=more.foldl (λ acc kv=>putK acc kv.1 kv.2) kvs
theorem KV.merge:∀ {more:List (Key×V)} {rs:List (Key×Value)} {kvs:List (Key×V)} {vs:List (Key×Value)},KV more rs->KV kvs vs->KV (nv kvs more) (merged vs rs):=by
 intro more rs kvs vs r;unfold KV at r
 induction r generalizing kvs vs with
 | nil=>intro q; exact q
 | @cons p q ps qs h t ih =>
  intro r0
  have e:KV (putK kvs p.1 p.2) (stored vs q.1 q.2):=by
   have:=r0.put p.1 h.2;rw [<- h.1]; exact this
  exact ih e
theorem hW:∀ (more kvs:List (Key×V)),(nv kvs more).length<=kvs.length+more.length
 | [],kvs=>by show kvs.length<=kvs.length+0; omega
 | p::r,kvs=>by
  have h1:=hW r (putK kvs p.1 p.2);have h2:=gD kvs p.1 p.2;show (nv (putK kvs p.1 p.2) r).length<=_;rw [Zz]; omega
theorem lR {P:Program} {w:World}:∀ {kvs:List (Key×V)} {ws:List (Value×Value)},VV (kvs.map λ kv=>(kV kv.1,kv.2)) ws->∃ rs,Carries (bK P w) ws rs/\KV kvs rs
 | [],_,r=>by rw [List.map_nil] at r; cases r; exact ⟨[],True.intro,.nil⟩
 | p::kvs,_,r=>by
  rw [Zh] at r
  cases r with
  | @cons a b as bs h t =>
   obtain ⟨rs,c,q⟩:=lR (P:=P) (w:=w) t;obtain ⟨b1,b2⟩:=b;exact ⟨(p.1,b2)::rs,⟨sW h.1,rfl,c⟩,.cons ⟨rfl,h.2⟩ q⟩
def Jo (trs:List (TE×TE)):TE:=λ σ H Q=>∀ p,H p=none->uh trs σ (upd H p (.dK [])) λ ps H2=>H2 p=some (.dK [])/\∃ kvs:List (Key×V),ps=kvs.map (λ kv=>(kV kv.1,kv.2))/\kvs.length<=15/\Q (.ref p) (upd H2 p (.dK (nv [] kvs)))
theorem B3 {X:Cx} {pos:Pos} {keys:List (Option Expr)} {values:List Expr} {trs:List (TE×TE)} (h:PPs X pos keys values trs) (hall:keys.all (·.isSome)=true) (hl:keys.length=values.length) (h0:keys≠[])
  (h15:keys.length<=15):PE X (.Dict keys values pos) (Jo trs):=by
 intro pins s σ H Q I q;have hn:=I.hok.fresh (Zi s.heap.objs.size);have I1:=I.laid (a:=s.heap.objs.size) (o:=.dK []) (h':=s.heap.push { cls:=.type "dict",data:=.dict #[] }) (t':=s.toks) (λ _ _ q=>Heap.get?_push_of_some _ q) (Zi _) (rQ s.heap I.big);refine wpAny_Dict_walk (knd:=bK X.prog X.w) hall hl h0 h15 (thn (h pins _ σ _ _ I1 (q _ hn)) λ ws s2 ⟨ps,H2,I2,rel,e,kvs,ep,lk,q2⟩=>?_);subst ep;obtain ⟨rs,c,rk⟩:=lR (P:=X.prog) (w:=X.w) rel;obtain ⟨z,hd,vs0,r0,dd⟩:=zC I2.hok e;cases r0;refine ⟨rs,c,dd,λ h' dd' hs=>⟨.ref s.heap.objs.size,_,?_,rfl,q2⟩⟩
 have hz:(nv [] kvs).length<=sizeLine:=by
  have h1:=hW kvs [];rw [List.length_nil] at h1;rw [Y3]; omega
 have he:∃ q,h'.get? s.heap.objs.size=some q:=let ⟨q,_,_,hq,_⟩:=dd'; ⟨q,hq⟩
 exact qb I2 (by rw [e]; exact True.intro) hs he (AU hz hd (rk.merge .nil) dd')
def Its (z:Str):It:=⟨λ i _=>i < z.cps.size,λ i H x H'=>H'=H/\∃ c,z.cps[i]?=some c/\x=.str ⟨#[c]⟩,λ i _=>z.cps.size<=i⟩
theorem sk {P:Program} {w:World} {K:W.Frag} {tg:Expr} (it:Addr) (z:Str) (t:Tok):Turn P w K tg (Its z) [it] it (λ i h=>h.IsStrIter it "str_ascii_iterator" z t i) where
 mem:=by simp
 obj:=λ i h st b hb=>by
  have e:b=it:=by simpa using hb
  subst e;obtain ⟨o,e,c,d⟩:=st;exact ⟨o,e,λ v z=>by rw [d] at z; cases z⟩
 keep:=λ i h h' st k=>let ⟨o,ho,r⟩:=st; ⟨o,k it (by simp) o ho,r⟩
 item:=by
  intro X hP hw hK hc i pins s σ H E I hf st hg;subst hP hw hK;obtain ⟨f0,f1,f2,f3,f4,f5⟩:=hf it (by simp);have hg':i < z.cps.size:=hg;have hx:z.cps[i]?=some z.cps[i]:=by simp [hg']
  refine wpAny_pyNext_ascii_item st hx λ h' st' sb=>?_
  have I1:Inv X pins σ H { s with heap:=h',toks:=s.toks+1 }:=I.turned (λ b o hb e=>(sb.2 b hb).trans e) f0 f1 f3 f4 f5;obtain ⟨o,e,c,d⟩:=id st';exact ⟨_,rfl,pT e c d (by decide) ⟨.str ⟨#[z.cps[i]]⟩,H,I1,⟨_,rfl⟩,⟨rfl,_,hx,rfl⟩,st',λ b hb=>(hf b hb).1⟩⟩
 done:=by
  intro X hP hw hK hc i pins s σ H E I hf st hg;subst hP hw hK;obtain ⟨f0,f1,f2,f3,f4,f5⟩:=hf it (by simp);have hg':z.cps.size<=i:=hg;exact wpAny_pyNext_ascii_end (I.ok.hd hc) st (by simp [hg']) λ h' eb=>⟨rfl,I.turned (λ b o hb e=>eb b o hb e) f0 f1 f3 f4 f5⟩
 self:=λ _ _ _ _ _ st h=>wpAny_pyIter_striter_ascii st h
theorem t8 {P:Program} {w:World} {K:W.Frag} {tg:Expr} (it:Addr) (z:Str) (t:Tok):Turn P w K tg (Its z) [it] it (λ i h=>h.IsStrIter it "str_iterator" z t i) where
 mem:=by simp
 obj:=λ i h st b hb=>by
  have e:b=it:=by simpa using hb
  subst e;obtain ⟨o,e,c,d⟩:=st;exact ⟨o,e,λ v z=>by rw [d] at z; cases z⟩
 keep:=λ i h h' st k=>let ⟨o,ho,r⟩:=st; ⟨o,k it (by simp) o ho,r⟩
 item:=by
  intro X hP hw hK hc i pins s σ H E I hf st hg;subst hP hw hK;obtain ⟨f0,f1,f2,f3,f4,f5⟩:=hf it (by simp);have hg':i < z.cps.size:=hg;have hx:z.cps[i]?=some z.cps[i]:=by simp [hg']
  refine wpAny_pyNext_wide_item st hx λ h' st' sb=>?_
  have I1:Inv X pins σ H { s with heap:=h',toks:=s.toks+1 }:=I.turned (λ b o hb e=>(sb.2 b hb).trans e) f0 f1 f3 f4 f5;obtain ⟨o,e,c,d⟩:=id st';exact ⟨_,rfl,pT e c d (by decide) ⟨.str ⟨#[z.cps[i]]⟩,H,I1,⟨_,rfl⟩,⟨rfl,_,hx,rfl⟩,st',λ b hb=>(hf b hb).1⟩⟩
 done:=by
  intro X hP hw hK hc i pins s σ H E I hf st hg;subst hP hw hK;obtain ⟨f0,f1,f2,f3,f4,f5⟩:=hf it (by simp);have hg':z.cps.size<=i:=hg;exact wpAny_pyNext_wide_end (I.ok.hd hc) st (by simp [hg']) λ h' eb=>⟨rfl,I.turned (λ b o hb e=>eb b o hb e) f0 f1 f3 f4 f5⟩
 self:=λ _ _ _ _ _ st h=>wpAny_pyIter_striter_wide st h
section
variable {X:Cx} {tg:Expr}
def Pa (tl:TE):TI:=λ σ H R=>tl σ H λ x H1=>∃ z,x=.str z/\R (Its z) H1
theorem E9 {l:Expr} {tl:TE} (hl:PE X l tl):PI X tg l (Pa tl):=by
 intro pins s σ H R I h;refine thn (hl pins s σ H _ I h) λ v s1 ⟨x,H1,I1,r1,q1⟩=>?_
 obtain ⟨z,e,q⟩:=q1;subst e;obtain ⟨t,rfl⟩:=r1
 have fp:∀ b ∈ [s1.heap.objs.size],tT X pins H1 b:=λ b hb=>by
  have e:b=s1.heap.objs.size:=by simpa using hb
  subst e;exact I1.t4 (Zi _) (I1.hok.fresh (Zi _))
 cases ha:z.cps.all (· < 128)
 ·refine wpAny_pyIter_wide ha ?_
  exact ⟨s1.heap.objs.size,[s1.heap.objs.size],_,_,H1,rfl,I1.kept λ b o e=>Heap.get?_push_of_some _ e,t8 _ z t,⟨_,Heap.get?_push_size _ rfl,rfl,rfl⟩,fp,q⟩
 ·refine wpAny_pyIter_ascii ha ?_
  exact ⟨s1.heap.objs.size,[s1.heap.objs.size],_,_,H1,rfl,I1.kept (t':=s1.toks) λ b o e=>Heap.get?_push_of_some _ e,sk _ z t,⟨_,Heap.get?_push_size _ rfl,rfl,rfl⟩,fp,q⟩
theorem vq:OpR X (compareOp .LtE) (λ x y H Q=>∃ i j,x=.str i/\y=.str j/\Q (.bl (!decide (j.cps.toList < i.cps.toList))) H):=by
 intro pins s σ H x y v u Q I rx ry h;obtain ⟨i,j,rfl,rfl,q⟩:=h;obtain ⟨t,rfl⟩:=rx;obtain ⟨t',rfl⟩:=ry;exact PySem.P.le_str (a8 I q (by simp))
theorem mI:∀ {bs:List Bool} {us:List Value},bH (bs.map V.bl) us->∀ (i:Nat) (v:Value),us[i]?=some v->∃ b,bs[i]?=some b/\v=Value.bool b
 | [],_,.nil,i,v,e=>by simp at e
 | b::bs,_,.cons r t,0,v,e=>by
  simp at e;subst e;exact ⟨b,by simp,r⟩
 | b::bs,_,.cons r t,i+1,v,e=>by
  obtain ⟨c,h1,h2⟩:=mI t i v (by simpa using e);exact ⟨c,by simpa using h1,h2⟩
theorem zO (hc:X.calm=true):ee X (.builtin "all") (λ xs H Q=>∃ (p:Addr) (bs:List Bool),xs=[.ref p]/\SqL X.K H p (bs.map V.bl)/\Q (.bl (bs.all id)) H):=by
 intro pins s σ H xs us Q I r h;obtain ⟨p,bs,rfl,hL,q⟩:=h;obtain ⟨u,rfl,ru⟩:=vals1 r;cases (ru);obtain ⟨its,rv,pl,hz⟩:=I.list hL;have hl:=pl.isList;have hlen:=rv.length;rw [Za] at hlen;have hlt:p < s.heap.objs.size:=by obtain ⟨_,e,_⟩:=hl; exact Zr e
 refine call_all_walk (wpAny_pyIter_list hl ?_)
 refine ⟨s.heap.objs.size,[s.heap.objs.size,p],[s.heap.objs.size],its.toArray.size,_,_,λ i=>(bs[i]?).getD true,rfl,Walks.list (A:=X.A.in1) (I.ok.hd hc) _ p (Zx hlt) its.toArray,
  ⟨⟨_,Heap.get?_push_size _ rfl,rfl,rfl⟩,hl.push _⟩,λ i v s' Q' E' hP hQ=>?_,λ h' tk hk=>?_⟩
 ·obtain ⟨b,e,rfl⟩:=mI rv i v (by simpa using hP)
  simp only [e,Option.getD_some] at hQ;exact Yj hQ
 ·have e:((List.range its.toArray.size).all λ i=>(bs[i]?).getD true)=bs.all id:=by
   rw [Zs,<- hlen,Y4,Yy,Yy];constructor
   ·intro hh b hb
    obtain ⟨i,hi,rfl⟩:=List.getElem_of_mem hb;have:=hh i (Xf.mpr hi)
    simpa [List.getElem?_eq_getElem hi] using this
   ·intro hh i hi
    have hi':=Xf.mp hi;simp only [List.getElem?_eq_getElem hi',Option.getD_some];exact hh _ (Xh hi')
  rw [e];refine ⟨.bl _,H,I.kept λ b x ex=>hk b x (λ hm=>?_) (Heap.get?_push_of_some _ ex),rfl,q⟩;rw [Zn.mp hm] at ex;exact Yw _ (Zr ex)
theorem jz:∀ {ts:List Str} {us:List Value},bH (ts.map V.str) us->StrsAre us ts
 | [],_,.nil=>.nil
 | x::ts,_,.cons r t=>by
  obtain ⟨tk,rfl⟩:=r;exact .cons x tk (jz t)
theorem CW:MtR X "str.join" (λ x xs H Q=>∃ (z:Str) (p:Addr) (ts:List Str),x=.str z/\xs=[.ref p]/\SqL X.K H p (ts.map V.str)/\(ts.map (·.length)).sum+ts.length * z.length<=16777216/\Q (.str (Txt.join z ts)) H):=by
 intro pins s σ H x xs v us Q I rx rv h;obtain ⟨z,p,ts,rfl,rfl,hL,hz,q⟩:=h;obtain ⟨t,rfl⟩:=rx;obtain ⟨u,rfl,ru⟩:=vals1 rv;cases (ru);obtain ⟨its,rv',pl,_⟩:=I.list hL;exact join_list pl.isList (by simpa using jz rv') hz λ t' k=>⟨.str _,H,I.tok k,⟨_,rfl⟩,q⟩
end
theorem DM (h0:closureFor scope X.env=pure cl) (h1:scope.kind=.function) (h2:(scope.names.all λ y=>!(y.2 == .cell))=true)
  (h3:(scope.names.all λ y=>!(y.2 == .local)||(scope.names.lookup y.1 == some .local))=true) (h4:scope.names.lookup x=some .local) (h5:∀ p ∈ cl,X.env.cells.lookup p.1=some p.2)
  (h6:((relabel scope X.env).names.all λ p=>!(p.2 == .cell||p.2 == .free)||(cl.lookup p.1).isSome)=true)
  (h7:∀ p ∈ cs,X.N[p.2]?=some p.1/\X.env.kindOf p.1=some .cell/\(relabel scope X.env).names.lookup p.1=some .cell) (h8:(x::cs.map (·.1)).Nodup):cw X scope cl x cs where
 Ha:=h0
 kind:=h1
 qW:=λ y hy z=>by
  have:=Yy.mp h2 y hy;rw [z] at this;exact absurd this (by decide)
 names:=λ y hy z=>by
  have:=Yy.mp h3 y hy;rw [z] at this
  simpa using this
 own:=h4
 sub:=λ y c e=>h5 (y,c) (Yq e)
 has:=λ y hy=>by
  have key:∀ k,(relabel scope X.env).names.lookup y=some k->(k=.cell\/k=.free)->∃ c,cl.lookup y=some c:=λ k e hk=>by
   have:=Yy.mp h6 (y,k) (Yq e);rcases hk with rfl | rfl
   · exact Y1.mp (by simpa using this)
   · exact Y1.mp (by simpa using this)
  rcases hy with hy | hy
  · exact key _ hy (.inl rfl)
  · exact key _ hy (.inr rfl)
 Ms:=λ p hp=>⟨(h7 p hp).1,.inl (h7 p hp).2.1,.inl (h7 p hp).2.2⟩
 nd:=h8
def Ep (X:Cx):List (Str×Addr)->Prop
 | []=>True
 | p::r=>X.env.cells.lookup p.1=some p.2/\Ep X r
def AllP (X:Cx) (scope:Scope):List (Str×Nat)->Prop
 | []=>True
 | p::r=>(X.N[p.2]?=some p.1/\X.env.kindOf p.1=some .cell/\(relabel scope X.env).names.lookup p.1=some .cell)/\AllP X scope r
theorem Ep.all:∀ {cl:List (Str×Addr)},Ep X cl->∀ p ∈ cl,X.env.cells.lookup p.1=some p.2
 | [],_,p,h=>by cases h
 | q::r,a,p,h=>by
  rcases Zl.mp h with rfl | h
  · exact a.1
  · exact Ep.all a.2 p h
theorem AllP.all:∀ {cs:List (Str×Nat)},AllP X scope cs->∀ p ∈ cs,X.N[p.2]?=some p.1/\X.env.kindOf p.1=some .cell/\(relabel scope X.env).names.lookup p.1=some .cell
 | [],_,p,h=>by cases h
 | q::r,a,p,h=>by
  rcases Zl.mp h with rfl | h
  · exact a.1
  · exact AllP.all a.2 p h
theorem DL (cs:List (Str×Nat)) (h0:closureFor scope X.env=pure cl) (h1:scope.kind=.function) (h2:(scope.names.all λ y=>!(y.2 == .cell))=true)
 (h3:(scope.names.all λ y=>!(y.2 == .local)||(scope.names.lookup y.1 == some .local))=true) (h4:scope.names.lookup x=some .local) (h5:Ep X cl)
 (h6:((relabel scope X.env).names.all λ p=>!(p.2 == .cell||p.2 == .free)||(cl.lookup p.1).isSome)=true)
 (h7:AllP X scope cs) (h8:(x::cs.map (·.1)).Nodup):cw X scope cl x cs:=DM h0 h1 h2 h3 h4 h5.all h6 h7.all h8
inductive D where
 | non | bl (b:Bool) | int (i:Int) | str (x:Str) | ty (n:String)
 | tup (ds:List D) | lst (ds:List D) | fz (ds:List D) | dct (kvs:List (Key×D)) | obj (C:Addr) (fs:List (Str×D)) | cls (C:Addr) | dfz (kvs:List (Key×D))
mutual
inductive Rp (K:W.Frag) (H:Hp):V->D->Prop where
 | non:Rp K H .non .non
 | bl (b:Bool):Rp K H (.bl b) (.bl b)
 | int (i:Int):Rp K H (.int i) (.int i)
 | str (x:Str):Rp K H (.str x) (.str x)
 | ty (n:String):Rp K H (.ty n) (.ty n)
 | cls (C:Addr):Rp K H (.ref C) (.cls C)
 | tup {a:Addr} {xs:List V} {ds:List D} (h:SqT K H a xs) (r:Rps K H xs ds):Rp K H (.ref a) (.tup ds)
 | lst {a:Addr} {xs:List V} {ds:List D} (h:H a=some (.lst xs)) (r:Rps K H xs ds):Rp K H (.ref a) (.lst ds)
 | fz {a:Addr} {xs:List V} {ds:List D} (h:SqL K H a xs) (r:Rps K H xs ds):Rp K H (.ref a) (.fz ds)
 | dct {a:Addr} {kvs:List (Key×V)} {ds:List (Key×D)} (h:H a=some (.dK kvs)) (r:RpK K H kvs ds):Rp K H (.ref a) (.dct ds)
 | obj {a C dx:Addr} {fs:List (Str×V)} {ds:List (Str×D)} (h:H a=some (.ins C dx fs)) (r:RpF K H fs ds):Rp K H (.ref a) (.obj C ds)
 | dfz {a:Addr} {kvs:List (Key×V)} {ds:List (Key×D)} (h:Rd H a (.dK kvs)) (r:RpK K H kvs ds):Rp K H (.ref a) (.dfz ds)
inductive Rps (K:W.Frag) (H:Hp):List V->List D->Prop where
 | nil:Rps K H [] []
 | cons {x:V} {d:D} {xs:List V} {ds:List D} (h:Rp K H x d) (r:Rps K H xs ds):Rps K H (x::xs) (d::ds)
inductive RpK (K:W.Frag) (H:Hp):List (Key×V)->List (Key×D)->Prop where
 | nil:RpK K H [] []
 | cons {k:Key} {x:V} {d:D} {xs:List (Key×V)} {ds:List (Key×D)} (h:Rp K H x d) (r:RpK K H xs ds):RpK K H ((k,x)::xs) ((k,d)::ds)
inductive RpF (K:W.Frag) (H:Hp):List (Str×V)->List (Str×D)->Prop where
 | nil:RpF K H [] []
 | cons {k:Str} {x:V} {d:D} {xs:List (Str×V)} {ds:List (Str×D)} (h:Rp K H x d) (r:RpF K H xs ds):RpF K H ((k,x)::xs) ((k,d)::ds)
end
section
variable {K:W.Frag} {H H':Hp}
mutual
theorem Rp.same (g:bp H H'):∀ {v:V} {d:D},Rp K H v d->Rp K H' v d
 | _,_,.non=>.non
 | _,_,.bl b=>.bl b
 | _,_,.int i=>.int i
 | _,_,.str x=>.str x
 | _,_,.ty n=>.ty n
 | _,_,.cls n=>.cls n
 | _,_,.tup h r=>.tup (g.tup h) (Rps.same g r)
 | _,_,.lst h r=>.lst (g _ _ h) (Rps.same g r)
 | _,_,.fz h r=>.fz (g.seq h) (Rps.same g r)
 | _,_,.dct h r=>.dct (g _ _ h) (RpK.same g r)
 | _,_,.obj h r=>.obj (g _ _ h) (RpF.same g r)
 | _,_,.dfz h r=>.dfz (h.elim (λ z=>.inl (g _ _ z)) λ ⟨o,z⟩=>.inr ⟨o,g _ _ z⟩) (RpK.same g r)
theorem Rps.same (g:bp H H'):∀ {v:List V} {d:List D},Rps K H v d->Rps K H' v d
 | _,_,.nil=>.nil
 | _,_,.cons h r=>.cons (Rp.same g h) (Rps.same g r)
theorem RpK.same (g:bp H H'):∀ {v:List (Key×V)} {d:List (Key×D)},RpK K H v d->RpK K H' v d
 | _,_,.nil=>.nil
 | _,_,.cons h r=>.cons (Rp.same g h) (RpK.same g r)
theorem RpF.same (g:bp H H'):∀ {v:List (Str×V)} {d:List (Str×D)},RpF K H v d->RpF K H' v d
 | _,_,.nil=>.nil
 | _,_,.cons h r=>.cons (Rp.same g h) (RpF.same g r)
end
theorem Rps.length:∀ {xs:List V} {ds:List D},Rps K H xs ds->xs.length=ds.length
 | _,_,.nil=>rfl
 | _,_,.cons _ r=>Yl (·+1) r.length
theorem Rps.get:∀ {xs:List V} {ds:List D} {i:Nat} {d:D},Rps K H xs ds->ds[i]?=some d->∃ x,xs[i]?=some x/\Rp K H x d
 | _,_,_,_,.nil,e=>by simp at e
 | _,_,0,_,.cons h _,e=>by simp at e; subst e; exact ⟨_,by simp,h⟩
 | _,_,i+1,d,.cons _ r,e=>by
  obtain ⟨x,h1,h2⟩:=Rps.get (i:=i) (d:=d) r (by simpa using e);exact ⟨x,by simpa using h1,h2⟩
theorem Rps.append:∀ {xs ys:List V} {ds es:List D},Rps K H xs ds->Rps K H ys es->Rps K H (xs++ys) (ds++es)
 | _,_,_,_,.nil,h=>h
 | _,_,_,_,.cons h r,h'=>.cons h (Rps.append r h')
theorem Rps.take:∀ {xs:List V} {ds:List D} (n:Nat),Rps K H xs ds->Rps K H (xs.take n) (ds.take n)
 | _,_,0,_=>.nil
 | _,_,_+1,.nil=>.nil
 | _,_,n+1,.cons h r=>.cons h (Rps.take n r)
theorem Rps.drop:∀ {xs:List V} {ds:List D} (n:Nat),Rps K H xs ds->Rps K H (xs.drop n) (ds.drop n)
 | _,_,0,h=>h
 | _,_,_+1,.nil=>.nil
 | _,_,n+1,.cons _ r=>Rps.drop n r
theorem Rps.ints:∀ (ns:List Int),Rps K H (ns.map V.int) (ns.map D.int)
 | []=>.nil
 | n::ns=>.cons (.int n) (Rps.ints ns)
theorem Rps.strs:∀ (ns:List Str),Rps K H (ns.map V.str) (ns.map D.str)
 | []=>.nil
 | n::ns=>.cons (.str n) (Rps.strs ns)
end
structure Ext (Hs H Hs' H':Hp):Prop where
 ss:bp Hs Hs'
 sh:bp Hs' H'
 hh:bp H H'
 fr:∀ b,Hs b=none->H b≠none->Hs' b=none
theorem Ext.refl (h:bp Hs H):Ext Hs H Hs H:=⟨.refl _,h,.refl _,λ _ h _=>h⟩
theorem gz {α:Type} {o:Option α} {x:α} (h:o=some x):o≠none:=by rw [h]; simp
theorem bp.live (g:bp H H') (h:H b≠none):H' b≠none:=by
 cases q:H b with
 | none=>exact absurd q h
 | some o=>rw [g _ _ q]; simp
theorem Ext.trans (a:Ext Hs H Hs1 H1) (b:Ext Hs1 H1 Hs2 H2):Ext Hs H Hs2 H2 :=
 ⟨a.ss.trans b.ss,b.sh,a.hh.trans b.hh,λ c h1 h2=>b.fr c (a.fr c h1 h2) (a.hh.live h2)⟩
theorem Ext.new (h:bp Hs H) (hp:H p=none) (o:HO):Ext Hs H (upd Hs p o) (upd H p o):=by
 refine ⟨az (h.free hp) o,λ b u q=>?_,az hp o,λ b h1 h2=>?_⟩
 ·by_cases e:b=p
  · subst e; rw [av] at q ⊢; exact q
  · rw [ar e] at q ⊢; exact h _ _ q
 ·by_cases e:b=p
  · subst e; exact absurd hp h2
  · rw [ar e]; exact h1
inductive Sl where
 | no | shr (d:D) | own (d:D)
inductive Ow (K:W.Frag) (Hs H:Hp) (a:Addr):D->Prop where
 | lst {xs:List V} {ds:List D} (h:H a=some (.lst xs)) (n:Hs a=none) (r:Rps K Hs xs ds):Ow K Hs H a (.lst ds)
 | dct {kvs:List (Key×V)} {ds:List (Key×D)} (h:H a=some (.dK kvs)) (n:Hs a=none) (r:RpK K Hs kvs ds):Ow K Hs H a (.dct ds)
theorem Ow.hid {K:W.Frag} {Hs H:Hp} {a:Addr} {d:D} (h:Ow K Hs H a d):Hs a=none:=by cases h <;> assumption
theorem Ow.live {K:W.Frag} {Hs H:Hp} {a:Addr} {d:D} (h:Ow K Hs H a d):H a≠none:=by
 cases h with
 | lst h _ _=>exact gz h
 | dct h _ _=>exact gz h
theorem Ow.ext {K:W.Frag} {Hs H Hs' H':Hp} {a:Addr} {d:D} (g:Ext Hs H Hs' H') (h:Ow K Hs H a d):Ow K Hs' H' a d:=by
 have n':=g.fr a h.hid h.live
 cases h with
 | lst h n r=>exact .lst (g.hh _ _ h) n' (r.same g.ss)
 | dct h n r=>exact .dct (g.hh _ _ h) n' (r.same g.ss)
theorem Ow.off {K:W.Frag} {Hs H H':Hp} {a:Addr} {d:D} (h:Ow K Hs H a d) (e:H' a=H a):Ow K Hs H' a d:=by
 cases h with
 | lst h n r=>exact .lst (e.trans h) n r
 | dct h n r=>exact .dct (e.trans h) n r
inductive StR (K:W.Frag) (H0 Hs H:Hp):List (Option V)->List Sl->List Addr->Prop where
 | nil:StR K H0 Hs H [] [] []
 | no {o:Option V} {σ:List (Option V)} {τ:List Sl} {fp:List Addr} (r:StR K H0 Hs H σ τ fp):StR K H0 Hs H (o::σ) (.no::τ) fp
 | shr {v:V} {d:D} {σ:List (Option V)} {τ:List Sl} {fp:List Addr} (h:Rp K Hs v d) (r:StR K H0 Hs H σ τ fp):StR K H0 Hs H (some v::σ) (.shr d::τ) fp
 | own {a:Addr} {d:D} {σ:List (Option V)} {τ:List Sl} {fp:List Addr} (h:Ow K Hs H a d) (z:H0 a=none) (m:a ∉ fp) (r:StR K H0 Hs H σ τ fp):StR K H0 Hs H (some (.ref a)::σ) (.own d::τ) (a::fp)
section
variable {K:W.Frag} {H0 Hs H Hs' H':Hp} {σ:List (Option V)} {τ:List Sl} {fp:List Addr}
theorem StR.ext (g:Ext Hs H Hs' H') (h:StR K H0 Hs H σ τ fp):StR K H0 Hs' H' σ τ fp:=by
 induction h with
 | nil=>exact .nil
 | no _ ih=>exact .no ih
 | shr h _ ih=>exact .shr (h.same g.ss) ih
 | own h z m _ ih=>exact .own (h.ext g) z m ih
theorem StR.off (h:StR K H0 Hs H σ τ fp) (m:a ∉ fp):StR K H0 Hs (upd H a o) σ τ fp:=by
 induction h with
 | nil=>exact .nil
 | no _ ih=>exact .no (ih m)
 | shr h _ ih=>exact .shr h (ih m)
 | @own b d σ τ fp h z n _ ih =>
  have ne:b≠a:=λ e=>m (by rw [e]; exact Ze ..)
  exact .own (h.off (ar ne)) z n (ih (λ q=>m (Zd _ q)))
theorem StR.Dw (h:StR K H0 Hs H σ τ fp):∀ a ∈ fp,Hs a=none/\H0 a=none/\H a≠none:=by
 induction h with
 | nil=>intro a h; cases h
 | no _ ih=>exact ih
 | shr _ _ ih=>exact ih
 | own h z m _ ih =>
  intro b hb;rcases Zl.mp hb with e | e
  · subst e; exact ⟨h.hid,z,h.live⟩
  · exact ih b e
theorem StR.get {i:Nat} {d:D} (h:StR K H0 Hs H σ τ fp):τ[i]?=some (.shr d)->∃ v,σ[i]?=some (some v)/\Rp K Hs v d:=by
 induction h generalizing i with
 | nil=>intro e; simp at e
 | no _ ih =>
  intro e
  cases i with
  | zero=>simp at e
  | succ i=>exact ih (by simpa using e)
 | shr h _ ih =>
  intro e
  cases i with
  | zero=>simp at e; subst e; exact ⟨_,rfl,h⟩
  | succ i=>exact ih (by simpa using e)
 | own _ _ _ _ ih =>
  intro e
  cases i with
  | zero=>simp at e
  | succ i=>exact ih (by simpa using e)
theorem StR.Ef {i:Nat} {d:D} (h:StR K H0 Hs H σ τ fp):τ[i]?=some (.own d)->∃ a,σ[i]?=some (some (.ref a))/\Ow K Hs H a d/\H0 a=none/\a ∈ fp:=by
 induction h generalizing i with
 | nil=>intro e; simp at e
 | no _ ih =>
  intro e
  cases i with
  | zero=>simp at e
  | succ i=>exact ih (by simpa using e)
 | shr h _ ih =>
  intro e
  cases i with
  | zero=>simp at e
  | succ i=>exact ih (by simpa using e)
 | own h z m _ ih =>
  intro e
  cases i with
  | zero=>simp at e; subst e; exact ⟨_,rfl,h,z,Ze ..⟩
  | succ i =>
   obtain ⟨a,h1,h2,h3,h4⟩:=ih (by simpa using e);exact ⟨a,h1,h2,h3,Zd _ h4⟩
theorem StR.ur (hv:Rp K Hs v d) (h:StR K H0 Hs H σ τ fp):∃ fp',(∀ a ∈ fp',a ∈ fp)/\StR K H0 Hs H (σ.set i (some v)) (τ.set i (.shr d)) fp':=by
 induction h generalizing i with
 | nil=>exact ⟨[],λ _ h=>h,.nil⟩
 | no r ih =>
  cases i with
  | zero=>exact ⟨_,λ _ h=>h,.shr hv r⟩
  | succ i=>obtain ⟨fp',h1,h2⟩:=ih; exact ⟨fp',h1,.no h2⟩
 | shr h r ih =>
  cases i with
  | zero=>exact ⟨_,λ _ h=>h,.shr hv r⟩
  | succ i=>obtain ⟨fp',h1,h2⟩:=ih (i:=i); exact ⟨fp',h1,.shr h h2⟩
 | own h z m r ih =>
  cases i with
  | zero=>exact ⟨_,λ _ h=>Zd _ h,.shr hv r⟩
  | succ i =>
   obtain ⟨fp',h1,h2⟩:=ih (i:=i);exact ⟨_::fp',λ b hb=>(Zl.mp hb).elim (λ e=>by subst e; exact Ze ..) λ e=>Zd _ (h1 b e),.own h z (λ q=>m (h1 _ q)) h2⟩
theorem StR.N1 (hv:Ow K Hs H a d) (z0:H0 a=none) (h:StR K H0 Hs H σ τ fp) (m0:a ∉ fp) (hi:i < τ.length) :
  ∃ fp',(∀ b ∈ fp',b=a\/b ∈ fp)/\StR K H0 Hs H (σ.set i (some (.ref a))) (τ.set i (.own d)) fp':=by
 induction h generalizing i with
 | nil=>exact absurd hi (by simp)
 | @no o σ τ fp r ih =>
  cases i with
  | zero=>exact ⟨a::fp,λ b h=>Zl.mp h,.own hv z0 m0 r⟩
  | succ i=>obtain ⟨fp',h1,h2⟩:=ih m0 (by simpa using hi); exact ⟨fp',h1,.no h2⟩
 | @shr v d σ τ fp h r ih =>
  cases i with
  | zero=>exact ⟨a::fp,λ b h=>Zl.mp h,.own hv z0 m0 r⟩
  | succ i=>obtain ⟨fp',h1,h2⟩:=ih m0 (i:=i) (by simpa using hi); exact ⟨fp',h1,.shr h h2⟩
 | @own b d' σ τ fp h z m r ih =>
  have m1:a ∉ fp:=λ q=>m0 (Zd _ q)
  cases i with
  | zero=>exact ⟨a::fp,λ c hc=>(Zl.mp hc).imp id λ e=>Zd _ e,.own hv z0 m1 r⟩
  | succ i =>
   obtain ⟨fp',h1,h2⟩:=ih m1 (i:=i) (by simpa using hi);refine ⟨b::fp',λ c hc=>?_,.own h z (λ q=>?_) h2⟩
   ·rcases Zl.mp hc with e | e
    · exact .inr (by subst e; exact Ze ..)
    · exact (h1 c e).imp id λ e=>Zd _ e
   ·rcases h1 _ q with e | e
    · exact m0 (by rw [<- e]; exact Ze ..)
    · exact m e
theorem StR.mut {i:Nat} {a:Addr} {d d':D} {o:HO} (h:StR K H0 Hs H σ τ fp):τ[i]?=some (.own d)->σ[i]?=some (some (.ref a))->Ow K Hs (upd H a o) a d'->StR K H0 Hs (upd H a o) σ (τ.set i (.own d')) fp:=by
 induction h generalizing i with
 | nil=>intro e; simp at e
 | no _ ih =>
  intro e e2 hv
  cases i with
  | zero=>simp at e
  | succ i=>exact .no (ih (by simpa using e) (by simpa using e2) hv)
 | shr h _ ih =>
  intro e e2 hv
  cases i with
  | zero=>simp at e
  | succ i=>exact .shr h (ih (by simpa using e) (by simpa using e2) hv)
 | @own b d1 σ τ fp h z m r ih =>
  intro e e2 hv
  cases i with
  | zero =>
   have q:b=a:=by simpa using e2
   subst q;exact .own hv z m (r.off m)
  | succ i =>
   have e':τ[i]?=some (.own d):=by simpa using e
   have e2':σ[i]?=some (some (.ref a)):=by simpa using e2
   obtain ⟨c,h1,h2,h3,h4⟩:=r.Ef e';have q:c=a:=by rw [e2'] at h1; simpa using h1.symm
   subst q;have ne:b≠c:=λ e=>m (by rw [e]; exact h4)
   exact .own (h.off (ar ne)) z m (ih e' e2' hv)
end
theorem Ow.rp {K:W.Frag} {Hs H:Hp} {a:Addr} {d:D} (h:Ow K Hs H a d):∃ o,H a=some o/\Rp K (upd Hs a o) (.ref a) d:=by
 cases h with
 | lst h n r=>exact ⟨_,h,.lst av (r.same (az n _))⟩
 | dct h n r=>exact ⟨_,h,.dct av (r.same (az n _))⟩
section
variable {K:W.Frag} {H0 Hs H Hs' H':Hp} {σ:List (Option V)} {τ:List Sl} {fp:List Addr}
theorem StR.Pj (h:StR K H0 Hs H σ τ fp) (n:Hs a=none) (m:a ∉ fp):StR K H0 (upd Hs a o) H σ τ fp:=by
 induction h with
 | nil=>exact .nil
 | no _ ih=>exact .no (ih m)
 | shr h _ ih=>exact .shr (h.same (az n o)) (ih m)
 | @own b d σ τ fp h z k _ ih =>
  have ne:b≠a:=λ e=>m (by rw [e]; exact Ze ..)
  refine .own ?_ z k (ih (λ q=>m (Zd _ q)))
  cases h with
  | lst h n' r=>exact .lst h (by rw [ar ne]; exact n') (r.same (az n o))
  | dct h n' r=>exact .dct h (by rw [ar ne]; exact n') (r.same (az n o))
theorem StR.frz {i:Nat} {d:D} (h:StR K H0 Hs H σ τ fp):τ[i]?=some (.own d)->∃ a o fp',H a=some o/\Hs a=none/\H0 a=none/\StR K H0 (upd Hs a o) H σ (τ.set i (.shr d)) fp'/\a ∉ fp'/\(∀ b ∈ fp',b ∈ fp)/\σ[i]?=some (some (.ref a))/\Ow K Hs H a d:=by
 induction h generalizing i with
 | nil=>intro e; simp at e
 | no _ ih =>
  intro e
  cases i with
  | zero=>simp at e
  | succ i =>
   obtain ⟨a,o,fp',h1,h2,h3,h4,h5,h6,h7,h8⟩:=ih (by simpa using e);exact ⟨a,o,fp',h1,h2,h3,.no h4,h5,h6,h7,h8⟩
 | shr h _ ih =>
  intro e
  cases i with
  | zero=>simp at e
  | succ i =>
   obtain ⟨a,o,fp',h1,h2,h3,h4,h5,h6,h7,h8⟩:=ih (i:=i) (by simpa using e);exact ⟨a,o,fp',h1,h2,h3,.shr (h.same (az h2 o)) h4,h5,h6,h7,h8⟩
 | @own b d1 σ τ fp h z m r ih =>
  intro e
  cases i with
  | zero =>
   simp at e;subst e;obtain ⟨o,h1,h2⟩:=h.rp;exact ⟨b,o,fp,h1,h.hid,z,.shr h2 (r.Pj h.hid m),m,λ _ q=>Zd _ q,rfl,h⟩
  | succ i =>
   obtain ⟨a,o,fp',h1,h2,h3,h4,h5,h6,h7,h8⟩:=ih (i:=i) (by simpa using e);obtain ⟨c,k1,k2,k3,k4⟩:=r.Ef (i:=i) (by simpa using e);have q:c=a:=by rw [h7] at k1; simpa using k1.symm
   subst q;have ne:b≠c:=λ e=>m (by rw [e]; exact k4)
   refine ⟨c,o,b::fp',h1,h2,h3,.own ?_ z (λ q=>m (h6 _ q)) h4,?_,?_,h7,h8⟩
   ·cases h with
    | lst h n' r=>exact .lst h (by rw [ar ne]; exact n') (r.same (az h2 o))
    | dct h n' r=>exact .dct h (by rw [ar ne]; exact n') (r.same (az h2 o))
   ·intro q
    rcases Zl.mp q with e | e
    · exact ne e.symm
    · exact h5 e
   ·intro c' hc
    rcases Zl.mp hc with e | e
    · subst e; exact Ze ..
    · exact Zd _ (h6 _ e)
end
abbrev DE:=List Sl->Option D
abbrev DT:=List Sl->Option Bool
abbrev DA:=List Sl->Option (List D)
inductive Out where
 | next (τ:List Sl) | ret (s:Sl) | brk (τ:List Sl) | cnt (τ:List Sl)
abbrev DS:=List Sl->Option Out
def SlV (K:W.Frag) (H0 Hs H:Hp) (v:V):Sl->Prop
 | .no=>False
 | .shr d=>Rp K Hs v d
 | .own d=>∃ a,v=.ref a/\Ow K Hs H a d/\H0 a=none
structure Rep (K:W.Frag) (Hs0 H0 Hs H:Hp) (σ:St) (τ:List Sl):Prop where
 ext:Ext Hs0 H0 Hs H
 st:∃ fp,StR K H0 Hs H σ τ fp
def rdE (K:W.Frag) (f:DE):TE:=λ σ H Q=>∃ H0 Hs τ fp d,StR K H0 Hs H σ τ fp/\bp Hs H/\f τ=some d/\∀ v Hs' H',Ext Hs H Hs' H'->Rp K Hs' v d->Q v H'
def rdT (K:W.Frag) (f:DT):TT:=λ σ H Q=>∃ H0 Hs τ fp d,StR K H0 Hs H σ τ fp/\bp Hs H/\f τ=some d/\∀ Hs' H',Ext Hs H Hs' H'->Q d H'
def rdA (K:W.Frag) (f:DA):TA:=λ σ H Q=>∃ H0 Hs τ fp d,StR K H0 Hs H σ τ fp/\bp Hs H/\f τ=some d/\∀ v Hs' H',Ext Hs H Hs' H'->Rps K Hs' v d->Q v H'
def rdO (K:W.Frag) (f:DE):TE:=λ σ H Q=>∃ H0 Hs τ fp d,StR K H0 Hs H σ τ fp/\bp Hs H/\f τ=some d/\∀ a Hs' H',Ext Hs H Hs' H'->Ow K Hs' H' a d->H a=none->Q (.ref a) H'
def PEd (X:Cx) (e:Expr) (f:DE):Prop:=PE X e (rdE X.K f)
def PEo (X:Cx) (e:Expr) (f:DE):Prop:=PE X e (rdO X.K f)
def PTd (X:Cx) (e:Expr) (f:DT):Prop:=PT X e (rdT X.K f)
def PAd (X:Cx) (es:List Expr) (f:DA):Prop:=PA X es (rdA X.K f)
def Fin (K:W.Frag) (Hs0 H0:Hp) (E:Ends):Out->Prop
 | .next τ=>∀ σ Hs H,Rep K Hs0 H0 Hs H σ τ->E.nx σ H
 | .brk τ=>∀ σ Hs H,Rep K Hs0 H0 Hs H σ τ->E.bk σ H
 | .cnt τ=>∀ σ Hs H,Rep K Hs0 H0 Hs H σ τ->E.ct σ H
 | .ret s=>∀ v Hs H,Ext Hs0 H0 Hs H->SlV K H0 Hs H v s->E.rt v H
def rdS (K:W.Frag) (f:DS):TS:=λ E σ H=>∃ Hs0 H0 Hs τ o,Rep K Hs0 H0 Hs H σ τ/\f τ=some o/\Fin K Hs0 H0 E o
def PSd (X:Cx) (s:Stmt) (f:DS):Prop:=PS X s (rdS X.K f)
def lg (X:Cx) (s:List Stmt) (f:DS):Prop:=PSs X s (rdS X.K f)
theorem PE.imp (h:PE X e t) (hi:∀ σ H Q,t' σ H Q->t σ H Q):PE X e t':=λ pins s σ H Q I q=>h pins s σ H Q I (hi _ _ _ q)
theorem PT.imp (h:PT X e t) (hi:∀ σ H Q,t' σ H Q->t σ H Q):PT X e t':=λ pins s σ H Q I q=>h pins s σ H Q I (hi _ _ _ q)
theorem PA.imp (h:PA X e t) (hi:∀ σ H Q,t' σ H Q->t σ H Q):PA X e t':=λ pos pins s σ H Q I q=>h pos pins s σ H Q I (hi _ _ _ q)
theorem PS.imp (h:PS X e t) (hi:∀ E σ H,t' E σ H->t E σ H):PS X e t':=λ pins s σ H E I q=>h pins s σ H E I (hi _ _ _ q)
theorem PSs.imp (h:PSs X e t) (hi:∀ E σ H,t' E σ H->t E σ H):PSs X e t':=λ pins s σ H E I q=>h pins s σ H E I (hi _ _ _ q)
def aC (i:Nat):DE:=λ τ=>match τ[i]? with | some (.shr d)=>some d | _=>none
def dC (d:D):DE:=λ _=>some d
def dOp (o:D->D->Option D) (f g:DE):DE:=λ τ=>(f τ).bind λ x=>(g τ).bind λ y=>o x y
def dUn (o:D->Option D) (f:DE):DE:=λ τ=>(f τ).bind o
def cz:DA:=λ _=>some []
def au (f:DE) (g:DA):DA:=λ τ=>(f τ).bind λ x=>(g τ).bind λ xs=>some (x::xs)
def jm (o:List D->Option D) (f:DA):DE:=λ τ=>(f τ).bind o
def IT (f:DA):DE:=λ τ=>(f τ).bind λ ds=>if ds.length<=100000 then some (.tup ds) else none
def Ei (f:DA):DE:=λ τ=>(f τ).bind λ ds=>if ds.length<=100000 then some (.lst ds) else none
def dIf (c:DT) (f g:DE):DE:=λ τ=>(c τ).bind λ b=>if b=true then f τ else g τ
def my (f g:DE):DE:=λ τ=>(f τ).bind λ x=>match x with | .bl true=>g τ | .bl false=>some (.bl false) | _=>none
def IV (f g:DE):DE:=λ τ=>(f τ).bind λ x=>match x with | .bl true=>some (.bl true) | .bl false=>g τ | _=>none
def zF (f:DE):DE:=λ τ=>(f τ).bind λ x=>match x with | .bl b=>some (.bl (!b)) | _=>none
def dT (f:DE):DT:=λ τ=>(f τ).bind λ x=>match x with | .bl b=>some b | _=>none
def dOr (f g:DT):DT:=λ τ=>(f τ).bind λ b=>if b=true then some true else g τ
def xI (f:DT):DT:=λ τ=>(f τ).map (!·)
theorem le5 (h:n<=100000):n < sizeLine:=Nat.lt_of_le_of_lt h (by rw [Y3]; decide)
theorem tW (h:n<=100000):n<=sizeLine:=Y0 (le5 h)
theorem nn {α:Type} {d:α} {p:Prop} (h:(none:Option α)=some d):p:=nomatch h
theorem bind_some {α β:Type} {o:Option α} {f:α->Option β} {b:β} (h:o.bind f=some b):∃ a,o=some a/\f a=some b:=Option.bind_eq_some_iff.mp h
section
variable {X:Cx} {a b c e:Expr} {es:List Expr} {pos:Pos} {f g h:DE}
theorem Fj (i:Nat) (hN:X.N[i]?=some x:=by rfl) (hv:Vis X.env.scope x:=by first | exact Or.inl rfl | exact Or.inr (Or.inl rfl) | exact Or.inr (Or.inr rfl)) (hd:(x == ("__debug__":Str))=false:=by decide)
   (hcd:(x == ("__classdict__":Str))=false:=by decide):PEd X (.Name x pos) (aC i) :=
 (iS hN hv hd hcd).imp λ σ H Q ⟨H0,Hs,τ,fp,d,st,sm,e,k⟩=>by
   have e':τ[i]?=some (.shr d):=by
    unfold aC at e;split at e
    · rename_i d' q; rw [q]; simpa using e
    · cases e
   obtain ⟨v,h1,h2⟩:=st.get e';exact ⟨v,h1,k v Hs H (.refl sm) h2⟩
theorem f9 (h:PE X e (tC v)) (r:∀ H,Rp X.K H v d):PEd X e (dC d) :=
 h.imp λ σ H Q ⟨H0,Hs,τ,fp,d',st,sm,e,k⟩=>by
  have e':=Zj e;subst e';exact k v Hs H (.refl sm) (r Hs)
theorem Ft {j}:PEd X (.Constant (.int i) j pos) (dC (.int i)):=f9 lA λ _=>.int i
theorem JO {j}:PEd X (.Constant (.bool i) j pos) (dC (.bl i)):=f9 JH λ _=>.bl i
theorem Fq {j}:PEd X (.Constant .none j pos) (dC .non):=f9 vi λ _=>.non
theorem Fm {j}:PEd X (.Constant (.str x) j pos) (dC (.str x)):=f9 Fb λ _=>.str x
theorem Cb (hg:Gl X x) (hm:X.mg x=some u) (r:RelV v u) (rd:∀ H,Rp X.K H v d) (hd:(x == ("__debug__":Str))=false:=by decide):PEd X (.Name x pos) (dC d):=f9 (B2 hg hm r hd) rd
theorem JJ (hg:Gl X x) (hm:X.mg x=none) (hv:bootBuiltins x=some (.type n)) (hn:x≠"__name__":=by decide) (hd:(x == ("__debug__":Str))=false:=by decide):PEd X (.Name x pos) (dC (.ty n)) :=
 f9 (v:=.ty n) (B6 hg hm hv (rfl) hn hd) λ _=>.ty n
def rdR (K:W.Frag) (o:D->D->Option D):R2:=λ x y H Q=>∃ Hs dx dy d,bp Hs H/\Rp K Hs x dx/\Rp K Hs y dy/\o dx dy=some d/\∀ v Hs' H',Ext Hs H Hs' H'->Rp K Hs' v d->Q v H'
def rdU (K:W.Frag) (o:D->Option D):V->Hp->VK->Prop:=λ x H Q=>∃ Hs dx d,bp Hs H/\Rp K Hs x dx/\o dx=some d/\∀ v Hs' H',Ext Hs H Hs' H'->Rp K Hs' v d->Q v H'
def rdL (K:W.Frag) (o:List D->Option D):List V->Hp->VK->Prop:=λ xs H Q=>∃ Hs ds d,bp Hs H/\Rps K Hs xs ds/\o ds=some d/\∀ v Hs' H',Ext Hs H Hs' H'->Rp K Hs' v d->Q v H'
theorem lj (K:W.Frag) (hh:rdE K (dOp o f g) σ H Q):tOp (rdR K o) (rdE K f) (rdE K g) σ H Q:=by
 obtain ⟨H0,Hs,τ,fp,d,st,sm,e,k⟩:=hh;obtain ⟨x,e1,e⟩:=bind_some e;obtain ⟨y,e2,e⟩:=bind_some e;refine ⟨H0,Hs,τ,fp,x,st,sm,e1,λ v Hs1 H1 g1 r1=>?_⟩;refine ⟨H0,Hs1,τ,fp,y,st.ext g1,g1.sh,e2,λ u Hs2 H2 g2 r2=>?_⟩;exact ⟨Hs2,x,y,d,g2.sh,r1.same g2.ss,r2,e,λ w Hs3 H3 g3 r3=>k w Hs3 H3 ((g1.trans g2).trans g3) r3⟩
theorem JL (ho:OpR X (binaryOp op) (rdR X.K o)) (ha:PEd X a f) (hb:PEd X b g):PEd X (.BinOp a op b pos) (dOp o f g) :=
 (B1 ho ha hb).imp λ σ H Q h=>lj X.K h
theorem JI (ho:UnR X (unaryOp op) (rdU X.K o)) (ha:PEd X a f):PEd X (.UnaryOp op a pos) (dUn o f) :=
 (JG ho ha).imp λ σ H Q ⟨H0,Hs,τ,fp,d,st,sm,e,k⟩=>by
   obtain ⟨x,e1,e⟩:=bind_some e;exact ⟨H0,Hs,τ,fp,x,st,sm,e1,λ v Hs1 H1 g1 r1=>⟨Hs1,x,d,g1.sh,r1,e,λ w Hs3 H3 g3 r3=>k w Hs3 H3 (g1.trans g3) r3⟩⟩
theorem Fw (ho:OpR X (compareOp op) (rdR X.K o)) (ha:PEd X a f) (hb:PEd X b g) (hm:behindInMarks op b=false):PEd X (.Compare a [op] [b] pos) (dOp o f g) :=
 (B5 ho ha hb hm).imp λ σ H Q h=>lj X.K h
theorem Br (ho:OpR X (compareOp op) (rdR X.K o)) (ha:PEd X a f) (hb:PEd X b g) (hm:behindInMarks op b=false):PTd X (.Compare a [op] [b] pos) (dT (dOp o f g)) :=
 (Bu ho ha hb hm).imp λ σ H Q ⟨H0,Hs,τ,fp,d,st,sm,e,k⟩=>by
   obtain ⟨x,e1,e⟩:=bind_some e;have hx:x=.bl d:=by cases x <;> simp at e <;> subst e <;> rfl
   subst hx;refine lj X.K ⟨H0,Hs,τ,fp,_,st,sm,e1,λ v Hs' H' g r=>?_⟩;cases r;exact ⟨d,rfl,k Hs' H' g⟩
theorem yG (ho:OpR X (compareOp op) (rdR X.K o)) (ho':OpR X (compareOp op') (rdR X.K o')) (ha:PEd X a f) (hb:PEd X b g) (hc:PEd X c h)
   (hm:lastMarks [op,op'] [b,c]=false:=by with_unfolding_all rfl):PEd X (.Compare a [op,op'] [b,c] pos) (my (dOp o f g) (dOp o' g h)) :=
 (yF ho ho' ha hb hc hm).imp λ σ H Q ⟨H0,Hs,τ,fp,d,st,sm,e,k⟩=>by
   obtain ⟨r,e0,e⟩:=bind_some e;obtain ⟨x,e1,e0⟩:=bind_some e0;obtain ⟨y,e2,e0⟩:=bind_some e0;refine ⟨H0,Hs,τ,fp,x,st,sm,e1,λ v Hs1 H1 g1 r1=>?_⟩;refine ⟨H0,Hs1,τ,fp,y,st.ext g1,g1.sh,e2,λ u Hs2 H2 g2 r2=>?_⟩;refine ⟨Hs2,x,y,r,g2.sh,r1.same g2.ss,r2,e0,λ w Hs3 H3 g3 r3=>?_⟩
   cases r3 with
   | bl kb =>
    refine ⟨kb,rfl,?_⟩
    cases kb with
    | false =>
     rw [if_neg Zf];have e':D.bl false=d:=by simpa using e
     subst e';exact k _ Hs3 H3 ((g1.trans g2).trans g3) (.bl false)
    | true =>
     rw [if_pos rfl];obtain ⟨y',q1,q2⟩:=bind_some (e);have ey:y'=y:=by rw [e2] at q1; exact (Zj q1).symm
     subst ey;obtain ⟨z,q3,q4⟩:=bind_some q2;refine ⟨H0,Hs3,τ,fp,z,st.ext ((g1.trans g2).trans g3),g3.sh,q3,λ u' Hs4 H4 g4 r4=>?_⟩;exact ⟨Hs4,y',z,d,g4.sh,(r2.same g3.ss).same g4.ss,r4,q4,λ w' Hs5 H5 g5 r5=>k w' Hs5 H5 ((((g1.trans g2).trans g3).trans g4).trans g5) r5⟩
   | _=>exact nn e
theorem Cg:PAd X [] cz:=cf.imp λ σ H Q ⟨H0,Hs,τ,fp,d,st,sm,e,k⟩=>by
 have e':=Zj e;subst e';exact k [] Hs H (.refl sm) .nil
theorem yJ {g:DA} (ha:PEd X e f) (hr:PAd X es g) (hs:starEach (e::es) X.env=(false,eval e X.env)::starEach es X.env:=by rfl):PAd X (e::es) (au f g) :=
 (aG ha hr hs).imp λ σ H Q ⟨H0,Hs,τ,fp,d,st,sm,e,k⟩=>by
   obtain ⟨x,e1,e⟩:=bind_some e;obtain ⟨xs,e2,e⟩:=bind_some e;have e':=Zj e;subst e';refine ⟨H0,Hs,τ,fp,x,st,sm,e1,λ v Hs1 H1 g1 r1=>?_⟩;exact ⟨H0,Hs1,τ,fp,xs,st.ext g1,g1.sh,e2,λ u Hs2 H2 g2 r2=>k _ Hs2 H2 (g1.trans g2) (.cons (r1.same g2.ss) r2)⟩
theorem Fk {x1} {g:DA} (h:PAd X es g):PEd X (.Tuple es x1 pos) (IT g) :=
 (Ai h).imp λ σ H Q ⟨H0,Hs,τ,fp,d,st,sm,e,k⟩=>by
   obtain ⟨xs,e1,e⟩:=bind_some e
   by_cases hl:xs.length<=100000
   ·rw [if_pos hl] at e
    have e':=Zj e;subst e';refine ⟨H0,Hs,τ,fp,xs,st,sm,e1,λ v Hs1 H1 g1 r1=>?_⟩;refine ⟨by rw [r1.length]; exact tW hl,λ p hp=>?_⟩;have g2:=Ext.new g1.sh hp (.tup v);exact k _ _ _ (g1.trans g2) (.tup (SqT.of av) (r1.same g2.ss))
   · rw [if_neg hl] at e; cases e
theorem E7 {g:DA} (h:PAd X es g):PEo X (.List es pos) (Ei g) :=
 (Ak h).imp λ σ H Q ⟨H0,Hs,τ,fp,d,st,sm,e,k⟩=>by
   obtain ⟨xs,e1,e⟩:=bind_some e
   by_cases hl:xs.length<=100000
   ·rw [if_pos hl] at e
    have e':=Zj e;subst e';refine ⟨H0,Hs,τ,fp,xs,st,sm,e1,λ v Hs1 H1 g1 r1=>?_⟩;refine ⟨by rw [r1.length]; exact tW hl,λ p hp=>?_⟩;refine k p Hs1 _ ⟨g1.ss,g1.sh.trans (az hp _),g1.hh.trans (az hp _),g1.fr⟩ (.lst av (g1.sh.free hp) r1) (g1.hh.free hp)
   · rw [if_neg hl] at e; cases e
theorem PEo.shr (h:PEo X e f):PEd X e f :=
 PE.imp h λ σ H Q ⟨H0,Hs,τ,fp,d,st,sm,e,k⟩=>⟨H0,Hs,τ,fp,d,st,sm,e,λ a Hs' H' g o z=>by
  obtain ⟨ob,h1,h2⟩:=o.rp;refine k _ (upd Hs' a ob) H' ⟨g.ss.trans (az o.hid ob),λ b u q=>?_,g.hh,λ b h3 h4=>?_⟩ h2
  ·by_cases eb:b=a
   · subst eb; rw [av] at q; rw [h1]; exact q
   · rw [ar eb] at q; exact g.sh _ _ q
  ·by_cases eb:b=a
   · subst eb; exact absurd z h4
   · rw [ar eb]; exact g.fr b h3 h4⟩
theorem Bo (h:PEd X e f) (he:∀ whole,isTrue e X.env whole=(do let v <- whole; standAt e.pos; holding [v] (truthy v)):=by intro _; rfl):PTd X e (dT f) :=
 (qG h he).imp λ σ H Q ⟨H0,Hs,τ,fp,d,st,sm,e,k⟩=>by
   obtain ⟨x,e1,e⟩:=bind_some e;have hx:x=.bl d:=by cases x <;> simp at e <;> subst e <;> rfl
   subst hx;refine ⟨H0,Hs,τ,fp,_,st,sm,e1,λ v Hs' H' g r=>?_⟩;cases r;exact ⟨d,rfl,k Hs' H' g⟩
theorem Bp {f:DT} (h:PTd X e f):PTd X (.UnaryOp .Not e pos) (xI f) :=
 (Af h).imp λ σ H Q ⟨H0,Hs,τ,fp,d,st,sm,e,k⟩=>by
   obtain ⟨x,e1,e⟩:=Zm e;subst e;exact ⟨H0,Hs,τ,fp,x,st,sm,e1,λ Hs' H' g=>k Hs' H' g⟩
def PWd (X:Cx) (e:Expr) (f:DT):Prop:=PW X e (rdT X.K f)
theorem PW.imp (h:PW X e t) (hi:∀ σ H Q,t' σ H Q->t σ H Q):PW X e t':=λ wh pins s σ H Q I q=>h wh pins s σ H Q I (hi _ _ _ q)
theorem Bn {f:DT} (h:PTd X a f):PWd X (.BoolOp .Or [a] pos) f:=pw_or1 h
theorem EY {f g:DT} (ha:PTd X a f) (hb:PWd X (.BoolOp .Or (b::es) pos) g):PWd X (.BoolOp .Or (a::b::es) pos) (dOr f g) :=
 PW.imp (pw_or ha hb) λ σ H Q ⟨H0,Hs,τ,fp,d,st,sm,e,k⟩=>by
  obtain ⟨x,e1,e⟩:=bind_some e;refine ⟨H0,Hs,τ,fp,x,st,sm,e1,λ Hs' H' g1=>?_⟩
  cases x with
  | false=>exact ⟨H0,Hs',τ,fp,d,st.ext g1,g1.sh,e,λ Hs2 H2 g2=>k Hs2 H2 (g1.trans g2)⟩
  | true =>
   have e':true=d:=by simpa using e
   subst e';exact k Hs' H' g1
theorem PWd.ptd {f:DT} (h:PWd X e f):PTd X e f:=PW.pt h
theorem Fn {op} (h:PEd X a f):PEd X (.BoolOp op [a] pos) f:=vh h
theorem Fx (ha:PEd X a f) (hb:PEd X (.BoolOp .And (b::es) pos) g):PEd X (.BoolOp .And (a::b::es) pos) (my f g) :=
 (An ha hb).imp λ σ H Q ⟨H0,Hs,τ,fp,d,st,sm,e,k⟩=>by
   obtain ⟨x,e1,e⟩:=bind_some e;refine ⟨H0,Hs,τ,fp,x,st,sm,e1,λ v Hs' H' g1 r=>?_⟩
   cases r with
   | bl kb =>
    refine ⟨kb,rfl,?_⟩
    cases kb with
    | true=>exact ⟨H0,Hs',τ,fp,d,st.ext g1,g1.sh,e,λ v Hs2 H2 g2 r=>k v Hs2 H2 (g1.trans g2) r⟩
    | false =>
     have e':D.bl false=d:=by simpa using e
     subst e';exact k _ Hs' H' g1 (.bl false)
   | _=>exact nn e
theorem JK (ha:PEd X a f) (hb:PEd X (.BoolOp .Or (b::es) pos) g):PEd X (.BoolOp .Or (a::b::es) pos) (IV f g) :=
 (Fc ha hb).imp λ σ H Q ⟨H0,Hs,τ,fp,d,st,sm,e,k⟩=>by
   obtain ⟨x,e1,e⟩:=bind_some e;refine ⟨H0,Hs,τ,fp,x,st,sm,e1,λ v Hs' H' g1 r=>?_⟩
   cases r with
   | bl kb =>
    refine ⟨kb,rfl,?_⟩
    cases kb with
    | false=>exact ⟨H0,Hs',τ,fp,d,st.ext g1,g1.sh,e,λ v Hs2 H2 g2 r=>k v Hs2 H2 (g1.trans g2) r⟩
    | true =>
     have e':D.bl true=d:=by simpa using e
     subst e';exact k _ Hs' H' g1 (.bl true)
   | _=>exact nn e
theorem Fp (ha:PEd X a f):PEd X (.UnaryOp .Not a pos) (zF f) :=
 (Fd ha).imp λ σ H Q ⟨H0,Hs,τ,fp,d,st,sm,e,k⟩=>by
   obtain ⟨x,e1,e⟩:=bind_some e;refine ⟨H0,Hs,τ,fp,x,st,sm,e1,λ v Hs' H' g1 r=>?_⟩
   cases r with
   | bl kb =>
    have e':D.bl (!kb)=d:=by simpa using e
    subst e';exact ⟨kb,rfl,k _ Hs' H' g1 (.bl _)⟩
   | _=>exact nn e
theorem JN (hc:PTd X c t) (ha:PEd X a f) (hb:PEd X b g):PEd X (.IfExp c a b pos) (dIf t f g) :=
 (yD hc ha hb).imp λ σ H Q ⟨H0,Hs,τ,fp,d,st,sm,e,k⟩=>by
   obtain ⟨x,e1,e⟩:=bind_some e;refine ⟨H0,Hs,τ,fp,x,st,sm,e1,λ Hs' H' g1=>?_⟩
   cases x with
   | true=>exact ⟨H0,Hs',τ,fp,d,st.ext g1,g1.sh,by simpa using e,λ v Hs2 H2 g2 r=>k v Hs2 H2 (g1.trans g2) r⟩
   | false=>exact ⟨H0,Hs',τ,fp,d,st.ext g1,g1.sh,by simpa using e,λ v Hs2 H2 g2 r=>k v Hs2 H2 (g1.trans g2) r⟩
end
instance {i j:Int}:Decidable (A0 i j):=by unfold A0; infer_instance
instance {i:Int}:Decidable (Sz i):=by unfold Sz; infer_instance
instance {i j:Int}:Decidable (Eo i j):=by unfold Eo; infer_instance
def ie:D->D->Option D
 | .int i,.int j=>some (.int (i+j))
 | .str x,.str y=>if x.length+y.length<=100000 then some (.str (x++y)) else none
 | .lst x,.lst y=>if x.length+y.length<=100000 then some (.lst (x++y)) else none
 | _,_=>none
def Cq:D->D->Option D
 | .int i,.int j=>some (.int (i - j))
 | _,_=>none
def vF:D->D->Option D
 | .int i,.int j=>if A0 i j\/(Sz i/\Sz j) then some (.int (i * j)) else none
 | _,_=>none
def oDiv:D->D->Option D
 | .int i,.int j=>if j≠0/\Sz j then some (.int (i.fdiv j)) else none
 | _,_=>none
def oMod:D->D->Option D
 | .int i,.int j=>if j≠0 then some (.int (i.fmod j)) else none
 | _,_=>none
def Hu:D->D->Option D
 | .int i,.int j=>if Eo i j then some (.int (i ^ j.toNat)) else none
 | _,_=>none
def Hv:D->Option D
 | .int i=>some (.int (-i))
 | _=>none
def oLt:D->D->Option D
 | .int i,.int j=>some (.bl (decide (i < j)))
 | .str i,.str j=>some (.bl (decide (i.cps.toList < j.cps.toList)))
 | _,_=>none
def oLe:D->D->Option D
 | .int i,.int j=>some (.bl (decide (i<=j)))
 | _,_=>none
def oGt:D->D->Option D
 | .int i,.int j=>some (.bl (decide (j < i)))
 | _,_=>none
def Hw:D->D->Option D
 | .non,.non=>some (.bl true)
 | _,.non=>some (.bl false)
 | _,_=>none
def jR:D->D->Option D
 | .non,.non=>some (.bl false)
 | _,.non=>some (.bl true)
 | _,_=>none
def eqS:D->D->Option Bool
 | .non,.non=>some true | .non,.int _=>some false | .int _,.non=>some false | .non,.bl _=>some false | .bl _,.non=>some false | .non,.str _=>some false | .str _,.non=>some false
 | .int i,.int j=>some (decide (i=j)) | .bl i,.bl j=>some (decide (i=j)) | .str i,.str j=>some (decide (i=j))
 | .int _,.str _=>some false | .str _,.int _=>some false | .bl _,.str _=>some false | .str _,.bl _=>some false
 | _,_=>none
mutual
def ja:D->PySem.W.Dat
 | .non=>.none | .bl b=>.bool b | .int i=>.int i | .str x=>.str x | .ty _=>.bytes #[]
 | .tup ds=>.tuple (hZ ds) | .lst ds=>.list (hZ ds) | .fz _=>.bytes #[] | .dct _=>.bytes #[] | .obj _ _=>.bytes #[] | .cls _=>.bytes #[] | .dfz _=>.bytes #[]
def hZ:List D->List PySem.W.Dat
 | []=>[]
 | d::ds=>ja d::hZ ds
end
mutual
def okD:Nat->D->Bool
 | _,.non=>true
 | _,.int _=>true
 | _,.str x=>PyData.strOk x
 | n+1,.tup ds=>oJ n ds
 | n+1,.lst ds=>oJ n ds
 | _,_=>false
def oJ:Nat->List D->Bool
 | _,[]=>true
 | n,d::ds=>okD n d&&oJ n ds
end
open PySem.W in
mutual
theorem jJ:∀ (n:Nat) (d:D),okD n d=true->kqdOk n (ja d)=true
 | _,.non,_=>by simp [ja,kqdOk]
 | _,.int _,_=>by simp [ja,kqdOk]
 | n,.str x,h=>by simp [okD] at h; simp [ja,kqdOk,h]
 | n+1,.tup ds,h=>by
  simp [okD] at h;rw [ja,kqdOk];exact l8 n ds h
 | n+1,.lst ds,h=>by
  simp [okD] at h;rw [ja,kqdOk];exact l8 n ds h
 | _,.bl _,h=>by simp [okD] at h
 | _,.ty _,h=>by simp [okD] at h
 | _,.cls _,h=>by simp [okD] at h
 | _,.dct _,h=>by simp [okD] at h
 | _,.fz _,h=>by simp [okD] at h
 | _,.obj _ _,h=>by simp [okD] at h
 | _,.dfz _,h=>by simp [okD] at h
 | 0,.tup _,h=>by simp [okD] at h
 | 0,.lst _,h=>by simp [okD] at h
theorem l8:∀ (n:Nat) (ds:List D),oJ n ds=true->(hZ ds).all (kqdOk n)=true
 | _,[],_=>by simp [hZ]
 | n,d::ds,h=>by
  simp [oJ] at h;simp only [hZ,List.all_cons,Yh];exact ⟨jJ n d h.1,l8 n ds h.2⟩
end
mutual
theorem rR:∀ (n:Nat) (d e:D),okD n d=true->okD n e=true->ja d=ja e->d=e
 | _,.non,e,_,h,q=>by cases e <;> simp [ja] at q <;> simp [okD] at h <;> rfl
 | _,.int _,e,_,h,q=>by cases e <;> simp [ja] at q <;> simp [okD] at h <;> rw [q]
 | _,.str x,e,_,h,q=>by cases e <;> simp [ja] at q <;> simp [okD] at h <;> rw [q]
 | n+1,.tup ds,e,h1,h,q=>by
  cases e <;> simp [ja] at q <;> simp [okD] at h
  simp [okD] at h1;rw [kj n _ _ h1 h q]
 | n+1,.lst ds,e,h1,h,q=>by
  cases e <;> simp [ja] at q <;> simp [okD] at h
  simp [okD] at h1;rw [kj n _ _ h1 h q]
 | _,.bl _,_,h,_,_=>by simp [okD] at h
 | _,.ty _,_,h,_,_=>by simp [okD] at h
 | _,.cls _,_,h,_,_=>by simp [okD] at h
 | _,.dct _,_,h,_,_=>by simp [okD] at h
 | _,.fz _,_,h,_,_=>by simp [okD] at h
 | _,.obj _ _,_,h,_,_=>by simp [okD] at h
 | _,.dfz _,_,h,_,_=>by simp [okD] at h
 | 0,.tup _,_,h,_,_=>by simp [okD] at h
 | 0,.lst _,_,h,_,_=>by simp [okD] at h
theorem kj:∀ (n:Nat) (d e:List D),oJ n d=true->oJ n e=true->hZ d=hZ e->d=e
 | _,[],e,_,h,q=>by cases e <;> simp [hZ] at q; rfl
 | n,d::ds,e,h1,h,q=>by
  cases e with
  | nil=>simp [hZ] at q
  | cons e es =>
   simp [hZ] at q;simp [oJ] at h h1;rw [rR n d e h1.1 h.1 q.1,kj n ds es h1.2 h.2 q.2]
end
section
variable {K:W.Frag} {H:Hp}
mutual
theorem Rp.rdD:∀ {v:V} {d:D} (n:Nat),Rp K H v d->okD n d=true->RdD K H v (ja d)
 | _,_,_,.non,_=>by rw [ja]; exact .non
 | _,_,_,.int i,_=>by rw [ja]; exact .int i
 | _,_,_,.str i,_=>by rw [ja]; exact .str i
 | _,_,n,.tup h r,o=>by
  cases n with
  | zero=>simp [okD] at o
  | succ n=>simp [okD] at o; rw [ja]; exact .tup h (Rps.rdD n r o)
 | _,_,n,.lst h r,o=>by
  cases n with
  | zero=>simp [okD] at o
  | succ n=>simp [okD] at o; rw [ja]; exact .lst (SqL.of h) (Rps.rdD n r o)
 | _,_,_,.bl _,o=>by simp [okD] at o
 | _,_,_,.ty _,o=>by simp [okD] at o
 | _,_,_,.cls _,o=>by simp [okD] at o
 | _,_,_,.dct _ _,o=>by simp [okD] at o
 | _,_,_,.fz _ _,o=>by simp [okD] at o
 | _,_,_,.obj _ _,o=>by simp [okD] at o
 | _,_,_,.dfz _ _,o=>by simp [okD] at o
theorem Rps.rdD:∀ {v:List V} {d:List D} (n:Nat),Rps K H v d->oJ n d=true->xB K H v (hZ d)
 | _,_,_,.nil,_=>by rw [hZ]; exact .nil
 | _,_,n,.cons h r,o=>by
  simp [oJ] at o;rw [hZ];exact .cons (Rp.rdD n h o.1) (Rps.rdD n r o.2)
end
end
open Classical in
noncomputable def eqB (d e:D):Bool:=decide (d=e)
theorem rM (d:D):eqB d d=true:=by unfold eqB; simp
theorem AR (h:d≠e):eqB d e=false:=by unfold eqB; simp [h]
noncomputable def eqO (d e:D):Option Bool:=match eqS d e with
 | some b=>some b
 | none=>if okD 9 d=true/\okD 9 e=true then some (eqB d e) else none
noncomputable def oEq (d e:D):Option D:=(eqO d e).map D.bl
noncomputable def oNe (d e:D):Option D:=(eqO d e).map λ b=>.bl (!b)
section
variable {X:Cx}
theorem OpR.imp (h:OpR X fn r) (hi:∀ x y H Q,r' x y H Q->r x y H Q):OpR X fn r':=λ pins s σ H x y v u Q I rx ry q=>h pins s σ H x y v u Q I rx ry (hi _ _ _ _ q)
theorem J4 : OpR X (binaryOp .Add) (rdR X.K ie) :=
  ((FI.or sI).or FH).imp λ x y H Q ⟨Hs,dx,dy,d,sm,rx,ry,e,k⟩=>by
    cases rx with
    | int i => cases ry with
      | int j => have e':D.int (i+j)=d:=by simpa [ie] using e
                 subst e';exact .inl (.inl ⟨i,j,rfl,rfl,k _ Hs H (.refl sm) (.int _)⟩)
      | _=>exact nn e
    | str x=>cases ry with
      | str y =>
        by_cases hl:x.length+y.length<=100000
        · have e':D.str (x++y)=d:=by simpa [ie,hl] using e
          subst e';exact .inl (.inr ⟨x,y,rfl,rfl,tW hl,k _ Hs H (.refl sm) (.str _)⟩)
        · simp [ie,hl] at e
      | _=>exact nn e
    | @lst a xs ds h r=>cases ry with
      | @lst b ys es h' r' =>
        by_cases hl:ds.length+es.length<=100000
        · have e':D.lst (ds++es)=d:=by simpa [ie,hl] using e
          subst e';refine .inr ⟨a,b,xs,ys,rfl,rfl,sm _ _ h,sm _ _ h',by rw [r.length,r'.length]; exact tW hl,λ p hp=>?_⟩;have g:=Ext.new sm hp (.lst (xs++ys));exact k _ _ _ g (.lst av ((r.same g.ss).append (r'.same g.ss)))
        · simp [ie,hl] at e
      | _=>exact nn e
    | _=>exact nn e
theorem pw {fn:Value->Value->Sem Value} {C:Int->Int->Prop} [∀ i j,Decidable (C i j)] {gv:Int->Int->V} {gd:Int->Int->D} {o:D->D->Option D} (h:OpR X fn (rI C gv)) (hg:∀ i j H,Rp X.K H (gv i j) (gd i j))
  (ho:∀ x y d,o x y=some d->∃ i j,x=.int i/\y=.int j/\C i j/\d=gd i j):OpR X fn (rdR X.K o) :=
 h.imp λ x y H Q ⟨Hs,dx,dy,d,sm,rx,ry,e,k⟩=>by
  obtain ⟨i,j,rfl,rfl,c,rfl⟩:=ho _ _ _ e;cases rx;cases ry;exact ⟨i,j,rfl,rfl,c,k _ Hs H (.refl sm) (hg i j Hs)⟩
theorem Jz (h:OpR X fn (rI0 g)):OpR X fn (rI (λ _ _=>True) g):=h.imp λ x y H Q ⟨i,j,h1,h2,_,q⟩=>⟨i,j,h1,h2,q⟩
theorem JW:OpR X (binaryOp .Sub) (rdR X.K Cq):=pw (Jz Ao) (λ _ _ _=>.int _) λ x y d e=>by
 unfold Cq at e;split at e
 · exact ⟨_,_,rfl,rfl,trivial,(Zj e).symm⟩
 · cases e
theorem Cj:OpR X (binaryOp .Mult) (rI (λ i j=>A0 i j\/(Sz i/\Sz j)) λ i j=>.int (i * j)):=opI λ _ _ _ _ _ _ _ hc q=>mul_int q (hc.elim (·.ok) λ h=>PySem.IntMulOk.of_bits h.1.bits h.2.bits)
theorem JZ:OpR X (binaryOp .Mult) (rdR X.K vF):=pw Cj (λ _ _ _=>.int _) λ x y d e=>by
 unfold vF at e;split at e
 ·split at e
  ·rename_i c
   exact ⟨_,_,rfl,rfl,c,(Zj e).symm⟩
  · cases e
 · cases e
theorem J3:OpR X (binaryOp .FloorDiv) (rdR X.K oDiv):=pw Cm (λ _ _ _=>.int _) λ x y d e=>by
 unfold oDiv at e;split at e
 ·split at e
  ·rename_i c
   exact ⟨_,_,rfl,rfl,c,(Zj e).symm⟩
  · cases e
 · cases e
theorem J0:OpR X (binaryOp .Mod) (rdR X.K oMod):=pw Ck (λ _ _ _=>.int _) λ x y d e=>by
 unfold oMod at e;split at e
 ·split at e
  ·rename_i c
   exact ⟨_,_,rfl,rfl,c,(Zj e).symm⟩
  · cases e
 · cases e
theorem JX:OpR X (binaryOp .Pow) (rdR X.K Hu):=pw FA (λ _ _ _=>.int _) λ x y d e=>by
 unfold Hu at e;split at e
 ·split at e
  ·rename_i c
   exact ⟨_,_,rfl,rfl,c,(Zj e).symm⟩
  · cases e
 · cases e
theorem Ht:OpR X (compareOp .LtE) (rdR X.K oLe):=pw (Jz JR) (λ _ _ _=>.bl _) λ x y d e=>by
 unfold oLe at e;split at e
 · exact ⟨_,_,rfl,rfl,trivial,(Zj e).symm⟩
 · cases e
theorem MH:OpR X (compareOp .Gt) (rdR X.K oGt):=pw (Jz JS) (λ _ _ _=>.bl _) λ x y d e=>by
 unfold oGt at e;split at e
 · exact ⟨_,_,rfl,rfl,trivial,(Zj e).symm⟩
 · cases e
theorem Oy:OpR X (compareOp .Lt) (rdR X.K oLt):=(JQ.or vo).imp λ x y H Q ⟨Hs,dx,dy,d,sm,rx,ry,e,k⟩=>by
 cases rx with
 | int i=>cases ry with
  | int j =>
   have e':D.bl (decide (i < j))=d:=by simpa [oLt] using e
   subst e';exact .inl ⟨i,j,rfl,rfl,k _ Hs H (.refl sm) (.bl _)⟩
  | _=>exact nn e
 | str i=>cases ry with
  | str j =>
   have e':=Zj e;subst e';exact .inr ⟨i,j,rfl,rfl,k _ Hs H (.refl sm) (.bl _)⟩
  | _=>exact nn e
 | _=>exact nn e
theorem JY:UnR X (unaryOp .USub) (rdU X.K Hv):=λ pins s σ H x v Q I rx ⟨Hs,dx,d,sm,r,e,k⟩=>Et pins s σ H x v Q I rx (by
 cases r with
 | int i =>
  have e':D.int (-i)=d:=by simpa [Hv] using e
  subst e';exact ⟨i,rfl,k _ Hs H (.refl sm) (.int _)⟩
 | _=>simp [Hv] at e)
theorem J1:OpR X (compareOp .Is) (rdR X.K Hw):=FF.imp λ x y H Q ⟨Hs,dx,dy,d,sm,rx,ry,e,k⟩=>by
 have hy:dy=.non:=by
  unfold Hw at e;split at e <;> first | rfl | cases e
 subst hy;cases ry;refine ⟨rfl,?_⟩;cases rx <;> (have e':=Zj e; subst e'; exact k _ Hs H (.refl sm) (.bl _))
theorem Ap:OpR X (compareOp .IsNot) (rdR X.K jR):=Ci.imp λ x y H Q ⟨Hs,dx,dy,d,sm,rx,ry,e,k⟩=>by
 have hy:dy=.non:=by
  unfold jR at e;split at e <;> first | rfl | cases e
 subst hy;cases ry;refine ⟨rfl,?_⟩;cases rx <;> (have e':=Zj e; subst e'; exact k _ Hs H (.refl sm) (.bl _))
theorem AQ {K:W.Frag} {H:Hp} {x y:V} {dx dy:D} {b:Bool} (rx:Rp K H x dx) (ry:Rp K H y dy) (e:eqS dx dy=some b):Jr x y=true/\decide (x=y)=b:=by
  unfold eqS at e
  split at e <;> first
    | (cases e; done)
    | (have e':=Zj e
       subst e';cases rx;cases ry
       first | exact ⟨rfl,rfl⟩ | exact ⟨rfl,by simp⟩)
theorem rL (h:okD n d=true) (h':okD n e=true):eqD (ja d) (ja e)=eqB d e:=by
 by_cases q:d=e
 · subst q; rw [rM,zw rfl]
 · rw [AR q,wV λ z=>q (rR n _ _ h h' z)]
theorem MI (hu:X.A.units+64 < cLine):OpR X (compareOp .Eq) (rdR X.K oEq):=(JT.or (FG hu)).imp λ x y H Q ⟨Hs,dx,dy,d,sm,rx,ry,e,k⟩=>by
 obtain ⟨b,e',rfl⟩:=Zm (e);have e:=e';unfold eqO at e;split at e
 ·rename_i b' q
  have e':=Zj e;subst e';obtain ⟨h1,h2⟩:=AQ rx ry q;refine .inl ⟨h1,?_⟩;rw [h2];exact k _ Hs H (.refl sm) (.bl _)
 ·split at e
  ·rename_i h
   have e':=Zj e;subst e';refine .inr ⟨ja dx,ja dy,(rx.same sm).rdD 9 h.1,(ry.same sm).rdD 9 h.2,jJ 9 _ h.1,jJ 9 _ h.2,?_⟩;rw [rL h.1 h.2];exact k _ Hs H (.refl sm) (.bl _)
  · cases e
theorem MG (hu:X.A.units+64 < cLine):OpR X (compareOp .NotEq) (rdR X.K oNe):=(JP.or (FE hu)).imp λ x y H Q ⟨Hs,dx,dy,d,sm,rx,ry,e,k⟩=>by
 obtain ⟨b,e',rfl⟩:=Zm (e);have e:=e';unfold eqO at e;split at e
 ·rename_i b' q
  have e':=Zj e;subst e';obtain ⟨h1,h2⟩:=AQ rx ry q;refine .inl ⟨h1,?_⟩;rw [h2];exact k _ Hs H (.refl sm) (.bl _)
 ·split at e
  ·rename_i h
   have e':=Zj e;subst e';refine .inr ⟨ja dx,ja dy,(rx.same sm).rdD 9 h.1,(ry.same sm).rdD 9 h.2,jJ 9 _ h.1,jJ 9 _ h.2,?_⟩;rw [rL h.1 h.2];exact k _ Hs H (.refl sm) (.bl _)
  · cases e
end
def oIx:D->D->Option D
 | .tup ds,.int i=>atI ds i
 | .lst ds,.int i=>atI ds i
 | .fz ds,.int i=>atI ds i
 | .str z,.int i=>if z.length<=100000 then (atI z.cps.toList i).map λ c=>.str ⟨#[c]⟩ else none
 | _,_=>none
def DO:=List Sl->Option (Option Int)
def Mp:DO:=λ _=>some none
def dP (f:DE):DO:=λ τ=>(f τ).bind λ x=>match x with | .int i=>some (some i) | _=>none
def cutD (xs:List D) (lo hi:Option Int):List D:=(xs.drop (HT.sIx xs.length 0 lo)).take (HT.sIx xs.length xs.length hi - HT.sIx xs.length 0 lo)
def oSl:D->Option Int->Option Int->Option D
 | .lst ds,lo,hi=>some (.lst (cutD ds lo hi))
 | .fz ds,lo,hi=>some (.lst (cutD ds lo hi))
 | _,_,_=>none
def dSl (f:DE) (lo hi:DO):DE:=λ τ=>(f τ).bind λ x=>(lo τ).bind λ l=>(hi τ).bind λ u=>oSl x l u
def tV:List D->Option D
 | [.str z]=>if z.length<=100000 then some (.int z.length) else none
 | [.tup ds]=>some (.int ds.length)
 | [.lst ds]=>some (.int ds.length)
 | [.fz ds]=>some (.int ds.length)
 | _=>none
def yO:List D->Option D
 | [.tup ds]=>some (.lst ds)
 | [.lst ds]=>some (.lst ds)
 | [.fz ds]=>some (.lst ds)
 | _=>none
def qR:List D->Option D
 | [.tup ds]=>some (.tup ds)
 | [.lst ds]=>some (.tup ds)
 | _=>none
def tyN:D->Option String
 | .non=>some "NoneType" | .bl _=>some "bool" | .int _=>some "int" | .str _=>some "str" | .tup _=>some "tuple" | .lst _=>some "list" | .dct _=>some "dict" | _=>none
def L3 (t n:String):Bool:=t == n||(t == "bool"&&n == "int")
def kinds:List String:=["int","bool","str","list","tuple","dict"]
def J6:List D->Option D
 | [d,.ty n]=>(tyN d).bind λ t=>if n ∈ kinds then some (.bl (L3 t n)) else none
 | _=>none
theorem qm {K:W.Frag} {H:Hp} {xs:List V} {ds:List D} {i:Int} {d:D} (r:Rps K H xs ds) (e:atI ds i=some d):∃ v,atI xs i=some v/\Rp K H v d:=by
 unfold atI at *;obtain ⟨j,e1,e2⟩:=bind_some e;obtain ⟨v,h1,h2⟩:=r.get e2;exact ⟨v,by rw [r.length,e1]; exact h1,h2⟩
theorem xc {K:W.Frag} {H:Hp} {xs:List V} {ds:List D} (lo hi:Option Int) (r:Rps K H xs ds):Rps K H (Ej xs lo hi) (cutD ds lo hi):=by
 unfold Ej cutD;rw [r.length];exact (r.drop _).take _
theorem we {K:W.Frag} {t n:String} (ht:t ∈ ["NoneType","bool","int","str","tuple","list","dict"]) (hn:n ∈ kinds):PySem.W.kitOne K (.type t) (.type n)=some (L3 t n):=by
 simp only [kinds,Zl,Z8,or_false] at ht hn;rcases ht with rfl | rfl | rfl | rfl | rfl | rfl | rfl <;> rcases hn with rfl | rfl | rfl | rfl | rfl | rfl <;> kernel_rfl
section
variable {X:Cx} {a b c e:Expr} {es:List Expr} {pos:Pos} {f g h:DE}
theorem IxR.imp {r r':R2} (h:IxR X r) (hi:∀ x y H Q,r' x y H Q->r x y H Q):IxR X r':=λ value slice pins s σ H x y v u Q I rx ry q=>h value slice pins s σ H x y v u Q I rx ry (hi _ _ _ _ q)
theorem ixd:IxR X (rdR X.K oIx):=((wo.or GH).or GI).imp λ x y H Q ⟨Hs,dx,dy,d,sm,rx,ry,e,k⟩=>by
 obtain ⟨i,rfl⟩:∃ i,dy=.int i:=by
  unfold oIx at e;split at e <;> first | exact ⟨_,rfl⟩ | cases e
 cases ry
 cases rx with
 | tup h r =>
  obtain ⟨v,h1,h2⟩:=qm r (e);exact .inl (.inr ⟨_,_,i,v,rfl,rfl,sm.tup h,h1,k v Hs H (.refl sm) h2⟩)
 | lst h r =>
  obtain ⟨v,h1,h2⟩:=qm r (show atI _ i=some d from e);exact .inl (.inl ⟨_,_,i,v,rfl,rfl,SqL.of (sm _ _ h),h1,k v Hs H (.refl sm) h2⟩)
 | fz h r =>
  obtain ⟨v,h1,h2⟩:=qm r (show atI _ i=some d from e);exact .inl (.inl ⟨_,_,i,v,rfl,rfl,sm.seq h,h1,k v Hs H (.refl sm) h2⟩)
 | str z =>
  by_cases hl:z.length<=100000
  ·have e0:(atI z.cps.toList i).map (λ c=>D.str ⟨#[c]⟩)=some d:=by simpa only [oIx,hl,if_true] using e
   obtain ⟨c,e1,rfl⟩:=Zm e0;exact .inr ⟨z,i,c,rfl,rfl,tW hl,e1,k _ Hs H (.refl sm) (.str _)⟩
  · simp [oIx,hl] at e
 | _=>exact nn e
theorem JM (ha:PEd X a f) (hb:PEd X b g) (hs:qr b):PEd X (.Subscript a b pos) (dOp oIx f g):=(Fe ixd ha hb hs).imp λ σ H Q h=>lj X.K h
def rdP (K:W.Frag) (f:DO):TO:=λ σ H Q=>∃ H0 Hs τ fp d,StR K H0 Hs H σ τ fp/\bp Hs H/\f τ=some d/\∀ Hs' H',Ext Hs H Hs' H'->Q d H'
def POd (X:Cx) (e:Option Expr) (f:DO):Prop:=PO X e (rdP X.K f)
theorem PO.imp {e:Option Expr} {t t':TO} (h:PO X e t) (hi:∀ σ H Q,t' σ H Q->t σ H Q):PO X e t':=λ pins s σ H Q I q=>h pins s σ H Q I (hi _ _ _ q)
theorem yv:POd X none Mp:=BL.imp λ σ H Q ⟨H0,Hs,τ,fp,d,st,sm,e,k⟩=>by
 have e':=Zj e;subst e';exact k Hs H (.refl sm)
theorem yu (h:PEd X e f):POd X (some e) (dP f):=(BK h).imp λ σ H Q ⟨H0,Hs,τ,fp,d,st,sm,e,k⟩=>by
 obtain ⟨x,e1,e⟩:=bind_some e;refine ⟨H0,Hs,τ,fp,x,st,sm,e1,λ v Hs' H' g r=>?_⟩
 cases r with
 | int i =>
  have e':=Zj e;subst e';exact ⟨i,rfl,k Hs' H' g⟩
 | _=>exact nn e
theorem JC {lo hi:Option Expr} {p2:Pos} {l u:DO} (ha:PEd X a f) (hl:POd X lo l) (hh:POd X hi u):PEo X (.Subscript a (.Slice lo hi none p2) pos) (dSl f l u) :=
 (qJ Bf ha hl hh).imp λ σ H Q ⟨H0,Hs,τ,fp,d,st,sm,e,k⟩=>by
   obtain ⟨x,e1,e⟩:=bind_some e;obtain ⟨l',e2,e⟩:=bind_some e;obtain ⟨u',e3,e⟩:=bind_some e;refine ⟨H0,Hs,τ,fp,x,st,sm,e1,λ v Hs1 H1 g1 r1=>?_⟩;refine ⟨H0,Hs1,τ,fp,l',st.ext g1,g1.sh,e2,λ Hs2 H2 g2=>?_⟩;refine ⟨H0,Hs2,τ,fp,u',(st.ext g1).ext g2,g2.sh,e3,λ Hs3 H3 g3=>?_⟩;have g13:=(g1.trans g2).trans g3;have r3:=(r1.same g2.ss).same g3.ss
   have fin:∀ (p:Addr) (ys:List V) (ds:List D),H3 p=none->Rps X.K Hs3 ys ds->d=.lst ds->Q (.ref p) (upd H3 p (.lst ys)):=λ p ys ds hp r ed=>by
    subst ed;exact k p Hs3 _ ⟨g13.ss,g13.sh.trans (az hp _),g13.hh.trans (az hp _),g13.fr⟩ (.lst av (g13.sh.free hp) r) (g13.hh.free hp)
   cases r3 with
   | @lst a xs ds h r =>
    have e':=Zj e;exact ⟨a,xs,rfl,SqL.of (g3.sh _ _ h),λ p hp=>fin p _ _ hp (xc l' u' r) e'.symm⟩
   | @fz a xs ds h r =>
    have e':D.lst (cutD ds l' u')=d:=Zj e;exact ⟨a,xs,rfl,g3.sh.seq h,λ p hp=>fin p _ _ hp (xc l' u' r) e'.symm⟩
   | _=>exact nn e
theorem ee.imp {fn:Value} {r r':List V->Hp->VK->Prop} (h:ee X fn r) (hi:∀ x H Q,r' x H Q->r x H Q):ee X fn r':=λ pins s σ H x u Q I rx q=>h pins s σ H x u Q I rx (hi _ _ _ q)
theorem call_of {o:List D->Option D} {g:DA} {σ:St} {H:Hp} {Q:VK} (K:W.Frag) (hh:rdE K (jm o g) σ H Q):tCB (rdL K o) (rdA K g) σ H Q:=by
 obtain ⟨H0,Hs,τ,fp,d,st,sm,e,k⟩:=hh;obtain ⟨xs,e1,e⟩:=bind_some e;exact ⟨H0,Hs,τ,fp,xs,st,sm,e1,λ v Hs1 H1 g1 r1=>⟨Hs1,xs,d,g1.sh,r1,e,λ w Hs2 H2 g2 r2=>k w Hs2 H2 (g1.trans g2) r2⟩⟩
theorem yH {x:Str} {id:String} {p:Pos} {o:List D->Option D} {g:DA} (hc:ee X (.builtin id) (rdL X.K o)) (hg:Gl X x) (hm:X.mg x=none) (hv:bootBuiltins x=some (.builtin id)) (ha:PAd X (e::es) g) (hn:x≠"__name__":=by decide) (hdb:(x == ("__debug__":Str))=false:=by decide)
  (he:starEach (e::es) X.env=(false,eval e X.env)::starEach es X.env:=by rfl) (hpl:(backTo pos (starEach es X.env)).any (·.1)=false:=by rfl):PEd X (.Call (.Name x p) (e::es) [] pos) (jm o g) :=
 (qM hc hg hm hv ha hn hdb he hpl).imp λ σ H Q h=>call_of X.K h
theorem vm {x:Str} {T:String} {p:Pos} {o:List D->Option D} {g:DA} (hc:ee X (.type T) (rdL X.K o)) (hg:Gl X x) (hm:X.mg x=none) (hv:bootBuiltins x=some (.type T)) (ha:PAd X (e::es) g) (hn:x≠"__name__":=by decide) (hdb:(x == ("__debug__":Str))=false:=by decide)
  (he:starEach (e::es) X.env=(false,eval e X.env)::starEach es X.env:=by rfl) (hpl:(backTo pos (starEach es X.env)).any (·.1)=false:=by rfl):PEd X (.Call (.Name x p) (e::es) [] pos) (jm o g) :=
 (m8 hc hg hm hv ha hn hdb he hpl).imp λ σ H Q h=>call_of X.K h
theorem gn:ee X (.builtin "len") (rdL X.K tV):=zM.imp λ xs H Q ⟨Hs,ds,d,sm,r,e,k⟩=>by
 match ds,r,e with
 | [x],.cons hx .nil,e =>
  cases hx with
  | str z =>
   by_cases hl:z.length<=100000
   ·have e':D.int z.length=d:=by simpa [tV,hl] using e
    subst e';exact ⟨_,_,rfl,⟨tW hl,rfl⟩,k _ Hs H (.refl sm) (.int _)⟩
   · simp [tV,hl] at e
  | @tup a ys ds h r =>
   have e':=Zj e;subst e';exact ⟨_,_,rfl,.inr ⟨_,sm.tup h,rfl⟩,by rw [r.length]; exact k _ Hs H (.refl sm) (.int _)⟩
  | @lst a ys ds h r =>
   have e':D.int ds.length=d:=Zj e;subst e';exact ⟨_,_,rfl,.inl ⟨_,SqL.of (sm _ _ h),rfl⟩,by rw [r.length]; exact k _ Hs H (.refl sm) (.int _)⟩
  | @fz a ys ds h r =>
   have e':D.int ds.length=d:=Zj e;subst e';exact ⟨_,_,rfl,.inl ⟨_,sm.seq h,rfl⟩,by rw [r.length]; exact k _ Hs H (.refl sm) (.int _)⟩
  | _=>exact nn e
 | [],_,e=>simp [tV] at e
 | _::_::_,_,e=>simp [tV] at e
theorem tI:ee X (.builtin "isinstance") (rdL X.K J6):=by
 intro pins s σ H xs us Q I rv ⟨Hs,ds,d,sm,r,e,k⟩
 have sh:∃ x n,ds=[x,.ty n]:=by
   unfold J6 at e;split at e
   · exact ⟨_,_,rfl⟩
   · cases e
 obtain ⟨x,n,rfl⟩:=sh
 cases r with
 | cons hx rr=>cases rr with
  | cons hy rr=>cases rr with
   | nil =>
   cases hy;obtain ⟨t,e1,e2⟩:=bind_some (e)
   by_cases hn:n ∈ kinds
   ·rw [if_pos hn] at e2
    have e':=Zj e2;subst e';obtain ⟨u,w',rfl,ru,rw'⟩:=vals2 rv;have e2:=rw';subst e2;have fin:∀ tk,EP X pins σ Q (.bool (L3 t n)) { s with toks:=tk }:=λ tk=>⟨.bl _,H,I.tok tk,rfl,k _ Hs H (.refl sm) (.bl _)⟩
    have low:∀ {v:V} {T:String},tR X.K H v (.type T)->RelV v u->T ∈ ["NoneType","bool","int","str","tuple","list","dict"]->some T=some t->wpAny (model X.prog X.w) X.A (call (.builtin "isinstance") [u,.type n]) (EP X pins σ Q) X.xe s:=λ ty ru hm et=>by
     have et':=Zj et;subst et';exact wu I ru ty (we hm hn) fin
    cases hx with
    | non=>exact low (.non) ru (by simp) e1
    | bl b=>exact low (.bl b) ru (by simp) e1
    | int i=>exact low (.int i) ru (by simp) e1
    | str z=>exact low (.str z) ru (by simp) e1
    | lst h _=>exact low (.lst (sm _ _ h)) ru (by simp) e1
    | dct h _=>exact low (.dK (sm _ _ h)) ru (by simp) e1
    | @tup p ys ds h _ =>
     have et':=Zj e1;subst et';cases (ru);obtain ⟨its,_,⟨o,h1,h2,_⟩,_⟩:=I.tuple (sm.tup h);exact Yn PySem.W.kitx_tuple I.kIn ⟨o,h1,h2⟩ (we (by simp) hn) (λ z=>nomatch z) fin
    | ty m=>simp [tyN] at e1
    | cls m=>simp [tyN] at e1
    | dfz _ _=>simp [tyN] at e1
    | fz _ _=>simp [tyN] at e1
    | obj _ _=>simp [tyN] at e1
   · rw [if_neg hn] at e2; cases e2
theorem BM {x:Str} {p:Pos} {g:DA} (hg:Gl X x) (hm:X.mg x=none) (hv:bootBuiltins x=some (.type "list")) (ha:PAd X (e::es) g) (hn:x≠"__name__":=by decide) (hdb:(x == ("__debug__":Str))=false:=by decide)
   (he:starEach (e::es) X.env=(false,eval e X.env)::starEach es X.env:=by rfl) (hpl:(backTo pos (starEach es X.env)).any (·.1)=false:=by rfl):PEo X (.Call (.Name x p) (e::es) [] pos) (jm yO g) :=
 (m8 oj hg hm hv ha hn hdb he hpl).imp λ σ H Q ⟨H0,Hs,τ,fp,d,st,sm,e,k⟩=>by
   obtain ⟨xs,e1,e⟩:=bind_some e;refine ⟨H0,Hs,τ,fp,xs,st,sm,e1,λ v Hs1 H1 g1 r1=>?_⟩
   have fin:∀ (p:Addr) (ys:List V) (ds:List D),H1 p=none->Rps X.K Hs1 ys ds->d=.lst ds->Q (.ref p) (upd H1 p (.lst ys)):=λ p ys ds hp r ed=>by
    subst ed;exact k p Hs1 _ ⟨g1.ss,g1.sh.trans (az hp _),g1.hh.trans (az hp _),g1.fr⟩ (.lst av (g1.sh.free hp) r) (g1.hh.free hp)
   match xs,r1,e with
   | [x],.cons hx .nil,e =>
    cases hx with
    | @tup a ys ds h r=>exact ⟨_,_,rfl,.inr (g1.sh.tup h),λ l hl=>fin l ys ds hl r (Zj e).symm⟩
    | @lst a ys ds h r=>exact ⟨_,_,rfl,.inl (SqL.of (g1.sh _ _ h)),λ l hl=>fin l ys ds hl r (Zj e).symm⟩
    | @fz a ys ds h r=>exact ⟨_,_,rfl,.inl (g1.sh.seq h),λ l hl=>fin l ys ds hl r (Zj e).symm⟩
    | _=>exact nn e
   | [],_,e=>simp [yO] at e
   | _::_::_,_,e=>simp [yO] at e
theorem qe:ee X (.type "tuple") (rdL X.K qR):=mD.imp λ xs H Q ⟨Hs,ds,d,sm,r,e,k⟩=>by
 match ds,r,e with
 | [x],.cons hx .nil,e =>
  cases hx with
  | @tup a ys ds h r =>
   have e':=Zj e;subst e';exact ⟨_,_,rfl,.inr ⟨sm.tup h,k _ Hs H (.refl sm) (.tup h r)⟩⟩
  | @lst a ys ds h r =>
   have e':D.tup ds=d:=Zj e;subst e';refine ⟨_,_,rfl,.inl ⟨SqL.of (sm _ _ h),λ l hl=>?_⟩⟩;have g:=Ext.new sm hl (.tup ys);exact k _ _ _ g (.tup (SqT.of av) (r.same g.ss))
  | _=>exact nn e
 | [],_,e=>simp [qR] at e
 | _::_::_,_,e=>simp [qR] at e
end
def wD (a:Addr) (H:Hp):Hp:=λ b=>if b=a then none else H b
def D1 (i:Nat) (f:DT):DT:=λ τ=>match τ[i]? with
 | some (.own d0)=>f (τ.set i (.shr d0))
 | _=>f τ
theorem Ext.Jd (n:Hs a=none) (ha:H a=some o) (g:Ext (upd Hs a o) H Hs' H'):Ext Hs H (wD a Hs') H':=by
 refine ⟨λ b u q=>?_,λ b u q=>?_,g.hh,λ b h1 h2=>?_⟩
 ·have ne:b≠a:=λ z=>by subst z; rw [n] at q; cases q
  unfold wD;rw [if_neg ne];exact g.ss b u (by rw [ar ne]; exact q)
 ·unfold wD at q
  split at q
  · cases q
  · exact g.sh b u q
 ·unfold wD
  by_cases z:b=a
  · rw [if_pos z]
  ·rw [if_neg z]
   exact g.fr b (by rw [ar z]; exact h1) h2
theorem bp.frz (sm:bp Hs H) (ha:H a=some o):bp (upd Hs a o) H:=λ b u q=>by
 by_cases z:b=a
 · subst z; rw [av] at q; rw [ha]; exact q
 · rw [ar z] at q; exact sm b u q
section
variable {X:Cx} {e:Expr} {f:DE}
theorem Bt (i:Nat) {f:DT} (h:PTd X e f):PTd X e (D1 i f):=PT.imp h λ σ H Q ⟨H0,Hs,τ,fp,d,st,sm,e,k⟩=>by
 unfold D1 at e;split at e
 ·rename_i d0 q
  obtain ⟨a,o,fp',h1,h2,h3,h4,h5,h6,h7,h8⟩:=st.frz q;exact ⟨H0,upd Hs a o,_,fp',d,h4,sm.frz h1,e,λ Hs' H' g=>k (wD a Hs') H' (g.Jd h2 h1)⟩
 · exact ⟨H0,Hs,τ,fp,d,st,sm,e,k⟩
end
def fh (f g:DS):DS:=λ τ=>match f τ with
 | some (.next τ')=>g τ'
 | r=>r
def eu:DS:=λ τ=>some (.next τ)
def sIf (c:DT) (f g:DS):DS:=λ τ=>(c τ).bind λ b=>if b=true then f τ else g τ
def qB (i:Nat) (f:DE):DS:=λ τ=>(f τ).map λ d=>.next (τ.set i (.shr d))
def sy (i:Nat) (f:DE):DS:=λ τ=>if i < τ.length then (f τ).map λ d=>.next (τ.set i (.own d)) else none
def mO (f:DE):DS:=λ τ=>(f τ).map λ d=>.ret (.shr d)
def xW (f:DE):DS:=λ τ=>(f τ).map λ d=>.ret (.own d)
def uz (i:Nat):DS:=λ τ=>match τ[i]? with
 | some (.own d)=>some (.ret (.own d))
 | some (.shr d)=>some (.ret (.shr d))
 | _=>none
def uD (f:DE):DS:=λ τ=>(f τ).map λ _=>.next τ
def D3 (i:Nat) (f:DS):DS:=λ τ=>match τ[i]? with
 | some (.own d)=>f (τ.set i (.shr d))
 | _=>f τ
def z5:DS:=λ _=>none
def z9 (i:Nat) (f:DE):DS:=λ τ=>(f τ).bind λ d=>match τ[i]? with
 | some (.own (.lst ds))=>if ds.length < 100000 then some (.next (τ.set i (.own (.lst (ds++[d]))))) else none
 | _=>none
section
variable {X:Cx} {a b c e:Expr} {es:List Expr} {pos:Pos} {st:Stmt} {rest:List Stmt} {f g:DS}
theorem Rep.same {K:W.Frag} {Hs0 H0 Hs H:Hp} {σ:St} {τ:List Sl} (r:Rep K Hs0 H0 Hs H σ τ):bp Hs H:=r.ext.sh
theorem Rep.ext' {K:W.Frag} {Hs0 H0 Hs H Hs' H':Hp} {σ:St} {τ:List Sl} (r:Rep K Hs0 H0 Hs H σ τ) (g:Ext Hs H Hs' H'):Rep K Hs0 H0 Hs' H' σ τ:=⟨r.ext.trans g,let ⟨fp,h⟩:=r.st; ⟨fp,h.ext g⟩⟩
theorem yi:lg X [] eu:=jH.imp λ E σ H ⟨Hs0,H0,Hs,τ,o,r,e,k⟩=>by
 have e':=Zj e;subst e';exact k σ Hs H r
theorem yh (h:PSd X st f):lg X [st] f:=c7 h
theorem uP (h1:PSd X st f) (h2:lg X rest g):lg X (st::rest) (fh f g):=(cN h1 h2).imp λ E σ H ⟨Hs0,H0,Hs,τ,o,r,e,k⟩=>by
 unfold fh at e
 cases q:f τ with
 | none=>rw [q] at e; cases e
 | some o1 =>
  rw [q] at e;refine ⟨Hs0,H0,Hs,τ,o1,r,q,?_⟩
  cases o1 with
  | next τ'=>exact λ σ' Hs' H' r'=>⟨Hs0,H0,Hs',τ',o,r',e,k⟩
  | ret s=>cases e; exact k
  | brk τ'=>cases e; exact k
  | cnt τ'=>cases e; exact k
theorem uW:PSd X st z5:=λ _ _ _ _ _ _ ⟨_,_,_,_,_,_,e,_⟩=>by cases e
theorem E3 {t:DT} {x y:List Stmt} (hc:PTd X c t) (ha:lg X x f) (hb:lg X y g):PSd X (.If c x y pos) (sIf t f g):=(uY hc ha hb).imp λ E σ H ⟨Hs0,H0,Hs,τ,o,r,e,k⟩=>by
 obtain ⟨bb,e1,e2⟩:=bind_some e;obtain ⟨fp,h⟩:=r.st;refine ⟨H0,Hs,τ,fp,bb,h,r.same,e1,λ Hs' H' g1=>?_⟩
 cases bb with
 | true=>exact ⟨Hs0,H0,Hs',τ,o,r.ext' g1,by simpa using e2,k⟩
 | false=>exact ⟨Hs0,H0,Hs',τ,o,r.ext' g1,by simpa using e2,k⟩
theorem BD {f:DE} (h:PEd X e f):PSd X (.Return (some e) pos) (mO f):=(gs h).imp λ E σ H ⟨Hs0,H0,Hs,τ,o,r,e,k⟩=>by
 obtain ⟨d,e1,rfl⟩:=Zm e;obtain ⟨fp,h⟩:=r.st;exact ⟨H0,Hs,τ,fp,d,h,r.same,e1,λ v Hs' H' g1 rv=>k v Hs' H' (r.ext.trans g1) rv⟩
theorem Rep.old {K:W.Frag} {Hs0 H0 Hs H:Hp} {σ:St} {τ:List Sl} (r:Rep K Hs0 H0 Hs H σ τ) {p:Addr} (h:H p=none):H0 p=none:=r.ext.hh.free h
theorem yo {f:DE} (h:PEo X e f):PSd X (.Return (some e) pos) (xW f):=(gs h).imp λ E σ H ⟨Hs0,H0,Hs,τ,o,r,e,k⟩=>by
 obtain ⟨d,e1,rfl⟩:=Zm e;obtain ⟨fp,h⟩:=r.st;exact ⟨H0,Hs,τ,fp,d,h,r.same,e1,λ v Hs' H' g1 rv z=>k _ Hs' H' (r.ext.trans g1) ⟨v,rfl,rv,r.old z⟩⟩
theorem yn (i:Nat) (hN:X.N[i]?=some x:=by rfl) (hv:Vis X.env.scope x:=by first | exact Or.inl rfl | exact Or.inr (Or.inl rfl) | exact Or.inr (Or.inr rfl)) (hd:(x == ("__debug__":Str))=false:=by decide)
  (hcd:(x == ("__classdict__":Str))=false:=by decide):PSd X (.Return (some (.Name x p)) pos) (uz i):=(gs (iS hN hv hd hcd)).imp λ E σ H ⟨Hs0,H0,Hs,τ,o,r,e,k⟩=>by
 obtain ⟨fp,h⟩:=r.st;unfold uz at e;split at e
 ·rename_i d q
  cases e;obtain ⟨a,h1,h2,h3,h4⟩:=h.Ef q;exact ⟨_,h1,k _ Hs H r.ext ⟨a,rfl,h2,h3⟩⟩
 ·rename_i d q
  cases e;obtain ⟨v,h1,h2⟩:=h.get q;exact ⟨_,h1,k _ Hs H r.ext h2⟩
 · cases e
theorem BC {i:Nat} {x:Str} {f:DE} {pos':Pos} (hN:X.N.Nodup) (hi:X.N[i]?=some x) (hx:Loc X.env.scope x) (he:PEd X e f) (hs:swapsWith e (some (.Name x pos')) pos.line X.env=pure false:=by rfl) (hf:X.fn x=true\/X.env.scope.names.lookup x=some .local:=by first | exact .inl rfl | exact .inr rfl | assumption) :
  PSd X (.Assign [.Name x pos'] e pos) (qB i f):=(iR hN hi hx he hs hf).imp λ E σ H ⟨Hs0,H0,Hs,τ,o,r,e,k⟩=>by
 obtain ⟨d,e1,rfl⟩:=Zm e;obtain ⟨fp,h⟩:=r.st;refine ⟨H0,Hs,τ,fp,d,h,r.same,e1,λ v Hs' H' g1 rv=>?_⟩;obtain ⟨fp',_,h'⟩:=(h.ext g1).ur rv;exact k _ Hs' H' ⟨r.ext.trans g1,fp',h'⟩
theorem vn {K:W.Frag} {H0 Hs H:Hp} {σ:St} {τ:List Sl} {fp:List Addr} (h:StR K H0 Hs H σ τ fp) {p:Addr} (hp:H p=none):p ∉ fp:=λ q=>(h.Dw p q).2.2 hp
theorem ym {i:Nat} {x:Str} {f:DE} {pos':Pos} (hN:X.N.Nodup) (hi:X.N[i]?=some x) (hx:Loc X.env.scope x) (he:PEo X e f) (hs:swapsWith e (some (.Name x pos')) pos.line X.env=pure false:=by rfl) (hf:X.fn x=true\/X.env.scope.names.lookup x=some .local:=by first | exact .inl rfl | exact .inr rfl | assumption) :
  PSd X (.Assign [.Name x pos'] e pos) (sy i f):=(iR hN hi hx he hs hf).imp λ E σ H ⟨Hs0,H0,Hs,τ,o,r,e,k⟩=>by
 unfold sy at e;split at e
 ·rename_i hl
  obtain ⟨d,e1,rfl⟩:=Zm e;obtain ⟨fp,h⟩:=r.st;refine ⟨H0,Hs,τ,fp,d,h,r.same,e1,λ v Hs' H' g1 rv z=>?_⟩;obtain ⟨fp',_,h'⟩:=(h.ext g1).N1 rv (r.old z) (vn h z) hl;exact k _ Hs' H' ⟨r.ext.trans g1,fp',h'⟩
 · cases e
theorem yq {f:DE} (he:PEd X e f) (hs:swapsWith e none pos.line X.env=pure false:=by rfl):PSd X (.Expr e pos) (uD f):=(ft he hs).imp λ E σ H ⟨Hs0,H0,Hs,τ,o,r,e,k⟩=>by
 obtain ⟨d,e1,rfl⟩:=Zm e;obtain ⟨fp,h⟩:=r.st;exact ⟨H0,Hs,τ,fp,d,h,r.same,e1,λ v Hs' H' g1 rv=>k _ Hs' H' (r.ext' g1)⟩
theorem Rep.frz {K:W.Frag} {Hs0 H0 Hs H:Hp} {σ:St} {τ:List Sl} {i:Nat} {d:D} (r:Rep K Hs0 H0 Hs H σ τ) (q:τ[i]?=some (.own d)):∃ Hs',Rep K Hs0 H0 Hs' H σ (τ.set i (.shr d)):=by
 obtain ⟨fp,h⟩:=r.st;obtain ⟨a,o,fp',h1,h2,h3,h4,h5,h6,h7,h8⟩:=h.frz q;refine ⟨upd Hs a o,⟨r.ext.ss.trans (az h2 o),r.same.frz h1,r.ext.hh,λ b k1 k2=>?_⟩,fp',h4⟩;have ne:b≠a:=λ z=>by subst z; exact k2 h3
 rw [ar ne];exact r.ext.fr b k1 k2
theorem BE (i:Nat) (h:PSd X st f):PSd X st (D3 i f):=PS.imp h λ E σ H ⟨Hs0,H0,Hs,τ,o,r,e,k⟩=>by
 unfold D3 at e;split at e
 ·rename_i d q
  obtain ⟨Hs',r'⟩:=r.frz q;exact ⟨Hs0,H0,Hs',_,o,r',e,k⟩
 · exact ⟨Hs0,H0,Hs,τ,o,r,e,k⟩
theorem BH (i:Nat) {x:Str} {f:DE} {p apos cpos:Pos} (hN:X.N[i]?=some x) (hv:Vis X.env.scope x) (he:PEd X e f) (hd:(x == ("__debug__":Str))=false:=by decide) (hcd:(x == ("__classdict__":Str))=false:=by decide)
   (hbase:attributeBase (.Name x p) "append" X.env (eval (.Name x p) X.env)=eval (.Name x p) X.env:=by rfl)
   (hfew:((backTo cpos (starEach [e] X.env)).all (λ x=>!x.1)&&(backToKw cpos (keywordEach [] X.env)).all (λ x=>x.1.isSome)
     && decide ([e].length+([]:List Keyword).length+(if ([]:List Keyword).isEmpty then 0 else 1) < 30))=true:=by rfl)
   (hline:(apos.endLine == cpos.line)=true:=by rfl) (hst:starEach [e] X.env=(false,eval e X.env)::starEach [] X.env:=by rfl) (hplain:(backTo cpos (starEach [] X.env)).any (·.1)=false:=by rfl)
   (hs:swapsWith (.Call (.Attribute (.Name x p) "append" apos) [e] [] cpos) none pos.line X.env=pure false:=by rfl) :
   PSd X (.Expr (.Call (.Attribute (.Name x p) "append" apos) [e] [] cpos) pos) (z9 i f) :=
 (ft (pk Yu PySem.F.slot_list_append PySem.F.type_list_append jU (iS hN hv hd hcd) (aG he cf hst) hbase hfew hline hst hplain) hs).imp λ E σ H ⟨Hs0,H0,Hs,τ,o,r,e,k⟩=>by
   obtain ⟨d,e1,e2⟩:=bind_some e;obtain ⟨fp,h⟩:=r.st;split at e2
   · rename_i ds q
     split at e2
     ·rename_i hl
      cases e2;obtain ⟨a,h1,h2,h3,h4⟩:=h.Ef q
      cases h2 with
      | @lst xs _ hH hn hr =>
       refine ⟨_,h1,.inl ⟨rfl,_,SqL.of hH⟩,?_⟩;refine ⟨H0,Hs,τ,fp,d,h,r.same,e1,λ v Hs' H' g1 rv=>?_⟩;have hH':=g1.hh _ _ hH;have h':=h.ext g1;have n':=g1.fr a hn (gz hH);refine ⟨a,xs,v,rfl,rfl,hH',by rw [hr.length]; exact le5 (Y0 hl),?_⟩;refine k σ Hs' _ ⟨⟨r.ext.ss.trans g1.ss,λ b u z=>?_,λ b u z=>?_,λ b k1 k2=>?_⟩,fp,h'.mut q h1 (.lst av n' ((hr.same g1.ss).append (.cons rv .nil)))⟩
       ·have ne:b≠a:=λ y=>by subst y; rw [n'] at z; cases z
        rw [ar ne]; exact g1.sh b u z
       ·have ne:b≠a:=λ y=>by subst y; rw [h3] at z; cases z
        rw [ar ne]; exact g1.hh b u (r.ext.hh b u z)
       · exact g1.fr b (r.ext.fr b k1 k2) (r.ext.hh.live k2)
     · cases e2
   · cases e2
end
abbrev DI:=List Sl->Option (List D)
def ItR (K:W.Frag) (J:It) (Hs:Hp) (ds:List D):Prop:=∀ Hs1 H,bp Hs Hs1->bp Hs1 H ->
 (∀ i d,ds[i]?=some d->J.go i H/\∀ x H',J.yld i H x H'->∃ Hs2,Ext Hs1 H Hs2 H'/\Rp K Hs2 x d)/\∀ i,ds.length<=i->J.stop i H
def rdI (K:W.Frag) (f:DI):TI:=λ σ H R=>∃ H0 Hs τ fp ds,StR K H0 Hs H σ τ fp/\bp Hs H/\f τ=some ds/\∀ J Hs' H',Ext Hs H Hs' H'->ItR K J Hs' ds->R J H'
def PId (X:Cx) (tg iter:Expr) (f:DI):Prop:=PI X tg iter (rdI X.K f)
def Ee (f:DE):DI:=λ τ=>(f τ).bind λ d=>match d with | .lst ds=>some ds | .fz ds=>some ds | _=>none
def sZ (f:DE):DI:=λ τ=>(f τ).bind λ d=>match d with | .tup ds=>some ds | _=>none
def oI (lo:Int) (n:Nat):List D:=(List.range n).map λ (i:Nat)=>D.int (lo+(i:Int))
def jZ (f:DA):DI:=λ τ=>(f τ).bind λ ds=>match ds with | [.int j]=>if -(2 ^ 62)<=j/\j < 2 ^ 62 then some (oI 0 j.toNat) else none | _=>none
theorem rj {K:W.Frag} {a:Addr} {xs:List V} {Hs:Hp} {ds:List D} (h:SqL K Hs a xs) (r:Rps K Hs xs ds):ItR K (Itl K a) Hs ds:=λ Hs1 H g1 g2=>by
 have hq:=g2.seq (g1.seq h);refine ⟨λ i d e=>?_,λ i hi=>⟨xs,hq,by rw [r.length]; exact hi⟩⟩;obtain ⟨x,h1,h2⟩:=r.get e;refine ⟨⟨xs,x,hq,h1⟩,λ x' H' ⟨e1,e2⟩=>?_⟩;subst e1;have e3:=e2 xs hq;rw [h1] at e3;cases e3;exact ⟨Hs1,.refl g2,h2.same g1⟩
theorem wq {K:W.Frag} {Hs:Hp} (lo:Int) (n:Nat):ItR K (Itr lo n) Hs (oI lo n):=λ Hs1 H g1 g2=>by
 refine ⟨λ i d e=>?_,λ i hi=>show n<=i by simpa [oI] using hi⟩;unfold oI at e;rw [List.getElem?_map] at e
 by_cases hi:i < n
 ·rw [List.getElem?_range hi] at e
  have e':D.int (lo+i)=d:=by simpa using e
  subst e';refine ⟨hi,λ x H' ⟨e1,e2⟩=>?_⟩;subst e1 e2;exact ⟨Hs1,.refl g2,.int _⟩
 ·rw [List.getElem?_eq_none (by simpa using hi)] at e
  cases e
theorem PI.imp (h:PI X tg iter t) (hi:∀ σ H R,t' σ H R->t σ H R):PI X tg iter t':=λ pins s σ H R I q=>h pins s σ H R I (hi _ _ _ q)
theorem Dn {K:W.Frag} {a:Addr} {xs:List V} {Hs:Hp} {ds:List D} (h:SqT K Hs a xs) (r:Rps K Hs xs ds):ItR K (Itt K a) Hs ds:=λ Hs1 H g1 g2=>by
 have hq:=g2.tup (g1.tup h);refine ⟨λ i d e=>?_,λ i hi=>⟨xs,hq,by rw [r.length]; exact hi⟩⟩;obtain ⟨x,h1,h2⟩:=r.get e;refine ⟨⟨xs,x,hq,h1⟩,λ x' H' ⟨e1,e2⟩=>?_⟩;subst e1;have e3:=e2 xs hq;rw [h1] at e3;cases e3;exact ⟨Hs1,.refl g2,h2.same g1⟩
section
variable {X:Cx} {tg l e:Expr} {es:List Expr} {pos:Pos}
theorem BV (h:PEd X l f):PId X tg l (Ee f):=(ph h).imp λ σ H R ⟨H0,Hs,τ,fp,ds,st,sm,e,k⟩=>by
 obtain ⟨x,e1,e2⟩:=bind_some e;refine ⟨H0,Hs,τ,fp,x,st,sm,e1,λ v Hs' H' g r=>?_⟩
 cases r with
 | @lst a xs ds' h r =>
  have e':=Zj e2;subst e';exact ⟨a,rfl,⟨xs,SqL.of (g.sh _ _ h)⟩,k _ Hs' H' g (rj (SqL.of h) r)⟩
 | @fz a xs ds' h r =>
  have e':ds'=ds:=Zj e2;subst e';exact ⟨a,rfl,⟨xs,g.sh.seq h⟩,k _ Hs' H' g (rj h r)⟩
 | _=>exact nn e2
theorem BS (h:PEd X l f):PId X tg l (sZ f):=(E8 h).imp λ σ H R ⟨H0,Hs,τ,fp,ds,st,sm,e,k⟩=>by
 obtain ⟨x,e1,e2⟩:=bind_some e;refine ⟨H0,Hs,τ,fp,x,st,sm,e1,λ v Hs' H' g r=>?_⟩
 cases r with
 | @tup a xs ds' h r =>
  have e':=Zj e2;subst e';exact ⟨a,rfl,⟨xs,g.sh.tup h⟩,k _ Hs' H' g (Dn h r)⟩
 | _=>exact nn e2
theorem sH (hg:Gl X "range") (hm:X.mg "range"=none) (ha:PAd X [a] f) (hs:starEach [a] X.env=[(false,eval a X.env)]:=by rfl):PId X tg (.Call (.Name "range" p) [a] [] pos) (jZ f) :=
 (vd hg hm ha hs).imp λ σ H R ⟨H0,Hs,τ,fp,ds,st,sm,e,k⟩=>by
   obtain ⟨x,e1,e2⟩:=bind_some e;refine ⟨H0,Hs,τ,fp,x,st,sm,e1,λ v Hs' H' g r=>?_⟩
   match x,r,e2 with
   | [y],.cons hy .nil,e2 =>
    cases hy with
    | int j =>
     simp only at e2;split at e2
     ·rename_i hj
      have e':=Zj e2;subst e';exact ⟨j,rfl,hj.1,hj.2,k _ Hs' H' g (wq _ _)⟩
     · cases e2
    | _=>exact nn e2
   | [],_,e2=>simp at e2
   | _::_::_,_,e2=>simp at e2
end
abbrev DG:=D->List Sl->Option (List Sl)
def rdG (K:W.Frag) (g:DG):TG:=λ v σ H Q=>∃ Hs0 H0 Hs τ τ' d,Rep K Hs0 H0 Hs H σ τ/\Rp K Hs v d/\g d τ=some τ'/\∀ σ',Rep K Hs0 H0 Hs H σ' τ'->Q σ' H
def PGd (X:Cx) (tg:Expr) (g:DG):Prop:=PG X tg (rdG X.K g)
theorem PG.imp (h:PG X tg t) (hi:∀ v σ H Q,t' v σ H Q->t v σ H Q):PG X tg t':=λ pins s σ H v u Q I r q=>h pins s σ H v u Q I r (hi _ _ _ _ q)
abbrev DGs:=List D->List Sl->Option (List Sl)
def N6 (K:W.Frag) (g:DGs):TGs:=λ v σ H Q=>∃ Hs0 H0 Hs τ τ' d,Rep K Hs0 H0 Hs H σ τ/\Rps K Hs v d/\g d τ=some τ'/\∀ σ',Rep K Hs0 H0 Hs H σ' τ'->Q σ' H
def AZ (X:Cx) (tg:List Expr) (g:DGs):Prop:=PGs X tg (N6 X.K g)
theorem PGs.imp (h:PGs X tg t) (hi:∀ v σ H Q,t' v σ H Q->t v σ H Q):PGs X tg t':=λ pins s σ H v u Q I r q=>h pins s σ H v u Q I r (hi _ _ _ _ q)
def gN (i:Nat):DG:=λ d τ=>some (τ.set i (.shr d))
def wH:DGs:=λ ds τ=>if ds.isEmpty=true then some τ else none
def j3 (g:DG) (h:DGs):DGs:=λ ds τ=>match ds with | d::r=>(g d τ).bind λ τ'=>h r τ' | []=>none
def gT (n:Nat) (g:DGs):DG:=λ d τ=>match d with | .tup ds=>if ds.length=n then g ds τ else none | _=>none
section
variable {X:Cx} {pos:Pos} {e:Expr} {es:List Expr}
theorem yC (hN:X.N.Nodup) (hi:X.N[i]?=some x) (hx:Loc X.env.scope x) (hf:X.fn x=true\/X.env.scope.names.lookup x=some .local:=by first | exact .inl rfl | exact .inr rfl | assumption):PGd X (.Name x pos) (gN i) :=
 (gB hN hi hx hf).imp λ v σ H Q ⟨Hs0,H0,Hs,τ,τ',d,r,rv,e,k⟩=>by
   have e':=Zj e;subst e';obtain ⟨fp,h⟩:=r.st;obtain ⟨fp',_,h'⟩:=h.ur rv;exact k _ ⟨r.ext,fp',h'⟩
theorem yA:AZ X [] wH:=vg.imp λ v σ H Q ⟨Hs0,H0,Hs,τ,τ',d,r,rv,e,k⟩=>by
 cases rv with
 | nil =>
  have e':=Zj e;subst e';exact ⟨rfl,k σ r⟩
 | cons _ _=>simp [wH] at e
theorem vf (h1:PGd X e g) (h2:AZ X es h) (hs:(assignEach (e::es) X.env).map (·.2)=assign e X.env::(assignEach es X.env).map (·.2):=by rfl):AZ X (e::es) (j3 g h) :=
 (qI h1 h2 hs).imp λ v σ H Q ⟨Hs0,H0,Hs,τ,τ',d,r,rv,e,k⟩=>by
   cases rv with
   | nil=>simp [j3] at e
   | cons rx rr =>
    obtain ⟨τ1,e1,e2⟩:=bind_some e;exact ⟨_,_,rfl,Hs0,H0,Hs,τ,τ1,_,r,rx,e1,λ σ' r'=>⟨Hs0,H0,Hs,τ1,τ',_,r',rr,e2,k⟩⟩
theorem B0 (hc:X.calm=true) (h:AZ X es g) (hn:(assignEach es X.env).length=n:=by rfl) (hst:(assignEach es X.env).findIdx? (·.1)=none:=by rfl):PGd X (.Tuple es k' pos) (gT n g) :=
 (Ah hc h hn hst).imp λ v σ H Q ⟨Hs0,H0,Hs,τ,τ',d,r,rv,e,k⟩=>by
   cases rv with
   | @tup a xs ds h rr =>
    simp only [gT] at e;split at e
    ·rename_i hl
     exact ⟨a,xs,rfl,r.same.tup h,by rw [rr.length]; exact hl,Hs0,H0,Hs,τ,τ',ds,r,rr,e,k⟩
    · cases e
   | _=>simp [gT] at e
end
def mQ (b:D->DS):List D->DS
 | [],τ=>some (.next τ)
 | d::ds,τ=>match b d τ with
  | some (.next τ')=>mQ b ds τ'
  | some (.cnt τ')=>mQ b ds τ'
  | some (.brk τ')=>some (.next τ')
  | r=>r
def xG (it:DI) (g:DG) (b:DS):DS:=λ τ=>(it τ).bind λ ds=>mQ (λ d τ=>(g d τ).bind b) ds τ
def bM (c:DT) (b:DS):Nat->DS
 | 0,_=>none
 | n+1,τ=>match c τ with
  | none=>none
  | some false=>some (.next τ)
  | some true=>match b τ with
   | some (.next τ')=>bM c b n τ'
   | some (.cnt τ')=>bM c b n τ'
   | some (.brk τ')=>some (.next τ')
   | r=>r
open Classical in
noncomputable def lr (c:DT) (b:DS):DS:=λ τ=>if h:∃ n o,bM c b n τ=some o then some (Classical.choose (Y8 h)) else none
theorem eQ:∀ {n m:Nat} {τ:List Sl} {o:Out},bM c b n τ=some o->n<=m->bM c b m τ=some o
 | 0,_,_,_,h,_=>by simp [bM] at h
 | n+1,0,_,_,_,l=>by omega
 | n + 1,m+1,τ,o,h,l=>by
  have l':n<=m:=by omega
  unfold bM at h ⊢
  cases q:c τ with
  | none=>rw [q] at h; cases h
  | some x =>
   rw [q] at h
   cases x with
   | false=>exact h
   | true =>
    simp only at h ⊢
    cases q2:b τ with
    | none=>rw [q2] at h; exact h
    | some o' =>
     rw [q2] at h
     cases o' with
     | next τ'=>exact eQ h l'
     | cnt τ'=>exact eQ h l'
     | brk τ'=>exact h
     | ret s=>exact h
theorem gX (h:bM c b n τ=some o):lr c b τ=some o:=by
 have hx:∃ n o,bM c b n τ=some o:=⟨n,o,h⟩
 unfold lr;rw [dif_pos hx];have h2:=Y8 (Y8 hx);have h3:=eQ h2 (Nat.le_max_left _ n);have h4:=eQ h (Nat.le_max_right (Classical.choose hx) n);rw [h3] at h4;exact h4
theorem uy (h:lr c b τ=some o):∃ n,bM c b n τ=some o:=by
 unfold lr at h;split at h
 ·rename_i hx
  have e:=Zj h;subst e;exact ⟨_,Y8 (Y8 hx)⟩
 · cases h
theorem Ext.sub (a:Ext Hs0 H0 Hs1 H1) (b:Ext Hs1 H0 Hs H):Ext Hs0 H0 Hs H:=⟨a.ss.trans b.ss,b.sh,b.hh,λ c h1 h2=>b.fr c (a.fr c h1 h2) h2⟩
theorem Rep.rebase {K:W.Frag} {Hs0 H0 Hs H:Hp} {σ:St} {τ:List Sl} (r:Rep K Hs0 H0 Hs H σ τ):Rep K Hs H0 Hs H σ τ:=⟨⟨.refl _,r.same,r.ext.hh,λ _ h _=>h⟩,r.st⟩
theorem Rep.iP {K:W.Frag} {Hs0 H0 Hs1 H1 Hs H:Hp} {σ:St} {τ:List Sl} (a:Ext Hs0 H0 Hs1 H1) (r:Rep K Hs1 H0 Hs H σ τ):Rep K Hs0 H0 Hs H σ τ:=⟨a.sub r.ext,r.st⟩
theorem Fin.rebase {K:W.Frag} {Hs0 H0 Hs1 H1:Hp} {E:Ends} {o:Out} (a:Ext Hs0 H0 Hs1 H1) (h:Fin K Hs0 H0 E o):Fin K Hs1 H0 E o:=by
 cases o with
 | next τ=>exact λ σ Hs H r=>h σ Hs H (r.iP a)
 | brk τ=>exact λ σ Hs H r=>h σ Hs H (r.iP a)
 | cnt τ=>exact λ σ Hs H r=>h σ Hs H (r.iP a)
 | ret s=>exact λ v Hs H g r=>h v Hs H (a.sub g) r
section
variable {X:Cx} {tg iter:Expr} {body:List Stmt} {pos:Pos}
theorem BF {it:DI} {g:DG} {b:DS} (hp:PassesOwn (model X.prog X.w) X.A X.env X.xe) (hc:X.calm=true) (hi:PId X tg iter it) (hg:PGd X tg g) (hb:lg X body b) (hs:∀ x,foldedSetIterable iter X.env x=pure x:=by intro _; rfl) :
  PSd X (.For tg iter body [] pos) (xG it g b):=(m6 hp hc hi hg hb hs).imp λ E σ H ⟨Hs0,H0,Hs,τ,o,r,e,k⟩=>by
 obtain ⟨ds,e1,e2⟩:=bind_some e;obtain ⟨fp,hst⟩:=r.st;refine ⟨H0,Hs,τ,fp,ds,hst,r.same,e1,λ J Hs1 H1 g1 hJ=>?_⟩;have r1:=r.ext' g1;have kk:=k.rebase r1.ext;refine ⟨λ i m σ H=>m=ds.length - i/\i<=ds.length/\∃ Hs2 τ2,Rep X.K Hs1 H0 Hs2 H σ τ2/\mQ (λ d τ=>(g d τ).bind b) (ds.drop i) τ2=some o,⟨ds.length,by simp,Z1 _,Hs1,τ,r1.rebase,by simpa using e2⟩,?_⟩
 rintro i m σ2 H2 ⟨rfl,hi,Hs2,τ2,r2,e3⟩
 obtain ⟨hgo,hstop⟩:=hJ Hs2 H2 r2.ext.ss r2.same
 by_cases hlt:i < ds.length
 ·have ed:=Ym hlt
  rw [ed] at e3;obtain ⟨go,yl⟩:=hgo i ds[i] (List.getElem?_eq_getElem hlt);refine .inr ⟨go,λ σ' H'=>∃ Hs' τ',Rep X.K Hs1 H0 Hs' H' σ' τ'/\mQ (λ d τ=>(g d τ).bind b) (ds.drop (i+1)) τ'=some o,?_,?_⟩
  ·rintro σ' H' ⟨Hs',τ',r',e'⟩
   exact ⟨ds.length - (i+1),by omega,rfl,hlt,Hs',τ',r',e'⟩
  ·intro x H' y
   obtain ⟨Hs3,g3,rx⟩:=yl x H' y;have r3:=r2.ext' g3;unfold mQ at e3
   cases q:(g ds[i] τ2).bind b with
   | none=>simp only [q] at e3; cases e3
   | some o1 =>
    simp only [q] at e3;obtain ⟨τ3,q1,q2⟩:=bind_some q;refine ⟨Hs1,H0,Hs3,τ2,τ3,ds[i],r3,rx,q1,λ σ' r'=>?_⟩;refine ⟨Hs1,H0,Hs3,τ3,o1,r',q2,?_⟩
    cases o1 with
    | next τ'=>exact λ σ4 Hs4 H4 r4=>⟨Hs4,τ',r4,e3⟩
    | cnt τ'=>exact λ σ4 Hs4 H4 r4=>⟨Hs4,τ',r4,e3⟩
    | brk τ'=>cases e3; exact kk
    | ret s=>cases e3; exact kk
 ·have e0:i=ds.length:=by omega
  subst e0;rw [Xi] at e3;have e':Out.next τ2=o:=by simpa [mQ] using e3
  subst e';exact .inl ⟨hstop _ (Zi _),kk σ2 Hs2 H2 r2⟩
theorem uU (hp:PassesOwn (model X.prog X.w) X.A X.env X.xe) (hc:PTd X c t) (hb:lg X body b):PSd X (.While c body [] pos) (lr t b):=(yr hp hc hb).imp λ E σ H ⟨Hs0,H0,Hs,τ,o,r,e,k⟩=>by
 obtain ⟨n,e⟩:=uy e;refine ⟨λ m σ H=>∃ Hs2 τ2,Rep X.K Hs0 H0 Hs2 H σ τ2/\bM t b m τ2=some o,⟨n,Hs,τ,r,e⟩,?_⟩
 rintro m σ2 H2 ⟨Hs2,τ2,r2,e2⟩
 obtain ⟨fp,hst⟩:=r2.st
 cases m with
 | zero=>simp [bM] at e2
 | succ m =>
  unfold bM at e2
  cases q:t τ2 with
  | none=>rw [q] at e2; cases e2
  | some bb =>
   rw [q] at e2;refine ⟨H0,Hs2,τ2,fp,bb,hst,r2.same,q,λ Hs3 H3 g3=>?_⟩;have r3:=r2.ext' g3
   cases bb with
   | false =>
    have e':Out.next τ2=o:=by simpa using e2
    subst e';exact AF (k σ2 Hs3 H3 r3)
   | true =>
    refine AE ?_
    refine ⟨λ σ' H'=>∃ Hs' τ',Rep X.K Hs0 H0 Hs' H' σ' τ'/\bM t b m τ'=some o,?_,?_⟩
    ·rintro σ' H' ⟨Hs',τ',r',e'⟩
     exact ⟨m,by omega,Hs',τ',r',e'⟩
    ·cases q2:b τ2 with
     | none=>rw [q2] at e2; cases e2
     | some o1 =>
      rw [q2] at e2;refine ⟨Hs0,H0,Hs3,τ2,o1,r3,q2,?_⟩
      cases o1 with
      | next τ'=>exact λ σ4 Hs4 H4 r4=>⟨Hs4,τ',r4,e2⟩
      | cnt τ'=>exact λ σ4 Hs4 H4 r4=>⟨Hs4,τ',r4,e2⟩
      | brk τ'=>cases e2; exact k
      | ret s=>cases e2; exact k
end
def fm (n:Nat) (ds:List D):List Sl:=ds.map .shr++List.replicate (n - ds.length) .no
def bU (n m:Nat) (b:DS) (ds:List D):Option Sl:=if ds.length=m then (match b (fm n ds) with | some (.ret s)=>some s | some (.next _)=>some (.shr .non) | _=>none) else none
def spF (F:List D->Option Sl) (K:W.Frag):Sp:=λ vs H Q _=>∃ Hs ds s,bp Hs H/\Rps K Hs vs ds/\F ds=some s/\∀ v Hs' H',Ext Hs H Hs' H'->SlV K H Hs' H' v s->Q v H'
theorem jA {K:W.Frag} {H0 Hs H:Hp}:∀ {vs:List V} {ds:List D} (k:Nat),Rps K Hs vs ds->StR K H0 Hs H (vs.map some++List.replicate k none) (ds.map .shr++List.replicate k .no) []
 | _,_,0,.nil=>.nil
 | _,_,k+1,.nil=>by
  rw [Z9,Z9];exact .no (jA k .nil)
 | _,_,k,.cons h r=>.shr h (jA k r)
section
variable {P:Program} {w:World} {K:W.Frag} {mg:Str->Option Value} {base:Heap}
theorem Fun.okD {x qual:Str} {st:Stmt} {f:Addr} {fd:FuncData} {N ps:List Str} {k:Nat} {b:DS} (F:Fun K x qual st f fd) (S:dF N ps (aI st))
  (hbody:∀ (cdv:Value) (A:Around) (outer:List Env) (s:Shared) (H:Hp) (E:XK),dQ k (A.deeper (envOfC qual (aI st) s.heap.objs.size f cdv)) ->
    lg (zI CX0 P w K mg base N qual (aI st) f cdv A outer s H E).nox (bL st) b):fj P w K mg base CX0 (k+1) f fd ps (spF (bU N.length ps.length b) K):=by
 refine F.ok S (λ vs H Q E h=>?_) (λ cdv A outer s H vs Q E hr h=>?_)
 ·obtain ⟨Hs,ds,s,sm,r,e,_⟩:=h
  unfold bU at e;split at e
  · rename_i hl
    rw [r.length]; exact hl
  · cases e
 obtain ⟨Hs,ds,sl,sm,r,e,q⟩:=h;refine ⟨_,hbody cdv A outer s H E hr,?_⟩;unfold bU at e;split at e
 ·have h0:Rep K Hs H Hs H (start N vs) (fm N.length ds):=⟨.refl sm,[],by unfold start fm; rw [r.length]; exact jA _ r⟩
  cases q2:b (fm N.length ds) with
  | none=>rw [q2] at e; cases e
  | some o =>
    rw [q2] at e;refine ⟨Hs,H,Hs,_,o,h0,q2,?_⟩
    cases o with
    | next τ =>
     have e':=Zj e;subst e';exact λ σ Hs' H' r'=>q .non Hs' H' r'.ext .non
    | ret s =>
     have e':=Zj e;subst e';exact λ v Hs' H' g rv=>q v Hs' H' g rv
    | brk τ=>cases e
    | cnt τ=>cases e
 · cases e
end
def slD:Sl->Option D
 | .shr d=>some d
 | .own d=>some d
 | .no=>none
def slO:Sl->Option D
 | .own d=>some d
 | _=>none
def dFn (F:List D->Option Sl) (f:DA):DE:=λ τ=>(f τ).bind λ ds=>(F ds).bind slD
def AW (F:List D->Option Sl) (f:DA):DE:=λ τ=>(f τ).bind λ ds=>(F ds).bind slO
theorem SlV.shr {K:W.Frag} {H0 Hs H Hs0:Hp} {v:V} {s:Sl} {d:D} (g:Ext Hs0 H0 Hs H) (h:SlV K H0 Hs H v s) (e:slD s=some d):∃ Hs',Ext Hs0 H0 Hs' H/\Rp K Hs' v d:=by
 cases s with
 | no=>cases h
 | shr d' =>
  have e':=Zj e;subst e';exact ⟨Hs,g,h⟩
 | own d' =>
  have e':d'=d:=Zj e;subst e';obtain ⟨a,rfl,o,z⟩:=h;obtain ⟨ob,h1,h2⟩:=o.rp;refine ⟨upd Hs a ob,⟨g.ss.trans (az o.hid ob),g.sh.frz h1,g.hh,λ b h3 h4=>?_⟩,h2⟩;have ne:b≠a:=λ y=>by subst y; exact h4 z
  rw [ar ne];exact g.fr b h3 h4
section
variable {X:Cx} {e:Expr} {es:List Expr} {x:Str} {p pos:Pos} {k:Nat} {f:Addr} {fd:FuncData} {ps:List Str} {F:List D->Option Sl} {g:DA}
theorem Dy {σ:St} {H:Hp} {Q:VK} (K:W.Frag) (h:rdE K (dFn F g) σ H Q):Bd (spF F K) [] E0 (rdA K g) σ H Q:=by
 obtain ⟨H0,Hs,τ,fp,d,st,sm,e,q⟩:=h;obtain ⟨ds,e1,e2⟩:=bind_some e;obtain ⟨s,e2,e3⟩:=bind_some e2;refine ⟨H0,Hs,τ,fp,ds,st,sm,e1,λ vs Hs1 H1 g1 r1=>?_⟩;refine ⟨Hs1,ds,s,g1.sh,by rw [Z2]; exact r1,e2,λ v Hs2 H2 g2 rv=>?_⟩;obtain ⟨Hs3,g3,r3⟩:=rv.shr g2 e3;exact q v Hs3 H2 (g1.trans g3) r3
theorem Dx (K:W.Frag) (h:rdO K (AW F g) σ H Q):Bd (spF F K) [] E0 (rdA K g) σ H Q:=by
 obtain ⟨H0,Hs,τ,fp,d,st,sm,e,q⟩:=h;obtain ⟨ds,e1,e2⟩:=bind_some e;obtain ⟨s,e2,e3⟩:=bind_some e2;refine ⟨H0,Hs,τ,fp,ds,st,sm,e1,λ vs Hs1 H1 g1 r1=>?_⟩;refine ⟨Hs1,ds,s,g1.sh,by rw [Z2]; exact r1,e2,λ v Hs2 H2 g2 rv=>?_⟩
 cases s with
 | own d' =>
  have e':=Zj e3;subst e';obtain ⟨a,rfl,o,z⟩:=rv;exact q a Hs2 H2 (g1.trans g2) o (g1.hh.free z)
 | shr _=>cases e3
 | no=>cases e3
theorem Cd (Fo:fj X.prog X.w X.K X.mg X.base CX0 k f fd ps (spF F X.K)) (hr:dQ k X.A) (hg:Gl X x) (hm:X.mg x=some (.ref f)) (hk:W.keepIn X.K (.ref f)=true) (hb:Binds X.K fd ps [])
 (ha:PAd X (e::es) g) (hdb:(x == ("__debug__":Str))=false:=by decide) (he:starEach (e::es) X.env=(false,eval e X.env)::starEach es X.env:=by rfl) (hpl:(backTo pos (starEach es X.env)).any (·.1)=false:=by rfl) :
 PEd X (.Call (.Name x p) (e::es) [] pos) (dFn F g):=(fu Fo hr hg hm hk hb .nil jf ha hdb he hpl).imp λ σ H Q h=>Dy X.K h
theorem BO (Fo:fj X.prog X.w X.K X.mg X.base CX0 k f fd ps (spF F X.K)) (hr:dQ k X.A) (hg:Gl X x) (hm:X.mg x=some (.ref f)) (hk:W.keepIn X.K (.ref f)=true) (hb:Binds X.K fd ps [])
 (ha:PAd X (e::es) g) (hdb:(x == ("__debug__":Str))=false:=by decide) (he:starEach (e::es) X.env=(false,eval e X.env)::starEach es X.env:=by rfl) (hpl:(backTo pos (starEach es X.env)).any (·.1)=false:=by rfl) :
 PEo X (.Call (.Name x p) (e::es) [] pos) (AW F g):=(fu Fo hr hg hm hk hb .nil jf ha hdb he hpl).imp λ σ H Q h=>Dx X.K h
end
def pJ (g:D->Option D):List D->Option (List D)
 | []=>some []
 | d::ds=>(g d).bind λ x=>(pJ g ds).bind λ xs=>some (x::xs)
def EJ:Option Sl->Sl
 | some (.shr d)=>.shr d
 | _=>.no
def gq (τ:List Sl) (cs:List (Str×Nat)):List Sl:=cs.map λ p=>EJ τ[p.2]?
def mx (it:DI) (g:DE) (cs:List (Str×Nat)):DE:=λ τ=>(it τ).bind λ ds=>if ds.length<=100000 then (pJ (λ d=>g (.shr d::gq τ cs)) ds).map .lst else none
theorem jB {K:W.Frag} {H0 Hs H:Hp} {σ:St} {τ:List Sl} {fp:List Addr} (st:StR K H0 Hs H σ τ fp):∀ cs:List (Str×Nat),StR K H0 Hs H (aL σ cs) (gq τ cs) []
 | []=>.nil
 | p :: cs=>by
  have ih:=jB st cs;show StR K H0 Hs H ((σ[p.2]?).join::aL σ cs) (EJ τ[p.2]?::gq τ cs) []
  cases q:τ[p.2]? with
  | none=>exact .no ih
  | some sl =>
   cases sl with
   | no=>exact .no ih
   | own d=>exact .no ih
   | shr d =>
    obtain ⟨v,h1,h2⟩:=st.get q;rw [h1];exact .shr h2 ih
section
variable {X:Cx} {e:Expr} {es:List Expr} {pos:Pos}
theorem xf {K:W.Frag} {it:DI} {g:DE} {cs:List (Str×Nat)} {σ:St} {H:Hp} {Q:VK} (h:rdO K (mx it g cs) σ H Q):Bc (rdI K it) (rdE K g) cs σ H Q:=by
 obtain ⟨H0,Hs,τ,fp,d,st,sm,e,k⟩:=h;obtain ⟨ds,e1,e2⟩:=bind_some e;split at e2
 ·rename_i hl
  obtain ⟨full,e3,rfl⟩:=Zm e2;refine ⟨H0,Hs,τ,fp,ds,st,sm,e1,λ J Hs1 H1 g1 hJ=>?_⟩;refine ⟨λ i m ys H'=>m=ds.length - i/\i<=ds.length/\∃ Hs2 es rest,Ext Hs1 H1 Hs2 H'/\Rps K Hs2 ys es/\es.length=i/\pJ (λ d=>g (.shr d::gq τ cs)) (ds.drop i)=some rest/\es++rest=full,⟨ds.length,by simp,Z1 _,Hs1,[],full,.refl g1.sh,.nil,rfl,by simpa using e3,rfl⟩,?_⟩
  rintro i m ys H2 ⟨rfl,hi,Hs2,es,rest,g2,ry,ley,e4,e5⟩
  obtain ⟨hgo,hstop⟩:=hJ Hs2 H2 g2.ss g2.sh;have ly:ys.length=i:=by rw [ry.length,ley]
  by_cases hlt:i < ds.length
  ·have ed:=Ym hlt
   rw [ed] at e4;obtain ⟨x,q1,q2⟩:=bind_some e4;obtain ⟨xs,q3,q4⟩:=bind_some q2;have eq:=Zj q4;subst eq;obtain ⟨go,yl⟩:=hgo i ds[i] (List.getElem?_eq_getElem hlt);refine .inr ⟨go,by rw [ly]; exact le5 (by omega),λ v H3 y=>?_⟩;obtain ⟨Hs3,g3,rv⟩:=yl v H3 y;have g13:=(g1.trans g2).trans g3;refine ⟨H0,Hs3,.shr ds[i]::gq τ cs,[],x,.shr rv (jB (st.ext g13) cs),g3.sh,q1,λ v4 Hs4 H4 g4 r4=>?_⟩;exact ⟨ds.length - (i+1),by omega,rfl,hlt,Hs4,es++[x],xs,(g2.trans g3).trans g4,((ry.same g3.ss).same g4.ss).append (.cons r4 .nil),by simp [ley],q3,by rw [<- e5]; simp⟩
  ·have e0:i=ds.length:=by omega
   subst e0;rw [Xi] at e4;have er:=Zj e4;subst er;rw [Z2] at e5;subst e5;refine .inl ⟨hstop _ (Zi _),by rw [ly]; exact tW hl,λ p hp=>?_⟩;have g12:=g1.trans g2;exact k p Hs2 _ ⟨g12.ss,g12.sh.trans (az hp _),g12.hh.trans (az hp _),g12.fr⟩ (.lst av (g12.sh.free hp) ry) (g12.hh.free hp)
 · cases e2
theorem BN (hc:X.calm=true) (O:cw X scope cl x cs) (hi:PId X (.Name x px) iter it)
 (he:∀ s H fp C,PEd (bO X scope cl (x::cs.map (·.1)) s H fp C) elt g) (hs:∀ x,foldedSetIterable iter X.env x=pure x:=by intro _; rfl) :
 PEo X (.ListComp elt [⟨.Name x px,iter,[],0⟩] scope pos) (mx it g cs):=(B4 (te:=rdE X.K g) hc O hi he hs).imp λ σ H Q h=>xf h
end
theorem rH {b:D->DS} {o:Out} (P:Nat->List Sl->Prop):∀ {ds:List D} {τ:List Sl} (i:Nat),P i τ->(∀ j d τ,ds[j]?=some d->P (i+j) τ->∃ τ',b d τ=some (.next τ')/\P (i+j+1) τ')->∃ τ',mQ b ds τ=some (.next τ')/\P (i+ds.length) τ'
 | [],τ,i,h,_=>⟨τ,rfl,h⟩
 | d::ds,τ,i,h,hs=>by
  obtain ⟨τ1,e1,p1⟩:=hs 0 d τ rfl h
  obtain ⟨τ2,e2,p2⟩:=rH (o:=o) P (ds:=ds) (τ:=τ1) (i+1) p1 λ j d' τ' hj p=>by
   have:=hs (j+1) d' τ' (by simpa using hj) (by rw [show i+(j+1)=i+1+j by omega]; exact p);rw [show i+(j+1)+1=i+1+j+1 by omega] at this;exact this
  refine ⟨τ2,?_,?_⟩
  · simp only [mQ,e1]; exact e2
  · rw [Zz,show i+(ds.length+1)=i+1+ds.length by omega]; exact p2
end L2
namespace L2
open PySem PySem.Spec PyProof.Rows
section
variable {X:Cx} {e:Expr} {es:List Expr} {pos:Pos}
theorem uV (hN:X.N.Nodup) (hy:X.N[i]?=some y) (hx:Loc X.env.scope y)
  (hc:X.calm=true) (O:cw X scope cl x cs) (hi:PId X (.Name x px) iter it)
  (he:∀ s H fp C,PEd (bO X scope cl (x::cs.map (·.1)) s H fp C) elt g) (hs:∀ x,foldedSetIterable iter X.env x=pure x:=by intro _; rfl)
  (hsw:swapsWith (.ListComp elt [⟨.Name x px,iter,[],0⟩] scope pos) (some (.Name y py)) spos.line X.env=pure true:=by rfl)
  (hf:X.fn y=true\/X.env.scope.names.lookup y=some .local:=by first | exact .inl rfl | exact .inr rfl | assumption) :
  PSd X (.Assign [.Name y py] (.ListComp elt [⟨.Name x px,iter,[],0⟩] scope pos) spos) (qB i (mx it g cs)):=(uX (te:=rdE X.K g) hN hy hx hc O hi he hs hsw hf).imp λ E σ H ⟨Hs0,H0,Hs,τ,o,r,e,k⟩=>by
 obtain ⟨d,e1,rfl⟩:=Zm e;obtain ⟨fp,h⟩:=r.st;refine xf ⟨H0,Hs,τ,fp,d,h,r.same,e1,λ a Hs' H' g1 rv z=>?_⟩;obtain ⟨Hs2,g2,r2⟩:=SlV.shr (s:=.own d) g1 ⟨a,rfl,rv,z⟩ rfl;obtain ⟨fp',_,h'⟩:=(h.ext g2).ur r2;exact k _ Hs2 H' ⟨r.ext.trans g2,fp',h'⟩
end
end L2
end
section
namespace L2
open PySem PySem.Spec PyProof.Rows
def D6 (C:Addr) (f:Str):D->Option D
 | .obj C' fs=>if C'=C then fs.lookup f else none
 | _=>none
theorem RpF.look {K:W.Frag} {H:Hp} {f:Str} {d:D}:∀ {fs:List (Str×V)} {ds:List (Str×D)},RpF K H fs ds->ds.lookup f=some d->∃ v,fs.lookup f=some v/\Rp K H v d
 | _,_,.nil,e=>by simp at e
 | _,_,@RpF.cons _ _ k x d' xs ds h r,e=>by
  rw [List.lookup_cons] at e ⊢
  by_cases q:f == k
  ·simp only [q] at e ⊢
   cases e;exact ⟨x,rfl,h⟩
  ·simp only [Bool.not_eq_true] at q
   simp only [q] at e ⊢;exact RpF.look r e
theorem RpF.Gv {K:W.Frag} {H:Hp} {f:Str}:∀ {fs:List (Str×V)} {ds:List (Str×D)},RpF K H fs ds->ds.lookup f=none->fs.lookup f=none
 | _,_,.nil,e=>rfl
 | _,_,@RpF.cons _ _ k x d' xs ds h r,e=>by
  rw [List.lookup_cons] at e ⊢
  by_cases q:f == k
  · simp only [q] at e; cases e
  ·simp only [Bool.not_eq_true] at q
   simp only [q] at e ⊢;exact RpF.Gv r e
theorem RpF.zip {K:W.Frag} {H:Hp}:∀ {ns:List Str} {vs:List V} {ds:List D},Rps K H vs ds->RpF K H (ns.zip vs) (ns.zip ds)
 | [],_,_,_=>by simp; exact .nil
 | _::_,_,_,.nil=>by simp; exact .nil
 | n::ns,_,_,.cons h r=>by
  rw [List.zip_cons_cons,List.zip_cons_cons];exact .cons h (RpF.zip r)
section
variable {X:Cx} {e o:Expr} {es:List Expr} {x m f:Str} {p pos apos:Pos} {k:Nat} {C fa:Addr} {fd:FuncData} {ps:List Str} {F:List D->Option Sl} {g:DE} {ga:DA}
theorem Fv (c:Cls X.K C) (n:b7 X.K C f) (he:PEd X e g) (hb:attributeBase e f X.env (eval e X.env)=eval e X.env:=by rfl):PEd X (.Attribute e f pos) (dUn (D6 C f) g) :=
 (Al he hb).imp λ σ H Q ⟨H0,Hs,τ,fp,d,st,sm,e,k⟩=>by
   obtain ⟨x,e1,e2⟩:=bind_some e;refine ⟨H0,Hs,τ,fp,x,st,sm,e1,λ v Hs' H' g' r=>?_⟩
   cases r with
   | @obj a C' dx fs ds h r =>
    simp only [D6] at e2;split at e2
    ·rename_i hc
     subst hc;obtain ⟨v,h1,h2⟩:=r.look e2;exact ⟨a,C',dx,fs,v,rfl,g'.sh _ _ h,c,n,h1,k v Hs' H' g' h2⟩
    · cases e2
   | _=>exact nn e2
def k8 (C:Addr) (m:Str) (F:List D->Option Sl) (o:DE) (g:DA):DE:=λ τ=>(o τ).bind λ x=>(g τ).bind λ ds=>match x with
 | .obj C' fs=>if C'=C/\fs.lookup m=none then (F (x::ds)).bind slD else none
 | _=>none
theorem C0 (K:W.Frag) (h:rdE K (k8 C m F g ga) σ H Q):EA C m (spF F K) [] E0 (rdE K g) (rdA K ga) σ H Q:=by
 obtain ⟨H0,Hs,τ,fp,d,st,sm,e,q⟩:=h;obtain ⟨x,e1,e2⟩:=bind_some e;obtain ⟨ds,e3,e4⟩:=bind_some e2;refine ⟨H0,Hs,τ,fp,x,st,sm,e1,λ v Hs1 H1 g1 r1=>?_⟩
 cases r1 with
 | @obj a C' dx fs dd h r =>
  simp only at e4;split at e4
  ·rename_i hc
   obtain ⟨hc1,hc2⟩:=hc;subst hc1;obtain ⟨s,e5,e6⟩:=bind_some e4;refine ⟨a,dx,fs,rfl,g1.sh _ _ h,r.Gv hc2,?_⟩;refine ⟨H0,Hs1,τ,fp,ds,st.ext g1,g1.sh,e3,λ vs Hs2 H2 g2 r2=>?_⟩;refine ⟨Hs2,_,s,g2.sh,.cons ((Rp.obj h r).same g2.ss) (by rw [Z2]; exact r2),e5,λ v Hs3 H3 g3 rv=>?_⟩;obtain ⟨Hs4,g4,r4⟩:=rv.shr g3 e6;exact q v Hs4 H3 ((g1.trans g2).trans g4) r4
  · cases e4
 | _=>exact nn e4
theorem B7 (he:PEd X o g) (c:Cls X.K C) (hm:El X.K C m fa) (Fo:fj X.prog X.w X.K X.mg X.base CX0 k fa fd ps (spF F X.K)) (hr:dQ k X.A) (hb:Binds X.K fd ps []) (ha:PAd X (e::es) ga)
 (hst:starEach (e::es) X.env=(false,eval e X.env)::starEach es X.env:=by rfl) (hpl:(backTo pos (starEach es X.env)).any (·.1)=false:=by rfl)
 (ht:eval (.Call (.Attribute o m apos) (e::es) [] pos) X.env=(do
   let ov <- eval o X.env
   standAt apos.atName
   let (f,first) <- holding [ov] (getMethod ov m pl)
   callWith pos f first (backTo pos (starEach (e::es) X.env)) (backToKw pos (keywordEach [] X.env))):=by rfl) :
 PEd X (.Call (.Attribute o m apos) (e::es) [] pos) (k8 C m F g ga):=(vj he c hm Fo hr hb .nil jf ha hst hpl ht).imp λ σ H Q h=>C0 X.K h
def uq (C:Addr) (ns:List Str):Sp:=λ vs H Q _=>∃ x ws dx,vs=.ref x::ws/\ws.length=ns.length/\H x=some (.ins C dx [])/\Q .non (upd H x (.ins C dx (ns.zip ws)))
def zG (C:Addr) (ns:List Str) (g:DA):DE:=λ τ=>(g τ).bind λ ds=>if ds.length=ns.length then some (.obj C (ns.zip ds)) else none
theorem xQ {H:Hp} {p:Addr} {a b:HO}:upd (upd H p a) p b=upd H p b:=A2
theorem B9 (M:Mk X.K C fa) (Fo:fj X.prog X.w X.K X.mg X.base CX0 k fa fd ps (uq C ns)) (hr:dQ (k+1) X.A) (hg:Gl X x) (hm:X.mg x=some (.ref C)) (hb:Binds X.K fd ps [])
  (ha:PAd X (e::es) ga) (hdb:(x == ("__debug__":Str))=false:=by decide) (he:starEach (e::es) X.env=(false,eval e X.env)::starEach es X.env:=by rfl) (hpl:(backTo pos (starEach es X.env)).any (·.1)=false:=by rfl) :
  PEd X (.Call (.Name x p) (e::es) [] pos) (zG C ns ga):=(vk M Fo hr hg hm hb .nil jf ha hdb he hpl).imp λ σ H Q ⟨H0,Hs,τ,fp,d,st,sm,e,q⟩=>by
 obtain ⟨ds,e1,e2⟩:=bind_some e;split at e2
 ·rename_i hl
  have ed:=Zj e2;subst ed;refine ⟨H0,Hs,τ,fp,ds,st,sm,e1,λ vs Hs1 H1 g1 r1 x dx hx hdx ne=>?_⟩;refine ⟨x,vs,dx,by rw [Z2],by rw [r1.length]; exact hl,av,rfl,?_⟩;rw [xQ];have g2:=Ext.new g1.sh hdx (.own x);have hx':upd H1 dx (.own x) x=none:=by rw [ar (Ne.symm ne)]; exact hx
  have g3:=Ext.new g2.sh hx' (.ins C dx (ns.zip vs));exact q _ _ _ ((g1.trans g2).trans g3) (.obj av (RpF.zip ((r1.same g2.ss).same g3.ss)))
 · cases e2
end
def eE:List D->Option (List Int)
 | []=>some []
 | .int i::ds=>(eE ds).map (i::·)
 | _=>none
theorem nL:∀ {ds:List D} {ns:List Int},eE ds=some ns->ds=ns.map .int
 | [],ns,h=>by simp [eE] at h; subst h; rfl
 | .int i::ds,ns,h=>by
  obtain ⟨m,h1,rfl⟩:=Zm (show Option.map _ (eE ds)=some ns from h);rw [nL h1];rfl
 | .non::_,_,h=>by simp [eE] at h
 | .bl _::_,_,h=>by simp [eE] at h
 | .str _::_,_,h=>by simp [eE] at h
 | .ty _::_,_,h=>by simp [eE] at h
 | .tup _::_,_,h=>by simp [eE] at h
 | .lst _::_,_,h=>by simp [eE] at h
 | .fz _::_,_,h=>by simp [eE] at h
 | .dct _::_,_,h=>by simp [eE] at h
 | .obj _ _::_,_,h=>by simp [eE] at h
 | .cls _::_,_,h=>by simp [eE] at h
 | .dfz _::_,_,h=>by simp [eE] at h
theorem Rps.wz {K:W.Frag} {H:Hp}:∀ {xs:List V} {ns:List Int},Rps K H xs (ns.map .int)->xs=ns.map V.int
 | _,[],.nil=>rfl
 | _,n::ns,.cons h r=>by
  cases h;rw [Rps.wz r];rfl
theorem rJ {P:Program} {w:World} {K:W.Frag} {mg:Str->Option Value} {base:Heap} {f:Addr} {fd:FuncData} {ps:List Str} {k:Nat}:fj P w K mg base CX0 k f fd ps (spF (λ _=>none) K) :=
 ⟨λ _ _ _ _ ⟨_,_,_,_,_,e,_⟩=>(nomatch e),λ _ _ _ _ _ _ _ _ _ _ _ _ _ ⟨_,_,_,_,_,e,_⟩=>(nomatch e)⟩
section
variable {prog:Program} {w:World} {A:Around} {R:Result->Shared->Prop} {s:Shared}
theorem mz (I:Nat->Shared->Prop)
  (turn:∀ n s,I n s->wpAny (model prog w) A (pyNext it) (λ r s₁=>match r with
    | none=>R (.ok .next) s₁
    | some v=>wpAny (model prog w) A (letOwnedTupleGo target it v) (λ _ s₁'=>wpAny (model prog w) A (assign target env v) (λ _ s₂=>wpAny (model prog w) A (isTrue cnd env (eval cnd env)) (λ ok s₂'=>if ok=true then wpAny (model prog w) A (eval elt env) (λ x s₃ =>
     wpAny (model prog w) A (call (.builtin "list.append") [acc,x]) (λ _ s₄=>∃ m,m < n/\I m s₄) (λ _ _=>False) s₃) (λ _ _=>False) s₂' else ∃ m,m < n/\I m s₂') (λ _ _=>False) s₂) (λ _ _=>False) s₁') (λ _ _=>False) s₁) (λ _ _=>False) s)
  (n:Nat) (h:I n s) :
  codeAny (model prog w) A (.compLoop (.ListComp elt [⟨target,iter,[cnd],0⟩] scope pos) 0 it acc env) R s:=by
 refine codeAny_loop rfl I (λ n s hI=>?_) n h;refine wpAny_noted ?_
 rw [compTurn_list];refine Zu (wpAny_standAt (Zu (Ys (turn n s hI) (λ r s₁ h₁=>?_) λ _ _ h'=>h'.elim)))
 cases r with
 | none=>exact Z7 h₁
 | some v =>
  refine Zu (Ys h₁ (λ _ s₁' h₁'=>?_) λ _ _ h'=>h'.elim);refine Zu (Ys h₁' (λ _ s₂ h₂=>?_) λ _ _ h'=>h'.elim);refine Zu (Ys (wpAny_tests_one h₂) (λ ok s₃ h₃=>?_) λ _ _ h'=>h'.elim)
  cases ok with
  | false =>
    rw [if_neg Zf] at h₃
    rw [if_neg Zf];exact Zu (Z7 (Z7 ⟨rfl,h₃⟩))
  | true =>
    rw [if_pos rfl] at h₃
    rw [if_pos rfl];exact Zu (Zu (Ys h₃ (λ x s₄ h₄=>Zu (Ys h₄ (λ _ s₅ h₅=>Z7 (Z7 ⟨rfl,h₅⟩)) λ _ _ h'=>h'.elim)) λ _ _ h'=>h'.elim))
end
def Bb (J:It) (tt:TT) (te:TE) (cs:List (Str×Nat)) (σ:St) (Q:VK) (H1:Hp):Prop:=∃ W:Nat->Nat->List V->Hp->Prop,(∃ m,W 0 m [] H1)/\∀ i m ys H',W i m ys H' ->
 (J.stop i H'/\ys.length<=sizeLine/\∀ p,H' p=none->Q (.ref p) (upd H' p (.lst ys))) \/
 (J.go i H'/\ys.length < sizeLine/\∀ v H2,J.yld i H' v H2->tt (some v::aL σ cs) H2 λ b H3=>if b=true then te (some v::aL σ cs) H3 λ y H4=>∃ m',m' < m/\W (i+1) m' (ys++[y]) H4 else ∃ m',m' < m/\W (i+1) m' ys H3)
def zY (wi:TI) (tt:TT) (te:TE) (cs:List (Str×Nat)):TE:=λ σ H Q=>wi σ H λ J H1=>Bb J tt te cs σ Q H1
section
variable {X:Cx}
theorem qd {elt iter:Expr} {x:Str} {px pos:Pos} {scope:Scope} {cl:List (Str×Addr)} {cs:List (Str×Nat)} {te:TE} {tt:TT} {cnd:Expr} {pins:List (Addr×Obj)} {σ:St} {H:Hp} {s:Shared} {Q:VK} {it:Addr} {fp:List Addr} {tn:Nat->Heap->Prop} {J:It}
  {RR:Value->Addr->Result->Shared->Prop} {E:Value->Shared->Prop} (hc:X.calm=true) (O:cw X scope cl x cs) (hcd:∀ s H fp C,PT (bO X scope cl (x::cs.map (·.1)) s H fp C) cnd tt) (he:∀ s H fp C,PE (bO X scope cl (x::cs.map (·.1)) s H fp C) elt te)
  (I:Inv X pins σ H s) (T:Turn X.prog X.w X.K (.Name x px) J fp it tn) (st:tn 0 s.heap) (f2:∀ b ∈ fp,tT X pins H b)
  (h : ∃ W:Nat->Nat->List V->Hp->Prop,(∃ m,W 0 m [] H)/\∀ i m ys H',W i m ys H' ->
    (J.stop i H'/\ys.length<=sizeLine/\∀ p,H' p=none->Q (.ref p) (upd H' p (.lst ys))) \/
    (J.go i H'/\ys.length < sizeLine/\∀ v H2,J.yld i H' v H2->tt (some v::aL σ cs) H2 λ b H3=>if b=true then te (some v::aL σ cs) H3 λ y H4=>∃ m',m' < m/\W (i+1) m' (ys++[y]) H4 else ∃ m',m' < m/\W (i+1) m' ys H3))
  (hRR:∀ D C s' H' ys,s.heap.objs.size<=D->s.heap.objs.size<=C->D≠C->(∃ m,s'.heap.Ns C m)->Inv X pins σ (upd H' D (.lst ys)) s'->H' C=none->Q (.ref D) (upd H' D (.lst ys))->RR (.ref D) C (.ok .next) s') :
  wpAny (model X.prog X.w) X.A (newList []) (λ acc s₃=>wpAny (model X.prog X.w) X.A (newFunctionEnv scope X.env.globals cl [] X.env.qual none .none (some X.env)) (λ cenv s₄ =>
    codeAny (model X.prog X.w) X.A (.compStart (.ListComp elt [⟨.Name x px,iter,[cnd],0⟩] scope pos) 0 (.ref it) acc { cenv with scope:=relabel scope X.env }) (RR acc cenv.locals) s₄) E s₃) E s:=by
 obtain ⟨W,⟨m0,w0⟩,turn⟩:=h;refine wpAny_newObj_type (wpAny_newFunctionEnv O.qW (by intro y hy; simp at hy) (λ h₁ hns₁ hsb₁=>?_) O.kind);generalize hH2:s.heap.push { cls:=.type "list",dict:=none,data:=.seq ([]:List Value).toArray }=H2 at hns₁ hsb₁ ⊢
 have hC:H2.objs.size=s.heap.objs.size+1:=by rw [<- hH2,Heap.size_push]
 have hDC:s.heap.objs.size≠H2.objs.size:=by rw [hC]; exact Zx (Xu _)
 have hCle:s.heap.objs.size<=H2.objs.size:=by rw [hC]; exact Nat.le_succ _
 have neC:∀ b,b < s.heap.objs.size->b≠H2.objs.size:=λ b hb=>by rw [hC]; exact Zx (Nat.lt_succ_of_lt hb)
 have old:∀ b o,s.heap.get? b=some o->h₁.get? b=some o:=λ b o e=>hsb₁.extBut b o (neC b (Zr e)) (Heap.get?_push_of_some _ (hH2 ▸ Heap.get?_push_of_some _ e))
 have hacc:=hsb₁.extBut _ _ hDC (Heap.get?_push_of_some _ (hH2 ▸ Heap.get?_push_size _ rfl))
 have there:∀ b ∈ fp,b < s.heap.objs.size:=λ b hb=>by
  obtain ⟨o,e,_⟩:=T.obj _ _ st b hb;exact Zr e
 have hns:h₁.Ns H2.objs.size λ _=>none:=by
  have e:(λ x=>List.lookup x ([]:List (Str×Value)).reverse)=λ _=>none:=by funext y; rfl
  rw [e] at hns₁
  exact hns₁
 generalize hD:s.heap.objs.size=D at hDC hCle hacc;generalize hCC:H2.objs.size=C at hDC hCle hns ⊢;have FD:=I.t4 (b:=D) (by rw [<- hD]; exact Zi _) (I.hok.fresh (by rw [<- hD]; exact Zi _));have nfpD:∀ b ∈ fp,b≠D:=λ b hb=>by rw [<- hD]; exact Zx (there b hb)
 have nfpC:∀ b ∈ fp,b≠C:=λ b hb=>Zx (Zy (there b hb) (by rw [hD]; exact hCle))
 have st1:=T.keep _ _ _ st λ b _ o e=>old b o e
 have I1:Inv (bO X scope cl (x::cs.map (·.1)) s H fp C) [] (none::aL σ cs) H { s with heap:=h₁,toks:=s.toks+([]:List (Str×Value)).length } :=
  lO O I f2 there (by rw [hD]; exact hCle) old hns
 generalize hY:bO X scope cl (x::cs.map (·.1)) s H fp C=Y at I1
 have pgx:PG Y (.Name x px) (nN 0):=by
  subst hY;exact gB O.nd rfl (.inl (Xs O.own)) (.inr (Xs O.own))
 have peY:PE Y elt te:=by subst hY; exact he _ _ _ _
 have ptY:PT Y cnd tt:=by subst hY; exact hcd _ _ _ _
 have Yx:Y.prog=X.prog/\Y.w=X.w/\Y.K=X.K/\Y.A=X.A/\Y.env=compEnvC scope cl C X.env/\Y.calm=X.calm/\Y.xe=(λ _ _=>False)/\Y.pn=[]/\Y.ex=fp/\Y.fs=frs X.stack/\Y.s₀=s/\Y.H₀=H:=by subst hY; exact ⟨rfl,rfl,rfl,rfl,rfl,rfl,rfl,rfl,rfl,rfl,rfl,rfl⟩
 obtain ⟨y1,y2,y3,y4,y5,y6,y7,y8,y9,y10,y11,y12⟩:=Yx;have nstk:∀ b,b≠X.env.locals->b ∉ X.fs->b ∉ Y.fs:=λ b h1 h2 z=>by rw [y10] at z; exact (Zl.mp (I.mY b z)).elim h1 h2
 have yl:Y.env.locals=C:=by rw [y5]; rfl
 have yc:∀ z c,Y.env.cells.lookup z=some c->X.env.cells.lookup z=some c:=λ z c e=>by rw [y5] at e; exact O.sub z c e
 have stat:∀ {ps:List (Addr×Obj)} {H':Hp},(∀ b ∈ fp,H' b=none)->(∀ p ∈ ps,p.1=D)->∀ b ∈ fp,tT Y ps H' b:=λ {ps H'} hn hp b hb =>
  ⟨hn b hb,by rw [yl]; exact nfpC b hb,nstk b (f2 b hb).2.1 (f2 b hb).2.2.1,.inl (by rw [y9]; exact hb),λ z c e=>(f2 b hb).2.2.2.2.1 z c (yc z c e),λ p hq=>by
    rw [y8,List.nil_append] at hq;rw [hp p hq]
    exact Ne.symm (nfpD b hb)⟩
 have pinD:∀ {σ':St} {H':Hp} {s':Shared} {ob:Obj},Inv Y [] σ' H' s'->H' D=none->s'.heap.get? D=some ob->(∀ v,ob.data≠.cell v)->Inv Y [(D,ob)] σ' H' s':=λ {σ' H' s' ob} I' hn e hd =>
  I'.gA λ p hp=>by
    have e1:p=(D,ob):=by simpa using hp
    subst e1;exact ⟨e,hn,by rw [yl]; exact hDC,nstk D FD.2.1 FD.2.2.1,hd⟩
 have loop:∀ s₃:Shared,s₃={ s with heap:=h₁,toks:=s.toks+([]:List (Str×Value)).length } ->
    codeAny (model X.prog X.w) X.A (.compLoop (.ListComp elt [⟨.Name x px,iter,[cnd],0⟩] scope pos) 0 (.ref it) (.ref D) (compEnvC scope cl C X.env)) (RR (.ref D) C) s₃:=by
  rintro s₃ rfl
  refine mz (λ n s'=>∃ i o H' ys its k,Inv Y [] (o::aL σ cs) H' s'/\tn i s'.heap/\(∀ b ∈ fp,H' b=none)/\H' D=none/\s'.heap.get? D=some { cls:=.type "list",data:=.seq (its:List Value).toArray k }/\bH ys its/\W i n ys H') ?_ m0
    ⟨0,none,H,[],[],0,I1,st1,λ b hb=>(f2 b hb).1,FD.1,hacc,.nil,w0⟩
  rintro n s3 ⟨i,o,H3,ys,its,k,I3,st3,fr3,frD,e3,vs3,w3⟩
  have I3p:=pinD I3 frD e3 (by intro v z; cases z)
  have onlyD:∀ p ∈ [(D,({ cls:=.type "list",data:=.seq its.toArray k }:Obj))],p.1=D:=λ p hp=>by
    have e1:=Zn.mp hp;rw [e1]
  rcases turn i n ys H3 w3 with ⟨stop,hz,q⟩ | ⟨go,hz,step⟩
  · have dn:=T.done Y y1 y2 y3 (by rw [y6]; exact hc) i _ s3 (o::aL σ cs) H3 (λ _ _=>False) I3p (stat fr3 onlyD) st3 stop
    rw [y4] at dn;refine thn dn λ r s4 ⟨hr,I4⟩=>?_
    subst hr;obtain ⟨e4,_⟩:=I4.pin (D,_) (Zc _ (Zn.mpr rfl));have b4:=I4.base;rw [y9,y10,y11,y12] at b4;have hk4:=I4.hok;rw [y1,y2] at hk4;have hCn:H3 C=none:=by have:=I4.free; rw [yl] at this; exact this
    refine hRR D C s4 H3 ys (by rw [<- hD]; exact Zi _) (by rw [hD]; exact hCle) hDC (by obtain ⟨m,hm,_⟩:=I4.loc; rw [yl] at hm; exact ⟨m,hm⟩) ?_ hCn (q D frD);have neD:∀ b o,s.heap.get? b=some o->b≠D:=λ b o e=>by rw [<- hD]; exact Zx (Zr e)
    have neDH:∀ b u,H b=some u->b≠D:=λ b u e=>by rw [<- hD]; exact Zx (I.hok.lt e)
    refine I.Hc (by have:=I4.os; rw [y11] at this; exact this) ⟨b4.keep,b4.slot,λ b o e n hx=>?_,b4.there,λ b xs e=>?_,λ b o u e=>?_,λ b ps e=>?_⟩ (λ b u e=>?_) I4.bare λ b hb=>?_
    · rw [ar (neD b o e)]; exact b4.free b o e n hx
    · rw [ar (neDH b _ e)]; exact b4.ud b xs e
    · rw [ar (neDH b _ e)]; exact b4.tY b o u e
    · rw [ar (neDH b _ e)]; exact b4.ug b ps e
    ·have t1:∀ c u,H3 c=some u->upd H3 D (.lst ys) c=some u:=λ c u z=>by
      rw [ar (λ zz=>by rw [zz,frD] at z; cases z)];exact z
     by_cases hb:b=D
     ·subst hb
      rw [av] at e;cases e;exact ⟨hz,its,k,vs3,e4⟩
     ·rw [ar hb] at e
      exact (hk4 b u e).xF (λ _ _ _ z=>z) (λ c z=>t1 c _ z) λ c xs z=>t1 c _ z
    · exact ⟨(f2 b hb).2.2.2.1,(f2 b hb).2.1,(f2 b hb).2.2.2.2.1,(f2 b hb).2.2.2.2.2⟩
  · have im:=T.item Y y1 y2 y3 (by rw [y6]; exact hc) i _ s3 (o::aL σ cs) H3 (λ _ _=>False) I3p (stat fr3 onlyD) st3 go
    rw [y4] at im;refine thn im λ r s4 ⟨u,hr,h4⟩=>?_
    subst hr;refine thn h4 λ _ s5 ⟨v,H5,I5,r5,y5',st5,fr5⟩=>?_
    have I5':=I5.pinned (stat fr5 onlyD) (T.obj _ _ st5);have as:=pgx _ s5 (o::aL σ cs) H5 v u _ I5' r5 (show nN 0 v (o::aL σ cs) H5 (λ σ' H'=>σ'=some v::aL σ cs/\H'=H5) from ⟨rfl,rfl⟩);rw [y1,y2,y4,y5,y7] at as;refine thn as λ _ s6 ⟨σ6,H6,I6,e6,e6'⟩=>?_
    subst e6 e6';have ts:=ptY _ s6 _ H6 _ I6 (step v H6 y5');rw [y1,y2,y4,y5,y7] at ts;refine thn ts λ bb s7 ⟨H7,I7,q7⟩=>?_
    have fpk:∀ b ∈ fp,∀ o,s5.heap.get? b=some o->s7.heap.get? b=some o/\H7 b=none:=λ b hb o e=>by
     obtain ⟨z1,z2,_⟩:=I7.pin (b,o) (Zc _ (Zc _ (eD hb e)));exact ⟨z1,z2⟩
    cases bb with
    | false =>
     obtain ⟨m',hm',w7⟩:=(by rw [if_neg Zf] at q7; exact q7)
     rw [if_neg Zf];obtain ⟨e7,n7,_⟩:=I7.pin (D,_) (Zc _ (Zp _ (Zn.mpr rfl)));have I7n:Inv Y [] (some v::aL σ cs) H7 s7:=I7.gA λ p hp=>absurd hp (by simp)
     refine ⟨m',hm',i+1,some v,H7,ys,its,k,I7n,T.keep _ _ _ st5 λ b hb o e=>(fpk b hb o e).1,λ b hb=>?_,n7,e7,vs3,w7⟩;obtain ⟨o',e',_⟩:=T.obj _ _ st5 b hb;exact (fpk b hb o' e').2
    | true =>
    rw [if_pos rfl];have q7':=q7;rw [if_pos rfl] at q7';have el:=peY _ s7 _ H7 _ I7 q7';rw [y1,y2,y4,y5,y7] at el;refine thn el λ u8 s8 ⟨y8',H8,I8,r8,m',hm',w8⟩=>?_
    obtain ⟨e8,n8,_⟩:=I8.pin (D,_) (Zc _ (Zp _ (Zn.mpr rfl)));have hl3:=vs3.length;refine Xr F.slot_list_append ⟨_,e8,rfl⟩ F.entry_list_append (F.args_list_append_2 _ _) (PySem.list_append D its.toArray k u8 (by rw [Zs]; omega)) ⟨e8,?_⟩;obtain ⟨k',up⟩:∃ k',(s8.heap.update D (Obj.mapSeq (·.push u8))).get? D=some { cls:=.type "list",data:=.seq (its.toArray.push u8) k' }:=⟨_,PySem.IsL.update e8 (·.push u8)⟩
    have fpk8:∀ b ∈ fp,∀ o,s5.heap.get? b=some o->s8.heap.get? b=some o/\H8 b=none:=λ b hb o e=>by
     obtain ⟨z1,z2,_⟩:=I8.pin (b,o) (Zc _ (Zc _ (eD hb e)));exact ⟨z1,z2⟩
    have I8n:Inv Y [] (some v::aL σ cs) H8 s8:=I8.gA λ p hp=>absurd hp (by simp)
    refine ⟨m',hm',i+1,some v,H8,ys++[y8'],its++[u8],k',?_,?_,?_,n8,?_,vs3.append (.cons r8 .nil),w8⟩
    ·refine I8n.turned (λ b o hb e=>(Heap.get?_update_other s8.heap (Obj.mapSeq (·.push u8)) (Ne.symm hb)).trans e) n8 (by rw [yl]; exact hDC) (.inr (by rw [y11,<- hD]; exact Zi _)) (λ z c e=>FD.2.2.2.2.1 z c (yc z c e)) λ p hp=>?_
     rw [y8] at hp;exact absurd hp (by simp)
    ·refine T.keep _ _ _ st5 λ b hb o e=>?_
     exact (Heap.get?_update_other s8.heap (Obj.mapSeq (·.push u8)) (Ne.symm (nfpD b hb))).trans (fpk8 b hb o e).1
    ·intro b hb
     obtain ⟨o',e',_⟩:=T.obj _ _ st5 b hb;exact (fpk8 b hb o' e').2
    ·rw [List.push_toArray] at up
     exact up
 exact codeAny_compStart_list (loop _ rfl) (T.self _ 0 _ _ _ st1 (loop _ rfl))
theorem qL {elt iter:Expr} {x:Str} {px pos:Pos} {scope:Scope} {cl:List (Str×Addr)} {cs:List (Str×Nat)} {wi:TI} {te:TE} {tt:TT} {cnd:Expr} (hc:X.calm=true) (O:cw X scope cl x cs) (hi:PI X (.Name x px) iter wi)
  (hcd:∀ s H fp C,PT (bO X scope cl (x::cs.map (·.1)) s H fp C) cnd tt) (he:∀ s H fp C,PE (bO X scope cl (x::cs.map (·.1)) s H fp C) elt te) (hs:∀ x,foldedSetIterable iter X.env x=pure x:=by intro _; rfl) :
  PE X (.ListComp elt [⟨.Name x px,iter,[cnd],0⟩] scope pos) (zY wi tt te cs):=by
 intro pins s σ H Q I h;rw [eval_ListComp];refine wpAny_comprehension_free rfl hs O.Ha O.kind O.names (thn (hi pins s σ H _ I h) λ v s1 h1=>thn h1 λ itv s2 h2=>?_);obtain ⟨it,fp,tn,J,H2,rfl,I2,T,st2,f2,hw⟩:=h2;refine qd hc O hcd he I2 T st2 f2 hw λ D C s' H' ys hD hC hDC ⟨m,hm⟩ I' hn q=>?_
 refine ⟨m,hm,λ h' hs'=>?_⟩;have hn':upd H' D (.lst ys) C=none:=by rw [ar (Ne.symm hDC)]; exact hn
 have FC:=I2.t4 hC hn';exact ⟨.ref D,upd H' D (.lst ys),I'.turned (λ b o hb e=>(hs'.2 b hb).trans e) hn' FC.2.1 FC.2.2.2.1 FC.2.2.2.2.1 FC.2.2.2.2.2,rfl,q⟩
end
def Eg (c:D->Option Bool) (g:D->Option D):List D->Option (List D)
 | []=>some []
 | d::ds=>(c d).bind λ b=>if b=true then (g d).bind λ x=>(Eg c g ds).bind λ xs=>some (x::xs) else Eg c g ds
def oe (it:DI) (c:DT) (g:DE) (cs:List (Str×Nat)):DE:=λ τ=>(it τ).bind λ ds=>if ds.length<=100000 then (Eg (λ d=>c (.shr d::gq τ cs)) (λ d=>g (.shr d::gq τ cs)) ds).map .lst else none
section
variable {X:Cx} {e:Expr} {es:List Expr} {pos:Pos}
theorem zJ {K:W.Frag} {it:DI} {c:DT} {g:DE} {cs:List (Str×Nat)} {σ:St} {H:Hp} {Q:VK} (h:rdO K (oe it c g cs) σ H Q):zY (rdI K it) (rdT K c) (rdE K g) cs σ H Q:=by
 obtain ⟨H0,Hs,τ,fp,d,st,sm,e,k⟩:=h;obtain ⟨ds,e1,e2⟩:=bind_some e;split at e2
 ·rename_i hl
  obtain ⟨full,e3,rfl⟩:=Zm e2;refine ⟨H0,Hs,τ,fp,ds,st,sm,e1,λ J Hs1 H1 g1 hJ=>?_⟩;refine ⟨λ i m ys H'=>m=ds.length - i/\i<=ds.length/\∃ Hs2 es rest,Ext Hs1 H1 Hs2 H'/\Rps K Hs2 ys es/\es.length<=i/\Eg (λ d=>c (.shr d::gq τ cs)) (λ d=>g (.shr d::gq τ cs)) (ds.drop i)=some rest/\es++rest=full,⟨ds.length,by simp,Z1 _,Hs1,[],full,.refl g1.sh,.nil,Zi _,by simpa using e3,rfl⟩,?_⟩
  rintro i m ys H2 ⟨rfl,hi,Hs2,es,rest,g2,ry,ley,e4,e5⟩
  obtain ⟨hgo,hstop⟩:=hJ Hs2 H2 g2.ss g2.sh;have ly:ys.length<=i:=by rw [ry.length]; exact ley
  by_cases hlt:i < ds.length
  ·have ed:=Ym hlt
   rw [ed] at e4;obtain ⟨b,q0,q0'⟩:=bind_some e4;obtain ⟨go,yl⟩:=hgo i ds[i] (List.getElem?_eq_getElem hlt);refine .inr ⟨go,le5 (by omega),λ v H3 y=>?_⟩;obtain ⟨Hs3,g3,rv⟩:=yl v H3 y;have g13:=(g1.trans g2).trans g3;refine ⟨H0,Hs3,.shr ds[i]::gq τ cs,[],b,.shr rv (jB (st.ext g13) cs),g3.sh,q0,λ Hs4 H4 g4=>?_⟩;have g14:=g13.trans g4
   cases b with
   | true =>
    refine AE ?_
    obtain ⟨x,q1,q2⟩:=bind_some (q0');obtain ⟨xs,q3,q4⟩:=bind_some q2;have eq:=Zj q4;subst eq;refine ⟨H0,Hs4,.shr ds[i]::gq τ cs,[],x,.shr (rv.same g4.ss) (jB (st.ext g14) cs),g4.sh,q1,λ v5 Hs5 H5 g5 r5=>?_⟩;exact ⟨ds.length - (i+1),by omega,rfl,hlt,Hs5,es++[x],xs,((g2.trans g3).trans g4).trans g5,(((ry.same g3.ss).same g4.ss).same g5.ss).append (.cons r5 .nil),by simp; omega,q3,by rw [<- e5]; simp⟩
   | false =>
    refine AF ?_
    have q1:=q0';exact ⟨ds.length - (i+1),by omega,rfl,hlt,Hs4,es,rest,(g2.trans g3).trans g4,(ry.same g3.ss).same g4.ss,by omega,q1,e5⟩
  ·have e0:i=ds.length:=by omega
   subst e0;rw [Xi] at e4;have er:=Zj e4;subst er;rw [Z2] at e5;subst e5;refine .inl ⟨hstop _ (Zi _),tW (by omega),λ p hp=>?_⟩;have g12:=g1.trans g2;exact k p Hs2 _ ⟨g12.ss,g12.sh.trans (az hp _),g12.hh.trans (az hp _),g12.fr⟩ (.lst av (g12.sh.free hp) ry) (g12.hh.free hp)
 · cases e2
theorem yx (hc:X.calm=true) (O:cw X scope cl x cs) (hi:PId X (.Name x px) iter it)
 (hcd:∀ s H fp C,PTd (bO X scope cl (x::cs.map (·.1)) s H fp C) cnd c) (he:∀ s H fp C,PEd (bO X scope cl (x::cs.map (·.1)) s H fp C) elt g) (hs:∀ x,foldedSetIterable iter X.env x=pure x:=by intro _; rfl) :
 PEo X (.ListComp elt [⟨.Name x px,iter,[cnd],0⟩] scope pos) (oe it c g cs):=(qL (te:=rdE X.K g) (tt:=rdT X.K c) hc O hi hcd he hs).imp λ σ H Q h=>zJ h
end
def kX:D->Option Key
 | .int i=>some (.inl i)
 | .str x=>some (.inr x)
 | _=>none
def ij (kvs:List (Key×D)) (k:Key):Option D:=(kvs.find? λ kv=>decide (kv.1=k)).map (·.2)
theorem nI {K:W.Frag} {H:Hp} {v:V} {d:D} {k:Key} (r:Rp K H v d) (e:kX d=some k):v=kV k:=by
 cases r <;> simp [kX] at e <;> subst e <;> rfl
theorem RpK.val {K:W.Frag} {H:Hp} {k:Key}:∀ {kvs:List (Key×V)} {ds:List (Key×D)},RpK K H kvs ds->(∀ d,ij ds k=some d->∃ v,cL kvs k=some v/\Rp K H v d)/\(ij ds k=none->cL kvs k=none)
 | _,_,.nil=>⟨λ d e=>by simp [ij] at e,λ _=>rfl⟩
 | _,_,@RpK.cons _ _ j x d xs ds h r=>by
  obtain ⟨i1,i2⟩:=RpK.val (k:=k) r
  by_cases q:j=k
  ·subst q
   refine ⟨λ d' e=>?_,λ e=>?_⟩
   ·have:d=d':=by simpa [ij] using e
    subst this;exact ⟨x,by simp [cL],h⟩
   · simp [ij] at e
  ·have e1:ij ((j,d)::ds) k=ij ds k:=by simp [ij,q]
   have e2:cL ((j,x)::xs) k=cL xs k:=by simp [cL,q]
   rw [e1,e2];exact ⟨i1,i2⟩
theorem RpK.length {K:W.Frag} {H:Hp}:∀ {kvs:List (Key×V)} {ds:List (Key×D)},RpK K H kvs ds->kvs.length=ds.length
 | _,_,.nil=>rfl
 | _,_,.cons _ r=>Yl (·+1) r.length
def g7:D->D->Option D
 | .dct kvs,y=>(kX y).bind λ k=>ij kvs k
 | .dfz kvs,y=>(kX y).bind λ k=>ij kvs k
 | _,_=>none
def Ct:D->D->Option D
 | y,.dct kvs=>(kX y).map λ k=>.bl (ij kvs k).isSome
 | y,.dfz kvs=>(kX y).map λ k=>.bl (ij kvs k).isSome
 | _,_=>none
def gC:D->D->Option D
 | y,.dct kvs=>(kX y).map λ k=>.bl (!(ij kvs k).isSome)
 | y,.dfz kvs=>(kX y).map λ k=>.bl (!(ij kvs k).isSome)
 | _,_=>none
section
variable {X:Cx} {o i e value:Expr} {pos pos' apos cpos:Pos} {f g h:DE}
theorem Cc (hu:X.A.units+64 < cLine) (ho:PEd X o f) (hi:PEd X i g) (hs:Ek i):PEd X (.Subscript o i pos) (dOp g7 f g) :=
 (pj (by omega) ho hi hs).imp λ σ H Q h=>by
   have h':=lj X.K h;obtain ⟨H0,Hs,τ,fp,x,st,sm,e1,kk⟩:=h';refine ⟨H0,Hs,τ,fp,x,st,sm,e1,λ v Hs1 H1 g1 r1=>?_⟩;obtain ⟨H0',Hs',τ',fp',y,st',sm',e2,kk2⟩:=kk v Hs1 H1 g1 r1;refine ⟨H0',Hs',τ',fp',y,st',sm',e2,λ u Hs2 H2 g2 r2=>?_⟩;obtain ⟨Hs3,dx,dy,d,sm3,rx,ry,eo,k⟩:=kk2 u Hs2 H2 g2 r2
   cases rx with
   | @dct a kvs ds hH rk =>
    obtain ⟨key,ek,ev⟩:=bind_some (eo);obtain ⟨w,hw,rw'⟩:=(rk.val).1 d ev;have:=nI ry ek;subst this;exact ⟨a,w,rfl,by rw [<- hw]; exact mR.k (sm3 _ _ hH),k w Hs3 H2 (.refl sm3) rw'⟩
   | @dfz a kvs ds hH rk =>
    obtain ⟨key,ek,ev⟩:=bind_some (show (kX dy).bind _=some d from eo);obtain ⟨w,hw,rw'⟩:=(rk.val (k:=key)).1 d ev;have:=nI ry ek;subst this;refine ⟨a,w,rfl,.inl ⟨_,key,hH.elim (λ z=>.inl (sm3 _ _ z)) (λ ⟨o,z⟩=>.inr ⟨o,sm3 _ _ z⟩),rfl,hw.symm⟩,k w Hs3 H2 (.refl sm3) rw'⟩
   | _=>simp [g7] at eo
theorem wY {neg:Bool} {σ:St} {H:Hp} {Q:VK} (K:W.Frag) (h:rdE K (dOp (if neg then gC else Ct) f g) σ H Q):rdE K f σ H λ y H1=>rdE K g σ H1 λ x H2=>∃ a o,x=.ref a/\mR H2 a y o/\Q (.bl (if neg then !o.isSome else o.isSome)) H2:=by
 have h':=lj K h;obtain ⟨H0,Hs,τ,fp,x,st,sm,e1,kk⟩:=h';refine ⟨H0,Hs,τ,fp,x,st,sm,e1,λ v Hs1 H1 g1 r1=>?_⟩;obtain ⟨H0',Hs',τ',fp',y,st',sm',e2,kk2⟩:=kk v Hs1 H1 g1 r1;refine ⟨H0',Hs',τ',fp',y,st',sm',e2,λ u Hs2 H2 g2 r2=>?_⟩;obtain ⟨Hs3,dx,dy,d,sm3,rx,ry,eo,k⟩:=kk2 u Hs2 H2 g2 r2
 obtain ⟨ds,key,ey,ek,ev⟩:∃ ds key,(dy=.dct ds\/dy=.dfz ds)/\kX dx=some key/\D.bl (if neg then !(ij ds key).isSome else (ij ds key).isSome)=d:=by
  cases neg with
  | true =>
   have eo:gC dx dy=some d:=eo;unfold gC at eo;split at eo
   ·obtain ⟨key,a1,a2⟩:=Zm eo
    exact ⟨_,key,.inl rfl,a1,a2⟩
   ·obtain ⟨key,a1,a2⟩:=Zm eo
    exact ⟨_,key,.inr rfl,a1,a2⟩
   · cases eo
  | false =>
   have eo:Ct dx dy=some d:=eo;unfold Ct at eo;split at eo
   ·obtain ⟨key,a1,a2⟩:=Zm eo
    exact ⟨_,key,.inl rfl,a1,a2⟩
   ·obtain ⟨key,a1,a2⟩:=Zm eo
    exact ⟨_,key,.inr rfl,a1,a2⟩
   · cases eo
 obtain ⟨a,kvs,rfl,hH,rk⟩:∃ a kvs,u=.ref a/\Rd H2 a (.dK kvs)/\RpK K Hs3 kvs ds:=by
  rcases ey with rfl | rfl
  ·cases ry with
   | dct hH rk=>exact ⟨_,_,rfl,.inl (sm3 _ _ hH),rk⟩
  ·cases ry with
   | dfz hH rk=>exact ⟨_,_,rfl,hH.elim (λ z=>.inl (sm3 _ _ z)) λ ⟨o,z⟩=>.inr ⟨o,sm3 _ _ z⟩,rk⟩
 have:=nI rx ek;subst this;subst ev
 have is:(cL kvs key).isSome=(ij ds key).isSome:=by
  cases q:ij ds key with
  | none=>rw [(rk.val).2 q]; rfl
  | some d'=>obtain ⟨w,hw,_⟩:=(rk.val (k:=key)).1 d' q; rw [hw]; rfl
 refine ⟨a,cL kvs key,rfl,.inl ⟨kvs,key,hH,rfl,rfl⟩,?_⟩;rw [is];exact k _ Hs3 H2 (.refl sm3) (.bl _)
theorem A6 (K:W.Frag) (h:rdT K (dT f) σ H Q):rdE K f σ H λ x H1=>∃ c,x=.bl c/\Q c H1:=by
 obtain ⟨H0,Hs,τ,fp,d,st,sm,e,k⟩:=h;obtain ⟨x,e1,e⟩:=bind_some e;have hx:x=.bl d:=by cases x <;> simp at e <;> subst e <;> rfl
 subst hx;refine ⟨H0,Hs,τ,fp,_,st,sm,e1,λ v Hs' H' g r=>?_⟩;cases r;exact ⟨d,rfl,k Hs' H' g⟩
theorem Bq (hu:X.A.units+64 < cLine) (hi:PEd X i f) (ho:PEd X o g) (hm:behindInMarks .In o=false):PTd X (.Compare i [.In] [o] pos) (dT (dOp Ct f g)):=(uM (Fy (by omega) hi ho) hm).imp λ σ H Q h=>wY (neg:=false) X.K (A6 X.K h)
theorem sG (hu:X.A.units+64 < cLine) (hi:PEd X i f) (ho:PEd X o g) (hm:behindInMarks .NotIn o=false):PTd X (.Compare i [.NotIn] [o] pos) (dT (dOp gC f g)):=(uM (m9 (by omega) hi ho) hm).imp λ σ H Q h=>wY (neg:=true) X.K (A6 X.K h)
end
def scD:D->Option V
 | .int i=>some (.int i)
 | .str x=>some (.str x)
 | .non=>some .non
 | _=>none
def z4:List D->Option (List V)
 | []=>some []
 | d::ds=>(scD d).bind λ v=>(z4 ds).map (v::·)
def inS (x:D) (ys:List D):Option Bool:=(scD x).bind λ v=>(z4 ys).map λ vs=>inV v vs
def Dm:D->Option (List D)
 | .lst ys=>some ys
 | .tup ys=>some ys
 | _=>none
def D5 (x y:D):Option D:=(Dm y).bind λ ys=>(inS x ys).map .bl
def ir (x y:D):Option D:=(Dm y).bind λ ys=>(inS x ys).map λ b=>.bl !b
theorem EK {K:W.Frag} {H:Hp} {v w:V} {d:D} (r:Rp K H v d) (e:scD d=some w):v=w/\kY v=true:=by
 cases r <;> simp [scD] at e <;> subst e <;> exact ⟨rfl,rfl⟩
theorem z3 {K:W.Frag} {H:Hp}:∀ {vs ws:List V} {ds:List D},Rps K H vs ds->z4 ds=some ws->vs=ws/\vs.all kY=true
 | _,_,_,.nil,e=>by simp [z4] at e; subst e; exact ⟨rfl,rfl⟩
 | _,_,_,.cons h r,e=>by
  obtain ⟨v,e1,e2⟩:=bind_some (show (scD _).bind _=_ from e);obtain ⟨ws,e3,e4⟩:=Zm e2;obtain ⟨q1,q2⟩:=EK h e1;obtain ⟨q3,q4⟩:=z3 r e3;subst q1 q3;exact ⟨e4,by rw [List.all_cons,q2,q4]; rfl⟩
section
variable {X:Cx}
theorem AH {K:W.Frag} {neg:Bool} {x y:V} {H:Hp} {Q:VK} (h:rdR K (if neg then ir else D5) x y H Q):rIn K neg x y H Q:=by
 obtain ⟨Hs,dx,dy,d,sm,rx,ry,e,k⟩:=h
 obtain ⟨ys,b,e1,e2,e3⟩:∃ ys b,Dm dy=some ys/\inS dx ys=some b/\d=.bl (if neg then !b else b):=by
  cases neg with
  | true =>
   obtain ⟨ys,a1,a2⟩:=bind_some (e);obtain ⟨b,a3,a4⟩:=Zm a2;exact ⟨ys,b,a1,a3,a4.symm⟩
  | false =>
   obtain ⟨ys,a1,a2⟩:=bind_some (show (Dm dy).bind _=some d from e);obtain ⟨b,a3,a4⟩:=Zm a2;exact ⟨ys,b,a1,a3,a4.symm⟩
 obtain ⟨v,e4,e5⟩:=bind_some e2;obtain ⟨vs,e6,e7⟩:=Zm e5;obtain ⟨q1,q2⟩:=EK rx e4;subst q1 e3;have ry':=ry.same sm
 obtain ⟨p,xs,ep,hq,rs⟩:∃ p xs,y=.ref p/\(SqL K H p xs\/SqT K H p xs)/\Rps K H xs ys:=by
  cases ry' with
  | tup h r=>simp [Dm] at e1; subst e1; exact ⟨_,_,rfl,.inr h,r⟩
  | lst h r=>simp [Dm] at e1; subst e1; exact ⟨_,_,rfl,.inl (.of h),r⟩
  | _=>simp [Dm] at e1
 obtain ⟨q3,q4⟩:=z3 rs e6;subst q3;refine ⟨p,xs,ep,hq,q2,q4,?_⟩;rw [e7];exact k _ Hs H (.refl sm) (.bl _)
theorem J2:OpR X (compareOp .In) (rdR X.K D5):=vv.imp λ x y H Q h=>AH h
theorem yM:OpR X (compareOp .NotIn) (rdR X.K ir):=ni.imp λ x y H Q h=>AH h
end
section
variable {X:Cx} {a b c:Expr} {pos:Pos} {f g h:DE}
theorem zK (K:W.Frag) (hh:rdE K (my (dOp o f g) (dOp o' g h)) σ H Q):ui (rdR K o) (rdR K o') (rdE K f) (rdE K g) (rdE K h) σ H Q:=by
 obtain ⟨H0,Hs,τ,fp,d,st,sm,e,k⟩:=hh;obtain ⟨r,e0,e⟩:=bind_some e;obtain ⟨x,e1,e0⟩:=bind_some e0;obtain ⟨y,e2,e0⟩:=bind_some e0;refine ⟨H0,Hs,τ,fp,x,st,sm,e1,λ v Hs1 H1 g1 r1=>?_⟩;refine ⟨H0,Hs1,τ,fp,y,st.ext g1,g1.sh,e2,λ u Hs2 H2 g2 r2=>?_⟩;refine ⟨Hs2,x,y,r,g2.sh,r1.same g2.ss,r2,e0,λ w Hs3 H3 g3 r3=>?_⟩
 cases r3 with
 | bl kb =>
  refine ⟨kb,rfl,?_⟩
  cases kb with
  | false =>
   rw [if_neg Zf];have e':D.bl false=d:=by simpa using e
   subst e';exact k _ Hs3 H3 ((g1.trans g2).trans g3) (.bl false)
  | true =>
   rw [if_pos rfl];obtain ⟨y',q1,q2⟩:=bind_some (e);have ey:y'=y:=by rw [e2] at q1; exact (Zj q1).symm
   subst ey;obtain ⟨z,q3,q4⟩:=bind_some q2;refine ⟨H0,Hs3,τ,fp,z,st.ext ((g1.trans g2).trans g3),g3.sh,q3,λ u' Hs4 H4 g4 r4=>?_⟩;exact ⟨Hs4,y',z,d,g4.sh,(r2.same g3.ss).same g4.ss,r4,q4,λ w' Hs5 H5 g5 r5=>k w' Hs5 H5 ((((g1.trans g2).trans g3).trans g4).trans g5) r5⟩
 | _=>exact nn e
theorem uL (ho:OpR X (compareOp op) (rdR X.K o)) (ho':OpR X (compareOp op') (rdR X.K o')) (ha:PEd X a f) (hb:PEd X b g) (hc:PEd X c h)
  (hm:lastMarks [op,op'] [b,c]=false:=by with_unfolding_all rfl):PTd X (.Compare a [op,op'] [b,c] pos) (dT (my (dOp o f g) (dOp o' g h))) :=
 (ye ho ho' ha hb hc hm).imp λ σ H Q hh=>zK X.K (A6 X.K hh)
end
inductive Tg where
 | l | d | o (C:Addr)
inductive Mt where
 | s (d:D)
 | n (t:Tg) (cs:List (Key×Mt))
def strOf:Key->Str
 | .inr x=>x
 | .inl _=>""
mutual
def frz:Mt->D
 | .s d=>d
 | .n .l cs=>.lst (GZ cs)
 | .n .d cs=>.dct (zq cs)
 | .n (.o C) cs=>.obj C (G0 cs)
def GZ:List (Key×Mt)->List D
 | []=>[]
 | (_,m)::r=>frz m::GZ r
def zq:List (Key×Mt)->List (Key×D)
 | []=>[]
 | (k,m)::r=>(k,frz m)::zq r
def G0:List (Key×Mt)->List (Str×D)
 | []=>[]
 | (k,m)::r=>(strOf k,frz m)::G0 r
end
theorem rF:∀ cs:List (Key×Mt),GZ cs=cs.map λ c=>frz c.2
 | []=>rfl
 | (_,m)::r=>by rw [GZ,rF r]; rfl
theorem mh:∀ cs:List (Key×Mt),zq cs=cs.map λ c=>(c.1,frz c.2)
 | []=>rfl
 | (_,m)::r=>by rw [zq,mh r]; rfl
theorem rG:∀ cs:List (Key×Mt),G0 cs=cs.map λ c=>(strOf c.1,frz c.2)
 | []=>rfl
 | (_,m)::r=>by rw [G0,rG r]; rfl
inductive Stp where
 | k (k:Key) | i (n:Nat)
def u9 (t:Tg) (cs:List (Key×Mt)) (st:Stp):Option Nat:=match t,st with
 | .l,.i n=>if n < cs.length then some n else none
 | .d,.k k=>cs.findIdx? λ c=>decide (c.1=k)
 | .o _,.k k=>cs.findIdx? λ c=>decide (c.1=k)
 | _,_=>none
def Mt.get:Mt->List Stp->Option Mt
 | m,[]=>some m
 | .s _,_::_=>none
 | .n t cs,st::p=>match u9 t cs st with
  | none=>none
  | some i=>match cs[i]? with
   | none=>none
   | some c=>Mt.get c.2 p
def Mt.put:Mt->List Stp->Mt->Mt
 | _,[],m2=>m2
 | .s d,_::_,_=>.s d
 | .n t cs,st::p,m2=>match u9 t cs st with
  | none=>.n t cs
  | some i=>match cs[i]? with
   | none=>.n t cs
   | some c=>.n t (cs.set i (c.1,Mt.put c.2 p m2))
inductive Lay:Tg->Addr->List (Key×V)->HO->Prop where
 | l {dx:Addr} (kvs:List (Key×V)):Lay .l dx kvs (.lst (kvs.map (·.2)))
 | d {dx:Addr} (kvs:List (Key×V)):Lay .d dx kvs (.dK kvs)
 | o {C dx:Addr} (fs:List (Str×V)):Lay (.o C) dx (fs.map λ f=>(.inr f.1,f.2)) (.ins C dx fs)
structure Kd where
 k:Key
 v:V
 m:Mt
 fp:List Addr
abbrev Kd.kv (t:Kd):Key×V:=(t.k,t.v)
abbrev Kd.km (t:Kd):Key×Mt:=(t.k,t.m)
def KU:Tg->List Kd->Prop
 | .l,_=>True
 | _,ts=>(ts.map Kd.k).Nodup
inductive Od (K:W.Frag) (Hs H:Hp):List Addr->V->Mt->Prop where
 | s {v:V} {d:D} (r:Rp K Hs v d):Od K Hs H [] v (.s d)
 | n {a dx:Addr} {t:Tg} {ts:List Kd} {u:HO} (h:H a=some u) (hl:Lay t dx (ts.map Kd.kv) u) (nh:Hs a=none) (ku:KU t ts) (nd:(a::ts.flatMap Kd.fp).Nodup) (r:∀ c ∈ ts,Od K Hs H c.fp c.v c.m):Od K Hs H (a::ts.flatMap Kd.fp) (.ref a) (.n t (ts.map Kd.km))
section
variable {K:W.Frag} {Hs H Hs' H':Hp} {fp:List Addr} {v:V} {m:Mt}
theorem Od.inv (h:Od K Hs H fp v (.n t cs)):∃ a dx ts u,v=.ref a/\fp=a::ts.flatMap Kd.fp/\cs=ts.map Kd.km/\H a=some u/\Lay t dx (ts.map Kd.kv) u/\Hs a=none/\KU t ts/\(a::ts.flatMap Kd.fp).Nodup/\∀ c ∈ ts,Od K Hs H c.fp c.v c.m:=by
 cases h with
 | n h hl nh ku nd r=>exact ⟨_,_,_,_,rfl,rfl,rfl,h,hl,nh,ku,nd,r⟩
theorem Od.live (h:Od K Hs H fp v m):∀ b ∈ fp,Hs b=none/\H b≠none:=by
 induction h with
 | s r=>intro b h; cases h
 | n h hl nh ku nd r ih =>
  intro b hb;rcases Zl.mp hb with e | e
  · subst e; exact ⟨nh,gz h⟩
  ·obtain ⟨c,hc,hb⟩:=Yi.mp e
   exact ih c hc b hb
theorem Od.nd (h:Od K Hs H fp v m):fp.Nodup:=by
 cases h with
 | s r=>exact .nil
 | n h hl nh ku nd r=>exact nd
theorem Od.mv (h:Od K Hs H fp v m) (g:bp Hs Hs'):(∀ b ∈ fp,Hs' b=none/\H' b=H b)->Od K Hs' H' fp v m:=by
 induction h with
 | s r=>exact λ _=>.s (r.same g)
 | n h hl nh ku nd r ih =>
  intro q;have qa:=q _ (Ze ..);exact .n (by rw [qa.2]; exact h) hl qa.1 ku nd λ c hc=>ih c hc λ b hb=>q b (Zd _ (Yi.mpr ⟨c,hc,hb⟩))
theorem Ac:∀ {ts:List Kd},(∀ c ∈ ts,Rp K H c.v (frz c.m))->Rps K H ((ts.map Kd.kv).map (·.2)) (GZ (ts.map Kd.km))
 | [],_=>.nil
 | c::ts,h=>.cons (h c (Ze ..)) (Ac λ c hc=>h c (Zd _ hc))
theorem uE:∀ {ts:List Kd},(∀ c ∈ ts,Rp K H c.v (frz c.m))->RpK K H (ts.map Kd.kv) (zq (ts.map Kd.km))
 | [],_=>.nil
 | c::ts,h=>.cons (h c (Ze ..)) (uE λ c hc=>h c (Zd _ hc))
theorem Ad:∀ {ts:List Kd} {fs:List (Str×V)},(ts.map Kd.kv=fs.map λ f=>(Sum.inr f.1,f.2))->(∀ c ∈ ts,Rp K H c.v (frz c.m))->RpF K H fs (G0 (ts.map Kd.km))
 | [],[],_,_=>.nil
 | [],_::_,e,_=>by cases e
 | _::_,[],e,_=>by cases e
 | c::ts,f::fs,e,h=>by
  obtain ⟨e1,e2⟩:=List.cons.inj e;obtain ⟨e3,e4⟩:=Prod.mk.inj e1;obtain ⟨x,y⟩:=f;have hc:=h c (Ze ..);show RpF K H ((x,y)::fs) ((strOf c.k,frz c.m)::_);have e3':c.k=Sum.inr x:=e3;have e4':c.v=y:=e4;rw [e3',<- e4'];exact .cons hc (Ad e2 λ c hc=>h c (Zd _ hc))
theorem Od.rp (h:Od K Hs H fp v m) (sm:bp Hs H):Rp K H v (frz m):=by
 induction h with
 | s r=>exact r.same sm
 | @n a dx t ts u h hl nh ku nd r ih =>
  have ih':∀ c ∈ ts,Rp K H c.v (frz c.m):=λ c hc=>ih c hc
  generalize ek:ts.map Kd.kv=kvs at hl
  cases hl with
  | l=>exact .lst h (by rw [<- ek]; exact Ac ih')
  | d=>exact .dct h (by rw [<- ek]; exact uE ih')
  | o fs=>exact .obj h (Ad ek ih')
end
def vAt (H:Hp):V->List Stp->Option V
 | v,[]=>some v
 | .ref a,.k k::p=>match H a with
  | some (.ins _ _ fs)=>(cL (fs.map λ f=>((Sum.inr f.1:Key),f.2)) k).bind λ v=>vAt H v p
  | some (.dK kvs)=>(cL kvs k).bind λ v=>vAt H v p
  | _=>none
 | .ref a,.i n::p=>match H a with
  | some (.lst xs)=>(xs[n]?).bind λ v=>vAt H v p
  | _=>none
 | _,_=>none
theorem lK {α:Type}:∀ {cs:List (Key×α)} {i:Nat},(cs.findIdx? λ c=>decide (c.1=k))=some i->∃ l1 x l2,cs=l1++(k,x)::l2/\l1.length=i/\∀ c ∈ l1,c.1≠k
 | [],_,e=>by simp at e
 | (k',x)::cs,i,e=>by
  rw [List.findIdx?_cons] at e
  by_cases h:k'=k
  ·simp only [h,decide_true] at e
   have e':0=i:=by simpa using e
   subst h e';exact ⟨[],x,cs,rfl,rfl,λ c hc=>by cases hc⟩
  ·simp only [h,decide_false] at e
   obtain ⟨j,e1,rfl⟩:=Zm (by simpa using e);obtain ⟨l1,y,l2,e2,e3,e4⟩:=lK e1
   exact ⟨(k',x)::l1,y,l2,by rw [e2]; rfl,by rw [Zz,e3],λ c hc=>by
    rcases Zl.mp hc with rfl | hc
    · exact h
    · exact e4 c hc⟩
theorem lh:∀ {l1 l2:List (Key×V)},(∀ c ∈ l1,c.1≠k)->cL (l1++(k,x)::l2) k=some x
 | [],_,_=>bR rfl
 | c::l1,l2,h=>by
  rw [List.cons_append,bS (h c (Ze ..))];exact lh λ c hc=>h c (Zd _ hc)
theorem vO:∀ {l1 l2:List (Key×Mt)} {c:Key×Mt},ts.map Kd.km=l1++c::l2->∃ t1 t t2,ts=t1++t::t2/\t1.map Kd.km=l1/\t.km=c/\t2.map Kd.km=l2:=by
 intro l1 l2 c e;obtain ⟨t1,r,rfl,e1,e2⟩:=List.map_eq_append_iff.mp e;obtain ⟨t,t2,rfl,e3,e4⟩:=List.map_eq_cons_iff.mp e2;exact ⟨t1,t,t2,rfl,e1,e3,e4⟩
theorem rT {t:Tg} {dx a:Addr} {ts:List Kd} {u:HO} {st:Stp} {i:Nat} {c:Key×Mt} {H:Hp} (h:H a=some u) (hl:Lay t dx (ts.map Kd.kv) u) (e1:u9 t (ts.map Kd.km) st=some i) (e2:(ts.map Kd.km)[i]?=some c) :
  ∃ t1 k t2,ts=t1++k::t2/\t1.length=i/\k.km=c/\∀ p,vAt H (.ref a) (st::p)=vAt H k.v p:=by
 have key:∀ {kk:Key},((ts.map Kd.km).findIdx? λ c=>decide (c.1=kk))=some i->∃ t1 k t2,ts=t1++k::t2/\t1.length=i/\k.km=c/\cL (ts.map Kd.kv) kk=some k.v:=λ {kk} e=>by
  obtain ⟨l1,x,l2,h1,h2,h3⟩:=lK e;obtain ⟨t1,k,t2,rfl,q1,q2,q3⟩:=vO h1;refine ⟨t1,k,t2,rfl,by rw [<- h2,<- q1,Za],?_,?_⟩
  ·rw [h1,<- h2,List.getElem?_append_right (Zi _),Xb] at e2
   rw [q2];exact Zj e2
  ·rw [Zk,Zh]
   have hk:k.k=kk:=(Prod.mk.inj q2).1;rw [show k.kv=(kk,k.v) by rw [<- hk]]
   exact lh λ c hc=>by
    obtain ⟨y,hy,rfl⟩:=Z4.mp hc;exact h3 y.km (by rw [<- q1]; exact Yr hy)
 generalize ek:ts.map Kd.kv=kvs at hl
 cases hl with
 | l kvs' =>
  cases st with
  | k k=>cases e1
  | i n =>
   have lt:n < (ts.map Kd.km).length/\n=i:=by
    have e1':(if n < (ts.map Kd.km).length then some n else none)=some i:=e1;split at e1'
    · rename_i h; exact ⟨h,Zj e1'⟩
    · cases e1'
   obtain ⟨lt,rfl⟩:=lt;rw [Za] at lt;have ets:ts=ts.take n++ts[n]::ts.drop (n+1):=by rw [List.getElem_cons_drop,Xo]
   refine ⟨ts.take n,ts[n],ts.drop (n+1),ets,by rw [Yg]; omega,?_,λ p=>?_⟩
   ·rw [List.getElem?_map,List.getElem?_eq_getElem lt] at e2
    exact Zj e2
   ·show (match H a with | some (.lst xs)=>(xs[n]?).bind λ v=>vAt H v p | _=>none)=_
    rw [h];show (((kvs.map (·.2))[n]?).bind λ v=>vAt H v p)=_;rw [<- ek,List.getElem?_map,List.getElem?_map,List.getElem?_eq_getElem lt];rfl
 | d kvs' =>
  cases st with
  | i n=>cases e1
  | k kk =>
   obtain ⟨t1,k,t2,q1,q2,q3,q4⟩:=key e1;refine ⟨t1,k,t2,q1,q2,q3,λ p=>?_⟩;show (match H a with | some (.ins _ _ fs)=>(cL (fs.map λ (f:Str×V)=>((Sum.inr f.1:Key),f.2)) kk).bind λ v=>vAt H v p | some (.dK kvs)=>(cL kvs kk).bind λ v=>vAt H v p | _=>none)=_;rw [h];show ((cL kvs kk).bind λ v=>vAt H v p)=_;rw [<- ek,q4];rfl
 | o fs =>
  cases st with
  | i n=>cases e1
  | k kk =>
   obtain ⟨t1,k,t2,q1,q2,q3,q4⟩:=key e1;refine ⟨t1,k,t2,q1,q2,q3,λ p=>?_⟩;show (match H a with | some (.ins _ _ fs)=>(cL (fs.map λ (f:Str×V)=>((Sum.inr f.1:Key),f.2)) kk).bind λ v=>vAt H v p | some (.dK kvs)=>(cL kvs kk).bind λ v=>vAt H v p | _=>none)=_;rw [h];show ((cL (fs.map λ f=>((Sum.inr f.1:Key),f.2)) kk).bind λ v=>vAt H v p)=_;rw [<- ek,q4];rfl
theorem vH {α:Type} {a:α} {x y z:List α} (h:(a::(x++(y++z))).Nodup):a ∉ x/\a ∉ y/\a ∉ z/\(∀ b ∈ y,b ∉ x/\b ∉ z)/\x.Nodup/\z.Nodup/\(∀ b ∈ x,b ∉ z):=by
 rw [Zv,Yc,Yc] at h;simp only [Zg,not_or] at h;obtain ⟨⟨h1,h2,h3⟩,hx,⟨hy,hz,hyz⟩,hxyz⟩:=h;refine ⟨h1,h2,h3,λ b hb=>⟨λ hx'=>hxyz b hx' b (.inl hb) rfl,λ hz'=>hyz b hb b hz' rfl⟩,hx,hz,λ b hb hz'=>hxyz b hb b (.inr hz') rfl⟩
theorem lD {α:Type} {a:α} {x y z:List α} (h1:a ∉ x) (h2:a ∉ y) (h3:a ∉ z) (hy:y.Nodup) (hd:∀ b ∈ y,b ∉ x/\b ∉ z) (hx:x.Nodup) (hz:z.Nodup) (hxz:∀ b ∈ x,b ∉ z):(a::(x++(y++z))).Nodup:=by
 rw [Zv,Yc,Yc];simp only [Zg,not_or];exact ⟨⟨h1,h2,h3⟩,hx,⟨hy,hz,λ b hb c hc e=>(hd b hb).2 (e ▸ hc)⟩,λ b hb c hc e=>hc.elim (λ q=>(hd c q).1 (e ▸ hb)) λ q=>hxz b hb (e ▸ q)⟩
theorem KU.swap (h:KU t (t1++k::t2)) (e:k'.k=k.k):KU t (t1++k'::t2):=by
 cases t with
 | l=>exact h
 | d =>
  show ((t1++k'::t2).map Kd.k).Nodup;rw [Zk,Zh,e,<- Zh,<- Zk];exact h
 | o C =>
  show ((t1++k'::t2).map Kd.k).Nodup;rw [Zk,Zh,e,<- Zh,<- Zk];exact h
section
variable {K:W.Frag} {Hs H:Hp}
theorem Od.tU:∀ (p:List Stp) {fp:List Addr} {v:V} {m m1:Mt},Od K Hs H fp v m->m.get p=some m1->∃ fp1 v1,vAt H v p=some v1/\Od K Hs H fp1 v1 m1/\(∀ b ∈ fp1,b ∈ fp) /\
  ∀ Hs' H' fp2 m2,bp Hs Hs'->(∀ b ∈ fp,b ∉ fp1->Hs' b=none/\H' b=H b)->Od K Hs' H' fp2 v1 m2->(∀ b ∈ fp2,b ∈ fp1\/b ∉ fp)->∃ fp',Od K Hs' H' fp' v (m.put p m2)/\∀ b,b ∈ fp'↔(b ∈ fp/\b ∉ fp1)\/b ∈ fp2
 | [],fp,v,m,m1,h,e=>by
  have e':m=m1:=by
   cases m <;> exact Zj e
  subst e';have ep:∀ m2,m.put [] m2=m2:=λ m2=>by cases m <;> rfl
  exact ⟨fp,v,by cases v <;> rfl,h,λ _ q=>q,λ Hs' H' fp2 m2 g k h2 j=>⟨fp2,by rw [ep]; exact h2,λ b=>⟨.inr,λ q=>q.elim (λ z=>absurd z.1 z.2) id⟩⟩⟩
 | st::p,fp,v,.s d,m1,h,e=>by cases e
 | st :: p,fp,v,.n t cs,m1,h,e=>by
  obtain ⟨a,dx,ts,u,rfl,rfl,rfl,ha,hl,nh,ku,nd,r⟩:=h.inv;have e':(match u9 t (ts.map Kd.km) st with | none=>none | some i=>match (ts.map Kd.km)[i]? with | none=>none | some c=>Mt.get c.2 p)=some m1:=e
  cases e1:u9 t (ts.map Kd.km) st with
  | none=>rw [e1] at e'; cases e'
  | some i =>
   rw [e1] at e'
   cases e2:(ts.map Kd.km)[i]? with
   | none=>simp only [e2] at e'; cases e'
   | some c =>
    simp only [e2] at e';obtain ⟨t1,k,t2,rfl,q2,q3,q4⟩:=rT ha hl e1 e2;subst q3;obtain ⟨fp1,v1,w1,w2,w3,w4⟩:=Od.tU p (r k (Zc _ (Ze ..))) e';rw [Ye,Yd] at nd;obtain ⟨n1,n2,n3,n4,n5,n6,n7⟩:=vH nd
    have mem:∀ b,b ∈ a::(t1++k::t2).flatMap Kd.fp↔b=a\/b ∈ t1.flatMap Kd.fp\/b ∈ k.fp\/b ∈ t2.flatMap Kd.fp:=λ b=>by
     rw [Ye,Yd,Zl,Zg,Zg]
    refine ⟨fp1,v1,by rw [q4]; exact w1,w2,λ b hb=>(mem b).mpr (.inr (.inr (.inl (w3 b hb)))),λ Hs' H' fp2 m2 g kk h2 j=>?_⟩;have j2:∀ b ∈ fp2,b ∈ fp1\/b ∉ k.fp:=λ b hb=>(j b hb).imp id λ z q=>z ((mem b).mpr (.inr (.inr (.inl q))))
    obtain ⟨fp',o',i'⟩:=w4 Hs' H' fp2 m2 g (λ b hb hn=>kk b ((mem b).mpr (.inr (.inr (.inl hb)))) hn) h2 j2;have a1:a ∉ fp1:=λ z=>n2 (w3 _ z)
    have off:∀ b,b ∈ fp'->b≠a/\b ∉ t1.flatMap Kd.fp/\b ∉ t2.flatMap Kd.fp:=λ b hb=>by
     rcases (i' b).mp hb with ⟨z1,_⟩ | z
     · exact ⟨λ e=>n2 (e ▸ z1),(n4 b z1).1,(n4 b z1).2⟩
     ·rcases j b z with z1 | z1
      ·have z2:=w3 b z1
       exact ⟨λ e=>n2 (e ▸ z2),(n4 b z2).1,(n4 b z2).2⟩
      · exact ⟨λ e=>z1 ((mem b).mpr (.inl e)),λ q=>z1 ((mem b).mpr (.inr (.inl q))),λ q=>z1 ((mem b).mpr (.inr (.inr (.inr q))))⟩
    let k':Kd:=⟨k.k,k.v,k.m.put p m2,fp'⟩
    have eput:(Mt.n t ((t1++k::t2).map Kd.km)).put (st::p) m2=.n t ((t1++k'::t2).map Kd.km):=by
     show (match u9 t ((t1++k::t2).map Kd.km) st with | none=>Mt.n t ((t1++k::t2).map Kd.km) | some i=>match ((t1++k::t2).map Kd.km)[i]? with | none=>Mt.n t ((t1++k::t2).map Kd.km) | some c=>.n t (((t1++k::t2).map Kd.km).set i (c.1,Mt.put c.2 p m2)))=_;simp only [e1,e2];rw [Zk,Zh,<- q2,<- Za (f:=Kd.km),List.set_append_right _ _ (Zi _),Xb,Zk,Zh];rfl
    have hkv:(t1++k'::t2).map Kd.kv=(t1++k::t2).map Kd.kv:=by rw [Zk,Zh,Zk,Zh]
    have qa:=kk a ((mem a).mpr (.inl rfl)) a1;refine ⟨a::(t1++k'::t2).flatMap Kd.fp,?_,λ b=>?_⟩
    ·rw [eput]
     refine .n (dx:=dx) (by rw [qa.2]; exact ha) (by rw [hkv]; exact hl) qa.1 (ku.swap rfl) ?_ λ c hc=>?_
     ·rw [Ye,Yd]
      exact lD n1 (λ z=>(off _ z).1 rfl) n3 o'.nd (λ b hb=>(off b hb).2) n5 n6 n7
     ·rcases Zg.mp hc with hc | hc
      · exact (r c (Zp _ hc)).mv g λ b hb=>kk b ((mem b).mpr (.inr (.inl (Yi.mpr ⟨c,hc,hb⟩)))) λ z=>(n4 b (w3 b z)).1 (Yi.mpr ⟨c,hc,hb⟩)
      ·rcases Zl.mp hc with rfl | hc
       · exact o'
       · exact (r c (Zc _ (Zd _ hc))).mv g λ b hb=>kk b ((mem b).mpr (.inr (.inr (.inr (Yi.mpr ⟨c,hc,hb⟩))))) λ z=>(n4 b (w3 b z)).2 (Yi.mpr ⟨c,hc,hb⟩)
    ·rw [Ye,Yd,Zl,Zg,Zg,mem b,i' b]
     constructor
     ·rintro (rfl | z | (⟨z1,z2⟩ | z) | z)
      · exact .inl ⟨.inl rfl,a1⟩
      · exact .inl ⟨.inr (.inl z),λ q=>(n4 b (w3 b q)).1 z⟩
      · exact .inl ⟨.inr (.inr (.inl z1)),z2⟩
      · exact .inr z
      · exact .inl ⟨.inr (.inr (.inr z)),λ q=>(n4 b (w3 b q)).2 z⟩
     ·rintro (⟨rfl | z | z | z,z2⟩ | z)
      · exact .inl rfl
      · exact .inr (.inl z)
      · exact .inr (.inr (.inl (.inl ⟨z,z2⟩)))
      · exact .inr (.inr (.inr z))
      · exact .inr (.inr (.inl (.inr z)))
end
inductive Sm where
 | no | shr (d:D) | mu (b:Bool) (m:Mt)
def l0:Sm->Sl
 | .no=>.no
 | .shr d=>.shr d
 | .mu _ m=>.shr (frz m)
def er1:Sm->Sl
 | .shr d=>.shr d
 | _=>.no
abbrev cb (τ:List Sm):List Sl:=τ.map l0
abbrev er (τ:List Sm):List Sl:=τ.map er1
inductive StM (K:W.Frag) (H0 Hs H:Hp):List (Option Addr)->List (Option V)->List Sm->List Addr->Prop where
 | nil:StM K H0 Hs H [] [] [] []
 | no {p:Option Addr} {o:Option V} {ρ:List (Option Addr)} {σ:List (Option V)} {τ:List Sm} {fp:List Addr} (r:StM K H0 Hs H ρ σ τ fp):StM K H0 Hs H (p::ρ) (o::σ) (.no::τ) fp
 | shr {p:Option Addr} {v:V} {d:D} {ρ:List (Option Addr)} {σ:List (Option V)} {τ:List Sm} {fp:List Addr} (h:Rp K Hs v d) (r:StM K H0 Hs H ρ σ τ fp):StM K H0 Hs H (p::ρ) (some v::σ) (.shr d::τ) fp
 | mu {p:Option Addr} {v:V} {b:Bool} {m:Mt} {ρ:List (Option Addr)} {σ:List (Option V)} {τ:List Sm} {fq fp:List Addr} (h:Od K Hs H fq v m) (hp:b=true->∃ a,p=some a/\v=.ref a) (z:∀ c ∈ fq,H0 c=none) (j:∀ c ∈ fq,c ∉ fp) (r:StM K H0 Hs H ρ σ τ fp):StM K H0 Hs H (p::ρ) (some v::σ) (.mu b m::τ) (fq++fp)
section
variable {K:W.Frag} {H0 Hs H Hs' H':Hp} {ρ:List (Option Addr)} {σ:List (Option V)} {τ:List Sm} {fp:List Addr}
theorem StM.mv (h:StM K H0 Hs H ρ σ τ fp) (g:bp Hs Hs'):(∀ b ∈ fp,Hs' b=none/\H' b=H b)->StM K H0 Hs' H' ρ σ τ fp:=by
 induction h with
 | nil=>exact λ _=>.nil
 | no _ ih=>exact λ q=>.no (ih q)
 | shr h _ ih=>exact λ q=>.shr (h.same g) (ih q)
 | mu h hp z j _ ih=>exact λ q=>.mu (h.mv g λ b hb=>q b (Zp _ hb)) hp z j (ih λ b hb=>q b (Zc _ hb))
theorem StM.live (h:StM K H0 Hs H ρ σ τ fp):∀ b ∈ fp,Hs b=none/\H b≠none/\H0 b=none:=by
 induction h with
 | nil=>intro b h; cases h
 | no _ ih=>exact ih
 | shr _ _ ih=>exact ih
 | mu h hp z j _ ih =>
  intro b hb;rcases Zg.mp hb with q | q
  · exact ⟨(h.live b q).1,(h.live b q).2,z b q⟩
  · exact ih b q
theorem StM.ext (g:Ext Hs H Hs' H') (h:StM K H0 Hs H ρ σ τ fp):StM K H0 Hs' H' ρ σ τ fp:=h.mv g.ss λ b hb=>by
 obtain ⟨h1,h2,_⟩:=h.live b hb;refine ⟨g.fr b h1 h2,?_⟩
 cases q:H b with
 | none=>exact absurd q h2
 | some u=>exact g.hh _ _ q
theorem StM.len (h:StM K H0 Hs H ρ σ τ fp):σ.length=τ.length:=by
 induction h with
 | nil=>rfl
 | no _ ih=>exact Yl (·+1) ih
 | shr _ _ ih=>exact Yl (·+1) ih
 | mu _ _ _ _ _ ih=>exact Yl (·+1) ih
theorem StM.cb (h:StM K H0 Hs H ρ σ τ fp) (sm:bp Hs H):StR K H H H σ (cb τ) []:=by
 induction h with
 | nil=>exact .nil
 | no _ ih=>exact .no ih
 | shr h _ ih=>exact .shr (h.same sm) ih
 | mu h _ _ _ _ ih=>exact .shr (h.rp sm) ih
theorem StM.er (h:StM K H0 Hs H ρ σ τ fp):StR K H0 Hs H σ (er τ) []:=by
 induction h with
 | nil=>exact .nil
 | no _ ih=>exact .no ih
 | shr h _ ih=>exact .shr h ih
 | mu h _ _ _ _ ih=>exact .no ih
theorem StM.tU (h:StM K H0 Hs H ρ σ τ fp):τ[i]?=some (.mu b m)->m.get q=some m1->∃ v fp1 v1,σ[i]?=some (some v)/\vAt H v q=some v1/\Od K Hs H fp1 v1 m1/\(∀ c ∈ fp1,c ∈ fp) /\
  ∀ Hs' H' fp2 m2,bp Hs Hs'->(∀ c ∈ fp,c ∉ fp1->Hs' c=none/\H' c=H c)->Od K Hs' H' fp2 v1 m2->(∀ c ∈ fp2,c ∈ fp1\/(c ∉ fp/\H0 c=none))->∃ fp',StM K H0 Hs' H' ρ σ (τ.set i (.mu b (m.put q m2))) fp'/\∀ c,c ∈ fp'↔(c ∈ fp/\c ∉ fp1)\/c ∈ fp2:=by
 induction h generalizing i with
 | nil=>intro e; simp at e
 | no r ih =>
  intro e eg
  cases i with
  | zero=>simp at e
  | succ i =>
   obtain ⟨v,fp1,v1,h1,h2,h3,h4,h5⟩:=ih (i:=i) (by simpa using e) eg
   exact ⟨v,fp1,v1,by simpa using h1,h2,h3,h4,λ Hs' H' fp2 m2 g k o j=>by
    obtain ⟨fp',s,mem⟩:=h5 Hs' H' fp2 m2 g k o j
    exact ⟨fp',.no s,mem⟩⟩
 | shr hr r ih =>
  intro e eg
  cases i with
  | zero=>simp at e
  | succ i =>
   obtain ⟨v,fp1,v1,h1,h2,h3,h4,h5⟩:=ih (i:=i) (by simpa using e) eg
   exact ⟨v,fp1,v1,by simpa using h1,h2,h3,h4,λ Hs' H' fp2 m2 g k o j=>by
    obtain ⟨fp',s,mem⟩:=h5 Hs' H' fp2 m2 g k o j
    exact ⟨fp',.shr (hr.same g) s,mem⟩⟩
 | @mu p v b' m' ρ σ τ fq fp ho hp z j r ih =>
  intro e eg
  cases i with
  | zero =>
   have e':Sm.mu b' m'=.mu b m:=by simpa using e
   injection e' with e1 e2
   subst e1 e2;obtain ⟨fp1,v1,w1,w2,w3,w4⟩:=ho.tU q eg;refine ⟨v,fp1,v1,rfl,w1,w2,λ c hc=>Zp _ (w3 c hc),λ Hs' H' fp2 m2 g k o jj=>?_⟩;obtain ⟨fp',o',i'⟩:=w4 Hs' H' fp2 m2 g (λ c hc hn=>k c (Zp _ hc) hn) o λ c hc=>(jj c hc).imp id λ y q=>y.1 (Zp _ q)
   refine ⟨fp'++fp,.mu o' hp (λ c hc=>?_) (λ c hc=>?_) (r.mv g λ c hc=>k c (Zc _ hc) λ y=>j c (w3 c y) hc),λ c=>?_⟩
   ·rcases (i' c).mp hc with y | y
    · exact z c y.1
    ·rcases jj c y with y | y
     · exact z c (w3 c y)
     · exact y.2
   ·rcases (i' c).mp hc with y | y
    · exact j c y.1
    ·rcases jj c y with y | y
     · exact j c (w3 c y)
     · exact λ q=>y.1 (Zc _ q)
   ·rw [Zg,Zg,i' c]
    constructor
    ·rintro ((y | y) | y)
     · exact .inl ⟨.inl y.1,y.2⟩
     · exact .inr y
     · exact .inl ⟨.inr y,λ q=>j c (w3 c q) y⟩
    ·rintro (⟨y | y,y2⟩ | y)
     · exact .inl (.inl ⟨y,y2⟩)
     · exact .inr y
     · exact .inl (.inr y)
  | succ i =>
   obtain ⟨v',fp1,v1,h1,h2,h3,h4,h5⟩:=ih (i:=i) (by simpa using e) eg;refine ⟨v',fp1,v1,by simpa using h1,h2,h3,λ c hc=>Zc _ (h4 c hc),λ Hs' H' fp2 m2 g k o jj=>?_⟩;obtain ⟨fp',s,mem⟩:=h5 Hs' H' fp2 m2 g (λ c hc hn=>k c (Zc _ hc) hn) o λ c hc=>(jj c hc).imp id λ y=>⟨λ q=>y.1 (Zc _ q),y.2⟩
   have nf:∀ c ∈ fq,c ∉ fp1:=λ c hc q=>j c hc (h4 c q)
   refine ⟨fq++fp',.mu (ho.mv g λ c hc=>k c (Zp _ hc) (nf c hc)) hp z (λ c hc q=>?_) s,λ c=>?_⟩
   ·rcases (mem c).mp q with y | y
    · exact j c hc y.1
    ·rcases jj c y with y | y
     · exact nf c hc y
     · exact y.1 (Zp _ hc)
   ·rw [Zg,Zg,mem c]
    constructor
    ·rintro (y | y | y)
     · exact .inl ⟨.inl y,nf c y⟩
     · exact .inl ⟨.inr y.1,y.2⟩
     · exact .inr y
    ·rintro (⟨y | y,y2⟩ | y)
     · exact .inl y
     · exact .inr (.inl ⟨y,y2⟩)
     · exact .inr (.inr y)
theorem StM.out (h:StM K H0 Hs H ρ σ τ fp):τ[i]?=some (.mu b m)->∃ v fq fp',σ[i]?=some (some v)/\Od K Hs H fq v m/\StM K H0 Hs H ρ σ (τ.set i .no) fp'/\(∀ c ∈ fq,c ∉ fp'/\c ∈ fp)/\(∀ c,c ∈ fp↔c ∈ fq\/c ∈ fp'):=by
 induction h generalizing i with
 | nil=>intro e; simp at e
 | no r ih =>
  intro e
  cases i with
  | zero=>simp at e
  | succ i =>
   obtain ⟨v,fq,fp',h1,h2,h3,h4,h5⟩:=ih (i:=i) (by simpa using e);exact ⟨v,fq,fp',by simpa using h1,h2,.no h3,h4,h5⟩
 | shr hr r ih =>
  intro e
  cases i with
  | zero=>simp at e
  | succ i =>
   obtain ⟨v,fq,fp',h1,h2,h3,h4,h5⟩:=ih (i:=i) (by simpa using e);exact ⟨v,fq,fp',by simpa using h1,h2,.shr hr h3,h4,h5⟩
 | @mu p v b' m' ρ σ τ fq fp ho hp z j r ih =>
  intro e
  cases i with
  | zero =>
   have e':Sm.mu b' m'=.mu b m:=by simpa using e
   injection e' with e1 e2
   subst e1 e2;exact ⟨v,fq,fp,rfl,ho,.no r,λ c hc=>⟨j c hc,Zp _ hc⟩,λ c=>Zg⟩
  | succ i =>
   obtain ⟨v',fq',fp',h1,h2,h3,h4,h5⟩:=ih (i:=i) (by simpa using e);refine ⟨v',fq',fq++fp',by simpa using h1,h2,.mu ho hp z (λ c hc q=>j c hc ((h5 c).mpr (.inr q))) h3,λ c hc=>⟨λ q=>?_,Zc _ (h4 c hc).2⟩,λ c=>?_⟩
   ·rcases Zg.mp q with q | q
    · exact j c q (h4 c hc).2
    · exact (h4 c hc).1 q
   ·rw [Zg,Zg,h5 c]
    constructor
    ·rintro (y | y | y)
     · exact .inr (.inl y)
     · exact .inl y
     · exact .inr (.inr y)
    ·rintro (y | y | y)
     · exact .inr (.inl y)
     · exact .inl y
     · exact .inr (.inr y)
theorem StM.ur (h:StM K H0 Hs H ρ σ τ fp) (hv:Rp K Hs v d):∃ fp',StM K H0 Hs H ρ (σ.set i (some v)) (τ.set i (.shr d)) fp'/\∀ c ∈ fp',c ∈ fp:=by
 induction h generalizing i with
 | nil=>exact ⟨[],.nil,λ _ h=>h⟩
 | no r ih =>
  cases i with
  | zero=>exact ⟨_,.shr hv r,λ _ h=>h⟩
  | succ i=>obtain ⟨fp',h1,h2⟩:=ih (i:=i); exact ⟨fp',.no h1,h2⟩
 | shr h r ih =>
  cases i with
  | zero=>exact ⟨_,.shr hv r,λ _ h=>h⟩
  | succ i=>obtain ⟨fp',h1,h2⟩:=ih (i:=i); exact ⟨fp',.shr h h1,h2⟩
 | mu h hp z j r ih =>
  cases i with
  | zero=>exact ⟨_,.shr hv r,λ _ h=>Zc _ h⟩
  | succ i =>
   obtain ⟨fp',h1,h2⟩:=ih (i:=i);exact ⟨_,.mu h hp z (λ c hc q=>j c hc (h2 c q)) h1,λ c hc=>(Zg.mp hc).elim (Zp _) λ q=>Zc _ (h2 c q)⟩
theorem StM.setM (h:StM K H0 Hs H ρ σ τ fp) (hv:Od K Hs H fq v m) (z:∀ c ∈ fq,H0 c=none/\c ∉ fp) (hi:i < τ.length):∃ fp',StM K H0 Hs H ρ (σ.set i (some v)) (τ.set i (.mu false m)) fp'/\∀ c ∈ fp',c ∈ fq\/c ∈ fp:=by
 induction h generalizing i with
 | nil=>exact absurd hi (by simp)
 | no r ih =>
  cases i with
  | zero=>exact ⟨_,.mu hv (λ e=>by cases e) (λ c hc=>(z c hc).1) (λ c hc=>(z c hc).2) r,λ c h=>Zg.mp h⟩
  | succ i=>obtain ⟨fp',h1,h2⟩:=ih (i:=i) z (by simpa using hi); exact ⟨fp',.no h1,h2⟩
 | shr h r ih =>
  cases i with
  | zero=>exact ⟨_,.mu hv (λ e=>by cases e) (λ c hc=>(z c hc).1) (λ c hc=>(z c hc).2) r,λ c h=>Zg.mp h⟩
  | succ i=>obtain ⟨fp',h1,h2⟩:=ih (i:=i) z (by simpa using hi); exact ⟨fp',.shr h h1,h2⟩
 | @mu p v' b' m' ρ σ τ fq' fp h hp z' j r ih =>
  have zr:∀ c ∈ fq,H0 c=none/\c ∉ fp:=λ c hc=>⟨(z c hc).1,λ q=>(z c hc).2 (Zc _ q)⟩
  cases i with
  | zero=>exact ⟨_,.mu hv (λ e=>by cases e) (λ c hc=>(z c hc).1) (λ c hc=>(zr c hc).2) r,λ c h=>(Zg.mp h).imp id λ q=>Zc _ q⟩
  | succ i =>
   obtain ⟨fp',h1,h2⟩:=ih (i:=i) zr (by simpa using hi);refine ⟨_,.mu h hp z' (λ c hc q=>?_) h1,λ c hc=>?_⟩
   ·rcases h2 c q with y | y
    · exact (z c y).2 (Zp _ hc)
    · exact j c hc y
   ·rcases Zg.mp hc with y | y
    · exact .inr (Zp _ y)
    · exact (h2 c y).imp id λ q=>Zc _ q
end
structure bP (K:W.Frag) (Hs0 H0:Hp) (ρ:List (Option Addr)) (Hs H:Hp) (σ:St) (τ:List Sm):Prop where
 ext:Ext Hs0 H0 Hs H
 st:∃ fp,StM K H0 Hs H ρ σ τ fp
section
variable {K:W.Frag} {Hs0 H0 Hs H Hs' H':Hp} {ρ:List (Option Addr)} {σ:St} {τ:List Sm}
theorem bP.ext' (r:bP K Hs0 H0 ρ Hs H σ τ) (g:Ext Hs H Hs' H'):bP K Hs0 H0 ρ Hs' H' σ τ:=by
 obtain ⟨fp,h⟩:=r.st;refine ⟨⟨r.ext.ss.trans g.ss,g.sh,r.ext.hh.trans g.hh,λ b h1 h2=>g.fr b (r.ext.fr b h1 h2) (r.ext.hh.live h2)⟩,fp,h.ext g⟩
theorem bP.grow (r:bP K Hs0 H0 ρ Hs H σ τ) (g:bp H H'):bP K Hs0 H0 ρ Hs H' σ τ:=r.ext' ⟨.refl _,r.ext.sh.trans g,g,λ _ h _=>h⟩
theorem bP.sm (r:bP K Hs0 H0 ρ Hs H σ τ):bp Hs H:=r.ext.sh
end
def Nf (N H0:Hp):Prop:=∀ d o u,N d=some (.frz o u)->H0 d≠none
theorem Nf.upd (h:Nf N H0):Nf N (upd H0 p u):=λ d o w e=>by
 by_cases z:d=p
 · rw [z,av]; simp
 · rw [ar z]; exact h d o w e
inductive Hm where
 | next (τ:List Sm) | ret (s:Sm) (τ:List Sm) | brk (τ:List Sm) | cnt (τ:List Sm)
abbrev DSm:=List Sm->Option Hm
abbrev DEm:=List Sm->Option (Sm×List Sm)
abbrev DTm:=List Sm->Option (Bool×List Sm)
abbrev DPx:=List Sm->Option (Nat×List Stp)
def IY (K:W.Frag) (Hs0 H0:Hp) (ρ:List (Option Addr)) (E:Ends):Hm->Prop
 | .next τ=>∀ σ Hs H,bP K Hs0 H0 ρ Hs H σ τ->E.nx σ H
 | .brk τ=>∀ σ Hs H,bP K Hs0 H0 ρ Hs H σ τ->E.bk σ H
 | .cnt τ=>∀ σ Hs H,bP K Hs0 H0 ρ Hs H σ τ->E.ct σ H
 | .ret s τ=>∀ v σ Hs H,bP K Hs0 H0 (none::ρ) Hs H (some v::σ) (s::τ)->E.rt v H
def MD (N:Hp) (K:W.Frag) (f:DSm):TS:=λ E σ H=>∃ (Hs0 H0:Hp),∃ (_:Nf N H0),∃ ρ Hs τ o,bP K Hs0 H0 ρ Hs H σ τ/\f τ=some o/\IY K Hs0 H0 ρ E o
def N8 (N:Hp) (K:W.Frag) (f:DEm):TE:=λ σ H Q=>∃ (Hs0 H0:Hp),∃ (_:Nf N H0),∃ ρ Hs τ s τ',bP K Hs0 H0 ρ Hs H σ τ/\f τ=some (s,τ')/\∀ v Hs' H',bP K Hs0 H0 (none::ρ) Hs' H' (some v::σ) (s::τ')->Q v H'
def N4 (N:Hp) (K:W.Frag) (f:DTm):TT:=λ σ H Q=>∃ (Hs0 H0:Hp),∃ (_:Nf N H0),∃ ρ Hs τ b τ',bP K Hs0 H0 ρ Hs H σ τ/\f τ=some (b,τ')/\∀ Hs' H',bP K Hs0 H0 ρ Hs' H' σ τ'->Q b H'
def PSm (X:Cx) (s:Stmt) (f:DSm):Prop:=PS X s (MD X.H₀ X.K f)
def mL (X:Cx) (s:List Stmt) (f:DSm):Prop:=PSs X s (MD X.H₀ X.K f)
def PEm (X:Cx) (e:Expr) (f:DEm):Prop:=PE X e (N8 X.H₀ X.K f)
def PTm (X:Cx) (e:Expr) (f:DTm):Prop:=PT X e (N4 X.H₀ X.K f)
def bh (τ:List Sm) (i:Nat) (q:List Stp):Option Mt:=match τ[i]? with
 | some (.mu _ m)=>m.get q
 | _=>none
def fD (τ:List Sm) (i:Nat) (q:List Stp) (m2:Mt):List Sm:=match τ[i]? with
 | some (.mu b m)=>τ.set i (.mu b (m.put q m2))
 | _=>τ
def rdX (N:Hp) (K:W.Frag) (f:DPx):TE:=λ σ H Q=>∃ (Hs0 H0:Hp),∃ (_:Nf N H0),∃ ρ Hs τ i q m,bP K Hs0 H0 ρ Hs H σ τ/\f τ=some (i,q)/\bh τ i q=some m/\∀ v v1 H',bp H H'->σ[i]?=some (some v)->vAt H' v q=some v1->Q v1 H'
def PXm (X:Cx) (e:Expr) (f:DPx):Prop:=PE X e (rdX X.H₀ X.K f)
section
variable {X:Cx} {pins:List (Addr×Obj)} {σ:St} {H:Hp} {s:Shared} {h':Heap}
theorem Inv.A3 {t':Nat} {wr:List Addr} {T:Addr} {xs:List V} (I:Inv X pins σ H s) (hw:∀ b ∈ wr,tT X pins H b) (k:∀ b o,b ∉ wr->s.heap.get? b=some o->h'.get? b=some o)
  (hT:s.heap.objs.size<=T) (new:cc X.prog X.w (upd H T (.tup xs)) h' T (.tup xs)):Inv X pins σ (upd H T (.tup xs)) { s with heap:=h',toks:=t' }:=by
 have hn:=I.hok.fresh hT;have neT:∀ b u,H b=some u->b≠T:=λ b u e z=>by rw [z,hn] at e; cases e
 have neS:∀ b o,s.heap.get? b=some o->b≠T:=λ b o e z=>by
  have:=Zr e;rw [z] at this;exact absurd (Zy this hT) (Yw _)
 have nw:∀ b u,H b=some u->b ∉ wr:=λ b u e z=>by rw [(hw b z).1] at e; cases e
 refine I.step (λ b hb=>?_) (λ b o _ _ hc e _=>k b o hc e) (λ b o _ _ hc e _=>⟨o.slots,k b o hc e⟩) (λ b o _ e n=>by rw [ar (neS b o e)]; exact n)
  (λ b o hc e=>⟨o,k b o hc e⟩) (λ b ys e=>by rw [ar (neT b _ e)]; exact e) (λ b o u e=>by rw [ar (neT b _ e)]; exact e) (λ b ps e=>⟨#[],by rw [ar (neT b _ e),e]; simp⟩) (λ m hm=>?_) (λ b u e=>?_) I.bare
 ·obtain ⟨f0,f1,f2,f3,f4,f5⟩:=hw b hb
  exact ⟨f3,f1,f4,f5⟩
 ·obtain ⟨o,es,ep,ho,r⟩:=hm
  exact ⟨o,es,ep,k _ o (λ z=>(hw _ z).2.1 rfl) ho,r⟩
 ·by_cases hb:b=T
  ·subst hb
   rw [av] at e;cases e;exact new
  ·rw [ar hb] at e
   refine (I.hok b u e).xF (λ c v hc q=>k c v ?_ q) (λ c q=>by rw [ar (neT c _ q)]; exact q) λ c ys q=>by rw [ar (neT c _ q)]; exact q
   rcases hc with z | z
   · rw [z]; exact nw b u e
   · exact nw c _ z
end
structure Bx (p:Prop):Prop where
 out:p
def Ite (K:W.Frag) (l:Addr):It where
 go:=λ i H=>∃ xs x,SqL K H l xs/\xs[i]?=some x
 yld:=λ i H v H'=>∃ T x,v=.ref T/\H T=none/\H'=upd H T (.tup [.int (i:Int),x])/\∀ xs,SqL K H l xs->xs[i]?=some x
 stop:=λ i H=>∃ xs,SqL K H l xs/\xs.length<=i
def ESt (e it l:Addr) (i:Nat) (h:Heap):Prop:=(∃ old,IsEnum h e it ((i:Nat):Int) old)/\h.IsListIter it l i
theorem ua {P:Program} {w:World} {K:W.Frag} {elts:List Expr} {k:Nat} {pos:Pos} {e it l:Addr} (ne:e≠it) :
  Turn P w K (.Tuple elts k pos) (Ite K l) [e,it] e (ESt e it l) where
 mem:=by simp
 obj:=λ i h st b hb=>by
  obtain ⟨⟨old,s1⟩,⟨o4,e4,c4,d4⟩⟩:=st;simp only [Zl,Z8,or_false] at hb;rcases hb with rfl | rfl
  · exact ⟨_,s1,λ v z=>by cases z⟩
  · exact ⟨o4,e4,λ v z=>by rw [d4] at z; cases z⟩
 keep:=λ i h h' st k=>by
  obtain ⟨⟨old,s1⟩,s4⟩:=st;exact ⟨⟨old,k _ (by simp) _ s1⟩,s4.at λ o e=>k _ (by simp) o e⟩
 item:=by
  intro X hP hw hK hc i pins s σ H E I hf st hg;subst hP hw hK;obtain ⟨xs,x,hq,hx⟩:=hg;obtain ⟨its,rv,p,hz⟩:=I.list hq;obtain ⟨u,hu,ru⟩:=rv.get hx;obtain ⟨⟨old,s1⟩,s4⟩:=st;refine wpAny_pyNext_enum_item s1 s4 p.isList (by simpa using hu) ne λ h' a1 a2 a3 a4 hk=>?_
  have hk':∀ b o,b ∉ [e,it]->s.heap.get? b=some o->h'.get? b=some o:=λ b o hb e'=>hk b o (λ q=>hb (by simp [q])) (λ q=>hb (by simp [q])) e'
  have I1:Inv X pins σ (upd H s.heap.objs.size (.tup [.int (i:Int),x])) { s with heap:=h',toks:=s.toks+1 }:=I.A3 hf hk' (Zi _) ⟨by show 2<=sizeLine; decide,[.int i s.toks,u],.cons ⟨_,rfl⟩ (.cons ru .nil),_,a3,rfl,_,rfl⟩;have hn:=I.hok.fresh (Zi _);refine ⟨.ref s.heap.objs.size,rfl,wpAny_letOwnedTupleGo_enum a1 λ h2 hz2 sb=>?_⟩
  have neT:∀ b ∈ [e,it],b≠s.heap.objs.size:=λ b hb q=>by
   have lt:∃ o,s.heap.get? b=some o:=by
    obtain ⟨o4,e4,_⟩:=s4;simp only [Zl,Z8,or_false] at hb;rcases hb with rfl | rfl
    · exact ⟨_,s1⟩
    · exact ⟨_,e4⟩
   obtain ⟨o,e'⟩:=lt;rw [q] at e';exact absurd (Zr e') (Yw _)
  obtain ⟨f0,f1,f2,f3,f4,f5⟩:=hf e (by simp);have I2:=I1.turned (t':=s.toks+1) (λ b o hb e'=>(sb.2 b hb).trans e') (by rw [ar (neT e (by simp))]; exact f0) f1 f3 f4 f5;refine ⟨.ref s.heap.objs.size,_,I2,rfl,⟨s.heap.objs.size,x,rfl,hn,rfl,λ zs hz=>by rw [I.rf hz hq]; exact hx⟩,?_,λ b hb=>by rw [ar (neT b hb)]; exact (hf b hb).1⟩;exact ⟨⟨_,hz2⟩,a2.extBut sb.extBut (Ne.symm ne)⟩
 done:=by
  intro X hP hw hK hc i pins s σ H E I hf st hg;subst hP hw hK;obtain ⟨xs,hq,hx⟩:=hg;obtain ⟨its,rv,p,hz⟩:=I.list hq;obtain ⟨⟨old,s1⟩,s4⟩:=st;have l1:=rv.length;refine wpAny_pyNext_enum_end (I.ok.hd hc) s1 s4 p.isList (by simp; omega) λ h' eb=>⟨rfl,?_⟩
  obtain ⟨f0,f1,f2,f3,f4,f5⟩:=hf it (by simp);exact I.turned (λ b o hb e=>eb b o hb e) f0 f1 f3 f4 f5
 self:=λ _ _ _ _ _ st h=>by
  obtain ⟨⟨old,s1⟩,s4⟩:=st;exact wpAny_pyIter_enum s1 h
theorem xv:bootBuiltins "enumerate"=some (.type "enumerate"):=by rfl
def L8 (K:W.Frag) (ta:TA):TI:=λ σ H R=>ta σ H λ vs H1=>∃ l xs,vs=[.ref l]/\SqL K H1 l xs/\R (Ite K l) H1
theorem BW {X:Cx} {a:Expr} {ta:TA} {elts:List Expr} {k:Nat} {pt p pos:Pos} (hg:Gl X "enumerate") (hm:X.mg "enumerate"=none) (ha:PA X [a] ta) (hs:starEach [a] X.env=[(false,eval a X.env)]:=by rfl) :
  PI X (.Tuple elts k pt) (.Call (.Name "enumerate" p) [a] [] pos) (L8 X.K ta):=by
 intro pins s σ H R I h;refine Call_ (iZ I hg hm xv (Yt (thn (ha pos pins s σ H _ I h) λ us s1 ⟨vs,H1,I1,r1,q1⟩=>?_) (by rw [hs]; rfl) (by rfl)));obtain ⟨l,xs,e,q1,q⟩:=q1;subst e
 cases r1 with
 | cons r rr =>
  cases rr;cases r;obtain ⟨its1,rv1,p1,hz1⟩:=I1.list q1;refine call_enumerate_list p1.isList λ h' hE hI hsz hk=>?_
  refine wpAny_pyIter_enum hE ?_
  refine ⟨_,[s1.heap.objs.size+1,s1.heap.objs.size],_,_,H1,rfl,I1.kept hk,ua (Nat.succ_ne_self _),⟨⟨_,hE⟩,hI⟩,λ b hb=>?_,q⟩
  have hb':s1.heap.objs.size<=b:=by
   simp only [Zl,Z8,or_false] at hb;rcases hb with rfl | rfl
   · exact Nat.le_add_right _ 1
   · exact Zi _
  exact I1.t4 hb' (I1.hok.fresh hb')
def gm (ds:List D):List D:=ds.mapIdx λ i d=>D.tup [.int (i:Int),d]
theorem rl {K:W.Frag} {a:Addr} {xs:List V} {Hs:Hp} {as:List D} (h1:SqL K Hs a xs) (r1:Rps K Hs xs as):ItR K (Ite K a) Hs (gm as):=λ Hs1 H g1 g2=>by
 have hq1:=g2.seq (g1.seq h1);have l1:=r1.length;refine ⟨λ i d e=>?_,λ i hi=>⟨xs,hq1,?_⟩⟩
 ·unfold gm at e
  rw [List.getElem?_mapIdx] at e;obtain ⟨p,ea,ed⟩:=Zm e;obtain ⟨x,hx,rx⟩:=r1.get ea;subst ed;refine ⟨⟨xs,x,hq1,hx⟩,λ v H' ⟨T,vx,e1,hn,e2,f1⟩=>?_⟩;subst e1 e2;have ex:=f1 xs hq1;rw [hx] at ex;cases ex;have g:=Ext.new g2 hn (.tup [.int (i:Int),x]);exact ⟨_,g,.tup (SqT.of av) (.cons (.int _) (.cons ((rx.same g1).same g.ss) .nil))⟩
 ·have hl:(gm as).length=as.length:=by simp [gm]
  omega
def lI (f:DA):DI:=λ τ=>(f τ).bind λ ds=>match ds with | [.lst as]=>some (gm as) | [.fz as]=>some (gm as) | _=>none
theorem yy (hg:Gl X "enumerate") (hm:X.mg "enumerate"=none) (ha:PAd X [a] f) (hs:starEach [a] X.env=[(false,eval a X.env)]:=by rfl) :
   PId X (.Tuple elts k pt) (.Call (.Name "enumerate" p) [a] [] pos) (lI f) :=
 (BW hg hm ha hs).imp λ σ H R ⟨H0,Hs,τ,fp,ds,st,sm,e,k⟩=>by
   obtain ⟨x,e1,e2⟩:=bind_some e;refine ⟨H0,Hs,τ,fp,x,st,sm,e1,λ v Hs' H' g r=>?_⟩
   match x,r,e2 with
   | [y],.cons hy .nil,e2 =>
    cases hy with
    | @lst a1 xs1 ds1 h1 r1 =>
     have e':=Zj e2;subst e';exact ⟨a1,xs1,rfl,SqL.of (g.sh _ _ h1),k _ Hs' H' g (rl (SqL.of h1) r1)⟩
    | @fz a1 xs1 ds1 h1 r1 =>
     have e':gm ds1=ds:=Zj e2;subst e';exact ⟨a1,xs1,rfl,g.sh.seq h1,k _ Hs' H' g (rl h1 r1)⟩
    | _=>exact nn e2
   | [],_,e2=>simp at e2
   | _::_::_,_,e2=>simp at e2
section
variable {X:Cx} {a b e o:Expr} {es:List Expr} {pos apos cpos:Pos} {f g:DE}
theorem EH:SlR X (λ x lo hi H Q=>∃ z,x=.str z/\z.length<=sizeLine/\Q (.str (Txt.slice z lo hi)) H):=by
 intro pins s σ H x v vl vu lo hi sl Q I rx hs pl pu h;obtain ⟨z,rfl,hz,q⟩:=h;obtain ⟨t,rfl⟩:=rx;have fin:∀ t' k,EP X pins σ Q (.str (Txt.slice z lo hi) t') { s with toks:=k }:=λ t' k=>⟨.str _,H,I.tok k,⟨_,rfl⟩,q⟩
 refine ⟨"str",_,PySem.F.slot_str_getitem.lookup,typeIs_str s z t,?_⟩
 cases pl with
 | none=>cases pu with
  | none=>exact Xj (l:=none) (u:=none) (st:=none) hs rfl (post_val_or_str ⟨Z3 (Txt.slice_le z _ _) hz,fin⟩)
  | int j t2=>exact Xj (l:=none) (u:=some (j,t2)) (st:=none) hs rfl (post_val_or_str ⟨Z3 (Txt.slice_le z _ _) hz,fin⟩)
 | int i t1=>cases pu with
  | none=>exact Xj (l:=some (i,t1)) (u:=none) (st:=none) hs rfl (post_val_or_str ⟨Z3 (Txt.slice_le z _ _) hz,fin⟩)
  | int j t2=>exact Xj (l:=some (i,t1)) (u:=some (j,t2)) (st:=none) hs rfl (post_val_or_str ⟨Z3 (Txt.slice_le z _ _) hz,fin⟩)
def MJ:D->Option Int->Option Int->Option D
 | .str z,l,u=>if z.length<=100000 then some (.str (Txt.slice z l u)) else none
 | _,_,_=>none
def IS (f:DE) (l u:DO):DE:=λ τ=>(f τ).bind λ x=>(l τ).bind λ l'=>(u τ).bind λ u'=>MJ x l' u'
theorem Fi {lo hi:Option Expr} {p2:Pos} {l u:DO} (ha:PEd X a f) (hl:POd X lo l) (hh:POd X hi u):PEd X (.Subscript a (.Slice lo hi none p2) pos) (IS f l u) :=
 (qJ EH ha hl hh).imp λ σ H Q ⟨H0,Hs,τ,fp,d,st,sm,e,k⟩=>by
   obtain ⟨x,e1,e⟩:=bind_some e;obtain ⟨l',e2,e⟩:=bind_some e;obtain ⟨u',e3,e⟩:=bind_some e;refine ⟨H0,Hs,τ,fp,x,st,sm,e1,λ v Hs1 H1 g1 r1=>?_⟩;refine ⟨H0,Hs1,τ,fp,l',st.ext g1,g1.sh,e2,λ Hs2 H2 g2=>?_⟩;refine ⟨H0,Hs2,τ,fp,u',(st.ext g1).ext g2,g2.sh,e3,λ Hs3 H3 g3=>?_⟩
   cases r1 with
   | str z =>
    unfold MJ at e;simp only at e;split at e
    ·rename_i hz
     have e':=Zj e;subst e';exact ⟨z,rfl,tW hz,k _ Hs3 H3 ((g1.trans g2).trans g3) (.str _)⟩
    · cases e
   | _=>exact nn e
def so:List D->Option (List Str)
 | []=>some []
 | .str x::ds=>(so ds).map (x::·)
 | _::_=>none
theorem mW:∀ {ds:List D} {ts:List Str},so ds=some ts->ds=ts.map .str
 | [],ts,h=>by cases h; rfl
 | .str x::ds,ts,h=>by
  obtain ⟨us,e,rfl⟩:=Zm h;rw [mW e]; rfl
theorem Rps.jz {K:W.Frag} {H:Hp}:∀ {ts:List Str} {xs:List V},Rps K H xs (ts.map D.str)->xs=ts.map V.str
 | [],_,.nil=>rfl
 | x::ts,_,.cons h r=>by
  cases h;rw [Rps.jz r]; rfl
def zH (f g:DE):DE:=λ τ=>(f τ).bind λ x=>(g τ).bind λ y=>match x,y with
 | .str z,.lst ds=>(so ds).bind λ ts=>if (ts.map (·.length)).sum+ts.length * z.length<=100000 then some (.str (Txt.join z ts)) else none
 | _,_=>none
theorem Ca (ho:PEd X o f) (he:PEd X e g) (hbase:attributeBase o "join" X.env (eval o X.env)=eval o X.env:=by rfl)
   (hfew:((backTo cpos (starEach [e] X.env)).all (λ x=>!x.1)&&(backToKw cpos (keywordEach [] X.env)).all (λ x=>x.1.isSome)
     && decide ([e].length+([]:List Keyword).length+(if ([]:List Keyword).isEmpty then 0 else 1) < 30))=true:=by rfl)
   (hline:(apos.endLine == cpos.line)=true:=by rfl) (hst:starEach [e] X.env=(false,eval e X.env)::starEach [] X.env:=by rfl) (hplain:(backTo cpos (starEach [] X.env)).any (·.1)=false:=by rfl) :
   PEd X (.Call (.Attribute o "join" apos) [e] [] cpos) (zH f g) :=
 (pk PySem.F.plainAttrs_str PySem.F.slot_str_join PySem.F.type_str_join CW ho (aG he cf hst) hbase hfew hline hst hplain).imp λ σ H Q ⟨H0,Hs,τ,fp,d,st,sm,e,k⟩=>by
   obtain ⟨x,e1,e⟩:=bind_some e;obtain ⟨y,e2,e⟩:=bind_some e
   obtain ⟨z,ds,rfl,rfl⟩:∃ z ds,x=.str z/\y=.lst ds:=by
     split at e
     · exact ⟨_,_,rfl,rfl⟩
     · cases e
   refine ⟨H0,Hs,τ,fp,_,st,sm,e1,λ v Hs1 H1 g1 r1=>?_⟩
   cases r1 with
   | str _ =>
     refine ⟨rfl,H0,Hs1,τ,fp,_,st.ext g1,g1.sh,e2,λ u Hs2 H2 g2 r2=>?_⟩
     cases r2 with
     | @lst p xs _ h r =>
      obtain ⟨ts,e3,e4⟩:=bind_some (e);have ed:=mW e3;subst ed;have ex:=r.jz;subst ex;split at e4
      ·rename_i hs
       have e':=Zj e4;subst e';exact ⟨z,p,ts,rfl,rfl,SqL.of (g2.sh _ _ h),Z3 hs (by decide),k _ Hs2 H2 (g1.trans g2) (.str _)⟩
      · cases e4
end
def Itd (hi:Int) (n:Nat):It:=⟨λ i _=>i < n,λ i H x H'=>H'=H/\x=.int (hi - (i:Int)),λ i _=>n<=i⟩
theorem ub {P:Program} {w:World} {K:W.Frag} {tg:Expr} (it:Addr) (hi:Int) (n:Nat):Turn P w K tg (Itd hi n) [it] it (λ i h=>IsRangeIter h it (hi - (i:Nat)) ((n:Int) - (i:Nat)) (-1)) where
 mem:=by simp
 obj:=λ i h st b hb=>by
  have e:b=it:=by simpa using hb
  subst e
  exact ⟨_,st,λ v z=>by
   have z':=z
   cases z'⟩
 keep:=λ i h h' st k=>k it (by simp) _ st
 item:=by
  intro X hP hw hK hc i pins s σ H E I hf st hg;subst hP hw hK;have hg':i < n:=hg;obtain ⟨f0,f1,f2,f3,f4,f5⟩:=hf it (by simp);refine wpAny_pyNext_range_item st (by omega) λ h' st' sb=>?_
  have I1:=I.turned (t':=s.toks+1) (λ b o hb e=>(sb.2 b hb).trans e) f0 f1 f3 f4 f5
  have st2:IsRangeIter h' it (hi - ((i+1:Nat):Int)) ((n:Int) - ((i+1:Nat):Int)) (-1):=by
   have e1:hi - (i:Int)+-1=hi - ((i+1:Nat):Int):=by omega
   have e2:(n:Int) - (i:Int) - 1=(n:Int) - ((i+1:Nat):Int):=by omega
   rw [<- e1,<- e2];exact st'
  exact ⟨_,rfl,pT st' rfl rfl (by decide) ⟨.int (hi - (i:Int)),H,I1,⟨_,rfl⟩,⟨rfl,rfl⟩,st2,λ b hb=>(hf b hb).1⟩⟩
 done:=by
  intro X hP hw hK hc i pins s σ H E I hf st hg;subst hP hw hK;obtain ⟨f0,f1,f2,f3,f4,f5⟩:=hf it (by simp);exact wpAny_pyNext_range_end (I.ok.hd hc) st (by have:n<=i:=hg; omega) λ h' eb=>⟨rfl,I.turned (λ b o hb e=>eb b o hb e) f0 f1 f3 f4 f5⟩
 self:=λ _ _ _ _ _ st h=>wpAny_pyIter_rangeiter st h
section
variable {X:Cx} {tg a b c:Expr} {p pos:Pos}
def L9 (ta:TA):TI:=λ σ H R=>ta σ H λ vs H1=>∃ i j,vs=[.int i,.int j,.int (-1)]/\(-1000000<=i/\i<=1000000/\-1000000<=j/\j<=1000000)/\R (Itd i (i - j).toNat) H1
theorem BX (hg:Gl X "range") (hm:X.mg "range"=none) (ha:PA X [a,b,c] ta) (hs:starEach [a,b,c] X.env=[(false,eval a X.env),(false,eval b X.env),(false,eval c X.env)]:=by rfl) (hs2:starEach [b,c] X.env=[(false,eval b X.env),(false,eval c X.env)]:=by rfl) :
  PI X tg (.Call (.Name "range" p) [a,b,c] [] pos) (L9 ta):=by
 intro pins s σ H R I h;refine Call_ (iZ I hg hm boot_range (Yt (thn (ha pos pins s σ H _ I h) λ us s1 ⟨vs,H1,I1,r1,q1⟩=>?_) (by rw [hs,hs2]) (by rw [hs2]; rfl)));obtain ⟨i,j,e,⟨b1,b2,b3,b4⟩,q⟩:=q1;subst e
 cases r1 with
 | cons r rr=>cases rr with
  | cons r' rr=>cases rr with
   | cons r'' rr =>
    cases rr;obtain ⟨t,rfl⟩:=r;obtain ⟨t',rfl⟩:=r';obtain ⟨t'',rfl⟩:=r'';refine PySem.call_range_3 (by decide) ?_ (Or.inl (PyProof.noPylong_small (by omega)))
    have rs:Builtin.Range.rangeSize i j (-1)=((i - j).toNat:Int):=by
     unfold Builtin.Range.rangeSize;rw [if_neg (by decide)];split <;> simp <;> omega
    have fl:∀ x:Int,-3000000<=x->x<=3000000->Builtin.Range.rangeFitsLong x=true:=λ x h1 h2=>by
     unfold Builtin.Range.rangeFitsLong;simp only [Yh,decide_eq_true_eq];omega
    refine wpAny_pyIter_range (IsRange.new ..) (by
     unfold Builtin.Range.small;rw [rs,fl i (by omega) (by omega),fl j (by omega) (by omega),fl (-1) (by decide) (by decide),fl ((i - j).toNat:Int) (by omega) (by omega),if_neg (by decide),fl (j+(-1+1)) (by omega) (by omega)]
     simp) ?_
    have I2:Inv X pins σ H1 { s1 with heap:=s1.heap.push { cls:=.type "range",data:=.fields #[.int i t,.int j t',.int (-1) t''] },toks:=s1.toks }:=I1.kept λ b o e=>Heap.get?_push_of_some _ e
    refine ⟨_,[(s1.heap.push { cls:=.type "range",data:=.fields #[.int i t,.int j t',.int (-1) t''] }).objs.size],_,_,H1,rfl,I2.kept λ b o e=>Heap.get?_push_of_some _ e,ub _ i (i - j).toNat,?_,λ b hb=>?_,q⟩
    ·have e1:i - ((0:Nat):Int)=i:=by simp
     have e2:(((i - j).toNat:Nat):Int) - ((0:Nat):Int)=Builtin.Range.rangeSize i j (-1):=by
      unfold Builtin.Range.rangeSize;rw [if_neg (by decide)];split <;> simp <;> omega
     rw [e1,e2];exact Heap.get?_push_size _ rfl
    ·have e:b=(s1.heap.push { cls:=.type "range",data:=.fields #[.int i t,.int j t',.int (-1) t''] }).objs.size:=by simpa using hb
     subst e;exact I2.t4 (Zi _) (I2.hok.fresh (Zi _))
def IU (f g:DE):DE:=λ τ=>(f τ).bind λ x=>(g τ).bind λ y=>match x,y with
 | .lst ds,.int n=>if -(2 ^ 62)<=n/\n < 2 ^ 62/\ds.length * n.toNat<=100000 then some (.lst (List.replicate n.toNat ds).flatten) else none
 | _,_=>none
theorem Rps.rep {K:W.Frag} {H:Hp} {xs:List V} {ds:List D} (r:Rps K H xs ds):∀ n:Nat,Rps K H (List.replicate n xs).flatten (List.replicate n ds).flatten
 | 0=>.nil
 | n+1=>by
  rw [Z9,Z9,Xa,Xa];exact r.append (Rps.rep r n)
theorem E6 (ha:PEd X a f) (hb:PEd X b g):PEo X (.BinOp a .Mult b pos) (IU f g):=(B1 Fz ha hb).imp λ σ H Q ⟨H0,Hs,τ,fp,d,st,sm,e,k⟩=>by
 obtain ⟨x,e1,e⟩:=bind_some e;obtain ⟨y,e2,e⟩:=bind_some e;refine ⟨H0,Hs,τ,fp,x,st,sm,e1,λ v Hs1 H1 g1 r1=>?_⟩;refine ⟨H0,Hs1,τ,fp,y,st.ext g1,g1.sh,e2,λ u Hs2 H2 g2 r2=>?_⟩
 cases r1 with
 | @lst p xs ds h r=>cases r2 with
  | int n =>
   simp only at e;split at e
   ·rename_i hh
    obtain ⟨b1,b2,b3⟩:=hh;have e':=Zj e;subst e';have g12:=g1.trans g2;have l:=r.length;refine ⟨p,n,xs,rfl,rfl,g2.sh _ _ (g2.ss _ _ h),by omega,by omega,by rw [l]; exact tW b3,λ q hq=>?_⟩;exact k q Hs2 _ ⟨g12.ss,g12.sh.trans (az hq _),g12.hh.trans (az hq _),g12.fr⟩ (.lst av (g12.sh.free hq) ((r.same g2.ss).rep n.toNat)) (g12.hh.free hq)
   · cases e
  | _=>exact nn e
 | _=>cases y <;> exact nn e
end
end L2
end
section
namespace PySem
section
variable {prog:Program} {w:World} {A:Around} {E:Value->Shared->Prop} {s:Shared}
theorem vV:typeLookup (.type "list_reverseiterator") "__len__"=pure none:=by rfl
theorem yX:typeLookup (.type "list_reverseiterator") "__length_hint__"=pure (some (.builtin "list_reverseiterator.__length_hint__")):=by rfl
theorem sT (hit:s.heap.IsRevIter it l i) (h:Q false s):wpAny (model prog w) A (Builtin.List.listLengthHint (.ref it)) Q E s:=by
 refine Zu (wpAny_specialOf hit.typeIs vV ?_);refine Zu (wpAny_specialOf hit.typeIs yX ?_);generalize hid:("list_reverseiterator.__length_hint__":String)=id0
 wp_delta
 rw [show splitId id0=some ("list_reverseiterator","__length_hint__") from by subst hid; decide +kernel];subst hid;refine Zu (wpAny_isInstance (b:=true) hit.typeIs (by rw [isSubtype_type]; kernel_rfl) ?_);exact Z7 h
theorem sU (hh:A.handled=none) (hit:s.heap.IsRevIter it l ((items.size:Int) - 1)) (hl:s.heap.IsList l items)
  (hlen:items.size<=sizeLine) (hne:l≠it) (S:Addr) (res:Value) (c₀:Nat) (hS:s.heap.get? S=some { cls:=.type "list",data:=.seq #[] c₀ }) (hSl:S≠l) (hSi:S≠it)
  (hR:∀ h' tk acc' c',(∀ b o,b≠S->b≠it->s.heap.get? b=some o->h'.get? b=some o)->h'.get? S=some { cls:=.type "list",dict:=none,data:=.seq acc' c',slots:=#[] } ->
    ItemsOf (λ i v=>items[items.size - 1 - i]?=some v) acc' items.size->R (.ok (.ret res)) { s with heap:=h',toks:=tk }) :
  wpAny (model prog w) A.in1 (Builtin.List.listExtendWith (.ref S) (.ref it) res)
    (λ fin s'=>match fin with | .done f=>R (.ok f) s' | .again c'=>c'.quiet=true/\codeAny (model prog w) A c' R s') (λ e s'=>R (.error e) s') s:=by
 have W:=(Walks.listRev (prog:=prog) (w:=w) (A:=A.in1) hh it l hne items).toS
 have hSf:S ∉ [it,l]:=λ hm=>by
  rcases Zl.mp hm with e | hm
  · exact hSi e
  · exact hSl (Zn.mp hm)
 refine Zu (wpAny_typeOf hit.typeIs ?_);have h1:Builtin.List.listSameRef (.ref S) (.ref it)=false:=by simp [Builtin.List.listSameRef,hSi]
 have h2:(Value.type "list_reverseiterator" == Value.type "list")=false:=by decide
 have h3:(Value.type "list_reverseiterator" == Value.type "tuple")=false:=by decide
 simp only [h1,h2,h3,Bool.or_false,Bool.false_eq_true,if_false];refine Zu (wpAny_pyIter_revIter hit ?_);refine Zu (wpAny_holding (sT hit ?_));refine wpAny_ite_split (λ hab=>absurd hab (by decide)) (λ _=>?_);refine Z7 ⟨plainId_quiet F.plain_extend_loop _,?_⟩
 have hit0:s.heap.IsRevIter it l ((items.size:Int) - 1 - ((0:Nat):Int)):=by
  simpa using hit
 refine codeAny_extend_loopS W hlen S hSf res items.size 0 _ #[] c₀ rfl (Z1 _) ⟨Z1 _,hit0,hl⟩ hS (ItemsOf.nil _) λ s' acc' c' hm hS' hacc=>?_
 rw [Moved.eq_with hm];refine hR s'.heap s'.toks acc' c' (λ b o hb hb2 e=>hm.heap b o (λ hmem=>?_) e) hS' hacc;rcases Zl.mp hmem with e' | hmem
 · exact hb e'
 · exact hb2 (Zn.mp hmem)
theorem yW (hh:A.handled=none) (hit:s.heap.IsRevIter it l ((items.size:Int) - 1)) (hl:s.heap.IsList l items)
  (hlen:items.size<=sizeLine) (hne:l≠it) (S:Addr) (hS:s.heap.get? S=some { cls:=.type "list",data:=.seq #[] }) (hSl:S≠l) (hSi:S≠it)
  (hR:∀ h' tk acc' c',(∀ b o,b≠S->b≠it->s.heap.get? b=some o->h'.get? b=some o)->h'.get? S=some { cls:=.type "list",dict:=none,data:=.seq acc' c',slots:=#[] } ->
    ItemsOf (λ i v=>items[items.size - 1 - i]?=some v) acc' items.size->R (.ok (.ret .none)) { s with heap:=h',toks:=tk }) :
  wpAny (model prog w) A.in1 (Builtin.«list.__init__» ⟨[.ref S,.ref it],[]⟩)
    (λ fin s'=>match fin with | .done f=>R (.ok f) s' | .again c'=>c'.quiet=true/\codeAny (model prog w) A c' R s') (λ e s'=>R (.error e) s') s:=by
 refine Zu ?_
 refine Zu (wpAny_seqItems hS rfl (Z7 ?_));refine Zu (wpAny_updateSeq hS rfl ?_);have hS₂:=Heap.get?_update_self (Obj.mapSeq (λ _=>(#[]:Array Value))) hS rfl
 have oth:∀ b o,b≠S->s.heap.get? b=some o->(s.heap.update S (Obj.mapSeq (λ _=>(#[]:Array Value)))).get? b=some o :=
  λ b o hb e=>(Heap.get?_update_other _ _ (Ne.symm hb)).trans e
 refine Zu (wpAny_letGo ?_);refine sU hh (hit.at λ o e=>oth it o (Ne.symm hSi) e) (hl.at λ o e=>oth l o (Ne.symm hSl) e) hlen hne S .none _ hS₂ hSl hSi λ h' tk acc' c' hk hS' hacc=>?_
 exact hR h' tk acc' c' (λ b o hb hb2 e=>hk b o hb hb2 (oth b o hb e)) hS' hacc
theorem mE (hh:A.handled=none) (hit:s.heap.IsRevIter it l ((items.size:Int) - 1)) (hl:s.heap.IsList l items)
  (hlen:items.size<=sizeLine) (hne:l≠it)
  (hQ:∀ h' tk acc' c',(∀ b o,b≠it->s.heap.get? b=some o->h'.get? b=some o) ->
    h'.get? s.heap.objs.size=some { cls:=.type "list",dict:=none,data:=.seq acc' c',slots:=#[] }->ItemsOf (λ i v=>items[items.size - 1 - i]?=some v) acc' items.size->Q (.ref s.heap.objs.size) { s with heap:=h',toks:=tk }) :
  wpAny (model prog w) A (call (.type "list") [.ref it]) Q E s:=by
 refine callType_codes (Q₁:=λ obj s₁=>obj=.ref s.heap.objs.size/\s₁={ s with heap:=s.heap.push { cls:=.type "list",data:=.seq #[] } }) F.called_list (F.typeCall_list_1 _) F.entry_list_init
  (code_list_new _ ⟨rfl,rfl⟩) λ obj s₁ h₁=>?_
 obtain ⟨rfl,rfl⟩:=h₁;have hS:(s.heap.push { cls:=.type "list",data:=.seq #[] }).get? s.heap.objs.size=some { cls:=.type "list",data:=.seq #[] }:=Heap.get?_push_size _ rfl
 have hSl:s.heap.objs.size≠l:=λ e=>by
  obtain ⟨o,ho,_⟩:=hl;exact Yw _ (Nat.lt_of_lt_of_eq (Zr ho) e)
 have hSi:s.heap.objs.size≠it:=λ e=>by
  obtain ⟨o,ho,_⟩:=hit;exact Yw _ (Nat.lt_of_lt_of_eq (Zr ho) e)
 refine ⟨⟨_,hS,rfl⟩,F.args_list_init_2 _ _,yW (A:=A.in1) hh (hit.at λ o e=>Heap.get?_push_of_some _ e) (hl.at λ o e=>Heap.get?_push_of_some _ e) hlen hne _ hS hSl hSi λ h' tk acc' c' hk hS' hacc=>?_⟩;exact ⟨rfl,hQ h' tk acc' c' (λ b o hb e=>hk b o (Zx (Zr e)) hb (Heap.get?_push_of_some _ e)) hS' hacc⟩
end
end PySem
namespace L2
open PySem PySem.Spec PyProof.Rows
section
variable {X:Cx} {a:Expr} {p p2 pos pos2:Pos}
def NK (K:W.Frag) (ta:TE):TE:=λ σ H Q=>ta σ H λ x H1=>∃ q ys,x=.ref q/\SqL K H1 q ys/\∀ l,H1 l=none->Q (.ref l) (upd H1 l (.lst ys.reverse))
theorem wt {its:List Value} {acc:Array Value} (h:ItemsOf (λ i v=>its.toArray[its.toArray.size - 1 - i]?=some v) acc its.toArray.size):acc=its.reverse.toArray:=by
 obtain ⟨hs,hv⟩:=h;refine Array.ext (by simpa using hs) λ i h1 h2=>?_
 have h3:=hv i acc[i] (Array.getElem?_eq_getElem h1);have h4:i < its.length:=by simpa using h2
 have h5:its[its.length - 1 - i]?=some acc[i]:=by simpa using h3
 rw [<- List.getElem?_reverse h4] at h5;have h6:its.reverse[i]?=some (its.reverse[i]'(by simpa using h4)):=List.getElem?_eq_getElem _;rw [h6] at h5
 simpa using (Zj h5).symm
theorem Aj {ta:TE} {x y:Str} (hc:X.calm=true) (hg:Gl X x) (hm:X.mg x=none) (hv:bootBuiltins x=some (.type "list")) (hg2:Gl X y) (hm2:X.mg y=none) (hv2:bootBuiltins y=some (.type "reversed")) (ha:PE X a ta)
  (hn:x≠"__name__":=by decide) (hdb:(x == ("__debug__":Str))=false:=by decide) (hn2:y≠"__name__":=by decide) (hdb2:(y == ("__debug__":Str))=false:=by decide)
  (he:starEach [.Call (.Name y p2) [a] [] pos2] X.env=(false,eval (.Call (.Name y p2) [a] [] pos2) X.env)::starEach [] X.env:=by rfl) (hpl:(backTo pos (starEach [] X.env)).any (·.1)=false:=by rfl)
  (he2:starEach [a] X.env=(false,eval a X.env)::starEach [] X.env:=by rfl) (hpl2:(backTo pos2 (starEach [] X.env)).any (·.1)=false:=by rfl) :
  PE X (.Call (.Name x p) [.Call (.Name y p2) [a] [] pos2] [] pos) (NK X.K ta):=by
 intro pins s σ H Q I h;refine Y7 (iZ I hg hm hv ?_ hn hdb);refine Yt ?_ he hpl;rw [he];refine Calls.spliced_cons ?_
 refine Y7 (iZ I hg2 hm2 hv2 ?_ hn2 hdb2);refine Yt (thn (aG ha cf he2 pos2 pins s σ H (λ vs H1=>match vs with | [x]=>(∃ q ys,x=V.ref q/\SqL X.K H1 q ys/\∀ l,H1 l=none->Q (.ref l) (upd H1 l (.lst ys.reverse))) | _=>False) I h) λ us s1 ⟨vs,H1,I1,r1,q1⟩=>?_) he2 hpl2
 match vs,r1,q1 with
 | [],_,q1=>exact q1.elim
 | _::_::_,_,q1=>exact q1.elim
 | [v],.cons r .nil,q1 =>
  obtain ⟨q,ys,ev,hq,k⟩:=q1;subst ev;cases r;obtain ⟨its,r',pl,hz⟩:=I1.list hq;have hlen:=r'.length
  have hql:q < s1.heap.objs.size:=by
   obtain ⟨o,ho,_⟩:=pl.isList;exact Zr ho
  refine call_reversed_list pl.isList ?_
  refine Calls.spliced_nil ?_
  refine mE (I1.ok.hd hc) ⟨_,Heap.get?_push_size _ rfl,rfl,rfl⟩ (pl.isList.at λ o e=>Heap.get?_push_of_some _ e) (by simp only [Zs]; omega) (Zx hql) λ h' tk acc' c' kp e hacc=>?_
  have ea:=wt hacc;subst ea;have hS:s1.heap.objs.size<=(s1.heap.push (revObj q ((its.toArray.size:Int) - 1))).objs.size:=Y0 (Nat.lt_of_lt_of_eq (Xu _) (Heap.size_push _ _).symm)
  exact ⟨.ref _,_,I1.laid (λ b o eb=>kp b o (Zx (Zr eb)) (Heap.get?_push_of_some _ eb)) hS
   (show cc X.prog X.w _ h' _ (.lst ys.reverse) from ⟨by rw [Xe]; exact hz,its.reverse,c',r'.reverse,e⟩),rfl,k _ (I1.hok.fresh hS)⟩
def DK (f:DE):DE:=λ τ=>(f τ).bind λ x=>match x with
 | .lst ds=>some (.lst ds.reverse)
 | .fz ds=>some (.lst ds.reverse)
 | _=>none
theorem Rps.reverse {K:W.Frag} {H:Hp} {xs:List V} {ds:List D} (h:Rps K H xs ds):Rps K H xs.reverse ds.reverse:=by
 match xs,ds,h with
 | _,_,.nil=>exact .nil
 | _,_,.cons r t =>
  rw [Xp,Xp];exact (Rps.reverse t).append (.cons r .nil)
theorem E5 (hc:X.calm=true) (hg:Gl X x) (hm:X.mg x=none) (hv:bootBuiltins x=some (.type "list")) (hg2:Gl X y) (hm2:X.mg y=none) (hv2:bootBuiltins y=some (.type "reversed")) (ha:PEd X a f)
  (hn:x≠"__name__":=by decide) (hdb:(x == ("__debug__":Str))=false:=by decide) (hn2:y≠"__name__":=by decide) (hdb2:(y == ("__debug__":Str))=false:=by decide)
  (he:starEach [.Call (.Name y p2) [a] [] pos2] X.env=(false,eval (.Call (.Name y p2) [a] [] pos2) X.env)::starEach [] X.env:=by rfl) (hpl:(backTo pos (starEach [] X.env)).any (·.1)=false:=by rfl)
  (he2:starEach [a] X.env=(false,eval a X.env)::starEach [] X.env:=by rfl) (hpl2:(backTo pos2 (starEach [] X.env)).any (·.1)=false:=by rfl) :
  PEo X (.Call (.Name x p) [.Call (.Name y p2) [a] [] pos2] [] pos) (DK f):=(Aj hc hg hm hv hg2 hm2 hv2 ha hn hdb hn2 hdb2 he hpl he2 hpl2).imp λ σ H Q ⟨H0,Hs,τ,fp,d,st,sm,e,k⟩=>by
 obtain ⟨x,e1,e⟩:=bind_some e;refine ⟨H0,Hs,τ,fp,x,st,sm,e1,λ v Hs1 H1 g1 r1=>?_⟩
 have fin:∀ (p:Addr) (ys:List V) (ds:List D),H1 p=none->Rps X.K Hs1 ys ds->d=.lst ds->Q (.ref p) (upd H1 p (.lst ys)):=λ p ys ds hp r ed=>by
  subst ed;exact k p Hs1 _ ⟨g1.ss,g1.sh.trans (az hp _),g1.hh.trans (az hp _),g1.fr⟩ (.lst av (g1.sh.free hp) r) (g1.hh.free hp)
 cases r1 with
 | @lst a ys ds h r=>exact ⟨_,_,rfl,SqL.of (g1.sh _ _ h),λ l hl=>fin l _ _ hl r.reverse (Zj e).symm⟩
 | @fz a ys ds h r=>exact ⟨_,_,rfl,g1.sh.seq h,λ l hl=>fin l _ _ hl r.reverse (Zj e).symm⟩
 | _=>exact nn e
end
end L2
end
section
namespace L2
open PySem PySem.Spec PyProof.Rows
section
variable {X:Cx} {pins:List (Addr×Obj)} {σ:St} {H:Hp}
def yP:List D->Option D
 | [.dct kvs]=>some (.int kvs.length)
 | _=>none
theorem AX:ee X (.builtin "len") (rdL X.K yP):=by
 intro pins s σ H xs us Q I rr h;obtain ⟨Hs,ds,d,sm,r,e,k⟩:=h
 match ds,r,e with
 | [x],.cons hx .nil,e =>
  obtain ⟨u,rfl,ru⟩:=vals1 rr
  cases hx with
  | @dct a kvs ds hH rk =>
   have e':=Zj e;subst e';cases (ru);exact Mo I (.inl (sm _ _ hH)) λ t s' I'=>⟨.int kvs.length,H,I',⟨t,rfl⟩,by rw [rk.length]; exact k _ Hs H (.refl sm) (.int _)⟩
  | _=>exact nn e
 | [],_,e=>simp [yP] at e
 | _::_::_,_,e=>simp [yP] at e
end
section
variable {X:Cx} {tg a e:Expr} {p p2 pos pos2:Pos}
def Bi (i:Nat) (f:DE):DS:=λ τ=>(f τ).bind λ d=>match d,τ[i]? with
 | .lst es,some (.own (.lst ds))=>if ds.length+es.length<=100000 then some (.next (τ.set i (.own (.lst (ds++es))))) else none
 | _,_=>none
theorem G3 (h:Bi i f τ=some o):∃ es ds,f τ=some (.lst es)/\τ[i]?=some (.own (.lst ds))/\ds.length+es.length<=100000/\o=.next (τ.set i (.own (.lst (ds++es)))):=by
 obtain ⟨d,e1,e⟩:=bind_some h
 cases d with
 | lst es =>
  cases q:τ[i]? with
  | none=>rw [q] at e; cases e
  | some s =>
   rw [q] at e
   cases s with
   | own d=>cases d with
    | lst ds =>
     simp only at e;split at e
     ·rename_i hl
      cases e;exact ⟨es,ds,e1,rfl,hl,rfl⟩
     · cases e
    | _=>simp at e
   | _=>simp at e
 | _=>simp at e
theorem BG (i:Nat) (hN:X.N[i]?=some x) (hv:Vis X.env.scope x) (he:PEd X e f) (hd:(x == ("__debug__":Str))=false:=by decide) (hcd:(x == ("__classdict__":Str))=false:=by decide)
   (hbase:attributeBase (.Name x p) "extend" X.env (eval (.Name x p) X.env)=eval (.Name x p) X.env:=by rfl)
   (hfew:((backTo cpos (starEach [e] X.env)).all (λ x=>!x.1)&&(backToKw cpos (keywordEach [] X.env)).all (λ x=>x.1.isSome)
     && decide ([e].length+([]:List Keyword).length+(if ([]:List Keyword).isEmpty then 0 else 1) < 30))=true:=by rfl)
   (hline:(apos.endLine == cpos.line)=true:=by rfl) (hst:starEach [e] X.env=(false,eval e X.env)::starEach [] X.env:=by rfl) (hplain:(backTo cpos (starEach [] X.env)).any (·.1)=false:=by rfl)
   (hs:swapsWith (.Call (.Attribute (.Name x p) "extend" apos) [e] [] cpos) none pos.line X.env=pure false:=by rfl) :
   PSd X (.Expr (.Call (.Attribute (.Name x p) "extend" apos) [e] [] cpos) pos) (Bi i f) :=
 (ft (pk Yu PySem.F.slot_list_extend PySem.F.type_list_extend vL (iS hN hv hd hcd) (aG he cf hst) hbase hfew hline hst hplain) hs).imp λ E σ H ⟨Hs0,H0,Hs,τ,o,r,e,k⟩=>by
   obtain ⟨es,ds,e1,q,hl,rfl⟩:=G3 e;obtain ⟨fp,h⟩:=r.st;obtain ⟨a,h1,h2,h3,h4⟩:=h.Ef q
   cases h2 with
   | @lst xs _ hH hn hr =>
     refine ⟨_,h1,.inl ⟨rfl,_,SqL.of hH⟩,?_⟩;refine ⟨H0,Hs,τ,fp,_,h,r.same,e1,λ v Hs' H' g1 rv=>?_⟩;have hH':=g1.hh _ _ hH;have h':=h.ext g1;have n':=g1.fr a hn (gz hH)
     cases rv with
     | @lst b ys _ hB rb =>
      refine ⟨a,b,xs,ys,rfl,rfl,hH',g1.sh _ _ hB,by rw [hr.length,rb.length]; exact tW hl,?_⟩;refine k σ Hs' _ ⟨⟨r.ext.ss.trans g1.ss,λ b u z=>?_,λ b u z=>?_,λ b k1 k2=>?_⟩,fp,h'.mut q h1 (.lst av n' ((hr.same g1.ss).append rb))⟩
      ·have ne:b≠a:=λ y=>by subst y; rw [n'] at z; cases z
       rw [ar ne]; exact g1.sh b u z
      ·have ne:b≠a:=λ y=>by subst y; rw [h3] at z; cases z
       rw [ar ne]; exact g1.hh b u (r.ext.hh b u z)
      · exact g1.fr b (r.ext.fr b k1 k2) (r.ext.hh.live k2)
end
def chD (z:Str):List D:=z.cps.toList.map λ c=>D.str ⟨#[c]⟩
def zf (f:DE):DI:=λ τ=>(f τ).bind λ d=>match d with | .str z=>some (chD z) | _=>none
theorem Dp {K:W.Frag} {z:Str} {Hs:Hp}:ItR K (Its z) Hs (chD z):=λ Hs1 H g1 g2=>by
 refine ⟨λ i d e=>?_,λ i hi=>?_⟩
 ·unfold chD at e
  rw [List.getElem?_map] at e
  cases q:z.cps.toList[i]? with
  | none=>rw [q] at e; cases e
  | some c =>
   rw [q] at e;have ed:=Zj e;subst ed
   have hi:i < z.cps.size:=by
    have:=(List.getElem?_eq_some_iff.mp q).1
    simpa using this
   have q':z.cps[i]?=some c:=by rw [<- Array.getElem?_toList]; exact q
   refine ⟨hi,?_⟩
   rintro x H' ⟨rfl,c',hc,rfl⟩
   rw [q'] at hc;cases hc;exact ⟨Hs1,.refl g2,.str _⟩
 ·show z.cps.size<=i
  unfold chD at hi;rw [Za] at hi
  simpa using hi
section
variable {X:Cx} {tg l:Expr} {f g:DE}
theorem BU (h:PEd X l f):PId X tg l (zf f):=(E9 h).imp λ σ H R ⟨H0,Hs,τ,fp,ds,st,sm,e,k⟩=>by
 obtain ⟨x,e1,e2⟩:=bind_some e;refine ⟨H0,Hs,τ,fp,x,st,sm,e1,λ v Hs' H' g r=>?_⟩
 cases r with
 | str z =>
  have e':=Zj e2;subst e';exact ⟨z,rfl,k _ Hs' H' g Dp⟩
 | _=>exact nn e2
def J5:D->D->Option D
 | .str i,.str j=>some (.bl (!decide (j.cps.toList < i.cps.toList)))
 | _,_=>none
theorem FK:OpR X (compareOp .LtE) (rdR X.K J5):=vq.imp λ x y H Q ⟨Hs,dx,dy,d,sm,rx,ry,e,k⟩=>by
 unfold J5 at e;split at e
 ·cases rx
  cases ry;have e':=Zj e;subst e';exact ⟨_,_,rfl,rfl,k _ Hs H (.refl sm) (.bl _)⟩
 · cases e
def t6:List D->Option (List Bool)
 | []=>some []
 | .bl b::ds=>(t6 ds).map (b::·)
 | _::_=>none
theorem gh:∀ {ds:List D} {bs:List Bool},t6 ds=some bs->ds=bs.map .bl
 | [],_,e=>by cases e; rfl
 | .bl b::ds,_,e=>by
  obtain ⟨bs,e1,rfl⟩:=Zm (show (t6 ds).map _=_ from e);rw [gh e1]; rfl
theorem Rps.xw {K:W.Frag} {H:Hp}:∀ {bs:List Bool} {xs:List V},Rps K H xs (bs.map D.bl)->xs=bs.map V.bl
 | [],_,.nil=>rfl
 | b::bs,_,.cons h r=>by
  cases h;rw [Rps.xw r]; rfl
def Oz:List D->Option D
 | [.lst ds]=>(t6 ds).map λ bs=>.bl (bs.all id)
 | _=>none
theorem Mr (hc:X.calm=true):ee X (.builtin "all") (rdL X.K Oz):=(zO hc).imp λ xs H Q ⟨Hs,ds,d,sm,r,e,k⟩=>by
 match ds,r,e with
 | [x],.cons hx .nil,e =>
  cases hx with
  | @lst a ys ds h r =>
   obtain ⟨bs,e1,e2⟩:=Zm (e);have ed:=gh e1;subst ed;have ey:=r.xw;subst ey;subst e2;exact ⟨a,bs,rfl,SqL.of (sm _ _ h),k _ Hs H (.refl sm) (.bl _)⟩
  | _=>exact nn e
 | [],_,e=>exact nn e
 | x::y::_,_,e=>cases x <;> exact nn e
end
theorem pN {κ:Type}:∀ {kvs:List (κ×V)} {vs:List (κ×Value)},KV kvs vs->vs.map (·.1)=kvs.map (·.1)
 | _,_,.nil=>rfl
 | _,_,.cons h r=>by rw [Zh,Zh,pN r,h.1]
def uF:V->List V->Hp->VK->Prop:=λ x vs H Q=>∃ l xs i y,x=.ref l/\vs=[.int i,y]/\H l=some (.lst xs)/\0<=i/\i<=xs.length/\xs.length < sizeLine/\i < 2 ^ 62/\Q .non (upd H l (.lst (xs.take i.toNat++y::xs.drop i.toNat)))
section
variable {X:Cx}
theorem vK:MtM X "list.insert" uF:=by
 intro pins s σ H x vs v us Q I rx rv h;obtain ⟨l,xs,i,y,rfl,rfl,hH,h0,h1,hz,h62,q⟩:=h;cases rx
 cases rv with
 | cons ri rv=>cases rv with
  | cons ry rv =>
 cases rv;obtain ⟨t,rfl⟩:=ri;rename_i u;obtain ⟨z,its,n,r,hl,e⟩:=I.Ax hH;refine Xr F.slot_list_insert ⟨_,e,rfl⟩ F.entry_list_insert (F.args_list_insert_3 _ _ _) (PySem.AutoSeq1.list_insert_list_int_val_1 l its.toArray n i t u (by rw [fitsIndex_both (by omega) (by omega)]; simp) (by rw [Zs]; omega)) ⟨e,?_⟩;refine ⟨.non,_,I.IM (its':=its.take i.toNat++u::its.drop i.toNat) hH e ?_ ((r.take _).append (.cons ry (r.drop _))) ?_,rfl,q⟩
 · have hk:(if i < 0 then (i+(its.toArray.size:Int)).toNat else min i.toNat its.toArray.size)=i.toNat:=by
    rw [if_neg (by omega),Zs];omega
   show (its.toArray.extract 0 (if i < 0 then (i+(its.toArray.size:Int)).toNat else min i.toNat its.toArray.size)).push u++its.toArray.extract (if i < 0 then (i+(its.toArray.size:Int)).toNat else min i.toNat its.toArray.size)=_;rw [hk];exact PySem.W.kl_ins_eq its i.toNat u
 · rw [Zt,Zz,Yg,Yz]; omega
theorem Ff {KK:W.Frag} (hK:X.K=KK) {o i e:Expr} {apos cpos:Pos} {to ti te:TE} (ho:PE X o to) (hi:PE X i ti) (he:PE X e te)
  (hbase:attributeBase o "insert" X.env (eval o X.env)=eval o X.env:=by rfl)
  (hfew:((backTo cpos (starEach [i,e] X.env)).all (λ x=>!x.1)&&(backToKw cpos (keywordEach [] X.env)).all (λ x=>x.1.isSome)
    && decide ([i,e].length+([]:List Keyword).length+(if ([]:List Keyword).isEmpty then 0 else 1) < 30))=true:=by rfl)
  (hline:(apos.endLine == cpos.line)=true:=by rfl) (hst:starEach [i,e] X.env=(false,eval i X.env)::starEach [e] X.env:=by rfl) (hst2:starEach [e] X.env=(false,eval e X.env)::starEach [] X.env:=by rfl) (hplain:(backTo cpos (starEach [e] X.env)).any (·.1)=false:=by rfl) :
  PE X (.Call (.Attribute o "insert" apos) [i,e] [] cpos) (tBM KK "list" uF to (Ba ti (Ba te MB))):=by
 subst hK;exact pk Yu PySem.F.slot_list_insert PySem.F.type_list_insert vK ho (aG hi (aG he cf hst2) hst) hbase hfew hline hst hplain
end
def ItK (d:Addr) (o:Obj) (kvs:List (Key×V)):It where
 go:=λ i H=>H d=some (.frz o (.dK kvs))/\i < kvs.length
 yld:=λ i H v H'=>H'=H/\∃ k w,kvs[i]?=some (k,w)/\v=kV k
 stop:=λ i H=>H d=some (.frz o (.dK kvs))/\kvs.length<=i
section
variable {X:Cx} {pins:List (Addr×Obj)} {σ:St} {H:Hp} {s:Shared}
theorem Inv.freeze (I:Inv X pins σ H s) (hd:H d=some (.dK kvs)) (ho:s.heap.get? d=some o):Inv X pins σ (upd H d (.frz o (.dK kvs))) s:=by
 have ne:∀ b u,H b=some u->(∀ k,u≠.dK k)->b≠d:=λ b u e n z=>by rw [z,hd] at e; cases e; exact n _ rfl
 have n0:∀ b,H b=none->b≠d:=λ b e z=>by rw [z,hd] at e; cases e
 refine I.un (h':=s.heap) (t':=s.toks) ⟨λ b o e _ _ _=>e,λ b o e _ _ _=>⟨o.slots,e⟩,λ b o _ z _=>by rw [ar (n0 b z)]; exact z,λ b o e _=>⟨o,e⟩,λ b xs e=>by rw [ar (ne b _ e λ _ y=>nomatch y)]; exact e,λ b o xs e=>by rw [ar (ne b _ e λ _ y=>nomatch y)]; exact e,λ b ps e=>⟨#[],by rw [ar (ne b _ e λ _ y=>nomatch y),e]; simp⟩⟩ λ b u e=>?_
 by_cases z:b=d
 ·subst z
  rw [av] at e;cases e;exact ⟨ho,I.hok b _ hd⟩
 ·rw [ar z] at e
  exact (I.hok b u e).xF (λ _ _ _ q=>q) (λ c q=>by rw [ar (ne c _ q λ _ y=>nomatch y)]; exact q) λ c xs q=>by rw [ar (ne c _ q λ _ y=>nomatch y)]; exact q
theorem Inv.NH (I:Inv X pins σ H s) (hd:H d=some (.frz o (.dK kvs))) (h0:∀ o' u',X.H₀ d≠some (.frz o' u')):Inv X pins σ (upd H d (.dK kvs)) s:=by
 have ne:∀ b u,H b=some u->(∀ o k,u≠.frz o k)->b≠d:=λ b u e n z=>by rw [z,hd] at e; cases e; exact n _ _ rfl
 have n0:∀ b,H b=none->upd H d (.dK kvs) b=none:=λ b e=>by rw [ar (λ z=>by rw [z,hd] at e; cases e)]; exact e
 refine ⟨I.ok,I.os,I.bare,⟨I.base.keep,I.base.slot,λ b ob e z hx=>n0 b (I.base.free b ob e z hx),I.base.there,λ b xs e=>?_,λ b ob xs e=>?_,λ b ps e=>?_⟩,I.loc,I.cell,n0 _ I.free,λ x c e=>n0 _ (I.j5 x c e),λ p hp=>⟨(I.pin p hp).1,n0 _ (I.pin p hp).2.1,(I.pin p hp).2.2⟩,λ b u e=>?_,I.len⟩
 ·have q:=I.base.ud b xs e
  rw [ar (ne b _ q λ _ _ y=>nomatch y)]; exact q
 ·have q:=I.base.tY b ob xs e
  rw [ar (λ z=>h0 _ _ (by rw [<- z]; exact e))]; exact q
 ·obtain ⟨more,q⟩:=I.base.ug b ps e
  exact ⟨more,by rw [ar (ne b _ q λ _ _ y=>nomatch y)]; exact q⟩
 ·by_cases z:b=d
  ·subst z
   rw [av] at e;cases e;exact (I.hok b _ hd).2
  ·rw [ar z] at e
   exact (I.hok b u e).xF (λ _ _ _ q=>q) (λ c q=>by rw [ar (ne c _ q λ _ _ y=>nomatch y)]; exact q) λ c xs q=>by rw [ar (ne c _ q λ _ _ y=>nomatch y)]; exact q
end
theorem uc {P:Program} {w:World} {K:W.Frag} {tg:Expr} (d it:Addr) (o:Obj) (kvs:List (Key×V)) (es:Array DictEntry) (ep:Nat) (hdat:o.data=.dict es ep):Turn P w K tg (ItK d o kvs) [it] it (λ i h=>h.IsKeyIter it d i kvs.length ep) where
 mem:=by simp
 obj:=λ i h st b hb=>by
  have e:b=it:=by simpa using hb
  subst e;obtain ⟨o,e,c,d⟩:=st;exact ⟨o,e,λ v z=>by rw [d] at z; cases z⟩
 keep:=λ i h h' st k=>by
  obtain ⟨o,e,r⟩:=st;exact ⟨o,k it (by simp) o e,r⟩
 item:=by
  intro X hP hw hK hc i pins s σ H E I hf st hg;subst hP hw hK;obtain ⟨hd,hi⟩:=hg;obtain ⟨g,ok⟩:=I.hok d _ hd;obtain ⟨sz,lo,vs,kv,o',es',ep',h1,h2,h3,h4⟩:=ok;rw [g] at h1;cases h1;rw [hdat] at h3;cases h3;have lv:vs.length=kvs.length:=kv.length.symm;have dat:s.heap.DictAt (bK X.prog X.w) d vs ep:=⟨o,es,g,h2,hdat,h4⟩
  obtain ⟨f0,f1,f2,f3,f4,f5⟩:=hf it (by simp);have hx:vs[i]?=some (vs[i]'(by omega)):=List.getElem?_eq_getElem (by omega)
  have hk:(kvs[i]'hi).1=(vs[i]'(by omega)).1:=by
   have e1:(vs.map (·.1))[i]?=(kvs.map (·.1))[i]?:=by rw [pN kv]
   rw [List.getElem?_map,List.getElem?_map,hx,List.getElem?_eq_getElem hi] at e1;exact (Zj e1).symm
  refine wpAny_pyNext_dict_item (k:=(vs[i]'(by omega)).1) (v:=(vs[i]'(by omega)).2) (by rw [lv]; exact st) dat hx λ key h' ik st' sb=>?_
  have I1:Inv X pins σ H { s with heap:=h' }:=I.turned (t':=s.toks) (λ b o hb e=>(sb.2 b hb).trans e) f0 f1 f3 f4 f5;obtain ⟨o2,e2,c2,d2⟩:=id st';rw [lv] at st';refine ⟨key,rfl,pT (s:={ s with heap:=h' }) e2 c2 d2 (by decide) ⟨kV (kvs[i]'hi).1,H,I1,?_,⟨rfl,_,_,List.getElem?_eq_getElem hi,rfl⟩,st',λ b hb=>(hf b hb).1⟩⟩;rw [hk];rcases bf (show nH _ key=true from ik) with ⟨j,t,e4,e5⟩ | ⟨y,t,e4,e5⟩
  · rw [e4,e5]; exact ⟨t,rfl⟩
  · rw [e4,e5]; exact ⟨t,rfl⟩
 done:=by
  intro X hP hw hK hc i pins s σ H E I hf st hg;subst hP hw hK;obtain ⟨hd,hi⟩:=hg;obtain ⟨g,ok⟩:=I.hok d _ hd;obtain ⟨sz,lo,vs,kv,o',es',ep',h1,h2,h3,h4⟩:=ok;rw [g] at h1;cases h1;rw [hdat] at h3;cases h3;have lv:vs.length=kvs.length:=kv.length.symm;have dat:s.heap.DictAt (bK X.prog X.w) d vs ep:=⟨o,es,g,h2,hdat,h4⟩
  obtain ⟨f0,f1,f2,f3,f4,f5⟩:=hf it (by simp);exact wpAny_pyNext_dict_end (I.ok.hd hc) (by rw [lv]; exact st) dat (List.getElem?_eq_none (by omega)) λ h' eb=>⟨rfl,I.turned (t':=s.toks) (λ b o hb e=>eb b o hb e) f0 f1 f3 f4 f5⟩
 self:=λ _ _ _ _ _ st h=>wpAny_pyIter_keyiter st h
def Ma (td:TE):TI:=λ σ H R=>td σ H λ v H1=>∃ d kvs,v=.ref d/\H1 d=some (.dK kvs)/\∀ o,R (ItK d o kvs) (upd H1 d (.frz o (.dK kvs)))
theorem BY {X:Cx} {tg l:Expr} {tl:TE} (hl:PE X l tl):PI X tg l (Ma tl):=by
 intro pins s σ H R I h;refine thn (hl pins s σ H _ I h) λ v s1 ⟨x,H1,I1,r1,q1⟩=>?_
 obtain ⟨d,kvs,e,hd,q⟩:=q1;subst e;cases r1;obtain ⟨sz,lo,vs,kv,o,es,ep,h1,h2,h3,h4⟩:=zC I1.hok hd;have lv:vs.length=kvs.length:=kv.length.symm;refine wpAny_pyIter_dict lo ⟨o,es,h1,h2,h3,h4⟩ ?_
 have I2:=(I1.freeze hd h1).kept (t':=s1.toks) (h':=s1.heap.push { cls:=.type "dict_keyiterator",data:=.fields #[.ref d,.int 0 0,.int vs.length 0,.int ep 0] }) λ b o e=>Heap.get?_push_of_some _ e
 refine ⟨s1.heap.objs.size,[s1.heap.objs.size],_,_,_,rfl,I2,uc d _ o kvs es ep h3,⟨_,Heap.get?_push_size _ rfl,rfl,by rw [lv]; rfl⟩,λ b hb=>?_,q o⟩;have e:b=s1.heap.objs.size:=by simpa using hb
 subst e;exact (I1.freeze hd h1).t4 (Zi _) ((I1.freeze hd h1).hok.fresh (Zi _))
def Jh (H0:Hp) (t:TS):TS:=λ D σ H=>t { D with nx:=λ σ1 H1=>∃ d o kvs,H1 d=some (.frz o (.dK kvs))/\(∀ o' u',H0 d≠some (.frz o' u'))/\D.nx σ1 (upd H1 d (.dK kvs)) } σ H
theorem BI {X:Cx} {st:Stmt} {t:TS} (h:PS X st t):PS X st (Jh X.H₀ t):=by
 intro pins s σ H D I hh;refine Ys (h pins s σ H _ I hh) (λ f s1 q=>?_) λ _ _ z=>z
 cases f with
 | next =>
  obtain ⟨σ',H',I',d,o,kvs,hd,h0,q⟩:=q;exact ⟨σ',_,I'.NH hd h0,q⟩
 | ret v=>exact q
 | brk=>exact q
 | cont=>exact q
def sca:D->Bool
 | .non=>true | .bl _=>true | .int _=>true | .str _=>true | .ty _=>true | _=>false
theorem uw {K:W.Frag} {H H':Hp} {v:V} {d:D} (h:Rp K H v d) (e:sca d=true):Rp K H' v d:=by
 cases h <;> first | exact .non | exact .bl _ | exact .int _ | exact .str _ | exact .ty _ | (simp [sca] at e)
theorem uv {K:W.Frag} {H H':Hp} {vs:List V} {ds:List D} (h:Rps K H vs ds):ds.all sca=true->Rps K H' vs ds:=by
 induction ds generalizing vs with
 | nil=>intro _; cases h; exact .nil
 | cons d ds ih =>
  intro e
  cases h with
  | cons h r =>
   rw [List.all_cons,Yh] at e;exact .cons (uw h e.1) (ih r e.2)
def toM:Sm->Option Mt
 | .shr d=>some (.s d)
 | .mu false m=>some m
 | _=>none
def N3 (N:Hp) (K:W.Frag) (f:DEm):TE:=λ σ H Q=>∃ (Hs0 H0:Hp),∃ (_:Nf N H0),∃ ρ Hs τ s τ',bP K Hs0 H0 ρ Hs H σ τ/\f τ=some (s,τ')/\∀ v Hs' H',bp H H'->bP K Hs0 H0 (none::ρ) Hs' H' (some v::σ) (s::τ')->Q v H'
def PVm (X:Cx) (e:Expr) (f:DEm):Prop:=PE X e (N3 X.H₀ X.K f)
def eS (g:DE):DEm:=λ τ=>(g (cb τ)).bind λ d=>if sca d=true then some (.shr d,τ) else none
def eN (g:DE):DEm:=λ τ=>(g (er τ)).map λ d=>(.shr d,τ)
def lM (ds:List D):Mt:=.n .l (ds.map λ d=>(.inl 0,.s d))
def eO (g:DE):DEm:=λ τ=>(g (cb τ)).bind λ d=>match d with
 | .lst ds=>if ds.all sca=true then some (.mu false (lM ds),τ) else none
 | _=>none
section
variable {K:W.Frag} {Hs0 H0 Hs H Hs' H':Hp} {ρ:List (Option Addr)} {σ:St} {τ:List Sm}
theorem bP.push (r:bP K Hs0 H0 ρ Hs H σ τ) (h:Rp K Hs v d):bP K Hs0 H0 (none::ρ) Hs H (some v::σ) (.shr d::τ):=⟨r.ext,let ⟨fp,s⟩:=r.st; ⟨fp,.shr h s⟩⟩
theorem bP.pop (r:bP K Hs0 H0 (p::ρ) Hs H (v::σ) (s::τ)):bP K Hs0 H0 ρ Hs H σ τ:=⟨r.ext,by
 obtain ⟨fp,s⟩:=r.st
 cases s with
 | no r=>exact ⟨_,r⟩
 | shr h r=>exact ⟨_,r⟩
 | mu h hp z j r=>exact ⟨_,r⟩⟩
theorem bP.old (r:bP K Hs0 H0 ρ Hs H σ τ) (h:H p=none):H0 p=none:=r.ext.hh.free h
theorem StM.new (h:StM K H0 Hs H ρ σ τ fp) (hp:H p=none):p ∉ fp:=λ q=>(h.live p q).2.1 hp
theorem LZ (h:Rps K Hs vs ds):∃ ts:List Kd,(ts.map Kd.kv).map (·.2)=vs/\ts.map Kd.km=ds.map (λ d=>((.inl 0:Key),Mt.s d))/\ts.flatMap Kd.fp=[]/\∀ H,∀ c ∈ ts,Od K Hs H c.fp c.v c.m:=by
 induction ds generalizing vs with
 | nil=>cases h; exact ⟨[],rfl,rfl,rfl,λ _ c hc=>by cases hc⟩
 | cons d ds ih =>
  cases h with
  | @cons x _ _ _ h r =>
   obtain ⟨ts,h1,h2,h3,h4⟩:=ih r;refine ⟨⟨.inl 0,x,.s d,[]⟩::ts,by rw [Zh,Zh,h1],by rw [Zh,Zh,h2],by rw [Yd,h3]; rfl,λ H c hc=>?_⟩;rcases Zl.mp hc with rfl | hc
   · exact .s h
   · exact h4 H c hc
theorem Od.lst (h:H a=some (.lst vs)) (n:Hs a=none) (r:Rps K Hs vs ds):Od K Hs H [a] (.ref a) (lM ds):=by
 obtain ⟨ts,h1,h2,h3,h4⟩:=LZ r;have:=Od.n (K:=K) (Hs:=Hs) (H:=H) (a:=a) (dx:=0) (t:=.l) (ts:=ts) (u:=.lst vs) h (by rw [<- h1]; exact .l _) n trivial (by rw [h3]; simp) (h4 H);rw [h2,h3] at this;exact this
theorem bP.E1 (r:bP K Hs0 H0 ρ Hs H σ τ) (g:bp H H') (h:Od K Hs H' fq v m) (z:∀ c ∈ fq,H c=none):bP K Hs0 H0 (none::ρ) Hs H' (some v::σ) (.mu false m::τ):=by
 obtain ⟨fp,s⟩:=r.st;exact ⟨(r.grow g).ext,fq++fp,.mu h (λ e=>by cases e) (λ c hc=>r.old (z c hc)) (λ c hc=>s.new (z c hc)) (s.ext ⟨.refl _,r.ext.sh.trans g,g,λ _ h _=>h⟩)⟩
theorem bP.into (r:bP K Hs0 H0 (none::ρ) Hs H (some v::σ) (s::τ)) (hf:i < τ.length) (hs:(toM s).isSome=true):bP K Hs0 H0 ρ Hs H (σ.set i (some v)) (τ.set i s):=⟨r.ext,by
 obtain ⟨fp,st⟩:=r.st
 cases st with
 | no r=>cases hs
 | shr h s=>obtain ⟨fp',h1,_⟩:=s.ur (i:=i) h; exact ⟨fp',h1⟩
 | @mu p v b m ρ σ τ fq fp h hp z j s =>
  cases b with
  | true=>cases hs
  | false=>obtain ⟨fp',h1,_⟩:=s.setM (i:=i) h (λ c hc=>⟨z c hc,j c hc⟩) hf; exact ⟨fp',h1⟩⟩
theorem lY {ts' ts:List Kd} (h:ts'.Sublist ts):(ts'.flatMap Kd.fp).Sublist (ts.flatMap Kd.fp):=by
 induction h with
 | slnil=>exact .slnil
 | cons a _ ih=>rw [Yd]; exact ih.trans (List.sublist_append_right _ _)
 | cons_cons a _ ih=>rw [Yd,Yd]; exact (List.Sublist.refl _).append ih
theorem StM.node {i:Nat} {q:List Stp} {t:Tg} {cs:List (Key×Mt)} {rt v1:V} {fp:List Addr} (rx:Ext Hs0 H0 Hs H) (st:StM K H0 Hs H ρ σ τ fp) (hg:bh τ i q=some (.n t cs)) (hi:σ[i]?=some (some rt)) (hv:vAt H rt q=some v1) :
  ∃ a dx ts u,v1=.ref a/\cs=ts.map Kd.km/\H a=some u/\Lay t dx (ts.map Kd.kv) u/\KU t ts/\Hs a=none/\H0 a=none /\
  (∀ fq l1 (k:Kd) l2 u',(l1++l2).Sublist ts->k.fp=fq->Od K Hs H fq k.v k.m->(∀ c ∈ fq,H0 c=none/\c ∉ fp)->Lay t dx ((l1++k::l2).map Kd.kv) u'->KU t (l1++k::l2)->bP K Hs0 H0 ρ Hs (upd H a u') σ (fD τ i q (.n t ((l1++k::l2).map Kd.km)))) /\
  (∀ ts' u',ts'.Sublist ts->Lay t dx (ts'.map Kd.kv) u'->KU t ts'->bP K Hs0 H0 ρ Hs (upd H a u') σ (fD τ i q (.n t (ts'.map Kd.km)))):=by
 unfold bh at hg;split at hg
 ·rename_i b m em
  obtain ⟨v,fp1,v1',w1,w2,w3,w4,w5⟩:=st.tU em hg;rw [hi] at w1;cases w1;rw [hv] at w2;cases w2;obtain ⟨a,dx,ts,u,rfl,rfl,rfl,ha,hl,nh,ku,nd,rr⟩:=w3.inv;have afp:a ∈ fp:=w4 a (Ze ..);have h0:=(st.live a afp).2.2;have ep:∀ m2,fD τ i q m2=τ.set i (.mu b (m.put q m2)):=λ m2=>by unfold fD; rw [em]
  have ex:∀ u',Ext Hs0 H0 Hs (upd H a u'):=λ u'=>by
   refine ⟨rx.ss,λ c o e=>?_,λ c o e=>?_,rx.fr⟩
   · rw [ar (λ z=>by rw [z,nh] at e; cases e)]; exact rx.sh c o e
   · rw [ar (λ z=>by rw [z,h0] at e; cases e)]; exact rx.hh c o e
  have nd1:=Zv.mp nd;refine ⟨a,dx,ts,u,rfl,rfl,ha,hl,ku,nh,h0,λ fq l1 k l2 u' hsub hk hod hz hl' ku'=>?_,λ ts' u' hsub hl' ku'=>?_⟩
  ·subst hk
   have zz:=hz;have sf:=lY hsub;rw [Ye] at sf;have nd2:=nd1.2.sublist sf;rw [Yc] at nd2;have inl:∀ c,c ∈ l1.flatMap Kd.fp\/c ∈ l2.flatMap Kd.fp->c ∈ fp:=λ c hc=>w4 c (Zd _ (sf.subset (Zg.mpr hc)))
   have nda:(a::(l1.flatMap Kd.fp++(k.fp++l2.flatMap Kd.fp))).Nodup:=lD (λ z=>nd1.1 (sf.subset (Zp _ z))) (λ z=>(zz a z).2 afp) (λ z=>nd1.1 (sf.subset (Zc _ z))) hod.nd (λ c hc=>⟨λ z=>(zz c hc).2 (inl c (.inl z)),λ z=>(zz c hc).2 (inl c (.inr z))⟩) nd2.1 nd2.2.1 λ c hc z=>nd2.2.2 c hc c z rfl
   have nda':(a::(l1++k::l2).flatMap Kd.fp).Nodup:=by rw [Ye,Yd]; exact nda
   have od:Od K Hs (upd H a u') (a::(l1++k::l2).flatMap Kd.fp) (.ref a) (.n t ((l1++k::l2).map Kd.km)):=by
    refine .n av hl' nh ku' nda' λ c hc=>?_
    have off:∀ fp',Od K Hs H fp' c.v c.m->a ∉ fp'->Od K Hs (upd H a u') fp' c.v c.m:=λ fp' o n=>o.mv (.refl _) λ x hx=>⟨(o.live x hx).1,ar λ z=>n (z ▸ hx)⟩
    have na:a ∉ c.fp:=λ z=>(Zv.mp nda').1 (Yi.mpr ⟨c,hc,z⟩)
    rcases Zg.mp hc with hc | hc
    · exact off _ (rr c (hsub.subset (Zp _ hc))) na
    ·rcases Zl.mp hc with rfl | hc
     · exact off _ hod na
     · exact off _ (rr c (hsub.subset (Zc _ hc))) na
   obtain ⟨fp',s',_⟩:=w5 Hs (upd H a u') _ _ (.refl _) (λ c hc hn=>⟨(st.live c hc).1,ar λ z=>hn (by rw [z]; exact Ze ..)⟩) od λ c hc=>by
    rcases Zl.mp hc with rfl | hc
    · exact .inl (Ze ..)
    ·rw [Ye,Yd,Zg,Zg] at hc
     rcases hc with hc | hc | hc
     · exact .inl (Zd _ (sf.subset (Zp _ hc)))
     · exact .inr ⟨(zz c hc).2,(zz c hc).1⟩
     · exact .inl (Zd _ (sf.subset (Zc _ hc)))
   exact ⟨ex u',fp',by rw [ep]; exact s'⟩
  ·have sf:=lY hsub
   have nda':(a::ts'.flatMap Kd.fp).Nodup:=Zv.mpr ⟨λ z=>nd1.1 (sf.subset z),nd1.2.sublist sf⟩
   have od:Od K Hs (upd H a u') (a::ts'.flatMap Kd.fp) (.ref a) (.n t (ts'.map Kd.km)):=by
    refine .n av hl' nh ku' nda' λ c hc=>?_
    have o:=rr c (hsub.subset hc);exact o.mv (.refl _) λ x hx=>⟨(o.live x hx).1,ar λ z=>(Zv.mp nda').1 (Yi.mpr ⟨c,hc,z ▸ hx⟩)⟩
   obtain ⟨fp',s',_⟩:=w5 Hs (upd H a u') _ _ (.refl _) (λ c hc hn=>⟨(st.live c hc).1,ar λ z=>hn (by rw [z]; exact Ze ..)⟩) od λ c hc=>by
    rcases Zl.mp hc with rfl | hc
    · exact .inl (Ze ..)
    · exact .inl (Zd _ (sf.subset hc))
   exact ⟨ex u',fp',by rw [ep]; exact s'⟩
 · cases hg
theorem bP.yR (r:bP K Hs0 H0 (none::ρ) Hs H (some v::σ) (s::τ)) (hs:toM s=some mv) (hg:bh τ i q=some (.n t cs)) (hi:σ[i]?=some (some rt)) (hv:vAt H rt q=some v1) :
  ∃ a dx ts u fv,v1=.ref a/\cs=ts.map Kd.km/\H a=some u/\Lay t dx (ts.map Kd.kv) u/\KU t ts /\
  ∀ l1 kk l2 u',(l1++l2).Sublist ts->Lay t dx ((l1++⟨kk,v,mv,fv⟩::l2).map Kd.kv) u'->KU t (l1++⟨kk,v,mv,fv⟩::l2)->bP K Hs0 H0 ρ Hs (upd H a u') σ (fD τ i q (.n t ((l1++⟨kk,v,mv,fv⟩::l2).map Kd.km))):=by
 obtain ⟨fp0,st⟩:=r.st
 cases st with
 | no st=>cases hs
 | shr h st =>
  cases hs;obtain ⟨a,dx,ts,u,h1,h2,h3,h4,h5,h6,h7,h8,_⟩:=StM.node r.ext st hg hi hv;exact ⟨a,dx,ts,u,[],h1,h2,h3,h4,h5,λ l1 kk l2 u' e1 e2 e3=>h8 [] l1 ⟨kk,v,_,[]⟩ l2 u' e1 rfl (.s h) (λ c hc=>by cases hc) e2 e3⟩
 | @mu p v b m ρ σ τ fq fp h hp z j st =>
  cases b with
  | true=>cases hs
  | false =>
   cases hs;obtain ⟨a,dx,ts,u,h1,h2,h3,h4,h5,h6,h7,h8,_⟩:=StM.node r.ext st hg hi hv;exact ⟨a,dx,ts,u,fq,h1,h2,h3,h4,h5,λ l1 kk l2 u' e1 e2 e3=>h8 fq l1 ⟨kk,v,_,fq⟩ l2 u' e1 rfl h (λ c hc=>⟨z c hc,j c hc⟩) e2 e3⟩
end
theorem eA (h:bh τ i q=some m1):∃ b m,τ[i]?=some (.mu b m)/\m.get q=some m1:=by
 unfold bh at h;split at h
 · exact ⟨_,_,‹_›,h⟩
 · cases h
theorem wI {st:Stp}:∀ (q:List Stp) {m m2:Mt},m.get (q++[st])=some m2->∃ m1,m.get q=some m1/\m1.get [st]=some m2
 | [],m,m2,h=>⟨m,by cases m <;> rfl,h⟩
 | s::q,.s d,m2,h=>by cases h
 | s :: q,.n t cs,m2,h=>by
  have h':(match u9 t cs s with | none=>none | some i=>match cs[i]? with | none=>none | some c=>Mt.get c.2 (q++[st]))=some m2:=h
  cases e1:u9 t cs s with
  | none=>rw [e1] at h'; cases h'
  | some i =>
   rw [e1] at h'
   cases e2:cs[i]? with
   | none=>simp only [e2] at h'; cases h'
   | some c =>
    simp only [e2] at h';obtain ⟨m1,h1,h2⟩:=wI q h';refine ⟨m1,?_,h2⟩;show (match u9 t cs s with | none=>none | some i=>match cs[i]? with | none=>none | some c=>Mt.get c.2 q)=some m1;simp only [e1,e2];exact h1
theorem lW {H:Hp} {st:Stp}:∀ (q:List Stp) {v v1:V},vAt H v q=some v1->vAt H v (q++[st])=vAt H v1 [st]
 | [],v,v1,h=>by
  have e:v=v1:=by cases v <;> exact Zj h
  rw [e]; rfl
 | .k k::q,v,v1,h=>by
  cases v with
  | ref a =>
   have h':(match H a with | some (.ins _ _ fs)=>(cL (fs.map λ (f:Str×V)=>((Sum.inr f.1:Key),f.2)) k).bind λ v=>vAt H v q | some (.dK kvs)=>(cL kvs k).bind λ v=>vAt H v q | _=>none)=some v1:=h;show (match H a with | some (.ins _ _ fs)=>(cL (fs.map λ (f:Str×V)=>((Sum.inr f.1:Key),f.2)) k).bind λ v=>vAt H v (q++[st]) | some (.dK kvs)=>(cL kvs k).bind λ v=>vAt H v (q++[st]) | _=>none)=_;split at h'
   ·obtain ⟨w,h1,h2⟩:=bind_some h'
    rw [h1]; exact lW q h2
   ·obtain ⟨w,h1,h2⟩:=bind_some h'
    rw [h1]; exact lW q h2
   · cases h'
  | _=>cases h
 | .i n::q,v,v1,h=>by
  cases v with
  | ref a =>
   have h':(match H a with | some (.lst xs)=>(xs[n]?).bind λ v=>vAt H v q | _=>none)=some v1:=h;show (match H a with | some (.lst xs)=>(xs[n]?).bind λ v=>vAt H v (q++[st]) | _=>none)=_;split at h'
   ·obtain ⟨w,h1,h2⟩:=bind_some h'
    rw [h1]; exact lW q h2
   · cases h'
  | _=>cases h
theorem cM (g:bp H H'):∀ (q:List Stp) {v v1:V},vAt H v q=some v1->vAt H' v q=some v1
 | [],v,v1,h=>by cases v <;> exact h
 | .k k::q,v,v1,h=>by
  cases v with
  | ref a =>
   have h':(match H a with | some (.ins _ _ fs)=>(cL (fs.map λ (f:Str×V)=>((Sum.inr f.1:Key),f.2)) k).bind λ v=>vAt H v q | some (.dK kvs)=>(cL kvs k).bind λ v=>vAt H v q | _=>none)=some v1:=h;show (match H' a with | some (.ins _ _ fs)=>(cL (fs.map λ (f:Str×V)=>((Sum.inr f.1:Key),f.2)) k).bind λ v=>vAt H' v q | some (.dK kvs)=>(cL kvs k).bind λ v=>vAt H' v q | _=>none)=_;split at h'
   ·rename_i e
    obtain ⟨w,h1,h2⟩:=bind_some h';simp only [g _ _ e];rw [h1]; exact cM g q h2
   ·rename_i e
    obtain ⟨w,h1,h2⟩:=bind_some h';simp only [g _ _ e];rw [h1]; exact cM g q h2
   · cases h'
  | _=>cases h
 | .i n::q,v,v1,h=>by
  cases v with
  | ref a =>
   have h':(match H a with | some (.lst xs)=>(xs[n]?).bind λ v=>vAt H v q | _=>none)=some v1:=h;show (match H' a with | some (.lst xs)=>(xs[n]?).bind λ v=>vAt H' v q | _=>none)=_;split at h'
   ·rename_i e
    obtain ⟨w,h1,h2⟩:=bind_some h';simp only [g _ _ e];rw [h1]; exact cM g q h2
   · cases h'
  | _=>cases h
theorem lV:∀ (fs:List (Str×V)),cL (fs.map λ f=>((Sum.inr f.1:Key),f.2)) (.inr x)=fs.lookup x
 | []=>rfl
 | (y,v)::fs=>by
  rw [Zh,List.lookup_cons]
  by_cases h:y=x
  · rw [bR (by rw [h]),h]; simp
  ·rw [bS (λ z=>h (by injection z)),lV fs]
   have:(x == y)=false:=by simpa using λ z=>h z.symm
   rw [this]
def dr (i:Nat):DPx:=λ _=>some (i,[])
def kQ (C:Addr) (x:Str) (f:DPx):DPx:=λ τ=>(f τ).bind λ p=>match bh τ p.1 p.2 with
 | some (.n (.o C') _)=>if C'=C then some (p.1,p.2++[.k (.inr x)]) else none
 | _=>none
def pe (f:DPx) (g:DE):DPx:=λ τ=>(f τ).bind λ p=>(g (cb τ)).bind λ d=>(kX d).bind λ k=>match bh τ p.1 p.2 with
 | some (.n .d _)=>some (p.1,p.2++[.k k])
 | _=>none
section
variable {K:W.Frag} {Hs0 H0 Hs H Hs' H':Hp} {ρ:List (Option Addr)} {σ:St} {τ:List Sm}
theorem bP.child {i:Nat} {q:List Stp} {st:Stp} {t:Tg} {cs:List (Key×Mt)} {m2:Mt} {rt v1:V} (r:bP K Hs0 H0 ρ Hs H σ τ) (hg:bh τ i q=some (.n t cs)) (hg2:bh τ i (q++[st])=some m2) (hi:σ[i]?=some (some rt)) (hv:vAt H rt q=some v1) :
  ∃ (a dx:Addr) (ts:List Kd) (u:HO) (w:V),v1=.ref a/\cs=ts.map Kd.km/\H a=some u/\Lay t dx (ts.map Kd.kv) u/\vAt H rt (q++[st])=some w/\vAt H (.ref a) [st]=some w:=by
 obtain ⟨fp,s⟩:=r.st;obtain ⟨a,dx,ts,u,rfl,rfl,ha,hl,_⟩:=StM.node r.ext s hg hi hv;obtain ⟨b,m,e1,e2⟩:=eA hg2;obtain ⟨m1,e3,e4⟩:=wI q e2;have e5:bh τ i q=m.get q:=by unfold bh; rw [e1]
 rw [e5,e3] at hg;cases hg;have e':(match u9 t (ts.map Kd.km) st with | none=>none | some i=>match (ts.map Kd.km)[i]? with | none=>none | some c=>Mt.get c.2 [])=some m2:=e4
 cases e6:u9 t (ts.map Kd.km) st with
 | none=>rw [e6] at e'; cases e'
 | some j =>
  rw [e6] at e'
  cases e7:(ts.map Kd.km)[j]? with
  | none=>simp only [e7] at e'; cases e'
  | some c =>
   obtain ⟨t1,k,t2,_,_,_,q4⟩:=rT ha hl e6 e7;have w:vAt H (.ref a) [st]=some k.v:=by rw [q4]; cases k.v <;> rfl
   exact ⟨a,dx,ts,u,k.v,rfl,rfl,ha,hl,by rw [lW q hv]; exact w,w⟩
end
section
variable {X:Cx} {a b c e o:Expr} {es:List Expr} {pos apos cpos pos':Pos} {x:Str}
theorem PVm.em (h:PVm X e f):PEm X e f:=PE.imp h λ σ H Q ⟨Hs0,H0,nf,ρ,Hs,τ,s,τ',r,e,k⟩=>⟨Hs0,H0,nf,ρ,Hs,τ,s,τ',r,e,λ v Hs' H' _ r'=>k v Hs' H' r'⟩
theorem Ox (h:PEd X e g):PVm X e (eS g):=PE.imp h λ σ H Q ⟨Hs0,H0,nf,ρ,Hs,τ,s,τ',r,e,k⟩=>by
 obtain ⟨d,e1,e2⟩:=bind_some e;split at e2
 ·rename_i hs
  cases e2;obtain ⟨fp,st⟩:=r.st;exact ⟨H,H,cb τ,[],d,st.cb r.sm,.refl H,e1,λ v Hs' H' g1 rv=>k v Hs H' g1.hh ((r.grow g1.hh).push (uw rv hs))⟩
 · cases e2
theorem Ov (h:PEd X e g):PVm X e (eN g):=PE.imp h λ σ H Q ⟨Hs0,H0,nf,ρ,Hs,τ,s,τ',r,e,k⟩=>by
 obtain ⟨d,e1,e2⟩:=Zm e;cases e2;obtain ⟨fp,st⟩:=r.st;exact ⟨H0,Hs,er τ,[],d,st.er,r.sm,e1,λ v Hs' H' g1 rv=>k v Hs' H' g1.hh ((r.ext' g1).push rv)⟩
theorem Ou (h:PEo X e g):PVm X e (eO g):=PE.imp h λ σ H Q ⟨Hs0,H0,nf,ρ,Hs,τ,s,τ',r,e,k⟩=>by
 obtain ⟨d,e1,e2⟩:=bind_some e;split at e2
 ·split at e2
  ·rename_i hs
   cases e2;obtain ⟨fp,st⟩:=r.st;refine ⟨H,H,cb τ,[],_,st.cb r.sm,.refl H,e1,λ a Hs' H' g1 ow hn=>?_⟩
   cases ow with
   | lst h n rr=>exact k _ Hs H' g1.hh (r.E1 g1.hh (Od.lst h (r.sm.free hn) (uv rr hs)) λ c hc=>by rw [Zn.mp hc]; exact hn)
  · cases e2
 · cases e2
theorem EV (i:Nat) (hN:X.N[i]?=some x:=by rfl) (hv:Vis X.env.scope x:=by first | exact Or.inl rfl | exact Or.inr (Or.inl rfl) | exact Or.inr (Or.inr rfl)) (hd:(x == ("__debug__":Str))=false:=by decide) (hcd:(x == ("__classdict__":Str))=false:=by decide):PXm X (.Name x p) (dr i) :=
 (iS hN hv hd hcd).imp λ σ H Q ⟨Hs0,H0,nf,ρ,Hs,τ,i',q,m,r,e,eg,k⟩=>by
   cases e;obtain ⟨b,m',e3,e4⟩:=eA eg;obtain ⟨fp,st⟩:=r.st;obtain ⟨v,fp1,v1,w1,w2,_⟩:=st.tU e3 e4;exact ⟨v,w1,k v v H (.refl H) w1 (by cases v <;> rfl)⟩
theorem EX {C:Addr} {f:DPx} (cl:Cls X.K C) (n:b7 X.K C x) (he:PXm X e f) (hb:attributeBase e x X.env (eval e X.env)=eval e X.env:=by rfl):PXm X (.Attribute e x pos) (kQ C x f) :=
 (Al he hb).imp λ σ H Q ⟨Hs0,H0,nf,ρ,Hs,τ,i',q',m,r,e,eg,k⟩=>by
   obtain ⟨⟨i,q⟩,e1,e2⟩:=bind_some e;split at e2
   ·rename_i C' cs en
    split at e2
    ·rename_i hc
     subst hc;cases e2;refine ⟨Hs0,H0,nf,ρ,Hs,τ,i,q,_,r,e1,en,λ v v1 H' g hv hq=>?_⟩;obtain ⟨a,dx,ts,u,w,rfl,rfl,ha,hl,w1,w2⟩:=(r.grow g).child en eg hv hq;generalize ek:ts.map Kd.kv=kvs at hl
     cases hl with
     | o fs =>
      have w3:((cL (fs.map λ f=>((Sum.inr f.1:Key),f.2)) (.inr x)).bind λ v=>vAt H' v [])=some w:=by
       have:=w2;simp only [vAt,ha] at this;exact this
      obtain ⟨y,h1,h2⟩:=bind_some w3;have ey:y=w:=by cases y <;> exact Zj h2
      subst ey;rw [lV] at h1;exact ⟨a,C',dx,fs,y,rfl,ha,cl,n,h1,k v y H' g hv w1⟩
    · cases e2
   · cases e2
theorem EW {f:DPx} {g:DE} (hu:X.A.units+1 < cLine) (he:PXm X a f) (hk:PEd X b g) (hs:Ek b):PXm X (.Subscript a b pos) (pe f g) :=
 (pj hu he hk hs).imp λ σ H Q ⟨Hs0,H0,nf,ρ,Hs,τ,i',q',m,r,e,eg,k⟩=>by
   obtain ⟨⟨i,q⟩,e1,e2⟩:=bind_some e;obtain ⟨d,e3,e4⟩:=bind_some e2;obtain ⟨ky,e5,e6⟩:=bind_some e4;split at e6
   ·rename_i cs en
    cases e6;refine ⟨Hs0,H0,nf,ρ,Hs,τ,i,q,_,r,e1,en,λ v v1 H1 g1 hv hq=>?_⟩;have r1:=r.grow g1;obtain ⟨fp,st⟩:=r1.st;refine ⟨H1,H1,cb τ,[],d,st.cb r1.sm,.refl H1,e3,λ y Hs2 H2 g2 ry=>?_⟩;have hy:=nI ry e5;subst hy;obtain ⟨a,dx,ts,u,w,rfl,rfl,ha,hl,w1,w2⟩:=(r1.grow g2.hh).child en eg hv (cM g2.hh q hq);generalize ek:ts.map Kd.kv=kvs at hl
    cases hl with
    | d _ =>
     have w3:((cL kvs ky).bind λ v=>vAt H2 v [])=some w:=by
      have:=w2;simp only [vAt,ha] at this;exact this
     obtain ⟨y,h1,h2⟩:=bind_some w3;have ey:y=w:=by cases y <;> exact Zj h2
     subst ey;exact ⟨a,y,rfl,by rw [<- h1]; exact mR.k ha,k v y H2 (g1.trans g2.hh) hv w1⟩
   · cases e6
end
section
variable {X:Cx}
theorem zN (hc:X.calm=true):ee X (.builtin "any") (λ xs H Q=>∃ (p:Addr) (bs:List Bool),xs=[.ref p]/\SqL X.K H p (bs.map V.bl)/\Q (.bl (bs.any id)) H):=by
 intro pins s σ H xs us Q I r h;obtain ⟨p,bs,rfl,hL,q⟩:=h;obtain ⟨u,rfl,ru⟩:=vals1 r;cases (show u=Value.ref p from ru);obtain ⟨its,rv,pl,hz⟩:=I.list hL;have hl:=pl.isList;have hlen:=rv.length;rw [Za] at hlen;have hlt:p < s.heap.objs.size:=by obtain ⟨_,e,_⟩:=hl; exact Zr e
 refine call_any_walk (wpAny_pyIter_list hl ?_)
 refine ⟨s.heap.objs.size,[s.heap.objs.size,p],[s.heap.objs.size],its.toArray.size,_,_,λ i=>(bs[i]?).getD false,rfl,Walks.list (A:=X.A.in1) (I.ok.hd hc) _ p (Zx hlt) its.toArray,
  ⟨⟨_,Heap.get?_push_size _ rfl,rfl,rfl⟩,hl.push _⟩,λ i v s' Q' E' hP hQ=>?_,λ h' tk hk=>?_⟩
 ·obtain ⟨b,e,rfl⟩:=mI rv i v (by simpa using hP)
  simp only [e,Option.getD_some] at hQ;exact Yj hQ
 ·have e:((List.range its.toArray.size).any λ i=>(bs[i]?).getD false)=bs.any id:=by
   rw [Zs,<- hlen,Y4,Y6,Y6];constructor
   ·rintro ⟨i,hi,h⟩
    have hi':=Xf.mp hi;rw [List.getElem?_eq_getElem hi'] at h;exact ⟨_,Xh hi',h⟩
   ·rintro ⟨b,hb,h⟩
    obtain ⟨i,hi,rfl⟩:=List.getElem_of_mem hb;exact ⟨i,Xf.mpr hi,by rw [List.getElem?_eq_getElem hi]; exact h⟩
  rw [e];refine ⟨.bl _,H,I.kept (t':=tk) λ b x ex=>hk b x (λ hm=>?_) (Heap.get?_push_of_some _ ex),rfl,q⟩;rw [Zn.mp hm] at ex;exact Yw _ (Zr ex)
def MK:List D->Option D
 | [.lst ds]=>(t6 ds).map λ bs=>.bl (bs.any id)
 | _=>none
theorem Mq (hc:X.calm=true):ee X (.builtin "any") (rdL X.K MK):=(zN hc).imp λ xs H Q ⟨Hs,ds,d,sm,r,e,k⟩=>by
 match ds,r,e with
 | [x],.cons hx .nil,e =>
  cases hx with
  | @lst a ys ds h r =>
   obtain ⟨bs,e1,e2⟩:=Zm (show (t6 ds).map _=some d from e);have ed:=gh e1;subst ed;have ey:=r.xw;subst ey;subst e2;exact ⟨a,bs,rfl,SqL.of (sm _ _ h),k _ Hs H (.refl sm) (.bl _)⟩
  | _=>exact nn e
 | [],_,e=>exact nn e
 | x::y::_,_,e=>cases x <;> exact nn e
theorem rm:∀ {ns:List Int} {us:List Value},bH (ns.map V.int) us->IntsAre us ns
 | [],_,.nil=>.nil
 | n::ns,_,.cons r t=>by
  obtain ⟨tk,rfl⟩:=r;exact .cons n tk (rm t)
theorem yT:MtR X "list.index" (λ x xs H Q=>∃ (p:Addr) (ns:List Int) (k:Int),x=.ref p/\xs=[.int k]/\SqL X.K H p (ns.map V.int)/\ns.length<=1000/\k ∈ ns/\Q (.int (ns.idxOf k:Nat)) H):=by
 intro pins s σ H x xs v us Q I rx rv h;obtain ⟨p,ns,k,rfl,rfl,hL,hz,hk,q⟩:=h;obtain ⟨u,rfl,tu,rfl⟩:=vals1 rv;cases (show v=Value.ref p from rx);obtain ⟨its,rw,pl,_⟩:=I.list hL;have hi:=rm rw;have hl:=hi.length;have hj:ns.idxOf k < ns.length:=Yo.mpr hk;obtain ⟨⟨c,d,da,sl⟩,ho,hc,n,hd⟩:=pl.isList;cases hc;cases hd
 refine Xr PySem.F.slot_list_index ⟨_,ho,rfl⟩ PySem.F.entry_list_index (PySem.F.args_list_index_2 _ _) (PySem.SeqAt.list_indexAt p its.toArray n d sl (.int k tu) (isInt k) (ns.idxOf k) (by simpa [hl] using hj) (by omega) ?_ λ j h1 h2=>?_)
  ⟨ho,λ y hy=>(eq_isInt k tu hi y (by simpa using hy)).at _ _,.int _,H,I.kept (t':=s.toks+1) (λ _ _ e=>e),⟨_,rfl⟩,q⟩
 ·show isInt k its[ns.idxOf k]=true
  rw [isInt_at k hi _ (by omega) hj]
  simpa using List.getElem_idxOf hj
 ·have h1':j < its.length:=by simpa using h1
  show isInt k its[j]=false;rw [isInt_at k hi j h1' (by omega)];exact ne_of_lt_idxOf h2 _
def FO:D->D->Option D
 | .lst ds,.int k=>(eE ds).bind λ ns=>if ns.length<=1000/\k ∈ ns then some (.int (ns.idxOf k:Nat)) else none
 | _,_=>none
variable {o e:Expr} {f g:DE} {apos cpos:Pos}
theorem Fu (ho:PEd X o f) (he:PEd X e g) (hbase:attributeBase o "index" X.env (eval o X.env)=eval o X.env:=by rfl)
   (hfew:((backTo cpos (starEach [e] X.env)).all (λ x=>!x.1)&&(backToKw cpos (keywordEach [] X.env)).all (λ x=>x.1.isSome)
     && decide ([e].length+([]:List Keyword).length+(if ([]:List Keyword).isEmpty then 0 else 1) < 30))=true:=by rfl)
   (hline:(apos.endLine == cpos.line)=true:=by rfl) (hst:starEach [e] X.env=(false,eval e X.env)::starEach [] X.env:=by rfl) (hplain:(backTo cpos (starEach [] X.env)).any (·.1)=false:=by rfl) :
   PEd X (.Call (.Attribute o "index" apos) [e] [] cpos) (dOp FO f g) :=
 (pk Yu PySem.F.slot_list_index PySem.F.type_list_index yT ho (aG he cf hst) hbase hfew hline hst hplain).imp λ σ H Q ⟨H0,Hs,τ,fp,d,st,sm,e,k⟩=>by
   obtain ⟨x,e1,e⟩:=bind_some e;obtain ⟨y,e2,e⟩:=bind_some e
   obtain ⟨ds,j,rfl,rfl⟩:∃ ds j,x=.lst ds/\y=.int j:=by
     unfold FO at e;split at e
     · exact ⟨_,_,rfl,rfl⟩
     · cases e
   refine ⟨H0,Hs,τ,fp,_,st,sm,e1,λ v Hs1 H1 g1 r1=>?_⟩
   cases r1 with
   | @lst a xs _ h r =>
     refine ⟨.inl ⟨rfl,_,.inl (.inl (g1.sh _ _ h))⟩,H0,Hs1,τ,fp,_,st.ext g1,g1.sh,e2,λ u Hs2 H2 g2 r2=>?_⟩
     cases r2 with
     | int _ =>
      obtain ⟨ns,en,ei⟩:=bind_some (show (eE ds).bind _=some d from e);have ed:=nL en;subst ed;have ex:=r.wz;subst ex;split at ei
      ·rename_i hc
       have e':=Zj ei;subst e';exact ⟨a,ns,j,rfl,rfl,SqL.of (g2.sh _ _ (g2.ss _ _ h)),hc.1,hc.2,k _ Hs2 H2 (g1.trans g2) (.int _)⟩
      · cases ei
end
def qC:DSm:=λ τ=>some (.next τ)
def uB:DSm:=λ _=>none
def kO (f g:DSm):DSm:=λ τ=>match f τ with
 | some (.next τ')=>g τ'
 | r=>r
def z6 (t:DTm) (f g:DSm):DSm:=λ τ=>(t τ).bind λ x=>if x.1=true then f x.2 else g x.2
def sC (i:Nat) (f:DEm):DSm:=λ τ=>(f τ).bind λ x=>if i < x.2.length/\(toM x.1).isSome=true then some (.next (x.2.set i x.1)) else none
def xX (f:DEm):DSm:=λ τ=>(f τ).map λ x=>.ret x.1 x.2
def iQ (f:DEm):DSm:=λ τ=>(f τ).map λ x=>.next x.2
def tS (g:DT):DTm:=λ τ=>(g (cb τ)).map λ b=>(b,τ)
section
variable {X:Cx} {a b c e o:Expr} {es:List Expr} {pos apos cpos pos':Pos} {x:Str} {st:Stmt} {rest:List Stmt} {f g:DSm}
theorem yg:mL X [] qC:=jH.imp λ E σ H ⟨Hs0,H0,nf,ρ,Hs,τ,o,r,e,k⟩=>by
 cases e;exact k σ Hs H r
theorem yf (h:PSm X st f):mL X [st] f:=c7 h
theorem uO (h1:PSm X st f) (h2:mL X rest g):mL X (st::rest) (kO f g):=(cN h1 h2).imp λ E σ H ⟨Hs0,H0,nf,ρ,Hs,τ,o,r,e,k⟩=>by
 unfold kO at e
 cases q:f τ with
 | none=>rw [q] at e; cases e
 | some o1 =>
  rw [q] at e;refine ⟨Hs0,H0,nf,ρ,Hs,τ,o1,r,q,?_⟩
  cases o1 with
  | next τ'=>exact λ σ' Hs' H' r'=>⟨Hs0,H0,nf,ρ,Hs',τ',o,r',e,k⟩
  | ret s τ'=>cases e; exact k
  | brk τ'=>cases e; exact k
  | cnt τ'=>cases e; exact k
theorem uR:PSm X st uB:=λ _ _ _ _ _ _ ⟨_,_,_,_,_,_,_,_,e,_⟩=>by cases e
theorem E2 {t:DTm} {x y:List Stmt} (hc:PTm X c t) (ha:mL X x f) (hb:mL X y g):PSm X (.If c x y pos) (z6 t f g):=(uY hc ha hb).imp λ E σ H ⟨Hs0,H0,nf,ρ,Hs,τ,o,r,e,k⟩=>by
 obtain ⟨⟨bb,τ1⟩,e1,e2⟩:=bind_some e;refine ⟨Hs0,H0,nf,ρ,Hs,τ,bb,τ1,r,e1,λ Hs' H' r'=>?_⟩
 cases bb with
 | true=>exact ⟨Hs0,H0,nf,ρ,Hs',τ1,o,r',by simpa using e2,k⟩
 | false=>exact ⟨Hs0,H0,nf,ρ,Hs',τ1,o,r',by simpa using e2,k⟩
theorem Bw {f:DEm} (h:PEm X e f):PSm X (.Return (some e) pos) (xX f):=(gs h).imp λ E σ H ⟨Hs0,H0,nf,ρ,Hs,τ,o,r,e,k⟩=>by
 obtain ⟨⟨s,τ1⟩,e1,rfl⟩:=Zm e;exact ⟨Hs0,H0,nf,ρ,Hs,τ,s,τ1,r,e1,λ v Hs' H' r'=>k v σ Hs' H' r'⟩
theorem Bv {i:Nat} {f:DEm} (hN:X.N.Nodup) (hi:X.N[i]?=some x) (hx:Loc X.env.scope x) (he:PEm X e f) (hs:swapsWith e (some (.Name x pos')) pos.line X.env=pure false:=by rfl) (hf:X.fn x=true\/X.env.scope.names.lookup x=some .local:=by first | exact .inl rfl | exact .inr rfl | assumption) :
  PSm X (.Assign [.Name x pos'] e pos) (sC i f):=(iR hN hi hx he hs hf).imp λ E σ H ⟨Hs0,H0,nf,ρ,Hs,τ,o,r,e,k⟩=>by
 obtain ⟨⟨s,τ1⟩,e1,e2⟩:=bind_some e;split at e2
 ·rename_i h
  cases e2;exact ⟨Hs0,H0,nf,ρ,Hs,τ,s,τ1,r,e1,λ v Hs' H' r'=>k _ Hs' H' (r'.into h.1 h.2)⟩
 · cases e2
theorem yj {f:DEm} (he:PEm X e f) (hs:swapsWith e none pos.line X.env=pure false:=by rfl):PSm X (.Expr e pos) (iQ f):=(ft he hs).imp λ E σ H ⟨Hs0,H0,nf,ρ,Hs,τ,o,r,e,k⟩=>by
 obtain ⟨⟨s,τ1⟩,e1,rfl⟩:=Zm e;exact ⟨Hs0,H0,nf,ρ,Hs,τ,s,τ1,r,e1,λ v Hs' H' r'=>k σ Hs' H' r'.pop⟩
def qE (g:DE):DSm:=λ τ=>(g (cb τ)).map λ _=>.next τ
theorem uT {g:DE} (he:PEd X e g) (hs:swapsWith e none pos.line X.env=pure false:=by rfl):PSm X (.Expr e pos) (qE g):=(ft he hs).imp λ E σ H ⟨Hs0,H0,nf,ρ,Hs,τ,o,r,e,k⟩=>by
 obtain ⟨d,e1,rfl⟩:=Zm e;obtain ⟨fp,st⟩:=r.st;exact ⟨H,H,cb τ,[],d,st.cb r.sm,.refl H,e1,λ v Hs' H' g1 rv=>k σ Hs H' (r.grow g1.hh)⟩
theorem JB {g:DT} (h:PTd X e g):PTm X e (tS g):=PT.imp h λ σ H Q ⟨Hs0,H0,nf,ρ,Hs,τ,b,τ',r,e,k⟩=>by
 obtain ⟨b',e1,e2⟩:=Zm e;cases e2;obtain ⟨fp,st⟩:=r.st;exact ⟨H,H,cb τ,[],b,st.cb r.sm,.refl H,e1,λ Hs' H' g1=>k Hs H' (r.grow g1.hh)⟩
def jG (cs:List (Key×Mt)) (k:Key) (m:Mt):List (Key×Mt):=if cs.any (λ c=>decide (c.1=k)) then cs.map (λ c=>if c.1=k then (c.1,m) else c) else cs++[(k,m)]
theorem m5 (k:Key) (nd:(ts.map Kd.k).Nodup):∃ l1 l2,(l1++l2).Sublist ts/\∀ n:Kd,n.k=k->(l1++n::l2).map Kd.kv=putK (ts.map Kd.kv) k n.v/\(l1++n::l2).map Kd.km=jG (ts.map Kd.km) k n.m/\((l1++n::l2).map Kd.k).Nodup:=by
 have ea:∀ {α:Type} (g:Kd->α),k ∈ ts.map Kd.k->((ts.map λ t=>(t.k,g t)).any λ c=>decide (c.1=k))=true:=λ g h=>by
  rw [List.any_map,Y6];obtain ⟨t,ht,rfl⟩:=Z4.mp h;exact ⟨t,ht,by simp⟩
 have en:∀ {α:Type} (g:Kd->α),k ∉ ts.map Kd.k->((ts.map λ t=>(t.k,g t)).any λ c=>decide (c.1=k))=false:=λ g h=>by
  rw [List.any_map,List.any_eq_false];exact λ t ht z=>h (Z4.mpr ⟨t,ht,by simpa using z⟩)
 by_cases h:k ∈ ts.map Kd.k
 ·obtain ⟨t,ht,et⟩:=Z4.mp h
  obtain ⟨l1,l2,rfl⟩:=List.append_of_mem ht;have nd':=nd;rw [Zk,Zh,Yc,Zv] at nd';have n1:∀ c ∈ l1,c.k≠k:=λ c hc z=>nd'.2.2 c.k (Yr hc) t.k (Ze ..) (by rw [z,et])
  have n2:∀ c ∈ l2,c.k≠k:=λ c hc z=>nd'.2.1.1 (by rw [et,<- z]; exact Yr hc)
  refine ⟨l1,l2,List.Sublist.append (.refl _) (List.sublist_cons_self ..),λ n hn=>⟨?_,?_,?_⟩⟩
  ·unfold putK
   rw [show ((l1++t::l2).map Kd.kv).any (λ kv=>decide (kv.1=k))=_ from ea Kd.v h,if_pos rfl,Z6,Zk,Zk,Zh,Zh];congr 1
   · exact Zw λ c hc=>(if_neg (n1 c hc)).symm
   ·rw [show ((λ kv=>if kv.1=k then (kv.1,n.v) else kv) ∘ Kd.kv) t=(t.k,n.v) from if_pos et,et,<- hn]
    congr 1;exact Zw λ c hc=>(if_neg (hn.symm ▸ n2 c hc)).symm
  ·unfold jG
   rw [show ((l1++t::l2).map Kd.km).any (λ kv=>decide (kv.1=k))=_ from ea Kd.m h,if_pos rfl,Z6,Zk,Zk,Zh,Zh];congr 1
   · exact Zw λ c hc=>(if_neg (n1 c hc)).symm
   ·rw [show ((λ c=>if c.1=k then (c.1,n.m) else c) ∘ Kd.km) t=(t.k,n.m) from if_pos et,et,<- hn]
    congr 1;exact Zw λ c hc=>(if_neg (hn.symm ▸ n2 c hc)).symm
  ·rw [Zk,Zh,hn,<- et,<- Zh,<- Zk]
   exact nd
 ·refine ⟨ts,[],by rw [Z2]; exact .refl _,λ n hn=>⟨?_,?_,?_⟩⟩
  ·unfold putK
   rw [show (ts.map Kd.kv).any (λ kv=>decide (kv.1=k))=_ from en Kd.v h,if_neg (by simp),Zk,<- hn];rfl
  ·unfold jG
   rw [show (ts.map Kd.km).any (λ kv=>decide (kv.1=k))=_ from en Kd.m h,if_neg (by simp),Zk,<- hn];rfl
  ·rw [Zk,Zh,Yc,hn]
   exact ⟨nd,by simp,λ c hc c' hc' z=>h (by rw [<- Zn.mp hc',<- z]; exact hc)⟩
theorem qF:∀ {fs:List (Str×V)},(fs.map Prod.fst).Nodup->(kR x v fs).map (λ f=>((Sum.inr f.1:Key),f.2))=putK (fs.map λ f=>((Sum.inr f.1:Key),f.2)) (.inr x) v
 | [],_=>rfl
 | (y,w)::fs,nd=>by
  rw [Zh,Zv] at nd
  by_cases h:y=x
  ·subst h
   rw [show kR y v ((y,w)::fs)=(y,v)::fs from if_pos rfl];unfold putK;rw [show ((((y,w)::fs).map λ f=>((Sum.inr f.1:Key),f.2)).any λ kv=>decide (kv.1=Sum.inr y))=true from by simp,if_pos rfl,Zh,Zh,Zh,Z6];congr 1
   · simp
   · exact Zw λ c hc=>(if_neg (λ z=>nd.1 (by injection z with z; exact Z4.mpr ⟨c,hc,z⟩))).symm
  ·rw [show kR x v ((y,w)::fs)=(y,w)::kR x v fs from if_neg h,Zh,qF nd.2]
   unfold putK;rw [Zh,Y2,show decide ((Sum.inr y:Key)=Sum.inr x)=false from Zo (λ z=>h (by injection z)),Bool.false_or];split
   · rw [Zh,if_neg (λ z=>h (by injection z))]
   · rfl
def gr (px:DPx) (gk:DE) (fv:DEm):DSm:=λ τ=>(fv τ).bind λ x=>(px x.2).bind λ p=>(gk (cb x.2)).bind λ d=>(kX d).bind λ k=>(toM x.1).bind λ mv=>match bh x.2 p.1 p.2 with
 | some (.n .d cs)=>if cs.length < 100000 then some (.next (fD x.2 p.1 p.2 (.n .d (jG cs k mv)))) else none
 | _=>none
theorem yk (hu:X.A.units+1 < cLine) (ho:PXm X o px) (hi:PEd X i gk) (hv:PEm X value fv) (hs:swapsWith value (some (.Subscript o i pos')) pos.line X.env=pure false:=by rfl) :
  PSm X (.Assign [.Subscript o i pos'] value pos) (gr px gk fv):=(uZ hu ho hi hv hs).imp λ E σ H ⟨Hs0,H0,nf,ρ,Hs,τ,o,r,e,k⟩=>by
 obtain ⟨⟨s,τ1⟩,e1,e⟩:=bind_some e;obtain ⟨⟨i,q⟩,e2,e⟩:=bind_some e;obtain ⟨d,e3,e⟩:=bind_some e;obtain ⟨ky,e4,e⟩:=bind_some e;obtain ⟨mv,e5,e⟩:=bind_some e;split at e
 ·rename_i cs en
  split at e
  ·rename_i hz
   cases e;refine ⟨Hs0,H0,nf,ρ,Hs,τ,s,τ1,r,e1,λ v Hs1 H1 r1=>?_⟩;refine ⟨Hs0,H0,nf,ρ,Hs1,τ1,i,q,_,r1.pop,e2,en,λ rt v1 H2 g2 hrt hq=>?_⟩;have r2:=r1.grow g2;obtain ⟨fp,st⟩:=r2.pop.st;refine ⟨H2,H2,cb τ1,[],d,st.cb r2.sm,.refl H2,e3,λ y Hs3 H3 g3 ry=>?_⟩;have hy:=nI ry e4;subst hy;obtain ⟨a,dx,ts,u,fv,rfl,rfl,ha,hl,ku,fin⟩:=(r2.grow g3.hh).yR e5 en hrt (cM g3.hh q hq);obtain ⟨l1,l2,hsub,spl⟩:=m5 ky ku;obtain ⟨p1,p2,p3⟩:=spl ⟨ky,v,mv,fv⟩ rfl;generalize ek:ts.map Kd.kv=kvs at hl
   cases hl with
   | d _ =>
    refine ⟨a,_,rfl,zV.k ha (by rw [<- ek,Za,<- Za (f:=Kd.km)]; exact le5 (Y0 hz)),?_⟩;have:=fin l1 ky l2 (.dK (putK kvs ky v)) hsub (by rw [p1,ek]; exact .d _) p3;rw [p2] at this;exact k σ Hs1 _ this
  · cases e
 · cases e
def sE (C:Addr) (x:Str) (px:DPx) (fv:DEm):DSm:=λ τ=>(fv τ).bind λ y=>(px y.2).bind λ p=>(toM y.1).bind λ mv=>match bh y.2 p.1 p.2 with
 | some (.n (.o C') cs)=>if C'=C/\cs.length < 1000 then some (.next (fD y.2 p.1 p.2 (.n (.o C) (jG cs (.inr x) mv)))) else none
 | _=>none
theorem BA (cl:Cls X.K C) (n:b7 X.K C x) (ho:PXm X o px) (hv:PEm X value fv) (hs:swapsWith value (some (.Attribute o x pos')) pos.line X.env=pure false:=by rfl) :
  PSm X (.Assign [.Attribute o x pos'] value pos) (sE C x px fv):=(Ag ho hv hs).imp λ E σ H ⟨Hs0,H0,nf,ρ,Hs,τ,o,r,e,k⟩=>by
 obtain ⟨⟨s,τ1⟩,e1,e⟩:=bind_some e;obtain ⟨⟨i,q⟩,e2,e⟩:=bind_some e;obtain ⟨mv,e5,e⟩:=bind_some e;split at e
 ·rename_i C' cs en
  split at e
  ·rename_i hz
   obtain ⟨hc,hz⟩:=hz;subst hc;cases e;refine ⟨Hs0,H0,nf,ρ,Hs,τ,s,τ1,r,e1,λ v Hs1 H1 r1=>?_⟩;refine ⟨Hs0,H0,nf,ρ,Hs1,τ1,i,q,_,r1.pop,e2,en,λ rt v1 H2 g2 hrt hq=>?_⟩;obtain ⟨a,dx,ts,u,fv,rfl,rfl,ha,hl,ku,fin⟩:=(r1.grow g2).yR e5 en hrt hq;obtain ⟨l1,l2,hsub,spl⟩:=m5 (.inr x) ku;obtain ⟨p1,p2,p3⟩:=spl ⟨.inr x,v,mv,fv⟩ rfl;have ku':(ts.map Kd.k).Nodup:=ku;generalize ek:ts.map Kd.kv=kvs at hl
   cases hl with
   | o fs =>
    have nf:(fs.map Prod.fst).Nodup:=by
     have e0:ts.map Kd.k=(fs.map Prod.fst).map (λ x=>(Sum.inr x:Key)):=by
      rw [Z6,show ts.map Kd.k=(ts.map Kd.kv).map Prod.fst by rw [Z6]; rfl,ek,Z6];rfl
     rw [e0] at ku';exact List.Pairwise.of_map _ (λ a b h e=>h (by rw [e])) ku'
    refine ⟨a,C',dx,fs,rfl,ha,cl,n,?_,?_⟩
    ·have:=Yl List.length ek
     rw [Za,Za] at this;rw [Za] at hz;omega
    ·have:=fin l1 (.inr x) l2 (.ins C' dx (kR x v fs)) hsub (by rw [p1,ek,<- qF nf]; exact .o _) p3
     rw [p2] at this;exact k σ Hs1 _ this
  · cases e
 · cases e
end
section
variable {K:W.Frag} {Hs0 H0 Hs H Hs' H':Hp} {ρ:List (Option Addr)} {σ:St} {τ:List Sm}
theorem C7 {dx:Addr} {ts:List Kd} {u:HO} (h:Lay .l dx (ts.map Kd.kv) u):u=.lst (ts.map Kd.v):=by
 generalize ek:ts.map Kd.kv=kvs at h
 cases h with
 | l _=>rw [<- ek,Z6]; rfl
theorem AB {dx:Addr} {ts:List Kd}:Lay .l dx (ts.map Kd.kv) (.lst (ts.map Kd.v)):=by
 have:=Lay.l (dx:=dx) (ts.map Kd.kv);rw [Z6] at this;exact this
theorem LY {dx:Addr} {ts:List Kd} {u:HO} (h:Lay .d dx (ts.map Kd.kv) u):u=.dK (ts.map Kd.kv):=by
 generalize ek:ts.map Kd.kv=kvs at h
 cases h with
 | d _=>rfl
theorem bP.Gc (r:bP K Hs0 H0 ρ Hs H σ τ) (hg:bh τ i q=some (.n t cs)) (hi:σ[i]?=some (some rt)) (hv:vAt H rt q=some v1) :
  ∃ (a dx:Addr) (ts:List Kd) (u:HO),v1=.ref a/\cs=ts.map Kd.km/\H a=some u/\Lay t dx (ts.map Kd.kv) u/\KU t ts/\(∀ c ∈ ts,Rp K H c.v (frz c.m)) /\
  ∀ ts' ks u',ts'.Sublist ts->(∀ k ∈ ks,k.fp=[]/\Od K Hs H [] k.v k.m)->Lay t dx ((ts'++ks).map Kd.kv) u'->KU t (ts'++ks)->bP K Hs0 H0 ρ Hs (upd H a u') σ (fD τ i q (.n t ((ts'++ks).map Kd.km))):=by
 obtain ⟨fp,st⟩:=r.st;obtain ⟨b,m,em,eg⟩:=eA hg;obtain ⟨v,fp1,v1',w1,w2,w3,w4,w5⟩:=st.tU em eg;rw [hi] at w1;cases w1;rw [hv] at w2;cases w2;obtain ⟨a,dx,ts,u,rfl,rfl,rfl,ha,hl,nh,ku,nd,rr⟩:=w3.inv;have afp:a ∈ fp:=w4 a (Ze ..);have h0:=(st.live a afp).2.2;have nd1:=Zv.mp nd;refine ⟨a,dx,ts,u,rfl,rfl,ha,hl,ku,λ c hc=>(rr c hc).rp r.sm,λ ts' ks u' hsub hks hl' ku'=>?_⟩
 have ex:Ext Hs0 H0 Hs (upd H a u'):=by
  refine ⟨r.ext.ss,λ c o e=>?_,λ c o e=>?_,r.ext.fr⟩
  · rw [ar (λ z=>by rw [z,nh] at e; cases e)]; exact r.ext.sh c o e
  · rw [ar (λ z=>by rw [z,h0] at e; cases e)]; exact r.ext.hh c o e
 have kz:ks.flatMap Kd.fp=[]:=by
  rw [List.flatMap_eq_nil_iff];exact λ c hc=>(hks c hc).1
 have sf:=lY hsub
 have nda':(a::(ts'++ks).flatMap Kd.fp).Nodup:=by
  rw [Ye,kz,Z2];exact Zv.mpr ⟨λ z=>nd1.1 (sf.subset z),nd1.2.sublist sf⟩
 have od:Od K Hs (upd H a u') (a::(ts'++ks).flatMap Kd.fp) (.ref a) (.n t ((ts'++ks).map Kd.km)):=by
  refine .n av hl' nh ku' nda' λ c hc=>?_
  have na:a ∉ c.fp:=λ z=>(Zv.mp nda').1 (Yi.mpr ⟨c,hc,z⟩)
  rcases Zg.mp hc with hc | hc
  ·have o:=rr c (hsub.subset hc)
   exact o.mv (.refl _) λ x hx=>⟨(o.live x hx).1,ar λ z=>na (z ▸ hx)⟩
  ·obtain ⟨k1,k2⟩:=hks c hc
   rw [k1];exact k2.mv (.refl _) λ x hx=>by cases hx
 obtain ⟨fp',s',_⟩:=w5 Hs (upd H a u') _ _ (.refl _) (λ c hc hn=>⟨(st.live c hc).1,ar λ z=>hn (by rw [z]; exact Ze ..)⟩) od λ c hc=>by
  rw [Ye,kz,Z2] at hc;rcases Zl.mp hc with rfl | hc
  · exact .inl (Ze ..)
  · exact .inl (Zd _ (sf.subset hc))
 exact ⟨ex,fp',by unfold fD; rw [em]; exact s'⟩
theorem bP.isList (r:bP K Hs0 H0 ρ Hs H σ τ) (hg:bh τ i q=some (.n .l cs)) (hi:σ[i]?=some (some rt)) (hv:vAt H rt q=some v1):tyV K "list" v1 H:=by
 obtain ⟨a,dx,ts,u,rfl,rfl,ha,hl,_⟩:=r.Gc hg hi hv;rw [C7 hl] at ha;exact .inl ⟨rfl,_,SqL.of ha⟩
end
def l5 (px:DPx) (fv:DEm):DSm:=λ τ=>(px τ).bind λ p=>match bh τ p.1 p.2 with
 | some (.n .l _)=>(fv τ).bind λ x=>(toM x.1).bind λ mv=>match bh x.2 p.1 p.2 with
  | some (.n .l cs)=>if cs.length < 100000 then some (.next (fD x.2 p.1 p.2 (.n .l (cs++[(.inl 0,mv)])))) else none
  | _=>none
 | _=>none
def IP (cs:List (Key×Mt)) (i:Nat) (m:Mt):List (Key×Mt):=cs.take i++(.inl 0,m)::cs.drop i
def xY (px:DPx) (gi:DE) (fv:DEm):DSm:=λ τ=>(px τ).bind λ p=>match bh τ p.1 p.2 with
 | some (.n .l _)=>(gi (cb τ)).bind λ d=>(fv τ).bind λ x=>(toM x.1).bind λ mv=>match d,bh x.2 p.1 p.2 with
  | .int i,some (.n .l cs)=>if 0<=i/\i<=cs.length/\cs.length < 100000 then some (.next (fD x.2 p.1 p.2 (.n .l (IP cs i.toNat mv)))) else none
  | _,_=>none
 | _=>none
section
variable {X:Cx} {a b c e o:Expr} {es:List Expr} {pos apos cpos pos':Pos} {x:Str}
theorem BB (ho:PXm X o px) (he:PVm X e fv)
   (hbase:attributeBase o "append" X.env (eval o X.env)=eval o X.env:=by rfl)
   (hfew:((backTo cpos (starEach [e] X.env)).all (λ x=>!x.1)&&(backToKw cpos (keywordEach [] X.env)).all (λ x=>x.1.isSome)
     && decide ([e].length+([]:List Keyword).length+(if ([]:List Keyword).isEmpty then 0 else 1) < 30))=true:=by rfl)
   (hline:(apos.endLine == cpos.line)=true:=by rfl) (hst:starEach [e] X.env=(false,eval e X.env)::starEach [] X.env:=by rfl) (hplain:(backTo cpos (starEach [] X.env)).any (·.1)=false:=by rfl)
   (hs:swapsWith (.Call (.Attribute o "append" apos) [e] [] cpos) none pos.line X.env=pure false:=by rfl) :
   PSm X (.Expr (.Call (.Attribute o "append" apos) [e] [] cpos) pos) (l5 px fv) :=
 (ft (pk Yu PySem.F.slot_list_append PySem.F.type_list_append jU ho (aG he cf hst) hbase hfew hline hst hplain) hs).imp λ E σ H ⟨Hs0,H0,nf,ρ,Hs,τ,o,r,e,k⟩=>by
   obtain ⟨⟨i,q⟩,e1,e⟩:=bind_some e;split at e
   · rename_i cs0 en0
     obtain ⟨⟨s,τ1⟩,e2,e⟩:=bind_some e;obtain ⟨mv,e3,e⟩:=bind_some e;split at e
     ·rename_i cs en
      split at e
      ·rename_i hz
       cases e;refine ⟨Hs0,H0,nf,ρ,Hs,τ,i,q,_,r,e1,en0,λ rt v1 H1 g1 hrt hq=>⟨(r.grow g1).isList en0 hrt hq,?_⟩⟩;refine ⟨Hs0,H0,nf,ρ,Hs,τ,s,τ1,r.grow g1,e2,λ v Hs2 H2 g2 r2=>?_⟩;obtain ⟨a,dx,ts,u,fv,rfl,rfl,ha,hl,ku,fin⟩:=r2.yR e3 en hrt (cM g2 q hq);rw [C7 hl] at ha;refine ⟨a,_,v,rfl,rfl,ha,by rw [Za]; rw [Za] at hz; exact le5 (Y0 hz),?_⟩
       have:=fin ts (.inl 0) [] (.lst (ts.map Kd.v++[v])) (by rw [Z2]; exact .refl _) (by
        have:=AB (dx:=dx) (ts:=ts++[⟨.inl 0,v,mv,fv⟩]);rw [Zk (f:=Kd.v)] at this
        exact this) trivial
       rw [Zk] at this;exact k σ Hs2 _ this
      · cases e
     · cases e
   · cases e
theorem By (ho:PXm X o px) (hi:PEd X i gi) (he:PVm X e fv)
   (hbase:attributeBase o "insert" X.env (eval o X.env)=eval o X.env:=by rfl)
   (hfew:((backTo cpos (starEach [i,e] X.env)).all (λ x=>!x.1)&&(backToKw cpos (keywordEach [] X.env)).all (λ x=>x.1.isSome)
     && decide ([i,e].length+([]:List Keyword).length+(if ([]:List Keyword).isEmpty then 0 else 1) < 30))=true:=by rfl)
   (hline:(apos.endLine == cpos.line)=true:=by rfl) (hst:starEach [i,e] X.env=(false,eval i X.env)::starEach [e] X.env:=by rfl) (hst2:starEach [e] X.env=(false,eval e X.env)::starEach [] X.env:=by rfl) (hplain:(backTo cpos (starEach [e] X.env)).any (·.1)=false:=by rfl)
   (hs:swapsWith (.Call (.Attribute o "insert" apos) [i,e] [] cpos) none pos.line X.env=pure false:=by rfl) :
   PSm X (.Expr (.Call (.Attribute o "insert" apos) [i,e] [] cpos) pos) (xY px gi fv) :=
 (ft (Ff (KK:=X.K) rfl ho hi he hbase hfew hline hst hst2 hplain) hs).imp λ E σ H ⟨Hs0,H0,nf,ρ,Hs,τ,o,r,e,k⟩=>by
   obtain ⟨⟨i,q⟩,e1,e⟩:=bind_some e;split at e
   · rename_i cs0 en0
     obtain ⟨d,e4,e5⟩:=bind_some e;obtain ⟨⟨s,τ1⟩,e2,e6⟩:=bind_some e5;obtain ⟨mv,e3,e7⟩:=bind_some e6;clear e e5 e6;split at e7
     ·rename_i j cs en
      split at e7
      ·rename_i hz
       obtain ⟨h0,h1,hz⟩:=hz;cases e7;refine ⟨Hs0,H0,nf,ρ,Hs,τ,i,q,_,r,e1,en0,λ rt v1 H1 g1 hrt hq=>⟨(r.grow g1).isList en0 hrt hq,?_⟩⟩;have r1:=r.grow g1;obtain ⟨fp,st⟩:=r1.st;refine ⟨H1,H1,cb τ,[],_,st.cb r1.sm,.refl H1,e4,λ y Hs2 H2 g2 ry=>?_⟩;cases ry;have r2:=r1.grow g2.hh;refine ⟨Hs0,H0,nf,ρ,Hs,τ,s,τ1,r2,e2,λ v Hs3 H3 g3 r3=>?_⟩;obtain ⟨a,dx,ts,u,fv,rfl,rfl,ha,hl,ku,fin⟩:=r3.yR e3 en hrt (cM g3 q (cM g2.hh q hq));rw [C7 hl] at ha;rw [Za] at h1 hz;refine ⟨a,_,j,v,rfl,rfl,ha,h0,by rw [Za]; exact h1,by rw [Za]; exact le5 (Y0 hz),by omega,?_⟩
       have:=fin (ts.take j.toNat) (.inl 0) (ts.drop j.toNat) (.lst ((ts.map Kd.v).take j.toNat++v::(ts.map Kd.v).drop j.toNat)) (by rw [Xo]; exact .refl _) (by
        have:=AB (dx:=dx) (ts:=ts.take j.toNat++⟨.inl 0,v,mv,fv⟩::ts.drop j.toNat);rw [Zk (f:=Kd.v),Zh,Xv,Xw] at this
        exact this) trivial
       rw [Zk,Zh,Xv,Xw] at this;exact k σ Hs3 _ this
      · cases e7
     · cases e7
   · cases e
end
def off (H:Hp) (fp:List Addr):Hp:=λ b=>if b ∈ fp then none else H b
def ME:V->Option Addr
 | .ref a=>some a
 | _=>none
abbrev gZ (vs:List V):List (Option Addr):=vs.map ME
def spM (F:List Sm->Option (Sm×List Sm)) (K:W.Frag):Sp:=λ vs H Q _=>∃ Hs fp as s as',bp Hs H/\StM K (off H fp) Hs H (gZ vs) (vs.map some) as fp/\F as=some (s,as') /\
 ∀ v Hs' H' fp',Ext Hs (off H fp) Hs' H'->StM K (off H fp) Hs' H' (none::gZ vs) (some v::vs.map some) (s::as') fp'->Q v H'
inductive Am where
 | v (d:D) | p (i:Nat) (q:List Stp)
inductive oH (K:W.Frag) (Hs H:Hp) (σ:St):List V->List Am->Prop where
 | nil:oH K Hs H σ [] []
 | v {x:V} {d:D} {vs:List V} {as:List Am} (h:Rp K Hs x d) (r:oH K Hs H σ vs as):oH K Hs H σ (x::vs) (.v d::as)
 | p {x rt:V} {i:Nat} {q:List Stp} {vs:List V} {as:List Am} (h1:σ[i]?=some (some rt)) (h2:vAt H rt q=some x) (r:oH K Hs H σ vs as):oH K Hs H σ (x::vs) (.p i q::as)
theorem oH.ext {K:W.Frag} {Hs H Hs' H':Hp} {σ:St} {vs:List V} {as:List Am} (g1:bp Hs Hs') (g2:bp H H') (h:oH K Hs H σ vs as):oH K Hs' H' σ vs as:=by
 induction h with
 | nil=>exact .nil
 | v h _ ih=>exact .v (h.same g1) ih
 | p h1 h2 _ ih=>exact .p h1 (cM g2 _ h2) ih
def lend:List Sm->List Am->Option (List Sm)
 | _,[]=>some []
 | τ,.v d::r=>(lend τ r).map (.shr d::·)
 | τ,.p i q::r=>match bh τ i q with
  | some (.n t cs)=>(lend (τ.set i .no) r).map (.mu true (.n t cs)::·)
  | _=>none
def back:List Sm->List Am->List Sm->Option (List Sm)
 | τ,[],_=>some τ
 | τ,.v _::r,_::as=>back τ r as
 | τ,.p i q::r,.mu true m2::as=>(back (τ.set i .no) r as).bind λ τ'=>match τ[i]? with
  | some (.mu b m)=>some (τ'.set i (.mu b (m.put q m2)))
  | _=>none
 | _,_,_=>none
section
variable {K:W.Frag} {H0 Hs H Hs' H':Hp} {ρ:List (Option Addr)} {σ:List (Option V)} {τ:List Sm} {fp:List Addr}
theorem StM.rebase (h:StM K H0 Hs H ρ σ τ fp):(∀ c ∈ fp,H1 c=none)->StM K H1 Hs H ρ σ τ fp:=by
 induction h with
 | nil=>exact λ _=>.nil
 | no _ ih=>exact λ q=>.no (ih q)
 | shr h _ ih=>exact λ q=>.shr h (ih q)
 | mu h hp z j _ ih=>exact λ q=>.mu h hp (λ c hc=>q c (Zp _ hc)) j (ih λ c hc=>q c (Zc _ hc))
theorem StM.pin {i:Nat} {b:Bool} {m:Mt} {v:V} (h:StM K H0 Hs H ρ σ τ fp):τ[i]?=some (.mu b m)->σ[i]?=some (some v)->b=true->∃ a,ρ[i]?=some (some a)/\v=.ref a:=by
 induction h generalizing i with
 | nil=>intro e; simp at e
 | no _ ih =>
  intro e e2 hb
  cases i with
  | zero=>simp at e
  | succ i=>simpa using ih (i:=i) (by simpa using e) (by simpa using e2) hb
 | shr h _ ih =>
  intro e e2 hb
  cases i with
  | zero=>simp at e
  | succ i=>simpa using ih (i:=i) (by simpa using e) (by simpa using e2) hb
 | @mu p v' b' m' ρ σ τ fq fp h hp z j _ ih =>
  intro e e2 hb
  cases i with
  | zero =>
   have e':Sm.mu b' m'=.mu b m:=by simpa using e
   injection e' with e1 _
   have e3:v'=v:=by simpa using e2
   subst e3;obtain ⟨a,h1,h2⟩:=hp (e1.trans hb);exact ⟨a,by rw [h1]; rfl,h2⟩
  | succ i=>simpa using ih (i:=i) (by simpa using e) (by simpa using e2) hb
theorem StM.fill (h:StM K H0 Hs H ρ σ τ fp) (hv:Od K Hs H fq v m) (z:∀ c ∈ fq,H0 c=none/\c ∉ fp):i < τ.length->σ[i]?=some (some v)->(b=true->∃ a,ρ[i]?=some (some a)/\v=.ref a)->∃ fp',StM K H0 Hs H ρ σ (τ.set i (.mu b m)) fp'/\∀ c ∈ fp',c ∈ fq\/c ∈ fp:=by
 induction h generalizing i with
 | nil=>intro hi; exact absurd hi (by simp)
 | @no p o ρ σ τ fp r ih =>
  intro hi e hp
  cases i with
  | zero =>
   have e':o=some v:=by simpa using e
   subst e';exact ⟨_,.mu hv (λ hb=>by obtain ⟨a,h1,h2⟩:=hp hb; exact ⟨a,by simpa using h1,h2⟩) (λ c hc=>(z c hc).1) (λ c hc=>(z c hc).2) r,λ c h=>Zg.mp h⟩
  | succ i =>
   obtain ⟨fp',h1,h2⟩:=ih z (i:=i) (by simpa using hi) (by simpa using e) (by simpa using hp);exact ⟨fp',.no h1,h2⟩
 | @shr p v' d ρ σ τ fp h r ih =>
  intro hi e hp
  cases i with
  | zero =>
   have e':v'=v:=by simpa using e
   subst e';exact ⟨_,.mu hv (λ hb=>by obtain ⟨a,h1,h2⟩:=hp hb; exact ⟨a,by simpa using h1,h2⟩) (λ c hc=>(z c hc).1) (λ c hc=>(z c hc).2) r,λ c h=>Zg.mp h⟩
  | succ i =>
   obtain ⟨fp',h1,h2⟩:=ih z (i:=i) (by simpa using hi) (by simpa using e) (by simpa using hp);exact ⟨fp',.shr h h1,h2⟩
 | @mu p v' b' m' ρ σ τ fq' fp h hp' z' j r ih =>
  intro hi e hp;have zr:∀ c ∈ fq,H0 c=none/\c ∉ fp:=λ c hc=>⟨(z c hc).1,λ q=>(z c hc).2 (Zc _ q)⟩
  cases i with
  | zero =>
   have e':v'=v:=by simpa using e
   subst e';exact ⟨_,.mu hv (λ hb=>by obtain ⟨a,h1,h2⟩:=hp hb; exact ⟨a,by simpa using h1,h2⟩) (λ c hc=>(z c hc).1) (λ c hc=>(zr c hc).2) r,λ c h=>(Zg.mp h).imp id λ q=>Zc _ q⟩
  | succ i =>
   obtain ⟨fp',h1,h2⟩:=ih zr (i:=i) (by simpa using hi) (by simpa using e) (by simpa using hp);refine ⟨_,.mu h hp' z' (λ c hc q=>?_) h1,λ c hc=>?_⟩
   ·rcases h2 c q with y | y
    · exact (z c y).2 (Zp _ hc)
    · exact j c hc y
   ·rcases Zg.mp hc with y | y
    · exact .inr (Zp _ y)
    · exact (h2 c y).imp id λ q=>Zc _ q
theorem rZ:back τ [] ss=some τ:=by cases ss <;> rw [back]
theorem mJ:∀ {as:List Am} {τ ss τ':List Sm},back τ as ss=some τ'->τ'.length=τ.length
 | [],τ,ss,τ',e=>by rw [rZ] at e; cases e; rfl
 | .v _::r,τ,[],τ',e=>by cases e
 | .v _::r,τ,_::as,τ',e=>mJ (as:=r) e
 | .p i q::r,τ,[],τ',e=>by cases e
 | .p i q::r,τ,s::as,τ',e=>by
  cases s with
  | no=>cases e
  | shr d=>cases e
  | mu b m2 =>
   cases b with
   | false=>cases e
   | true =>
    obtain ⟨τ1,e1,e2⟩:=bind_some (show (back (τ.set i .no) r as).bind _=_ from e);have l1:=mJ e1;rw [List.length_set] at l1;split at e2
    ·cases e2
     rw [List.length_set,l1]
    · cases e2
abbrev GU:Hp:=λ _=>none
theorem md : ∀ {as : List Am} {τ ss:List Sm} {fp:List Addr} {vs:List V},StM K H0 Hs H ρ σ τ fp->oH K Hs H σ vs as->lend τ as=some ss ->
    ∃ fpa,StM K GU Hs H (gZ vs) (vs.map some) ss fpa/\(∀ c ∈ fpa,c ∈ fp) /\
    ∀ Hs' H' ss' fpa' τ',bp Hs Hs'->(∀ c ∈ fp,c ∉ fpa->Hs' c=none/\H' c=H c)->StM K GU Hs' H' (gZ vs) (vs.map some) ss' fpa'->(∀ c ∈ fpa',c ∈ fpa\/(c ∉ fp/\H0 c=none))->back τ as ss'=some τ' ->
      ∃ fp',StM K H0 Hs' H' ρ σ τ' fp'/\∀ c ∈ fp',(c ∈ fp/\c ∉ fpa)\/c ∈ fpa'
  | [],τ,ss,fp,[],st,.nil,e=>by
    cases e;refine ⟨[],.nil,λ c hc=>(nomatch hc),λ Hs' H' ss' fpa' τ' g k sa j eb=>?_⟩;rw [rZ] at eb;cases eb;exact ⟨fp,st.mv g λ c hc=>k c hc (by simp),λ c hc=>.inl ⟨hc,by simp⟩⟩
  | .v d :: r,τ,ss,fp,_,st,.v h rr,e=>by
    obtain ⟨ss1,e1,rfl⟩:=Zm (show (lend τ r).map _=_ from e);obtain ⟨fpa,s1,w1,w2⟩:=md st rr e1;refine ⟨fpa,.shr h s1,w1,λ Hs' H' ss' fpa' τ' g k sa j eb=>?_⟩
    cases ss' with
    | nil=>cases eb
    | cons s as' =>
      cases sa with
      | no sa=>exact w2 Hs' H' as' _ τ' g k sa j eb
      | shr _ sa=>exact w2 Hs' H' as' _ τ' g k sa j eb
      | mu _ _ _ _ sa =>
        obtain ⟨fp',h1,h2⟩:=w2 Hs' H' as' _ τ' g k sa (λ c hc=>j c (Zc _ hc)) eb;exact ⟨fp',h1,λ c hc=>(h2 c hc).imp id λ y=>Zc _ y⟩
  | .p i q :: r, τ, ss, fp,_,st,@oH.p _ _ _ _ x rt _ _ vs _ h1 h2 rr,e=>by
    have e':(match bh τ i q with | some (.n t cs)=>(lend (τ.set i .no) r).map (.mu true (.n t cs)::·) | _=>none)=some ss:=e;split at e'
    · rename_i t cs eg
      obtain ⟨ss1,e1,rfl⟩:=Zm e';obtain ⟨b,m,em,egm⟩:=eA eg;obtain ⟨v0,fq,fp0,o1,o2,o3,o4,o5⟩:=st.out em;rw [h1] at o1;cases o1;obtain ⟨fp1,v1,w1,w2,w3,w4⟩:=o2.tU q egm;rw [h2] at w1;cases w1;obtain ⟨a,dx,ts,u,rfl,_⟩:=w2.inv;obtain ⟨fpa,s1,a1,a2⟩:=md o3 rr e1;have dj:∀ c ∈ fp1,c ∉ fpa:=λ c hc y=>(o4 c (w3 c hc)).1 (a1 c y)
      refine ⟨fp1++fpa,.mu w2 (λ _=>⟨a,rfl,rfl⟩) (λ _ _=>rfl) dj s1,λ c hc=>?_,λ Hs' H' ss' fpa' τ' g k sa j eb=>?_⟩
      · rcases Zg.mp hc with y | y
        · exact (o5 c).mpr (.inl (w3 c y))
        · exact (o5 c).mpr (.inr (a1 c y))
      · cases ss' with
        | nil=>cases eb
        | cons s as' =>
          cases s with
          | no=>cases eb
          | shr d=>cases eb
          | mu b2 m2 =>
            cases b2 with
            | false=>cases eb
            | true =>
              obtain ⟨τ1,eb1,eb2⟩:=bind_some (show (back (τ.set i .no) r as').bind _=_ from eb);simp only [em] at eb2;cases eb2
              cases sa with
              | @mu _ _ _ _ _ _ _ fq2 fpr od2 _ _ jj sr =>
                obtain ⟨fpx,x1,x2⟩:=a2 Hs' H' as' fpr τ1 g (λ c hc hn=>k c ((o5 c).mpr (.inr hc)) λ y=>(Zg.mp y).elim (λ y=>(o4 c (w3 c y)).1 hc) hn) sr (λ c hc=>by
                  rcases j c (Zc _ hc) with y | y
                  · rcases Zg.mp y with y | y
                    · exact .inr ⟨(o4 c (w3 c y)).1,(st.live c (o4 c (w3 c y)).2).2.2⟩
                    · exact .inl y
                  · exact .inr ⟨λ z=>y.1 ((o5 c).mpr (.inr z)),y.2⟩) eb1
                obtain ⟨fpo,y1,y2⟩:=w4 Hs' H' fq2 m2 g (λ c hc hn=>k c ((o5 c).mpr (.inl hc)) λ y=>(Zg.mp y).elim hn λ y=>(o4 c hc).1 (a1 c y)) od2 (λ c hc=>by
                  rcases j c (Zp _ hc) with y | y
                  · rcases Zg.mp y with y | y
                    · exact .inl y
                    · exact .inr λ z=>(o4 c z).1 (a1 c y)
                  · exact .inr λ z=>y.1 ((o5 c).mpr (.inl z)))
                have hlen:i < τ1.length:=by
                  rw [mJ eb1,List.length_set];exact (List.getElem?_eq_some_iff.mp em).1
                obtain ⟨fp',z1,z2⟩:=x1.fill (i:=i) (b:=b) y1 (λ c hc=>by
                  rcases (y2 c).mp hc with y | y
                  · refine ⟨(st.live c (o4 c y.1).2).2.2,λ z=>?_⟩
                    rcases x2 c z with z | z
                    · exact (o4 c y.1).1 z.1
                    · rcases j c (Zc _ z) with w | w
                      · rcases Zg.mp w with w | w
                        · exact y.2 w
                        · exact (o4 c y.1).1 (a1 c w)
                      · exact w.1 (o4 c y.1).2
                  · refine ⟨?_,λ z=>?_⟩
                    · rcases j c (Zp _ y) with w | w
                      · rcases Zg.mp w with w | w
                        · exact (st.live c (o4 c (w3 c w)).2).2.2
                        · exact (st.live c ((o5 c).mpr (.inr (a1 c w)))).2.2
                      · exact w.2
                    · rcases x2 c z with z | z
                      · rcases j c (Zp _ y) with w | w
                        · rcases Zg.mp w with w | w
                          · exact (o4 c (w3 c w)).1 z.1
                          · exact z.2 w
                        · exact w.1 ((o5 c).mpr (.inr z.1))
                      · exact jj c y z) hlen h1 (λ hb=>st.pin em h1 hb)
                refine ⟨fp',z1,λ c hc=>?_⟩;rcases z2 c hc with y | y
                · rcases (y2 c).mp y with y | y
                  · exact .inl ⟨(o4 c y.1).2,λ w=>(Zg.mp w).elim y.2 λ w=>(o4 c y.1).1 (a1 c w)⟩
                  · exact .inr (Zp _ y)
                · rcases x2 c y with y | y
                  · exact .inl ⟨(o5 c).mpr (.inr y.1),λ w=>(Zg.mp w).elim (λ w=>(o4 c (w3 c w)).1 y.1) y.2⟩
                  · exact .inr (Zc _ y)
    · cases e'
end
abbrev DAm:=List Sm->Option (List Am)
def N9 (N:Hp) (K:W.Frag) (g:DAm):TA:=λ σ H Q=>∃ (Hs0 H0:Hp),∃ (_:Nf N H0),∃ ρ Hs τ as,bP K Hs0 H0 ρ Hs H σ τ/\g τ=some as/\∀ vs Hs' H',bp H H'->bP K Hs0 H0 ρ Hs' H' σ τ->bp Hs Hs'->oH K Hs' H' σ vs as->Q vs H'
def PAm (X:Cx) (es:List Expr) (g:DAm):Prop:=PA X es (N9 X.H₀ X.K g)
def N5 (N:Hp) (K:W.Frag) (g:List Sm->Option Am):TE:=λ σ H Q=>∃ (Hs0 H0:Hp),∃ (_:Nf N H0),∃ ρ Hs τ a,bP K Hs0 H0 ρ Hs H σ τ/\g τ=some a/\∀ v Hs' H',bp H H'->bP K Hs0 H0 ρ Hs' H' σ τ->bp Hs Hs'->oH K Hs' H' σ [v] [a]->Q v H'
def PQm (X:Cx) (e:Expr) (g:List Sm->Option Am):Prop:=PE X e (N5 X.H₀ X.K g)
def qS (g:DE):List Sm->Option Am:=λ τ=>(g (cb τ)).bind λ d=>if sca d=true then some (.v d) else none
def qN (g:DE):List Sm->Option Am:=λ τ=>(g (er τ)).map .v
def qX (f:DPx):List Sm->Option Am:=λ τ=>(f τ).bind λ p=>match bh τ p.1 p.2 with
 | some (.n _ _)=>some (.p p.1 p.2)
 | some (.s d)=>some (.v d)
 | none=>none
def tQ:DAm:=λ _=>some []
def cY (h:List Sm->Option Am) (g:DAm):DAm:=λ τ=>(h τ).bind λ a=>(g τ).map (a::·)
theorem oH.app {K:W.Frag} {Hs H:Hp} {σ:St} {v:V} {a:Am} {vs:List V} {as:List Am} (h:oH K Hs H σ [v] [a]) (r:oH K Hs H σ vs as):oH K Hs H σ (v::vs) (a::as):=by
 cases h with
 | v h _=>exact .v h r
 | p h1 h2 _=>exact .p h1 h2 r
def qf (F:List Sm->Option (Sm×List Sm)) (τ:List Sm) (as:List Am):Option (Sm×List Sm):=(lend τ as).bind λ ss=>(F ss).bind λ x=>(back τ as x.2).map λ τ'=>(x.1,τ')
section
variable {K:W.Frag} {Hs0 H0 Hs H Hs' H':Hp} {ρ:List (Option Addr)} {σ:St} {τ:List Sm}
theorem jK (h:off H fp c=none):c ∈ fp\/H c=none:=by
 unfold off at h;split at h
 · exact .inl ‹_›
 · exact .inr h
theorem yL:bp (off H fp) H:=λ b o e=>by
 unfold off at e;split at e
 · cases e
 · exact e
theorem vz (h:c ∈ fp):off H fp c=none:=if_pos h
theorem iq (h:c ∉ fp):off H fp c=H c:=if_neg h
theorem bP.call (r:bP K Hs0 H0 ρ Hs H σ τ) (ha:oH K Hs H σ vs as) (e:qf F τ as=some (s,τ'))
  (k:∀ v Hs' H',bP K Hs0 H0 (none::ρ) Hs' H' (some v::σ) (s::τ')->Q v H'):spM F K vs H Q E:=by
 obtain ⟨ss,e1,e⟩:=bind_some e;obtain ⟨⟨s0,ss'⟩,e2,e⟩:=bind_some e;obtain ⟨τ0,e3,e4⟩:=Zm e;obtain ⟨e4,e5⟩:=Prod.mk.inj e4;have e4':s0=s:=e4;subst e4' e5;obtain ⟨fp,st⟩:=r.st;obtain ⟨fpa,sA,sub,tU⟩:=md st ha e1;refine ⟨Hs,fpa,ss,s0,ss',r.sm,sA.rebase λ c hc=>vz hc,e2,λ v Hs' H' fp2 g s2=>?_⟩
 have far:∀ c ∈ fp,c ∉ fpa->Hs' c=none/\H' c=H c:=λ c hc hn=>by
  obtain ⟨l1,l2,_⟩:=st.live c hc;have ho:off H fpa c=H c:=iq hn;refine ⟨g.fr c l1 (by rw [ho]; exact l2),?_⟩
  cases q:H c with
  | none=>exact absurd q l2
  | some u=>exact g.hh _ _ (ho.trans q)
 have ex:Ext Hs0 H0 Hs' H':=by
  have nf:∀ c,H0 c≠none->c ∉ fpa:=λ c h q=>h (st.live c (sub c q)).2.2
  refine ⟨r.ext.ss.trans g.ss,g.sh,λ c o e=>?_,λ c h1 h2=>?_⟩
  · exact g.hh _ _ ((iq (nf c (gz e))).trans (r.ext.hh _ _ e))
  · exact g.fr c (r.ext.fr c h1 h2) (by rw [iq (nf c h2)]; exact r.ext.hh.live h2)
 have fin:∀ fpr,StM K (off H fpa) Hs' H' (gZ vs) (vs.map some) ss' fpr->∃ fp',StM K H0 Hs' H' ρ σ τ0 fp'/\∀ c ∈ fp',(c ∈ fp/\c ∉ fpa)\/c ∈ fpr:=λ fpr sr=>by
  refine tU Hs' H' ss' fpr τ0 g.ss far (sr.rebase λ _ _=>rfl) (λ c hc=>?_) e3;rcases jK (sr.live c hc).2.2 with y | y
  · exact .inl y
  · exact .inr ⟨st.new y,r.old y⟩
 cases s2 with
 | no sr =>
  obtain ⟨fp',h1,_⟩:=fin _ sr;exact k v Hs' H' ⟨ex,_,.no h1⟩
 | shr h sr =>
  obtain ⟨fp',h1,_⟩:=fin _ sr;exact k v Hs' H' ⟨ex,_,.shr h h1⟩
 | @mu _ _ b m _ _ _ fq fpr od hp z j sr =>
  obtain ⟨fp',h1,h2⟩:=fin _ sr;refine k v Hs' H' ⟨ex,_,.mu od (λ hb=>by obtain ⟨a,q,_⟩:=hp hb; cases q) (λ c hc=>?_) (λ c hc y=>?_) h1⟩
  ·rcases jK (z c hc) with y | y
   · exact (st.live c (sub c y)).2.2
   · exact r.old y
  ·rcases h2 c y with w | w
   ·rcases jK (z c hc) with y | y
    · exact w.2 y
    · exact (st.live c w.1).2.1 y
   · exact j c hc w
end
def eC (F:List Sm->Option (Sm×List Sm)) (g:DAm):DEm:=λ τ=>(g τ).bind λ as=>qf F τ as
def eM (C:Addr) (m:Str) (F:List Sm->Option (Sm×List Sm)) (f:DPx) (g:DAm):DEm:=λ τ=>(f τ).bind λ p=>match bh τ p.1 p.2 with
 | some (.n (.o C') cs)=>if C'=C/\(cs.any λ c=>decide (c.1=.inr m))=false then (g τ).bind λ as=>qf F τ (.p p.1 p.2::as) else none
 | _=>none
def eK (C:Addr) (F:List Sm->Option (Sm×List Sm)) (g:DAm):DEm:=λ τ=>(g τ).bind λ as=>(lend τ as).bind λ ss=>(F (.mu true (.n (.o C) [])::ss)).bind λ x=>match x.1,x.2 with
 | .shr .non,.mu true m::r=>(back τ as r).map λ τ'=>(.mu false m,τ')
 | _,_=>none
section
variable {X:Cx} {a b c e o:Expr} {es:List Expr} {pos apos cpos pos' p:Pos} {x m:Str} {k:Nat} {f fa C:Addr} {fd:FuncData} {ps:List Str} {F:List Sm->Option (Sm×List Sm)} {g:DAm}
theorem Ot {g:DE} (h:PEd X e g):PQm X e (qS g):=PE.imp h λ σ H Q ⟨Hs0,H0,nf,ρ,Hs,τ,a,r,e,k⟩=>by
 obtain ⟨d,e1,e2⟩:=bind_some e;split at e2
 ·rename_i hs
  cases e2;obtain ⟨fp,st⟩:=r.st;exact ⟨H,H,cb τ,[],d,st.cb r.sm,.refl H,e1,λ v Hs' H' g1 rv=>k v Hs H' g1.hh (r.grow g1.hh) (.refl _) (.v (uw rv hs) .nil)⟩
 · cases e2
theorem Oq {g:DE} (h:PEd X e g):PQm X e (qN g):=PE.imp h λ σ H Q ⟨Hs0,H0,nf,ρ,Hs,τ,a,r,e,k⟩=>by
 obtain ⟨d,e1,e2⟩:=Zm e;cases e2;obtain ⟨fp,st⟩:=r.st;exact ⟨H0,Hs,er τ,[],d,st.er,r.sm,e1,λ v Hs' H' g1 rv=>k v Hs' H' g1.hh (r.ext' g1) g1.ss (.v rv .nil)⟩
theorem Oo {f:DPx} (h:PXm X e f):PQm X e (qX f):=PE.imp h λ σ H Q ⟨Hs0,H0,nf,ρ,Hs,τ,a,r,e,k⟩=>by
 obtain ⟨⟨i,q⟩,e1,e2⟩:=bind_some e;split at e2
 ·rename_i t cs eg
  cases e2;exact ⟨Hs0,H0,nf,ρ,Hs,τ,i,q,_,r,e1,eg,λ v v1 H' g hv hq=>k v1 Hs H' g (r.grow g) (.refl _) (.p hv hq .nil)⟩
 ·rename_i d eg
  cases e2;refine ⟨Hs0,H0,nf,ρ,Hs,τ,i,q,_,r,e1,eg,λ v v1 H' g hv hq=>?_⟩;have r':=r.grow g;obtain ⟨fp,st⟩:=r'.st;obtain ⟨b,m,e3,e4⟩:=eA eg;obtain ⟨v',fp1,v1',w1,w2,w3,_⟩:=st.tU e3 e4;rw [hv] at w1;cases w1;rw [hq] at w2;cases w2
  cases w3 with
  | s rr=>exact k v1 Hs H' g r' (.refl _) (.v rr .nil)
 · cases e2
theorem Cf:PAm X [] tQ:=cf.imp λ σ H Q ⟨Hs0,H0,nf,ρ,Hs,τ,as,r,e,k⟩=>by
 cases e;exact k [] Hs H (.refl H) r (.refl _) .nil
theorem yI (h1:PQm X e h) (h2:PAm X es g) (hs:starEach (e::es) X.env=(false,eval e X.env)::starEach es X.env:=by rfl):PAm X (e::es) (cY h g) :=
 (aG h1 h2 hs).imp λ σ H Q ⟨Hs0,H0,nf,ρ,Hs,τ,as,r,e,k⟩=>by
   obtain ⟨a,e1,e2⟩:=bind_some e;obtain ⟨as',e3,e4⟩:=Zm e2;cases e4;refine ⟨Hs0,H0,nf,ρ,Hs,τ,a,r,e1,λ v Hs1 H1 g1 r1 s1 a1=>?_⟩;refine ⟨Hs0,H0,nf,ρ,Hs1,τ,as',r1,e3,λ vs Hs2 H2 g2 r2 s2 a2=>?_⟩;exact k (v::vs) Hs2 H2 (g1.trans g2) r2 (s1.trans s2) ((a1.ext s2 g2).app a2)
theorem BR (Fo:fj X.prog X.w X.K X.mg X.base CX0 k f fd ps (spM F X.K)) (hr:dQ k X.A) (hg:Gl X x) (hm:X.mg x=some (.ref f)) (hk:W.keepIn X.K (.ref f)=true) (hb:Binds X.K fd ps [])
  (ha:PAm X (e::es) g) (hdb:(x == ("__debug__":Str))=false:=by decide) (he:starEach (e::es) X.env=(false,eval e X.env)::starEach es X.env:=by rfl) (hpl:(backTo pos (starEach es X.env)).any (·.1)=false:=by rfl) :
  PEm X (.Call (.Name x p) (e::es) [] pos) (eC F g):=(fu Fo hr hg hm hk hb .nil jf ha hdb he hpl).imp λ σ H Q ⟨Hs0,H0,nf,ρ,Hs,τ,s,τ',r,e,k⟩=>by
 obtain ⟨as,e1,e2⟩:=bind_some e;refine ⟨Hs0,H0,nf,ρ,Hs,τ,as,r,e1,λ vs Hs1 H1 g1 r1 s1 a1=>?_⟩;show spM F X.K (vs++[]) H1 Q E0;rw [Z2];exact r1.call a1 e2 k
theorem BP (ho:PXm X o fx) (c:Cls X.K C) (hm:El X.K C m fa) (Fo:fj X.prog X.w X.K X.mg X.base CX0 k fa fd ps (spM F X.K)) (hr:dQ k X.A) (hb:Binds X.K fd ps []) (ha:PAm X (e::es) g)
  (hst:starEach (e::es) X.env=(false,eval e X.env)::starEach es X.env:=by rfl) (hpl:(backTo pos (starEach es X.env)).any (·.1)=false:=by rfl)
  (ht:eval (.Call (.Attribute o m apos) (e::es) [] pos) X.env=(do
    let ov <- eval o X.env
    standAt apos.atName
    let (f,first) <- holding [ov] (getMethod ov m pl)
    callWith pos f first (backTo pos (starEach (e::es) X.env)) (backToKw pos (keywordEach [] X.env))):=by rfl) :
  PEm X (.Call (.Attribute o m apos) (e::es) [] pos) (eM C m F fx g):=(vj (pl:=pl) ho c hm Fo hr hb .nil jf ha hst hpl ht).imp λ σ H Q ⟨Hs0,H0,nf,ρ,Hs,τ,s,τ',r,e,k⟩=>by
 obtain ⟨⟨i,q⟩,e1,e2⟩:=bind_some e;split at e2
 ·rename_i C' cs en
  split at e2
  · rename_i hc
    obtain ⟨hc,hn⟩:=hc;subst hc;obtain ⟨as,e3,e4⟩:=bind_some e2;refine ⟨Hs0,H0,nf,ρ,Hs,τ,i,q,_,r,e1,en,λ rt v1 H1 g1 hrt hq=>?_⟩;have r1:=r.grow g1;obtain ⟨a,dx,ts,u,rfl,rfl,hu,hl,_⟩:=r1.Gc en hrt hq;generalize ek:ts.map Kd.kv=kvs at hl
    cases hl with
    | o fs =>
     refine ⟨a,dx,fs,rfl,hu,?_,Hs0,H0,nf,ρ,Hs,τ,as,r1,e3,λ vs Hs2 H2 g2 r2 s2 a2=>?_⟩
     ·rw [<- lV,<- ek]
      have:=gW (Sum.inr m) (ts.map Kd.kv);rw [List.any_map] at this hn;have h2:(cL (ts.map Kd.kv) (Sum.inr m)).isSome=false:=this.symm.trans hn
      cases q:cL (ts.map Kd.kv) (Sum.inr m) with
      | none=>rfl
      | some y=>rw [q] at h2; cases h2
     ·show spM F X.K (V.ref a::(vs++[])) H2 Q E0
      rw [Z2];exact r2.call (.p hrt (cM g2 q hq) a2) e4 k
  · cases e2
 · cases e2
theorem BQ (M:Mk X.K C fa) (Fo:fj X.prog X.w X.K X.mg X.base CX0 k fa fd ps (spM F X.K)) (hr:dQ (k+1) X.A) (hg:Gl X x) (hm:X.mg x=some (.ref C)) (hb:Binds X.K fd ps [])
  (ha:PAm X (e::es) g) (hdb:(x == ("__debug__":Str))=false:=by decide) (he:starEach (e::es) X.env=(false,eval e X.env)::starEach es X.env:=by rfl) (hpl:(backTo pos (starEach es X.env)).any (·.1)=false:=by rfl) :
  PEm X (.Call (.Name x p) (e::es) [] pos) (eK C F g):=(vk M Fo hr hg hm hb .nil jf ha hdb he hpl).imp λ σ H Q ⟨Hs0,H0,nf,ρ,Hs,τ,s,τ',r,e,k⟩=>by
 obtain ⟨as,e1,e2⟩:=bind_some e;obtain ⟨ss,e3,e4⟩:=bind_some e2;obtain ⟨⟨s0,ss'⟩,e5,e6⟩:=bind_some e4;refine ⟨Hs0,H0,nf,ρ,Hs,τ,as,r,e1,λ vs Hs1 H1 g1 r1 s1 a1 y dx hy hdx ne=>?_⟩;rw [Z2];split at e6
 ·rename_i m0 r0 q1 q2
  have q1':s0=.shr .non:=q1;have q2':ss'=.mu true m0::r0:=q2;subst q1' q2';obtain ⟨τ0,e7,e8⟩:=Zm e6;cases e8
  let H2:Hp:=upd (upd H1 dx (.own y)) y (.ins C dx [])
  have hy1:upd H1 dx (.own y) y=none:=(ar (Ne.symm ne)).trans hy;have g2:bp H1 H2:=(az hdx _).trans (az hy1 _);have r2:=r1.grow g2;obtain ⟨fp,st⟩:=r1.st;have st2:StM X.K H0 Hs1 H2 ρ σ τ fp:=st.ext ⟨.refl _,r1.ext.sh.trans g2,g2,λ _ h _=>h⟩;obtain ⟨fpa,sA,sub,tU⟩:=md st2 (a1.ext (.refl _) g2) e3;have yfp:y ∉ fp:=st.new hy;have od:Od X.K Hs1 H2 [y] (.ref y) (.n (.o C) []):=Od.n (ts:=[]) (dx:=dx) (u:=.ins C dx []) av (.o []) (r1.sm.free hy) (by show ([]:List Key).Nodup; exact .nil) (by simp) (λ c hc=>by cases hc);have sN:StM X.K (off H2 (y::fpa)) Hs1 H2 (gZ (.ref y::vs)) ((V.ref y::vs).map some) (.mu true (.n (.o C) [])::ss) ([y]++fpa):=.mu od (λ _=>⟨y,rfl,rfl⟩) (λ c hc=>vz (by rw [Zn.mp hc]; exact Ze ..)) (λ c hc q=>yfp (sub y (by rw [<- Zn.mp hc]; exact q))) (sA.rebase λ c hc=>vz (Zd _ hc));refine ⟨Hs1,y::fpa,_,_,_,r2.sm,sN,e5,λ v Hs' H' fp2 g s2=>⟨?_,?_⟩⟩
  ·cases s2 with
   | shr h _=>cases h; rfl
  ·cases s2 with
   | shr h sr =>
   cases sr with
   | @mu _ _ _ _ _ _ _ fq fpr od2 hp z j sr =>
   have far:∀ c ∈ fp,c ∉ fpa->Hs' c=none/\H' c=H2 c:=λ c hc hn=>by
    obtain ⟨l1,l2,_⟩:=st2.live c hc;have ho:off H2 (y::fpa) c=H2 c:=iq λ q=>(Zl.mp q).elim (λ q=>yfp (q ▸ hc)) hn
    refine ⟨g.fr c l1 (by rw [ho]; exact l2),?_⟩
    cases q:H2 c with
    | none=>exact absurd q l2
    | some u=>exact g.hh _ _ (ho.trans q)
   have h0y:H0 y=none:=r1.old hy
   have ex:Ext Hs0 H0 Hs' H':=by
    have nf:∀ c,H0 c≠none->c ∉ y::fpa:=λ c h q=>(Zl.mp q).elim (λ q=>h (q ▸ h0y)) λ q=>h (st.live c (sub c q)).2.2
    refine ⟨r1.ext.ss.trans g.ss,g.sh,λ c o e=>?_,λ c h1 h2=>?_⟩
    · exact g.hh _ _ ((iq (nf c (gz e))).trans (r2.ext.hh _ _ e))
    · exact g.fr c (r1.ext.fr c h1 h2) (by rw [iq (nf c h2)]; exact r2.ext.hh.live h2)
   obtain ⟨fp',h1,h2⟩:=tU Hs' H' r0 fpr _ g.ss far (sr.rebase λ _ _=>rfl) (λ c hc=>by
    rcases jK (sr.live c hc).2.2 with w | w
    ·rcases Zl.mp w with w | w
     ·subst w
      exact .inr ⟨yfp,h0y⟩
     · exact .inl w
    · exact .inr ⟨st2.new w,r2.old w⟩) e7
   refine k (.ref y) Hs' H' ⟨ex,_,.mu od2 (λ hb=>by cases hb) (λ c hc=>?_) (λ c hc q=>?_) h1⟩
   ·rcases jK (z c hc) with w | w
    ·rcases Zl.mp w with w | w
     · rw [w]; exact h0y
     · exact (st.live c (sub c w)).2.2
    · exact r2.old w
   ·rcases h2 c q with w | w
    ·rcases jK (z c hc) with y' | y'
     ·rcases Zl.mp y' with y' | y'
      · exact yfp (y' ▸ w.1)
      · exact w.2 y'
     · exact (st2.live c w.1).2.1 y'
    · exact j c hc w
 · cases e6
end
def wk:Sm->Sm
 | .mu true m=>.mu true m
 | _=>.no
def kP (n m:Nat) (b:DSm) (as:List Sm):Option (Sm×List Sm):=if as.length=m then (match b (as++List.replicate (n - as.length) .no) with
 | some (.ret s τ)=>some (s,(τ.take m).map wk)
 | some (.next τ)=>some (.shr .non,(τ.take m).map wk)
 | _=>none) else none
section
variable {K:W.Frag} {H0 Hs H:Hp}
theorem StM.startM (k:Nat) (h:StM K H0 Hs H ρ σ τ fp):StM K H0 Hs H (ρ++List.replicate k none) (σ++List.replicate k none) (τ++List.replicate k .no) fp:=by
 induction h with
 | nil =>
  induction k with
  | zero=>exact .nil
  | succ k ih=>rw [Z9,Z9,Z9]; exact .no ih
 | no _ ih=>exact .no ih
 | shr h _ ih=>exact .shr h ih
 | mu h hp z j _ ih=>exact .mu h hp z j ih
theorem StM.qp:∀ {vs:List V} {ρ:List (Option Addr)} {σ:List (Option V)} {τ:List Sm} {fp:List Addr},StM K H0 Hs H (gZ vs++ρ) σ τ fp->∃ fp',StM K H0 Hs H (gZ vs) (vs.map some) ((τ.take vs.length).map wk) fp'/\∀ c ∈ fp',c ∈ fp
 | [],ρ,σ,τ,fp,h=>⟨[],.nil,λ c hc=>(nomatch hc)⟩
 | v :: vs,ρ,σ,τ,fp,h=>by
  cases h with
  | no r =>
   obtain ⟨fp',h1,h2⟩:=StM.qp r;exact ⟨fp',.no h1,h2⟩
  | shr _ r =>
   obtain ⟨fp',h1,h2⟩:=StM.qp r;exact ⟨fp',.no h1,h2⟩
  | @mu _ w b m _ _ _ fq fr od hp z j r =>
   obtain ⟨fp',h1,h2⟩:=StM.qp r
   cases b with
   | false=>exact ⟨fp',.no h1,λ c hc=>Zc _ (h2 c hc)⟩
   | true =>
    obtain ⟨a,p1,p2⟩:=hp rfl
    have ev:v=.ref a:=by
     cases v <;> simp [ME] at p1
     rw [p1]
    subst p2;subst ev;exact ⟨fq++fp',.mu od (λ _=>⟨a,rfl,rfl⟩) z (λ c hc q=>j c hc (h2 c q)) h1,λ c hc=>(Zg.mp hc).elim (Zp _) λ q=>Zc _ (h2 c q)⟩
theorem Od.Cu (h:Od K Hs H fp v m):∀ c ∈ fp,∀ o u,H c≠some (.frz o u):=by
 induction h with
 | s r=>intro c h; cases h
 | @n a dx t ts u h hl nh ku nd r ih =>
  intro c hc o w;rcases Zl.mp hc with e | e
  ·subst e
   rw [h];generalize ts.map Kd.kv=kvs at hl;cases hl <;> (intro z; cases z)
  ·obtain ⟨k,hk,hb⟩:=Yi.mp e
   exact ih k hk c hb o w
theorem StM.Cu (h:StM K H0 Hs H ρ σ τ fp):∀ c ∈ fp,∀ o u,H c≠some (.frz o u):=by
 induction h with
 | nil=>intro c h; cases h
 | no _ ih=>exact ih
 | shr _ _ ih=>exact ih
 | mu h hp z j _ ih=>exact λ c hc=>(Zg.mp hc).elim (h.Cu c) (ih c)
variable {P:Program} {w:World} {mg:Str->Option Value} {base:Heap}
theorem Fun.okM {x qual:Str} {st:Stmt} {f:Addr} {fd:FuncData} {N ps:List Str} {k:Nat} {b:DSm} (F:Fun K x qual st f fd) (S:dF N ps (aI st))
  (hbody:∀ (cdv:Value) (A:Around) (outer:List Env) (s:Shared) (H:Hp) (E:XK),dQ k (A.deeper (envOfC qual (aI st) s.heap.objs.size f cdv)) ->
    mL (zI CX0 P w K mg base N qual (aI st) f cdv A outer s H E).nox (bL st) b):fj P w K mg base CX0 (k+1) f fd ps (spM (kP N.length ps.length b) K):=by
 refine F.ok S (λ vs H Q E h=>?_) (λ cdv A outer s H vs Q E hr h=>?_)
 ·obtain ⟨Hs,fp,as,s,as',sm,r,e,_⟩:=h
  unfold kP at e;split at e
  · rename_i hl
    have:=r.len;rw [Za] at this;rw [this]; exact hl
  · cases e
 obtain ⟨Hs,fp,as,sl,as',sm,r,e,q⟩:=h;refine ⟨_,hbody cdv A outer s H E hr,?_⟩;have lv:vs.length=as.length:=by have:=r.len; rw [Za] at this; exact this
 unfold kP at e;split at e
 ·rename_i hl
  have h0:bP K Hs (off H fp) (gZ vs++List.replicate (N.length - vs.length) none) Hs H (start N vs) (as++List.replicate (N.length - as.length) .no):=⟨⟨.refl _,sm,yL,λ _ h _=>h⟩,fp,by unfold start; rw [lv]; exact r.startM _⟩
  have nf:Nf H (off H fp):=λ d o u e z=>by
    rcases jK z with q | q
    · exact r.Cu d q o u e
    · rw [q] at e; cases e
  cases q2:b (as++List.replicate (N.length - as.length) .no) with
  | none=>rw [q2] at e; cases e
  | some o =>
    rw [q2] at e;refine ⟨Hs,off H fp,nf,_,Hs,_,o,h0,q2,?_⟩
    cases o with
    | next τ =>
     cases e;intro σ Hs' H' r';obtain ⟨fp1,s1⟩:=r'.st;obtain ⟨fp2,s2,_⟩:=s1.qp;rw [lv,hl] at s2;exact q .non Hs' H' fp2 r'.ext (.shr .non s2)
    | ret s τ =>
     cases e;intro v σ Hs' H' r';obtain ⟨fp1,s1⟩:=r'.st
     cases s1 with
     | no s1 =>
      obtain ⟨fp2,s2,_⟩:=s1.qp;rw [lv,hl] at s2;exact q v Hs' H' fp2 r'.ext (.no s2)
     | shr h s1 =>
      obtain ⟨fp2,s2,_⟩:=s1.qp;rw [lv,hl] at s2;exact q v Hs' H' fp2 r'.ext (.shr h s2)
     | mu h hp z j s1 =>
      obtain ⟨fp2,s2,sub⟩:=s1.qp;rw [lv,hl] at s2;exact q v Hs' H' _ r'.ext (.mu h hp z (λ c hc y=>j c hc (sub c y)) s2)
    | brk τ=>cases e
    | cnt τ=>cases e
 · cases e
end
section
variable {K:W.Frag} {Hs0 H0 Hs H Hs' H':Hp} {ρ:List (Option Addr)} {σ:St} {τ:List Sm}
theorem bP.rebase (r:bP K Hs0 H0 ρ Hs H σ τ):bP K Hs H0 ρ Hs H σ τ:=⟨⟨.refl _,r.sm,r.ext.hh,λ _ h _=>h⟩,r.st⟩
theorem bP.iP (a:Ext Hs0 H0 Hs1 H1) (r:bP K Hs1 H0 ρ Hs H σ τ):bP K Hs0 H0 ρ Hs H σ τ:=⟨a.sub r.ext,r.st⟩
theorem IY.rebase (a:Ext Hs0 H0 Hs1 H1) (h:IY K Hs0 H0 ρ E o):IY K Hs1 H0 ρ E o:=by
 cases o with
 | next τ=>exact λ σ Hs H r=>h σ Hs H (r.iP a)
 | brk τ=>exact λ σ Hs H r=>h σ Hs H (r.iP a)
 | cnt τ=>exact λ σ Hs H r=>h σ Hs H (r.iP a)
 | ret s τ=>exact λ v σ Hs H r=>h v σ Hs H (r.iP a)
theorem bP.ur (r:bP K Hs0 H0 ρ Hs H σ τ) (h:Rp K Hs v d):bP K Hs0 H0 ρ Hs H (σ.set i (some v)) (τ.set i (.shr d)):=⟨r.ext,by
 obtain ⟨fp,st⟩:=r.st;obtain ⟨fp',h1,_⟩:=st.ur (i:=i) h
 exact ⟨fp',h1⟩⟩
theorem bP.hold (r:bP K Hs0 H0 ρ Hs H σ τ) (hp:H p=none):bP K Hs0 (upd H0 p u) ρ Hs (upd H p u) σ τ:=by
 obtain ⟨fp,st⟩:=r.st;refine ⟨⟨r.ext.ss,r.sm.trans (az hp u),λ b o e=>?_,λ b h1 h2=>?_⟩,fp,?_⟩
 ·by_cases z:b=p
  · subst z; rw [av] at e ⊢; exact e
  · rw [ar z] at e ⊢; exact r.ext.hh b o e
 ·by_cases z:b=p
  · subst z; exact r.sm.free hp
  · rw [ar z] at h2; exact r.ext.fr b h1 h2
 ·refine (st.rebase λ c hc=>?_).ext ⟨.refl _,r.sm.trans (az hp u),az hp u,λ _ h _=>h⟩
  rw [ar (show c≠p from λ z=>(st.live c hc).2.1 (by rw [z]; exact hp))];exact (st.live c hc).2.2
theorem bP.Es (r:bP K Hs0 (upd H0 p u) ρ Hs H σ τ) (h0:H0 p=none) (hs:Hs0 p=none):Ext Hs0 H0 Hs H/\Hs p=none/\H p=some u/\∃ fp,p ∉ fp/\StM K H0 Hs H ρ σ τ fp:=by
 obtain ⟨fp,st⟩:=r.st;have np:p ∉ fp:=λ q=>by have:=(st.live p q).2.2; rw [av] at this; cases this
 refine ⟨⟨r.ext.ss,r.sm,λ b o e=>?_,λ b h1 h2=>?_⟩,r.ext.fr p hs (by rw [av]; simp),r.ext.hh _ _ av,fp,np,st.rebase λ c hc=>?_⟩
 · exact r.ext.hh b o (by rw [ar (show b≠p from λ z=>by rw [z,h0] at e; cases e)]; exact e)
 · exact r.ext.fr b h1 (by rw [ar (show b≠p from λ z=>h2 (by rw [z]; exact h0))]; exact h2)
 ·have:=(st.live c hc).2.2
  rw [ar (show c≠p from λ z=>np (by rw [<- z]; exact hc))] at this;exact this
end
def eD0:DEm:=λ τ=>some (.mu false (.n .d []),τ)
def eD1 (kc:Key) (fv:DEm):DEm:=λ τ=>(fv τ).bind λ x=>(toM x.1).map λ mv=>(.mu false (.n .d [(kc,mv)]),x.2)
section
variable {X:Cx} {a b c e o:Expr} {es:List Expr} {pos apos cpos pos' p:Pos} {x m:Str}
theorem JF:PVm X (.Dict [] [] pos) eD0:=yE.imp λ σ H Q ⟨Hs0,H0,nf,ρ,Hs,τ,s,τ',r,e,k⟩=>by
 cases e;intro p hp;exact k (.ref p) Hs _ (az hp _) (r.E1 (az hp _) (fq:=[p]) (Od.n (ts:=[]) (dx:=0) (u:=.dK []) av (.d []) (r.sm.free hp) (by show ([]:List Key).Nodup; exact .nil) (by simp) (λ c hc=>by cases hc)) λ c hc=>by rw [Zn.mp hc]; exact hp)
theorem JE (hk:PE X kx (tC (kV kc))) (hv:PVm X value fv):PVm X (.Dict [some kx] [value] pos) (eD1 kc fv) :=
 (@B3 X pos [some kx] [value] _ (@yt _ _ _ _ _ _ _ _ _ hk hv BJ) rfl rfl (by simp) (by simp)).imp λ σ H Q ⟨Hs0,H0,nf,ρ,Hs,τ,s,τ',r,e,k⟩=>by
   obtain ⟨⟨s1,τ1⟩,e1,e2⟩:=bind_some e;obtain ⟨mv,e3,e4⟩:=Zm e2;cases e4;intro p hp;refine ⟨Hs0,upd H0 p (.dK []),nf.upd,ρ,Hs,τ,s1,τ1,r.hold hp,e1,λ v Hs2 H2 g2 r2=>?_⟩;obtain ⟨ex,hsp,hpp,fp,np,st⟩:=r2.Es (r.old hp) (r.ext.ss.free (r.sm.free hp));refine ⟨hpp,[(kc,v)],rfl,Zb rfl,?_⟩
   have sm0:bp H (upd H2 p (.dK [(kc,v)])):=λ b o q=>by
    have nb:b≠p:=λ z=>by rw [z,hp] at q; cases q
    rw [ar nb];exact g2 _ _ (by rw [ar nb]; exact q)
   have ex':Ext Hs0 H0 Hs2 (upd H2 p (.dK [(kc,v)])):=by
    refine ⟨ex.ss,λ b o q=>?_,λ b o q=>?_,ex.fr⟩
    · rw [ar (show b≠p from λ z=>by rw [z,hsp] at q; cases q)]; exact ex.sh b o q
    · rw [ar (show b≠p from λ z=>by rw [z,r.old hp] at q; cases q)]; exact ex.hh b o q
   have fin:∀ {fq fr:List Addr},Od X.K Hs2 H2 fq v mv->p ∉ fq->p ∉ fr->(∀ c ∈ fq,H0 c=none)->(∀ c ∈ fq,c ∉ fr)->StM X.K H0 Hs2 H2 ρ σ τ1 fr->Q (.ref p) (upd H2 p (.dK [(kc,v)])):=λ {fq fr} od n1 n2 z j sr=>by
    refine k (.ref p) Hs2 _ sm0 ⟨ex',(p::fq)++fr,.mu (fq:=p::fq) ?_ (λ e=>by cases e) (λ c hc=>?_) (λ c hc=>?_) (sr.mv (.refl _) λ c hc=>⟨(sr.live c hc).1,ar (show c≠p from λ q=>n2 (by rw [<- q]; exact hc))⟩)⟩
    ·have:=Od.n (K:=X.K) (Hs:=Hs2) (H:=upd H2 p (.dK [(kc,v)])) (a:=p) (dx:=0) (t:=.d) (ts:=[⟨kc,v,mv,fq⟩]) (u:=.dK [(kc,v)]) av (.d _) hsp (by show [kc].Nodup; simp) (by
      rw [Yd,List.flatMap_nil,Z2]
      exact Zv.mpr ⟨n1,od.nd⟩) (λ c hc=>by
      rw [Zn.mp hc]
      exact od.mv (.refl _) λ x hx=>⟨(od.live x hx).1,ar (show x≠p from λ q=>n1 (by rw [<- q]; exact hx))⟩)
     rw [Yd,List.flatMap_nil,Z2] at this;exact this
    ·rcases Zl.mp hc with q | q
     · rw [q]; exact r.old hp
     · exact z c q
    ·rcases Zl.mp hc with q | q
     · rw [q]; exact n2
     · exact j c q
   cases st with
   | no st=>cases e3
   | shr h st=>cases e3; exact fin (.s h) (by simp) np (λ c hc=>by cases hc) (λ c hc=>by cases hc) st
   | @mu _ _ b _ _ _ _ fq fr od hpn z j st =>
    cases b with
    | true=>cases e3
    | false=>cases e3; exact fin od (λ q=>np (Zp _ q)) (λ q=>np (Zc _ q)) z j st
end
abbrev DGm:=D->List Sm->Option (List Sm)
def N7 (N:Hp) (K:W.Frag) (g:DGm):TG:=λ v σ H Q=>∃ (Hs0 H0:Hp),∃ (_:Nf N H0),∃ ρ Hs τ τ' d,bP K Hs0 H0 ρ Hs H σ τ/\Rp K Hs v d/\g d τ=some τ'/\∀ σ',bP K Hs0 H0 ρ Hs H σ' τ'->Q σ' H
def PGm (X:Cx) (tg:Expr) (g:DGm):Prop:=PG X tg (N7 X.H₀ X.K g)
abbrev Em:=List D->List Sm->Option (List Sm)
def Jx (N:Hp) (K:W.Frag) (g:Em):TGs:=λ v σ H Q=>∃ (Hs0 H0:Hp),∃ (_:Nf N H0),∃ ρ Hs τ τ' d,bP K Hs0 H0 ρ Hs H σ τ/\Rps K Hs v d/\g d τ=some τ'/\∀ σ',bP K Hs0 H0 ρ Hs H σ' τ'->Q σ' H
def AY (X:Cx) (tg:List Expr) (g:Em):Prop:=PGs X tg (Jx X.H₀ X.K g)
def gNm (i:Nat):DGm:=λ d τ=>some (τ.set i (.shr d))
def rD:Em:=λ ds τ=>if ds.isEmpty=true then some τ else none
def j1 (g:DGm) (h:Em):Em:=λ ds τ=>match ds with | d::r=>(g d τ).bind λ τ'=>h r τ' | []=>none
def gTm (n:Nat) (g:Em):DGm:=λ d τ=>match d with | .tup ds=>if ds.length=n then g ds τ else none | _=>none
def forM (b:D->DSm):List D->DSm
 | [],τ=>some (.next τ)
 | d::ds,τ=>match b d τ with
  | some (.next τ')=>forM b ds τ'
  | some (.cnt τ')=>forM b ds τ'
  | some (.brk τ')=>some (.next τ')
  | r=>r
def sD (it:DI) (g:DGm) (b:DSm):DSm:=λ τ=>(it (er τ)).bind λ ds=>forM (λ d τ=>(g d τ).bind b) ds τ
section
variable {X:Cx} {a b c e o tg iter:Expr} {es:List Expr} {body:List Stmt} {pos apos cpos pos' p:Pos} {x m:Str}
theorem yB (hN:X.N.Nodup) (hi:X.N[i]?=some x) (hx:Loc X.env.scope x) (hf:X.fn x=true\/X.env.scope.names.lookup x=some .local:=by first | exact .inl rfl | exact .inr rfl | assumption):PGm X (.Name x pos) (gNm i) :=
 (gB hN hi hx hf).imp λ v σ H Q ⟨Hs0,H0,nf,ρ,Hs,τ,τ',d,r,rv,e,k⟩=>by
   cases e;exact k _ (r.ur rv)
theorem yz:AY X [] rD:=vg.imp λ v σ H Q ⟨Hs0,H0,nf,ρ,Hs,τ,τ',d,r,rv,e,k⟩=>by
 cases rv with
 | nil=>cases e; exact ⟨rfl,k σ r⟩
 | cons _ _=>simp [rD] at e
theorem ve (h1:PGm X e g) (h2:AY X es h) (hs:(assignEach (e::es) X.env).map (·.2)=assign e X.env::(assignEach es X.env).map (·.2):=by rfl):AY X (e::es) (j1 g h) :=
 (qI h1 h2 hs).imp λ v σ H Q ⟨Hs0,H0,nf,ρ,Hs,τ,τ',d,r,rv,e,k⟩=>by
   cases rv with
   | nil=>simp [j1] at e
   | cons rx rr =>
    obtain ⟨τ1,e1,e2⟩:=bind_some e;exact ⟨_,_,rfl,Hs0,H0,nf,ρ,Hs,τ,τ1,_,r,rx,e1,λ σ' r'=>⟨Hs0,H0,nf,ρ,Hs,τ1,τ',_,r',rr,e2,k⟩⟩
theorem BZ (hc:X.calm=true) (h:AY X es g) (hn:(assignEach es X.env).length=n:=by rfl) (hst:(assignEach es X.env).findIdx? (·.1)=none:=by rfl):PGm X (.Tuple es k' pos) (gTm n g) :=
 (Ah hc h hn hst).imp λ v σ H Q ⟨Hs0,H0,nf,ρ,Hs,τ,τ',d,r,rv,e,k⟩=>by
   cases rv with
   | @tup a xs ds h rr =>
    simp only [gTm] at e;split at e
    ·rename_i hl
     exact ⟨a,xs,rfl,r.sm.tup h,by rw [rr.length]; exact hl,Hs0,H0,nf,ρ,Hs,τ,τ',ds,r,rr,e,k⟩
    · cases e
   | _=>simp [gTm] at e
theorem Bz {it:DI} {g:DGm} {b:DSm} (hp:PassesOwn (model X.prog X.w) X.A X.env X.xe) (hc:X.calm=true) (hi:PId X tg iter it) (hg:PGm X tg g) (hb:mL X body b) (hs:∀ x,foldedSetIterable iter X.env x=pure x:=by intro _; rfl) :
  PSm X (.For tg iter body [] pos) (sD it g b):=(m6 hp hc hi hg hb hs).imp λ E σ H ⟨Hs0,H0,nf,ρ,Hs,τ,o,r,e,k⟩=>by
 obtain ⟨ds,e1,e2⟩:=bind_some e;obtain ⟨fp,hst⟩:=r.st;refine ⟨H0,Hs,er τ,[],ds,hst.er,r.sm,e1,λ J Hs1 H1 g1 hJ=>?_⟩;have r1:=r.ext' g1;have kk:=k.rebase r1.ext;refine ⟨λ i m σ H=>m=ds.length - i/\i<=ds.length/\∃ Hs2 τ2,bP X.K Hs1 H0 ρ Hs2 H σ τ2/\forM (λ d τ=>(g d τ).bind b) (ds.drop i) τ2=some o,⟨ds.length,by simp,Z1 _,Hs1,τ,r1.rebase,by simpa using e2⟩,?_⟩
 rintro i m σ2 H2 ⟨rfl,hi,Hs2,τ2,r2,e3⟩
 obtain ⟨hgo,hstop⟩:=hJ Hs2 H2 r2.ext.ss r2.sm
 by_cases hlt:i < ds.length
 ·have ed:ds.drop i=ds[i]::ds.drop (i+1):=Ym hlt
  rw [ed] at e3;obtain ⟨go,yl⟩:=hgo i ds[i] (List.getElem?_eq_getElem hlt);refine .inr ⟨go,λ σ' H'=>∃ Hs' τ',bP X.K Hs1 H0 ρ Hs' H' σ' τ'/\forM (λ d τ=>(g d τ).bind b) (ds.drop (i+1)) τ'=some o,?_,?_⟩
  ·rintro σ' H' ⟨Hs',τ',r',e'⟩
   exact ⟨ds.length - (i+1),by omega,rfl,hlt,Hs',τ',r',e'⟩
  ·intro x H' y
   obtain ⟨Hs3,g3,rx⟩:=yl x H' y;have r3:=r2.ext' g3;unfold forM at e3
   cases q:(g ds[i] τ2).bind b with
   | none=>simp only [q] at e3; cases e3
   | some o1 =>
    simp only [q] at e3;obtain ⟨τ3,q1,q2⟩:=bind_some q;refine ⟨Hs1,H0,nf,ρ,Hs3,τ2,τ3,ds[i],r3,rx,q1,λ σ' r'=>?_⟩;refine ⟨Hs1,H0,nf,ρ,Hs3,τ3,o1,r',q2,?_⟩
    cases o1 with
    | next τ'=>exact λ σ4 Hs4 H4 r4=>⟨Hs4,τ',r4,e3⟩
    | cnt τ'=>exact λ σ4 Hs4 H4 r4=>⟨Hs4,τ',r4,e3⟩
    | brk τ'=>cases e3; exact kk
    | ret s τ'=>cases e3; exact kk
 ·have e0:i=ds.length:=by omega
  subst e0;rw [Xi] at e3;have e':Hm.next τ2=o:=by simpa [forM] using e3
  subst e';exact .inl ⟨hstop _ (Zi _),kk σ2 Hs2 H2 r2⟩
end
def oW (i j:Nat):DS:=λ τ=>match τ[j]? with
 | some (.own (.lst ds))=>(ds[ds.length - 1]?).map λ d=>.next ((τ.set j (.own (.lst ds.dropLast))).set i (.shr d))
 | _=>none
theorem Rps.dropLast {K:W.Frag} {H:Hp} {xs:List V} {ds:List D} (r:Rps K H xs ds):Rps K H xs.dropLast ds.dropLast:=by
 rw [List.dropLast_eq_take,List.dropLast_eq_take,r.length];exact r.take _
section
variable {X:Cx} {a b c e o tg iter:Expr} {es:List Expr} {body:List Stmt} {pos apos cpos pos' p:Pos} {x y:Str}
theorem yp (i j:Nat) (hN:X.N.Nodup) (hi:X.N[i]?=some x) (hx:Loc X.env.scope x) (hj:X.N[j]?=some y) (hv:Vis X.env.scope y)
   (hd:(y == ("__debug__":Str))=false:=by decide) (hcd:(y == ("__classdict__":Str))=false:=by decide)
   (hbase:attributeBase (.Name y py) "pop" X.env (eval (.Name y py) X.env)=eval (.Name y py) X.env:=by rfl) (hline:(apos.endLine == cpos.line)=true:=by rfl)
   (hs:swapsWith (.Call (.Attribute (.Name y py) "pop" apos) [] [] cpos) (some (.Name x pos')) pos.line X.env=pure false:=by rfl) (hf:X.fn x=true\/X.env.scope.names.lookup x=some .local:=by first | exact .inl rfl | exact .inr rfl | assumption) :
   PSd X (.Assign [.Name x pos'] (.Call (.Attribute (.Name y py) "pop" apos) [] [] cpos) pos) (oW i j) :=
 (iR hN hi hx (Fh Yu PySem.F.slot_list_pop PySem.F.type_list_pop Gg (iS hj hv hd hcd) hbase hline) hs hf).imp λ E σ H ⟨Hs0,H0,Hs,τ,o,r,e,k⟩=>by
   unfold oW at e;split at e
   ·rename_i ds q
    obtain ⟨d,e1,rfl⟩:=Zm e;obtain ⟨fp,st⟩:=r.st;obtain ⟨a,h1,h2,h3,h4⟩:=st.Ef q
    cases h2 with
    | @lst xs _ hH hn hr =>
     obtain ⟨v,hv1,hv2⟩:=hr.get e1;rw [<- hr.length] at hv1;refine ⟨_,h1,.inl ⟨rfl,_,SqL.of hH⟩,a,xs,v,rfl,rfl,hH,hv1,?_⟩;have s1:=st.mut q h1 (o:=.lst xs.dropLast) (d':=.lst ds.dropLast) (.lst av hn hr.dropLast);obtain ⟨fp',_,s2⟩:=s1.ur (i:=i) hv2;refine k _ Hs _ ⟨⟨r.ext.ss,λ b u z=>?_,λ b u z=>?_,r.ext.fr⟩,fp',s2⟩
     · rw [ar (show b≠a from λ w=>by rw [w,hn] at z; cases z)]; exact r.ext.sh b u z
     · rw [ar (show b≠a from λ w=>by rw [w,h3] at z; cases z)]; exact r.ext.hh b u z
   · cases e
end
def kD:Key->D
 | .inl i=>.int i
 | .inr x=>.str x
theorem L0 {K:W.Frag} {H:Hp} (k:Key):Rp K H (kV k) (kD k):=by
 cases k with
 | inl i=>exact .int i
 | inr x=>exact .str x
end L2
end
section
namespace L2
open PySem
section
variable {τ τ' τ1:List Sm} {f g:DSm} {s:Sm} {o:Hm} {b:Bool} {d:D} {i j:Nat} {q:List Stp} {m m2 mv:Mt} {cs:List (Key×Mt)} {k:Key}
theorem a6 (h:f τ=some (.next τ')) (h2:g τ'=some o):kO f g τ=some o:=by unfold kO; rw [h]; exact h2
theorem eT {f:DEm} (h:f τ=some (s,τ')) (hi:i < τ'.length) (hs:(toM s).isSome=true):sC i f τ=some (.next (τ'.set i s)):=by unfold sC; rw [h]; exact if_pos ⟨hi,hs⟩
theorem nB {f:DEm} (h:f τ=some (s,τ')):iQ f τ=some (.next τ'):=by unfold iQ; rw [h]; rfl
theorem iy {g:DE} (h:g (cb τ)=some d):qE g τ=some (.next τ):=by unfold qE; rw [h]; rfl
theorem vT (h:t τ=some (true,τ')) (h2:f τ'=some o):z6 t f g τ=some o:=by unfold z6; rw [h]; show (if true=true then f τ' else g τ')=_; rw [if_pos rfl]; exact h2
theorem pK (h:t τ=some (false,τ')) (h2:g τ'=some o):z6 t f g τ=some o:=by unfold z6; rw [h]; show (if false=true then f τ' else g τ')=_; rw [if_neg (by simp)]; exact h2
theorem vQ {f:DEm} (h:f τ=some (s,τ')):xX f τ=some (.ret s τ'):=by unfold xX; rw [h]; rfl
theorem v_S {g:DE} (h:g (cb τ)=some d) (hs:sca d=true):eS g τ=some (.shr d,τ):=by unfold eS; rw [h]; exact if_pos hs
theorem v_N {g:DE} (h:g (er τ)=some d):eN g τ=some (.shr d,τ):=by unfold eN; rw [h]; rfl
theorem v_O {g:DE} {ds:List D} (h:g (cb τ)=some (.lst ds)) (hs:ds.all sca=true):eO g τ=some (.mu false (lM ds),τ):=by unfold eO; rw [h]; exact if_pos hs
theorem Jb {f:DEm} (h:f τ=some (s,τ')) (hs:toM s=some mv):eD1 k f τ=some (.mu false (.n .d [(k,mv)]),τ'):=by unfold eD1; rw [h]; show (toM s).map _=_; rw [hs]; rfl
theorem t_S {g:DT} (h:g (cb τ)=some b):tS g τ=some (b,τ):=by unfold tS; rw [h]; rfl
theorem q9 (h:τ[i]?=some (.mu b m)):bh τ i q=m.get q:=by unfold bh; rw [h]
theorem q8 (h:τ[i]?=some (.mu b m)):fD τ i q m2=τ.set i (.mu b (m.put q m2)):=by unfold fD; rw [h]
theorem c6:dr i τ=some (i,[]):=rfl
theorem mS {C:Addr} {x:Str} {f:DPx} (h:f τ=some (i,q)) (hm:bh τ i q=some (.n (.o C) cs)):kQ C x f τ=some (i,q++[.k (.inr x)]):=by
 unfold kQ;rw [h];show (match bh τ i q with | some (.n (.o C') _)=>if C'=C then some (i,q++[Stp.k (.inr x)]) else none | _=>none)=_;rw [hm];exact if_pos rfl
theorem xM {f:DPx} {gk:DE} (h:f τ=some (i,q)) (hk:gk (cb τ)=some d) (he:kX d=some k) (hm:bh τ i q=some (.n .d cs)):pe f gk τ=some (i,q++[.k k]):=by
 unfold pe;rw [h];show (gk (cb τ)).bind _=_;rw [hk];show (kX d).bind _=_;rw [he];show (match bh τ i q with | some (.n .d _)=>some (i,q++[Stp.k k]) | _=>none)=_;rw [hm]
theorem gw (h1:fv τ=some (s,τ1)) (h2:px τ1=some (i,q)) (h3:gk (cb τ1)=some d) (h4:kX d=some k) (h5:toM s=some mv) (h6:bh τ1 i q=some (.n .d cs)) (h7:cs.length < 100000):gr px gk fv τ=some (.next (fD τ1 i q (.n .d (jG cs k mv)))):=by
 unfold gr;simp only [h1,h2,h3,h4,h5,h6,Yp];exact if_pos h7
theorem Gs (h1:fv τ=some (s,τ1)) (h2:px τ1=some (i,q)) (h5:toM s=some mv) (h6:bh τ1 i q=some (.n (.o C) cs)) (h7:cs.length < 1000):sE C x px fv τ=some (.next (fD τ1 i q (.n (.o C) (jG cs (.inr x) mv)))):=by
 unfold sE;simp only [h1,h2,h5,h6,Yp];exact if_pos ⟨trivial,h7⟩
theorem Gr {px:DPx} {gi:DE} {fv:DEm} {cs0:List (Key×Mt)} {n:Int} (h1:px τ=some (i,q)) (h2:bh τ i q=some (.n .l cs0)) (h3:gi (cb τ)=some (.int n)) (h4:fv τ=some (s,τ1)) (h5:toM s=some mv) (h6:bh τ1 i q=some (.n .l cs)) (h7:0<=n/\n<=cs.length/\cs.length < 100000):xY px gi fv τ=some (.next (fD τ1 i q (.n .l (IP cs n.toNat mv)))):=by
 unfold xY;simp only [h1,h2,h3,h4,h5,h6,Yp];exact if_pos h7
theorem q_S {g:DE} (h:g (cb τ)=some d) (hs:sca d=true):qS g τ=some (.v d):=by unfold qS; rw [h]; exact if_pos hs
theorem q_N {g:DE} (h:g (er τ)=some d):qN g τ=some (.v d):=by unfold qN; rw [h]; rfl
theorem q_X {f:DPx} {t:Tg} (h:f τ=some (i,q)) (hm:bh τ i q=some (.n t cs)):qX f τ=some (.p i q):=by
 unfold qX;rw [h];show (match bh τ i q with | some (.n _ _)=>some (Am.p i q) | some (.s d)=>some (.v d) | none=>none)=_;rw [hm]
theorem cv {h:List Sm->Option Am} {g:DAm} {a:Am} {as:List Am} (h1:h τ=some a) (h2:g τ=some as):cY h g τ=some (a::as):=by unfold cY; rw [h1]; show (g τ).map _=_; rw [h2]; rfl
theorem v_C {F:List Sm->Option (Sm×List Sm)} {g:DAm} {as:List Am} {ss ss':List Sm} (h1:g τ=some as) (h2:lend τ as=some ss) (h3:F ss=some (s,ss')) (h4:back τ as ss'=some τ'):eC F g τ=some (s,τ'):=by
 unfold eC;rw [h1];show qf F τ as=_;unfold qf;simp only [h2,h3,h4,Yp,Xn]
theorem v_M {C:Addr} {x:Str} {F:List Sm->Option (Sm×List Sm)} {f:DPx} {g:DAm} {as:List Am} {ss ss':List Sm} (h0:f τ=some (i,q)) (hm:bh τ i q=some (.n (.o C) cs)) (hn:(cs.any λ c=>decide (c.1=.inr x))=false) (h1:g τ=some as) (h2:lend τ (.p i q::as)=some ss) (h3:F ss=some (s,ss')) (h4:back τ (.p i q::as) ss'=some τ'):eM C x F f g τ=some (s,τ'):=by
 unfold eM;simp only [h0,hm,Yp];rw [if_pos ⟨trivial,hn⟩,h1];show qf F τ _=_;unfold qf;simp only [h2,h3,h4,Yp,Xn]
theorem v_K {C:Addr} {F:List Sm->Option (Sm×List Sm)} {g:DAm} {as:List Am} {ss r:List Sm} (h1:g τ=some as) (h2:lend τ as=some ss) (h3:F (.mu true (.n (.o C) [])::ss)=some (.shr .non,.mu true m::r)) (h4:back τ as r=some τ'):eK C F g τ=some (.mu false m,τ'):=by
 unfold eK;simp only [h1,h2,h3,Yp];rw [h4];rfl
theorem l6 (h:bd (as++List.replicate (n - as.length) .no)=some (.ret s τ)) (hl:as.length=mm:=by rfl):kP n mm bd as=some (s,(τ.take mm).map wk):=by unfold kP; rw [if_pos hl,h]
theorem Aa (h:bd (as++List.replicate (n - as.length) .no)=some (.next τ)) (hl:as.length=mm:=by rfl):kP n mm bd as=some (.shr .non,(τ.take mm).map wk):=by unfold kP; rw [if_pos hl,h]
theorem zD:(Mt.n .d cs).get [.k k]=(cs.find? λ c=>decide (c.1=k)).map (·.2):=by
 show (match cs.findIdx? (λ c=>decide (c.1=k)) with | none=>none | some i=>match cs[i]? with | none=>none | some c=>Mt.get c.2 [])=_;have e:∀ m:Mt,m.get []=some m:=λ m=>by cases m <;> rfl
 rw [List.find?_eq_bind_findIdx?_getElem?]
 cases h:cs.findIdx? (λ c=>decide (c.1=k)) with
 | none=>rfl
 | some i =>
  show (match cs[i]? with | none=>none | some c=>Mt.get c.2 [])=(cs[i]?).map (·.2)
  cases cs[i]? with
  | none=>rfl
  | some c=>exact e c.2
end
end L2
end
section
namespace L2
open PySem PySem.Spec PyProof.Rows
def leS (a b:Str):Bool:=!decide (b.cps.toList < a.cps.toList)
theorem gE:leS a b=true↔a.cps.toList<=b.cps.toList:=by
 unfold leS;rw [Bool.not_eq_true',decide_eq_false_iff_not];exact List.not_lt
theorem nD (a b c:Str) (h1:leS a b=true) (h2:leS b c=true):leS a c=true:=gE.mpr (List.le_trans (gE.mp h1) (gE.mp h2))
theorem wc (a b:Str):(leS a b||leS b a)=true:=by
 rcases List.le_total a.cps.toList b.cps.toList with h | h
 · rw [gE.mpr h]; rfl
 · rw [gE.mpr h,Bool.or_true]
theorem yZ (h1:leS a b=true) (h2:leS b a=true):a=b:=by
 have e:=List.le_antisymm (gE.mp h1) (gE.mp h2);cases a;cases b;exact Yl Str.mk (Array.toList_inj.mp e)
noncomputable def D2 (ss:List Str):List Str:=ss.mergeSort leS
theorem pw_rising:∀ (p:Str) (l:List Str),risingS p l=true->(p::l).Pairwise (λ a b=>leS a b=true)
 | p,[],_=>List.pairwise_singleton ..
 | p,x::r,h=>by
  have h':(!ltCps x.cps.toList p.cps.toList&&risingS x r)=true:=h;rw [Yh,ltCps_eq] at h';have ih:=pw_rising x r h'.2;have px:leS p x=true:=h'.1;refine List.pairwise_cons.mpr ⟨λ y hy=>?_,ih⟩;rcases Zl.mp hy with rfl | hy
  · exact px
  · exact nD _ _ _ px (List.rel_of_pairwise_cons ih hy)
theorem pw_sorted:∀ {l:List Str},sortedS l=true->l.Pairwise (λ a b=>leS a b=true)
 | [],_=>.nil
 | x::r,h=>pw_rising x r h
theorem EF (h1:ss'.Perm ss) (h2:sortedS ss'=true):ss'=D2 ss :=
 List.Perm.eq_of_pairwise (λ a b _ _=>yZ) (pw_sorted h2) (List.pairwise_mergeSort nD wc ss) (h1.trans (List.mergeSort_perm ss leS).symm)
def EU:List V->Hp->VK->Prop:=λ xs H Q=>∃ (a:Addr) (kvs:List (Key×V)) (ss:List Str),xs=[.ref a]/\H a=some (.dK kvs)/\kvs.map (·.1)=ss.map Sum.inr/\kvs.length < 64 /\
 ∀ (p:Addr),H p=none->Q (.ref p) (upd H p (.lst ((D2 ss).map .str)))
theorem uj:∀ {us:List Value} {ss:List Str},us.length=ss.length->(∀ (j:Nat) (v:Value),us[j]?=some v->∃ n t,ss[j]?=some n/\v=.str n t)->StrsAre us ss
 | [],[],_,_=>.nil
 | [],_::_,e,_=>by cases e
 | _::_,[],e,_=>by cases e
 | u::us,n::ns,e,h=>by
  obtain ⟨n',t,e1,e2⟩:=h 0 u rfl;cases e1;subst e2;exact .cons n t (uj (Nat.succ.inj e) λ j v ev=>h (j+1) v ev)
theorem mT:∀ {us:List Value} {ss:List Str},StrsAre us ss->bH (ss.map V.str) us
 | _,_,.nil=>.nil
 | _,_,.cons x t h=>.cons ⟨t,rfl⟩ (mT h)
theorem oi (hh:X.A.handled=none):ee X (.builtin "sorted") EU:=by
 intro pins s σ H xs us Q I r h;obtain ⟨a,kvs,ss,rfl,ha,ek,h64,q⟩:=h;obtain ⟨u,rfl,ru⟩:=vals1 r;cases (show u=Value.ref a from ru);obtain ⟨sz,lo,vs,kv,dd⟩:=zC I.hok ha;obtain ⟨ep,hat⟩:=dd.dictAt;have lv:vs.length=kvs.length:=kv.length.symm
 have ev:vs.map (·.1)=ss.map Sum.inr:=by
  rw [<- ek];exact pN kv
 refine Calls.call_function_entry kind_sorted plain_sorted entry_sorted (args_sorted1 _) ?_
 unfold Builtin.«sorted»;refine Zu (m:=checkCount "sorted" 1 1 _) (Z7 ?_);refine Zu (PySem.W.kdu_collect (A:=X.A.in1) (PySem.W.kdl_dict (knd:=bK X.prog X.w) (kvs:=vs) (ep:=ep) lo) hh hat (by rw [lv]; exact sz) λ h' tk acc hk hacc=>?_)
 have hI:StrsAre acc.toList ss:=by
  refine uj (by rw [Xd,hacc.1,<- Za (f:=(Sum.inr:Str->Key)),<- ev,Za]) λ j v hj=>?_
  obtain ⟨k,x,e1,e2⟩:=hacc.2 j v (by rw [<- Array.getElem?_toList]; exact hj);have e3:(vs.map (·.1))[j]?=some k:=by rw [List.getElem?_map,e1]; rfl
  rw [ev,List.getElem?_map] at e3
  cases q:ss[j]? with
  | none=>rw [q] at e3; cases e3
  | some n =>
   rw [q] at e3;cases e3;rcases bf (show nH (Sum.inr n) v=true from e2) with ⟨i,t,e4,e5⟩ | ⟨y,t,e4,e5⟩
   · cases e4
   · cases e4; exact ⟨_,t,rfl,e5⟩
 have la:acc.toList.length < 64:=by rw [Xd,hacc.1,lv]; exact h64
 refine Zu (wpAny_newList ?_ (Z3 (Y0 la) (by decide)));have hoL:(h'.push (seqObj "list" acc.toList.toArray 0)).get? h'.objs.size=some (seqObj "list" acc.toList.toArray 0):=Heap.get?_push_size _ rfl;refine Zu (wpAny_holding (wpAny_call_entry slot_list_sort ⟨_,hoL,rfl⟩ entry_list_sort (list_sort_treeK strKind_oneLt hoL hI.keysOf (λ v₁ v₂ rest e=>keyKind_strs (by rw [<- e]; exact hI)) la λ st' hp hs=>⟨_,rfl,?_⟩) (args_list_sort _)));obtain ⟨ss',a1,a2,a3⟩:=sorted_out_str hI hp hs;have a4:=EF a2 a3;subst a4;generalize (arrOf st').map (·.2)=out at a1 ⊢;refine Z7 ⟨_,rfl,?_⟩;have I1:=I.kept (t':=tk) hk
 have old:∀ b o,h'.get? b=some o->(sortedHeap (h'.push (seqObj "list" acc.toList.toArray 0)) h'.objs.size acc.toList out).get? b=some o:=λ b o e1=>by
  rw [sortedHeap_old (Zx (Zr e1)) (by rw [size_push']; exact Nat.lt_succ_of_lt (Zr e1))];exact Heap.get?_push_of_some _ e1
 obtain ⟨e,he⟩:=sortedHeap_at (out:=out) hoL;have I2:=I1.laid (a:=h'.objs.size) (o:=.lst ((D2 ss).map .str)) (t':=tk) old (Zi _) ⟨by rw [Za,a2.length_eq,<- StrsAre.length hI]; exact Z3 (Y0 la) (by decide),out.toList,e,mT a1,by rw [he,Array.toArray_toList]⟩;exact ⟨.ref h'.objs.size,_,I2,rfl,q _ (I1.hok.fresh (Zi _))⟩
def nF:List (Key×D)->Option (List Str)
 | []=>some []
 | (.inr x,_)::r=>(nF r).map (x::·)
 | _=>none
theorem nE:∀ {ds:List (Key×D)} {ss:List Str},nF ds=some ss->ds.map (·.1)=ss.map Sum.inr
 | [],_,e=>by cases e; rfl
 | (.inr x,_)::r,_,e=>by
  obtain ⟨ss,e1,rfl⟩:=Zm (show (nF r).map _=_ from e);rw [Zh,nE e1];rfl
 | (.inl _,_)::_,_,e=>by cases e
theorem RpK.keys {K:W.Frag} {H:Hp}:∀ {kvs:List (Key×V)} {ds:List (Key×D)},RpK K H kvs ds->kvs.map (·.1)=ds.map (·.1)
 | _,_,.nil=>rfl
 | _,_,.cons h r=>by rw [Zh,Zh,RpK.keys r]
noncomputable def rS (f:DE):DE:=λ τ=>(f τ).bind λ d=>match d with | .dct kvs=>(nF kvs).bind λ ss=>if ss.length < 64 then some (.lst ((D2 ss).map .str)) else none | _=>none
theorem zQ (hh:X.A.handled=none) (hg:Gl X "sorted") (hm:X.mg "sorted"=none) (he:Bx (PEd X e f)) (hst:starEach [e] X.env=(false,eval e X.env)::starEach [] X.env:=by rfl) (hpl:(backTo pos (starEach [] X.env)).any (·.1)=false:=by rfl):Bx (PEo X (.Call (.Name "sorted" p) [e] [] pos) (rS f)) :=
 ⟨(qM (oi hh) hg hm (by decide +kernel) (aG he.out cf hst) (by decide) (by decide) hst hpl).imp λ σ H Q h=>by
   obtain ⟨H0,Hs,τ,fp,d,st,sm,e,q⟩:=h;obtain ⟨x,e1,e2⟩:=bind_some e;refine ⟨H0,Hs,τ,fp,x,st,sm,e1,λ v Hs1 H1 g1 rv=>?_⟩
   cases rv with
   | @dct a kvs ds h r =>
    obtain ⟨ss,e3,e4⟩:=bind_some (show (nF ds).bind _=some d from e2);split at e4
    ·rename_i h64
     have e5:=Zj e4;subst e5;have ek:kvs.map (·.1)=ss.map Sum.inr:=r.keys.trans (nE e3);refine ⟨a,kvs,ss,rfl,g1.sh _ _ h,ek,?_,λ p hp=>?_⟩
     ·have:=Yl List.length ek
      rw [Za,Za] at this;omega
     ·have hHp:=g1.hh.free hp
      refine q p Hs1 _ ⟨g1.ss,g1.sh.trans (az hp _),g1.hh.trans (az hp _),g1.fr⟩ (.lst av (g1.sh.free hp) (Rps.strs _)) hHp
    · cases e4
   | _=>exact nn e2⟩
def eON (g:DE):DEm:=λ τ=>(g (er τ)).bind λ d=>match d with
 | .lst ds=>some (.mu false (lM ds),τ)
 | _=>none
theorem JD (h:PEo X e g):PVm X e (eON g):=PE.imp h λ σ H Q ⟨Hs0,H0,nf,ρ,Hs,τ,s,τ',r,e,k⟩=>by
 obtain ⟨d,e1,e2⟩:=bind_some e;split at e2
 ·cases e2
  obtain ⟨fp,st⟩:=r.st;refine ⟨H0,Hs,er τ,[],_,st.er,r.sm,e1,λ a Hs' H' g1 ow hn=>?_⟩
  cases ow with
  | lst h n rr=>exact k _ Hs' H' g1.hh ⟨(r.ext' g1).ext,_,.mu (Od.lst h n rr) (λ e=>by cases e) (λ c hc=>by rw [Zn.mp hc]; exact r.old hn) (λ c hc=>by rw [Zn.mp hc]; exact st.new hn) (st.ext g1)⟩
 · cases e2
theorem yw (hh:X.A.handled=none) (hg:Gl X "sorted") (hm:X.mg "sorted"=none) (he:PEd X e f) (hst:starEach [e] X.env=(false,eval e X.env)::starEach [] X.env:=by rfl) (hpl:(backTo pos (starEach [] X.env)).any (·.1)=false:=by rfl):PEo X (.Call (.Name "sorted" p) [e] [] pos) (rS f):=(zQ hh hg hm ⟨he⟩ hst hpl).out
theorem xU {α:Type} {l:List α} {i:Nat} {x:α} (h:l[i]?=some x):l.set i x=l:=by
 obtain ⟨h1,h2⟩:=List.getElem?_eq_some_iff.mp h;rw [<- h2,List.set_getElem_self]
abbrev Fn0 (K:W.Frag) (x:Str) (st:Stmt) (f:Addr):Prop:=∃ (od an:Option Addr) (sl:Array (Option Value)) (oc kV dc pm cd ct:Value),PySem.W.nsIn K mainGlobals x=some (some (.ref f))/\K.lookup f=some ⟨oc,od,.func (PySem.W.fnOf x x (cp st) (bL st) (aI st) .none kV dc pm an cd ct),sl⟩/\PySem.W.codeIn K cd x=true/\W.keepIn K (.ref f)=true
theorem Fn0.mk {K:W.Frag} {x:Str} {st:Stmt} {f:Addr} {h:Heap} {mg:Str->Option Value} {ps:List Str} (e:Fn0 K x st f) (X:K.In h) (G:h.Ns mainGlobals mg) (hb:∀ (kV doc pm:Value) (an:Option Addr) (cdv ct:Value) (us:List Value),us.length=ps.length->bindArgs (PySem.W.fnOf x x (cp st) (bL st) (aI st) .none kV doc pm an cdv ct) ⟨us,[]⟩=pure (ps.zip us)):∃ fd,Fun K x x st f fd/\mg x=some (.ref f)/\Binds K fd ps []:=by
 obtain ⟨od,an,sl,oc,kV,dc,pm,cd,ct,a,l,c,k⟩:=e;exact ⟨_,j4 (st:=st) l c k,PySem.W.mg_of X G a,(j4 (st:=st) l c k).binds hb⟩
theorem FL {as:List Addr} {h:Heap}:∀ {K:W.Frag},as=K.map (·.1)->as.map h.get?=K.map (λ p=>some p.2)->∀ p ∈ K,h.get? p.1=some p.2:=by
 intro K e q;subst e;rw [Z6] at q;intro p hp;exact List.map_inj_left.mp q p hp
theorem Au:∀ {K:W.Frag},List.lookup a K=some o->(a,o) ∈ K
 | [],h=>by cases h
 | (b,u)::K,h=>by
  rw [List.lookup_cons] at h
  cases q:a == b with
  | true =>
   rw [q] at h;have e1:a=b:=eq_of_beq q;have e2:u=o:=Zj h;subst e1 e2;exact Ze ..
  | false =>
   rw [q] at h;exact Zd _ (Au h)
theorem xO {q:Program} {loose:List Str} {XP:(Str->Option Value)->Heap->Prop} {as:List Addr} {K:Params->W.Frag} {n t:Nat} {r:PySem.W.RowW} {d:PySem.DefRec} {kwd:List (Str×Expr)} {run:Value->List Value->Sem Value}
  (e:∀ P,as=(K P).map (·.1)) (h:PySem.W.WalkO q loose XP (PySem.W.InK K) r d kwd run):PySem.W.WalkX q loose XP (PySem.W.X.obsZ as) (PySem.W.X.valZ K n t) r d kwd run:=by
 intro w s₀ s₁ mg mb G y a o pm cd doc dV kV ho hd hcd hD hmg hg args vals bs L hpre hlay hrd hwl hlo;have y1:as.map s₀.heap.get?=(K w.params).map (λ p=>some p.2):=Yl Prod.fst y;have KX:(K w.params).In s₁.heap:=λ b o' e'=>L.keeps b o' (FL (e w.params) y1 (b,o') (Au e'))
 exact h w s₀ s₁ mg mb G KX a o pm cd doc dV kV ho hd hcd hD hmg hg args vals bs hpre hlay hrd hwl hlo
end L2
end
section
local macro_rules | `(tactic| walk_at "v")=>`(tactic| first | exact .inl rfl | exact .inr rfl | assumption)
local macro_rules | `(tactic| walk_at "w")=>`(tactic| first | exact .inl rfl | exact .inr (.inl rfl) | exact .inr (.inr rfl))
namespace L2
open PySem PySem.Spec PyProof.Rows
abbrev Dg (x:Str):Prop:=(x == ("__debug__":Str))=false
abbrev Dc (x:Str):Prop:=(x == ("__classdict__":Str))=false
abbrev Se (X:Cx) (e:Expr) (es:List Expr):Prop:=starEach (e::es) X.env=(false,eval e X.env)::starEach es X.env
abbrev Sb (X:Cx) (pos:Pos) (es:List Expr):Prop:=(backTo pos (starEach es X.env)).any (·.1)=false
abbrev Fs (X:Cx) (i:Expr):Prop:=∀ x,foldedSetIterable i X.env x=pure x
abbrev Xl (X:Cx) (x:Str):Prop:=X.fn x=true\/X.env.scope.names.lookup x=some .local
abbrev Sw (X:Cx) (e:Expr) (x:Str) (p pos:Pos):Prop:=swapsWith e (some (.Name x p)) pos.line X.env=pure false
def Df (K:W.Frag) (mg:Str->Option Value) (x:Str) (st:Stmt) (ps:List Str):Prop:=∃ a d,Fun K x x st a d/\mg x=some (.ref a)/\Binds K d ps []
def Mf (K:W.Frag) (C:Addr) (x q:Str) (st:Stmt) (ps:List Str):Prop:=∃ a d,Fun K x q st a d/\El K C x a/\Binds K d ps []
def If (K:W.Frag) (C:Addr) (q:Str) (st:Stmt) (ps:List Str):Prop:=∃ a d,Fun K "__init__" q st a d/\Mk K C a/\Binds K d ps []
structure Go (P:Program) (w:World) (K:W.Frag) (mg:Str->Option Value) (base:Heap) (k:Nat) (x:Str) (sp:Sp):Prop where
 go:∃ f fd ps,mg x=some (.ref f)/\W.keepIn K (.ref f)=true/\Binds K fd ps []/\fj P w K mg base CX0 k f fd ps sp
structure GoM (P:Program) (w:World) (K:W.Frag) (mg:Str->Option Value) (base:Heap) (k:Nat) (C:Addr) (x:Str) (sp:Sp):Prop where
 go:∃ f fd ps,El K C x f/\Binds K fd ps []/\fj P w K mg base CX0 k f fd ps sp
structure GoI (P:Program) (w:World) (K:W.Frag) (mg:Str->Option Value) (base:Heap) (k:Nat) (C:Addr) (sp:Sp):Prop where
 go:∃ f fd ps,Mk K C f/\Binds K fd ps []/\fj P w K mg base CX0 k f fd ps sp
theorem aa (i:Nat) (hN:X.N[i]?=some x:=by exact rfl) (hv:Vis X.env.scope x:=by walk_at "w") (hd:Dg x:=by decide) (hcd:Dc x:=by decide):Bx (PEd X (.Name x pos) (aC i)):=⟨Fj i hN hv hd hcd⟩
theorem ab  : Bx (PEd X (.Constant (.int i) j pos) (dC (.int i))):=⟨Ft ⟩
theorem aP  : Bx (PEd X (.Constant (.bool i) j pos) (dC (.bl i))):=⟨JO ⟩
theorem de  : Bx (PEd X (.Constant .none j pos) (dC .non)):=⟨Fq ⟩
theorem aF  : Bx (PEd X (.Constant (.str x) j pos) (dC (.str x))):=⟨Fm ⟩
theorem iE (hm:X.mg x=none) (hg:Gl X x:=by rfl) (hv:bootBuiltins x=some (.type n):=by decide +kernel) (hn:x≠"__name__":=by decide) (hd:Dg x:=by decide):Bx (PEd X (.Name x pos) (dC (.ty n))):=⟨JJ hg hm hv hn hd⟩
theorem iF (ho:OpR X (binaryOp op) (rdR X.K o)) (ha:Bx (PEd X a f)) (hb:Bx (PEd X b g)):Bx (PEd X (.BinOp a op b pos) (dOp o f g)):=⟨JL ho ha.out hb.out⟩
theorem DQ (ho:UnR X (unaryOp op) (rdU X.K o)) (ha:Bx (PEd X a f)):Bx (PEd X (.UnaryOp op a pos) (dUn o f)):=⟨JI ho ha.out⟩
theorem ic (ho:OpR X (compareOp op) (rdR X.K o)) (ha:Bx (PEd X a f)) (hb:Bx (PEd X b g)) (hm:behindInMarks op b=false:=by first | exact Aq _ | rfl):Bx (PEd X (.Compare a [op] [b] pos) (dOp o f g)):=⟨Fw ho ha.out hb.out hm⟩
theorem dv (ho:OpR X (compareOp op) (rdR X.K o)) (ha:Bx (PEd X a f)) (hb:Bx (PEd X b g)) (hm:behindInMarks op b=false:=by first | exact Aq _ | rfl):Bx (PTd X (.Compare a [op] [b] pos) (dT (dOp o f g))):=⟨Br ho ha.out hb.out hm⟩
theorem tP (ho:OpR X (compareOp op) (rdR X.K o)) (ho':OpR X (compareOp op') (rdR X.K o')) (ha:Bx (PEd X a f)) (hb:Bx (PEd X b g)) (hc:Bx (PEd X c h)) (hm:lastMarks [op,op'] [b,c]=false:=by with_unfolding_all rfl):Bx (PEd X (.Compare a [op,op'] [b,c] pos) (my (dOp o f g) (dOp o' g h))):=⟨yG ho ho' ha.out hb.out hc.out hm⟩
theorem bF  : Bx (PAd X [] cz):=⟨Cg ⟩
theorem aA (ha:Bx (PEd X e f)) (hr:Bx (PAd X es g)) (hs:Se X e es:=by rfl):Bx (PAd X (e::es) (au f g)):=⟨yJ ha.out hr.out hs⟩
theorem cu (h:Bx (PAd X es g)):Bx (PEd X (.Tuple es x1 pos) (IT g)):=⟨Fk h.out⟩
theorem aW (h:Bx (PAd X es g)):Bx (PEo X (.List es pos) (Ei g)):=⟨E7 h.out⟩
theorem aR (h:Bx (PEo X e f)):Bx (PEd X e f):=⟨PEo.shr h.out⟩
theorem a7 (h:Bx (PEd X e f)) (he:∀ whole,isTrue e X.env whole=(do let v <- whole; standAt e.pos; holding [v] (truthy v)):=by intro _; rfl):Bx (PTd X e (dT f)):=⟨Bo h.out he⟩
theorem bc (h:Bx (PTd X e f)):Bx (PTd X (.UnaryOp .Not e pos) (xI f)):=⟨Bp h.out⟩
theorem cV (h:Bx (PTd X a f)):Bx (PWd X (.BoolOp .Or [a] pos) f):=⟨Bn h.out⟩
theorem cP (ha:Bx (PTd X a f)) (hb:Bx (PWd X (.BoolOp .Or (b::es) pos) g)):Bx (PWd X (.BoolOp .Or (a::b::es) pos) (dOr f g)):=⟨EY ha.out hb.out⟩
theorem cX (h:Bx (PWd X e f)):Bx (PTd X e f):=⟨PWd.ptd h.out⟩
theorem jw (h:Bx (PEd X a f)):Bx (PEd X (.BoolOp op [a] pos) f):=⟨Fn h.out⟩
theorem mH (ha:Bx (PEd X a f)) (hb:Bx (PEd X (.BoolOp .And (b::es) pos) g)):Bx (PEd X (.BoolOp .And (a::b::es) pos) (my f g)):=⟨Fx ha.out hb.out⟩
theorem DR (ha:Bx (PEd X a f)) (hb:Bx (PEd X (.BoolOp .Or (b::es) pos) g)):Bx (PEd X (.BoolOp .Or (a::b::es) pos) (IV f g)):=⟨JK ha.out hb.out⟩
theorem mG (ha:Bx (PEd X a f)):Bx (PEd X (.UnaryOp .Not a pos) (zF f)):=⟨Fp ha.out⟩
theorem xu (hc:Bx (PTd X c t)) (ha:Bx (PEd X a f)) (hb:Bx (PEd X b g)):Bx (PEd X (.IfExp c a b pos) (dIf t f g)):=⟨JN hc.out ha.out hb.out⟩
theorem aN (ha:Bx (PEd X a f)) (hb:Bx (PEd X b g)) (hs:qr b:=by exact λ _ _=>rfl):Bx (PEd X (.Subscript a b pos) (dOp oIx f g)):=⟨JM ha.out hb.out hs⟩
theorem cF  : Bx (POd X none Mp):=⟨yv ⟩
theorem bT (h:Bx (PEd X e f)):Bx (POd X (some e) (dP f)):=⟨yu h.out⟩
section
variable {X:Cx} {a b c e:Expr} {es:List Expr} {pos:Pos} {f g h:DE}
theorem kA {lo hi:Option Expr} {p2:Pos} {l u:DO} (ha:Bx (PEd X a f)) (hl:Bx (POd X lo l)) (hh:Bx (POd X hi u)):Bx (PEo X (.Subscript a (.Slice lo hi none p2) pos) (dSl f l u)):=⟨JC ha.out hl.out hh.out⟩
end
section
variable {X:Cx} {a b c e:Expr} {es:List Expr} {pos:Pos} {f g h:DE}
theorem aE {x:Str} {id:String} {p:Pos} {o:List D->Option D} {g:DA} (hc:ee X (.builtin id) (rdL X.K o)) (hm:X.mg x=none) (ha:Bx (PAd X (e::es) g)) (hg:Gl X x:=by rfl) (hv:bootBuiltins x=some (.builtin id):=by decide +kernel) (hn:x≠"__name__":=by decide) (hdb:Dg x:=by decide) (he:Se X e es:=by rfl) (hpl:Sb X pos es:=by rfl):Bx (PEd X (.Call (.Name x p) (e::es) [] pos) (jm o g)):=⟨yH hc hg hm hv ha.out hn hdb he hpl⟩
end
theorem gK (hc:ee X (.type T) (rdL X.K o)) (hm:X.mg x=none) (ha:Bx (PAd X (e::es) g)) (hg:Gl X x:=by rfl) (hv:bootBuiltins x=some (.type T):=by decide +kernel) (hn:x≠"__name__":=by decide) (hdb:Dg x:=by decide) (he:Se X e es:=by rfl) (hpl:Sb X pos es:=by rfl):Bx (PEd X (.Call (.Name x p) (e::es) [] pos) (jm o g)):=⟨vm hc hg hm hv ha.out hn hdb he hpl⟩
theorem ot (hm:X.mg x=none) (ha:Bx (PAd X (e::es) g)) (hg:Gl X x:=by rfl) (hv:bootBuiltins x=some (.type "list"):=by decide +kernel) (hn:x≠"__name__":=by decide) (hdb:Dg x:=by decide) (he:Se X e es:=by rfl) (hpl:Sb X pos es:=by rfl):Bx (PEo X (.Call (.Name x p) (e::es) [] pos) (jm yO g)):=⟨BM hg hm hv ha.out hn hdb he hpl⟩
theorem xi (i:Nat) (h:Bx (PTd X e f)):Bx (PTd X e (D1 i f)):=⟨Bt i h.out⟩
theorem aq  : Bx (lg X [] eu):=⟨yi ⟩
section
variable {X:Cx} {a b c e:Expr} {es:List Expr} {pos:Pos} {st:Stmt} {rest:List Stmt} {f g:DS}
theorem af (h:Bx (PSd X st f)):Bx (lg X [st] f):=⟨yh h.out⟩
end
section
variable {X:Cx} {a b c e:Expr} {es:List Expr} {pos:Pos} {st:Stmt} {rest:List Stmt} {f g:DS}
theorem ae (h1:Bx (PSd X st f)) (h2:Bx (lg X rest g)):Bx (lg X (st::rest) (fh f g)):=⟨uP h1.out h2.out⟩
end
section
variable {X:Cx} {a b c e:Expr} {es:List Expr} {pos:Pos} {st:Stmt} {rest:List Stmt} {f g:DS}
theorem gI  : Bx (PSd X st z5):=⟨uW ⟩
end
theorem aw (hc:Bx (PTd X c t)) (ha:Bx (lg X x f)) (hb:Bx (lg X y g)):Bx (PSd X (.If c x y pos) (sIf t f g)):=⟨E3 hc.out ha.out hb.out⟩
theorem ao (h:Bx (PEd X e f)):Bx (PSd X (.Return (some e) pos) (mO f)):=⟨BD h.out⟩
theorem cE (h:Bx (PEo X e f)):Bx (PSd X (.Return (some e) pos) (xW f)):=⟨yo h.out⟩
theorem iC (i:Nat) (hN:X.N[i]?=some x:=by exact rfl) (hv:Vis X.env.scope x:=by walk_at "w") (hd:Dg x:=by decide) (hcd:Dc x:=by decide):Bx (PSd X (.Return (some (.Name x p)) pos) (uz i)):=⟨yn i hN hv hd hcd⟩
theorem xj (i:Nat) (hN:X.N.Nodup) (hi:X.N[i]?=some x:=by exact rfl) (he:Bx (PEd X e f)) (hx:Loc X.env.scope x:=by walk_at "v") (hs:Sw X e x pos' pos:=by rfl) (hf:Xl X x:=by walk_at "v"):Bx (PSd X (.Assign [.Name x pos'] e pos) (qB i f)):=⟨BC hN hi hx he.out hs hf⟩
theorem dk (i:Nat) (hN:X.N.Nodup) (hi:X.N[i]?=some x:=by exact rfl) (he:Bx (PEo X e f)) (hx:Loc X.env.scope x:=by walk_at "v") (hs:Sw X e x pos' pos:=by rfl) (hf:Xl X x:=by walk_at "v"):Bx (PSd X (.Assign [.Name x pos'] e pos) (sy i f)):=⟨ym hN hi hx he.out hs hf⟩
theorem gc (he:Bx (PEd X e f)) (hs:swapsWith e none pos.line X.env=pure false:=by rfl):Bx (PSd X (.Expr e pos) (uD f)):=⟨yq he.out hs⟩
section
variable {X:Cx} {a b c e:Expr} {es:List Expr} {pos:Pos} {st:Stmt} {rest:List Stmt} {f g:DS}
theorem oq (i:Nat) (h:Bx (PSd X st f)):Bx (PSd X st (D3 i f)):=⟨BE i h.out⟩
end
theorem kr (i:Nat) (hN:X.N[i]?=some x:=by exact rfl) (he:Bx (PEd X e f)) (hv:Vis X.env.scope x:=by walk_at "w") (hd:Dg x:=by decide) (hcd:Dc x:=by decide) (hbase:attributeBase (.Name x p) "append" X.env (eval (.Name x p) X.env)=eval (.Name x p) X.env:=by rfl) (hfew:((backTo cpos (starEach [e] X.env)).all (λ x=>!x.1)&&(backToKw cpos (keywordEach [] X.env)).all (λ x=>x.1.isSome)
 && decide ([e].length+([]:List Keyword).length+(if ([]:List Keyword).isEmpty then 0 else 1) < 30))=true:=by rfl) (hline:(apos.endLine == cpos.line)=true:=by rfl) (hst:starEach [e] X.env=(false,eval e X.env)::starEach [] X.env:=by rfl) (hplain:(backTo cpos (starEach [] X.env)).any (·.1)=false:=by rfl) (hs:swapsWith (.Call (.Attribute (.Name x p) "append" apos) [e] [] cpos) none pos.line X.env=pure false:=by rfl):Bx (PSd X (.Expr (.Call (.Attribute (.Name x p) "append" apos) [e] [] cpos) pos) (z9 i f)):=⟨BH i hN hv he.out hd hcd hbase hfew hline hst hplain hs⟩
theorem kB (h:Bx (PEd X l f)):Bx (PId X tg l (Ee f)):=⟨BV h.out⟩
theorem fJ (h:Bx (PEd X l f)):Bx (PId X tg l (sZ f)):=⟨BS h.out⟩
theorem bQ (hm:X.mg "range"=none) (ha:Bx (PAd X [a] f)) (hg:Gl X "range":=by rfl) (hs:starEach [a] X.env=[(false,eval a X.env)]:=by rfl):Bx (PId X tg (.Call (.Name "range" p) [a] [] pos) (jZ f)):=⟨sH hg hm ha.out hs⟩
theorem bu (i:Nat) (hN:X.N.Nodup) (hi:X.N[i]?=some x:=by exact rfl) (hx:Loc X.env.scope x:=by walk_at "v") (hf:Xl X x:=by walk_at "v"):Bx (PGd X (.Name x pos) (gN i)):=⟨yC hN hi hx hf⟩
theorem lT  : Bx (AZ X [] wH):=⟨yA ⟩
theorem eW (h1:Bx (PGd X e g)) (h2:Bx (AZ X es h)) (hs:(assignEach (e::es) X.env).map (·.2)=assign e X.env::(assignEach es X.env).map (·.2):=by rfl):Bx (AZ X (e::es) (j3 g h)):=⟨vf h1.out h2.out hs⟩
theorem ou (h:Bx (AZ X es g)) (hc:X.calm=true:=by rfl) (hn:(assignEach es X.env).length=n:=by rfl) (hst:(assignEach es X.env).findIdx? (·.1)=none:=by rfl):Bx (PGd X (.Tuple es k' pos) (gT n g)):=⟨B0 hc h.out hn hst⟩
theorem cq (hi:Bx (PId X tg iter it)) (hg:Bx (PGd X tg g)) (hb:Bx (lg X body b)) (hp:PassesOwn (model X.prog X.w) X.A X.env X.xe:=by exact .never) (hc:X.calm=true:=by rfl) (hs:Fs X iter:=by intro _; rfl):Bx (PSd X (.For tg iter body [] pos) (xG it g b)):=⟨BF hp hc hi.out hg.out hb.out hs⟩
theorem gH (hc:Bx (PTd X c t)) (hb:Bx (lg X body b)) (hp:PassesOwn (model X.prog X.w) X.A X.env X.xe:=by exact .never):Bx (PSd X (.While c body [] pos) (lr t b)):=⟨uU hp hc.out hb.out⟩
theorem ak (Fo:Go X.prog X.w X.K X.mg X.base k x (spF F X.K)) (hr:dQ jj X.A) (ha:Bx (PAd X (e::es) g)) (hj:k<=jj:=by decide) (hg:Gl X x:=by rfl) (hdb:Dg x:=by decide) (he:Se X e es:=by rfl) (hpl:Sb X pos es:=by rfl):Bx (PEd X (.Call (.Name x p) (e::es) [] pos) (dFn F g)):=by
 have ⟨f',fd',ps',hm,hk,hb,Fo⟩:=Fo.go;have hr:=hr.mono hj;exact ⟨Cd Fo hr hg hm hk hb ha.out hdb he hpl⟩
theorem ia (Fo:Go X.prog X.w X.K X.mg X.base k x (spF F X.K)) (hr:dQ jj X.A) (ha:Bx (PAd X (e::es) g)) (hj:k<=jj:=by decide) (hg:Gl X x:=by rfl) (hdb:Dg x:=by decide) (he:Se X e es:=by rfl) (hpl:Sb X pos es:=by rfl):Bx (PEo X (.Call (.Name x p) (e::es) [] pos) (AW F g)):=by
 have ⟨f',fd',ps',hm,hk,hb,Fo⟩:=Fo.go;have hr:=hr.mono hj;exact ⟨BO Fo hr hg hm hk hb ha.out hdb he hpl⟩
theorem h9 (O:cw X scope cl x cs) (hi:Bx (PId X (.Name x px) iter it)) (he:∀ s H fp C,Bx (PEd (bO X scope cl (x::cs.map (·.1)) s H fp C) elt g):=by intros; walk_at "g") (hc:X.calm=true:=by rfl) (hs:Fs X iter:=by intro _; rfl):Bx (PEo X (.ListComp elt [⟨.Name x px,iter,[],0⟩] scope pos) (mx it g cs)):=⟨BN hc O hi.out (λ s H fp C=>(he s H fp C).out) hs⟩
theorem qj (i:Nat) (hN:X.N.Nodup) (O:cw X scope cl x cs) (hy:X.N[i]?=some y:=by exact rfl) (hi:Bx (PId X (.Name x px) iter it)) (he:∀ s H fp C,Bx (PEd (bO X scope cl (x::cs.map (·.1)) s H fp C) elt g):=by intros; walk_at "g") (hx:Loc X.env.scope y:=by walk_at "v") (hc:X.calm=true:=by rfl) (hs:Fs X iter:=by intro _; rfl) (hsw:swapsWith (.ListComp elt [⟨.Name x px,iter,[],0⟩] scope pos) (some (.Name y py)) spos.line X.env=pure true:=by rfl) (hf:Xl X y:=by walk_at "v"):Bx (PSd X (.Assign [.Name y py] (.ListComp elt [⟨.Name x px,iter,[],0⟩] scope pos) spos) (qB i (mx it g cs))):=⟨uV hN hy hx hc O hi.out (λ s H fp C=>(he s H fp C).out) hs hsw hf⟩
theorem cQ (c:Cls X.K C) (n:b7 X.K C f) (he:Bx (PEd X e g)) (hb:attributeBase e f X.env (eval e X.env)=eval e X.env:=by rfl):Bx (PEd X (.Attribute e f pos) (dUn (D6 C f) g)):=⟨Fv c n he.out hb⟩
theorem bw (c:Cls X.K C) (Fo:GoM X.prog X.w X.K X.mg X.base k C m (spF F X.K)) (hr:dQ jj X.A) (he:Bx (PEd X o g)) (ha:Bx (PAd X (e::es) ga)) (hj:k<=jj:=by decide) (hst:Se X e es:=by rfl) (hpl:Sb X pos es:=by rfl) (ht:eval (.Call (.Attribute o m apos) (e::es) [] pos) X.env=(do
  let ov <- eval o X.env
  standAt apos.atName
  let (f,first) <- holding [ov] (getMethod ov m pl)
  callWith pos f first (backTo pos (starEach (e::es) X.env)) (backToKw pos (keywordEach [] X.env))):=by rfl):Bx (PEd X (.Call (.Attribute o m apos) (e::es) [] pos) (k8 C m F g ga)):=by
 have ⟨f',fd',ps',hm,hb,Fo⟩:=Fo.go;have hr:=hr.mono hj;exact ⟨B7 he.out c hm Fo hr hb ha.out hst hpl ht⟩
theorem xr (Fo:GoI X.prog X.w X.K X.mg X.base k C (uq C ns)) (hr:dQ jj X.A) (hm:X.mg x=some (.ref C)) (ha:Bx (PAd X (e::es) ga)) (hj:k+1<=jj:=by decide) (hg:Gl X x:=by rfl) (hdb:Dg x:=by decide) (he:Se X e es:=by rfl) (hpl:Sb X pos es:=by rfl):Bx (PEd X (.Call (.Name x p) (e::es) [] pos) (zG C ns ga)):=by
 have ⟨f',fd',ps',M,hb,Fo⟩:=Fo.go;have hr:=hr.mono hj;exact ⟨B9 M Fo hr hg hm hb ha.out hdb he hpl⟩
theorem tM (O:cw X scope cl x cs) (hi:Bx (PId X (.Name x px) iter it)) (hcd:∀ s H fp C,Bx (PTd (bO X scope cl (x::cs.map (·.1)) s H fp C) cnd c):=by intros; walk_at "h") (he:∀ s H fp C,Bx (PEd (bO X scope cl (x::cs.map (·.1)) s H fp C) elt g):=by intros; walk_at "g") (hc:X.calm=true:=by rfl) (hs:Fs X iter:=by intro _; rfl):Bx (PEo X (.ListComp elt [⟨.Name x px,iter,[cnd],0⟩] scope pos) (oe it c g cs)):=⟨yx hc O hi.out (λ s H fp C=>(hcd s H fp C).out) (λ s H fp C=>(he s H fp C).out) hs⟩
theorem aU (hu:X.A.units+64 < cLine) (hs:Ek i) (ho:Bx (PEd X o f)) (hi:Bx (PEd X i g)):Bx (PEd X (.Subscript o i pos) (dOp g7 f g)):=⟨Cc hu ho.out hi.out hs⟩
theorem xh (hu:X.A.units+64 < cLine) (hm:behindInMarks .In o=false) (hi:Bx (PEd X i f)) (ho:Bx (PEd X o g)):Bx (PTd X (.Compare i [.In] [o] pos) (dT (dOp Ct f g))):=⟨Bq hu hi.out ho.out hm⟩
theorem jb (hu:X.A.units+64 < cLine) (hm:behindInMarks .NotIn o=false) (hi:Bx (PEd X i f)) (ho:Bx (PEd X o g)):Bx (PTd X (.Compare i [.NotIn] [o] pos) (dT (dOp gC f g))):=⟨sG hu hi.out ho.out hm⟩
theorem kl (ho:OpR X (compareOp op) (rdR X.K o)) (ho':OpR X (compareOp op') (rdR X.K o')) (ha:Bx (PEd X a f)) (hb:Bx (PEd X b g)) (hc:Bx (PEd X c h)) (hm:lastMarks [op,op'] [b,c]=false:=by with_unfolding_all rfl):Bx (PTd X (.Compare a [op,op'] [b,c] pos) (dT (my (dOp o f g) (dOp o' g h)))):=⟨uL ho ho' ha.out hb.out hc.out hm⟩
theorem iD (hm:X.mg "enumerate"=none) (ha:Bx (PAd X [a] f)) (hg:Gl X "enumerate":=by rfl) (hs:starEach [a] X.env=[(false,eval a X.env)]:=by rfl):Bx (PId X (.Tuple elts k pt) (.Call (.Name "enumerate" p) [a] [] pos) (lI f)):=⟨yy hg hm ha.out hs⟩
section
variable {X:Cx} {a b e o:Expr} {es:List Expr} {pos apos cpos:Pos} {f g:DE}
theorem mF {lo hi:Option Expr} {p2:Pos} {l u:DO} (ha:Bx (PEd X a f)) (hl:Bx (POd X lo l)) (hh:Bx (POd X hi u)):Bx (PEd X (.Subscript a (.Slice lo hi none p2) pos) (IS f l u)):=⟨Fi ha.out hl.out hh.out⟩
end
theorem xt (ho:Bx (PEd X o f)) (he:Bx (PEd X e g)) (hbase:attributeBase o "join" X.env (eval o X.env)=eval o X.env:=by rfl) (hfew:((backTo cpos (starEach [e] X.env)).all (λ x=>!x.1)&&(backToKw cpos (keywordEach [] X.env)).all (λ x=>x.1.isSome)
 && decide ([e].length+([]:List Keyword).length+(if ([]:List Keyword).isEmpty then 0 else 1) < 30))=true:=by rfl) (hline:(apos.endLine == cpos.line)=true:=by rfl) (hst:starEach [e] X.env=(false,eval e X.env)::starEach [] X.env:=by rfl) (hplain:(backTo cpos (starEach [] X.env)).any (·.1)=false:=by rfl):Bx (PEd X (.Call (.Attribute o "join" apos) [e] [] cpos) (zH f g)):=⟨Ca ho.out he.out hbase hfew hline hst hplain⟩
theorem zP (ha:Bx (PEd X a f)) (hb:Bx (PEd X b g)):Bx (PEo X (.BinOp a .Mult b pos) (IU f g)):=⟨E6 ha.out hb.out⟩
theorem rY (hm:X.mg x=none) (hm2:X.mg y=none) (ha:Bx (PEd X a f)) (hc:X.calm=true:=by rfl) (hg:Gl X x:=by rfl) (hv:bootBuiltins x=some (.type "list"):=by decide +kernel) (hg2:Gl X y:=by rfl) (hv2:bootBuiltins y=some (.type "reversed"):=by decide +kernel) (hn:x≠"__name__":=by decide) (hdb:Dg x:=by decide) (hn2:y≠"__name__":=by decide) (hdb2:(y == ("__debug__":Str))=false:=by decide) (he:starEach [.Call (.Name y p2) [a] [] pos2] X.env=(false,eval (.Call (.Name y p2) [a] [] pos2) X.env)::starEach [] X.env:=by rfl) (hpl:(backTo pos (starEach [] X.env)).any (·.1)=false:=by rfl) (he2:starEach [a] X.env=(false,eval a X.env)::starEach [] X.env:=by rfl) (hpl2:(backTo pos2 (starEach [] X.env)).any (·.1)=false:=by rfl):Bx (PEo X (.Call (.Name x p) [.Call (.Name y p2) [a] [] pos2] [] pos) (DK f)):=⟨E5 hc hg hm hv hg2 hm2 hv2 ha.out hn hdb hn2 hdb2 he hpl he2 hpl2⟩
theorem xk (i:Nat) (hN:X.N[i]?=some x:=by exact rfl) (he:Bx (PEd X e f)) (hv:Vis X.env.scope x:=by walk_at "w") (hd:Dg x:=by decide) (hcd:Dc x:=by decide) (hbase:attributeBase (.Name x p) "extend" X.env (eval (.Name x p) X.env)=eval (.Name x p) X.env:=by rfl) (hfew:((backTo cpos (starEach [e] X.env)).all (λ x=>!x.1)&&(backToKw cpos (keywordEach [] X.env)).all (λ x=>x.1.isSome)
 && decide ([e].length+([]:List Keyword).length+(if ([]:List Keyword).isEmpty then 0 else 1) < 30))=true:=by rfl) (hline:(apos.endLine == cpos.line)=true:=by rfl) (hst:starEach [e] X.env=(false,eval e X.env)::starEach [] X.env:=by rfl) (hplain:(backTo cpos (starEach [] X.env)).any (·.1)=false:=by rfl) (hs:swapsWith (.Call (.Attribute (.Name x p) "extend" apos) [e] [] cpos) none pos.line X.env=pure false:=by rfl):Bx (PSd X (.Expr (.Call (.Attribute (.Name x p) "extend" apos) [e] [] cpos) pos) (Bi i f)):=⟨BG i hN hv he.out hd hcd hbase hfew hline hst hplain hs⟩
theorem xp (h:Bx (PEd X l f)):Bx (PId X tg l (zf f)):=⟨BU h.out⟩
theorem ib (ho:Bx (PEd X o f)) (he:Bx (PEd X e g)) (hbase:attributeBase o "index" X.env (eval o X.env)=eval o X.env:=by rfl) (hfew:((backTo cpos (starEach [e] X.env)).all (λ x=>!x.1)&&(backToKw cpos (keywordEach [] X.env)).all (λ x=>x.1.isSome)
 && decide ([e].length+([]:List Keyword).length+(if ([]:List Keyword).isEmpty then 0 else 1) < 30))=true:=by rfl) (hline:(apos.endLine == cpos.line)=true:=by rfl) (hst:starEach [e] X.env=(false,eval e X.env)::starEach [] X.env:=by rfl) (hplain:(backTo cpos (starEach [] X.env)).any (·.1)=false:=by rfl):Bx (PEd X (.Call (.Attribute o "index" apos) [e] [] cpos) (dOp FO f g)):=⟨Fu ho.out he.out hbase hfew hline hst hplain⟩
theorem aD (h:Bx (PVm X e f)):Bx (PEm X e f):=⟨PVm.em h.out⟩
theorem xn (h:Bx (PEd X e g)):Bx (PVm X e (eS g)):=⟨Ox h.out⟩
theorem bB (h:Bx (PEd X e g)):Bx (PVm X e (eN g)):=⟨Ov h.out⟩
theorem lS (h:Bx (PEo X e g)):Bx (PVm X e (eO g)):=⟨Ou h.out⟩
theorem aJ (i:Nat) (hN:X.N[i]?=some x:=by exact rfl) (hv:Vis X.env.scope x:=by walk_at "w") (hd:Dg x:=by decide) (hcd:Dc x:=by decide):Bx (PXm X (.Name x p) (dr i)):=⟨EV i hN hv hd hcd⟩
theorem dU (cl:Cls X.K C) (n:b7 X.K C x) (he:Bx (PXm X e f)) (hb:attributeBase e x X.env (eval e X.env)=eval e X.env:=by rfl):Bx (PXm X (.Attribute e x pos) (kQ C x f)):=⟨EX cl n he.out hb⟩
theorem jv (hu:X.A.units+1 < cLine) (hs:Ek b) (he:Bx (PXm X a f)) (hk:Bx (PEd X b g)):Bx (PXm X (.Subscript a b pos) (pe f g)):=⟨EW hu he.out hk.out hs⟩
theorem cC  : Bx (mL X [] qC):=⟨yg ⟩
section
variable {X:Cx} {a b c e o:Expr} {es:List Expr} {pos apos cpos pos':Pos} {x:Str} {st:Stmt} {rest:List Stmt} {f g:DSm}
theorem aV (h:Bx (PSm X st f)):Bx (mL X [st] f):=⟨yf h.out⟩
end
section
variable {X:Cx} {a b c e o:Expr} {es:List Expr} {pos apos cpos pos':Pos} {x:Str} {st:Stmt} {rest:List Stmt} {f g:DSm}
theorem aj (h1:Bx (PSm X st f)) (h2:Bx (mL X rest g)):Bx (mL X (st::rest) (kO f g)):=⟨uO h1.out h2.out⟩
end
section
variable {X:Cx} {a b c e o:Expr} {es:List Expr} {pos apos cpos pos':Pos} {x:Str} {st:Stmt} {rest:List Stmt} {f g:DSm}
theorem ko  : Bx (PSm X st uB):=⟨uR ⟩
end
theorem eV (hc:Bx (PTm X c t)) (ha:Bx (mL X x f)) (hb:Bx (mL X y g)):Bx (PSm X (.If c x y pos) (z6 t f g)):=⟨E2 hc.out ha.out hb.out⟩
theorem fG (h:Bx (PEm X e f)):Bx (PSm X (.Return (some e) pos) (xX f)):=⟨Bw h.out⟩
theorem aX (i:Nat) (hN:X.N.Nodup) (hi:X.N[i]?=some x:=by exact rfl) (he:Bx (PEm X e f)) (hx:Loc X.env.scope x:=by walk_at "v") (hs:Sw X e x pos' pos:=by rfl) (hf:Xl X x:=by walk_at "v"):Bx (PSm X (.Assign [.Name x pos'] e pos) (sC i f)):=⟨Bv hN hi hx he.out hs hf⟩
theorem eG (he:Bx (PEm X e f)) (hs:swapsWith e none pos.line X.env=pure false:=by rfl):Bx (PSm X (.Expr e pos) (iQ f)):=⟨yj he.out hs⟩
theorem cD (he:Bx (PEd X e g)) (hs:swapsWith e none pos.line X.env=pure false:=by rfl):Bx (PSm X (.Expr e pos) (qE g)):=⟨uT he.out hs⟩
theorem gG (h:Bx (PTd X e g)):Bx (PTm X e (tS g)):=⟨JB h.out⟩
theorem bJ (hu:X.A.units+1 < cLine) (ho:Bx (PXm X o px)) (hi:Bx (PEd X i gk)) (hv:Bx (PEm X value fv)) (hs:swapsWith value (some (.Subscript o i pos')) pos.line X.env=pure false:=by rfl):Bx (PSm X (.Assign [.Subscript o i pos'] value pos) (gr px gk fv)):=⟨yk hu ho.out hi.out hv.out hs⟩
theorem cW (cl:Cls X.K C) (n:b7 X.K C x) (ho:Bx (PXm X o px)) (hv:Bx (PEm X value fv)) (hs:swapsWith value (some (.Attribute o x pos')) pos.line X.env=pure false:=by rfl):Bx (PSm X (.Assign [.Attribute o x pos'] value pos) (sE C x px fv)):=⟨BA cl n ho.out hv.out hs⟩
theorem oo (ho:Bx (PXm X o px)) (he:Bx (PVm X e fv)) (hbase:attributeBase o "append" X.env (eval o X.env)=eval o X.env:=by rfl) (hfew:((backTo cpos (starEach [e] X.env)).all (λ x=>!x.1)&&(backToKw cpos (keywordEach [] X.env)).all (λ x=>x.1.isSome)
 && decide ([e].length+([]:List Keyword).length+(if ([]:List Keyword).isEmpty then 0 else 1) < 30))=true:=by rfl) (hline:(apos.endLine == cpos.line)=true:=by rfl) (hst:starEach [e] X.env=(false,eval e X.env)::starEach [] X.env:=by rfl) (hplain:(backTo cpos (starEach [] X.env)).any (·.1)=false:=by rfl) (hs:swapsWith (.Call (.Attribute o "append" apos) [e] [] cpos) none pos.line X.env=pure false:=by rfl):Bx (PSm X (.Expr (.Call (.Attribute o "append" apos) [e] [] cpos) pos) (l5 px fv)):=⟨BB ho.out he.out hbase hfew hline hst hplain hs⟩
theorem om (ho:Bx (PXm X o px)) (hi:Bx (PEd X i gi)) (he:Bx (PVm X e fv)) (hbase:attributeBase o "insert" X.env (eval o X.env)=eval o X.env:=by rfl) (hfew:((backTo cpos (starEach [i,e] X.env)).all (λ x=>!x.1)&&(backToKw cpos (keywordEach [] X.env)).all (λ x=>x.1.isSome)
 && decide ([i,e].length+([]:List Keyword).length+(if ([]:List Keyword).isEmpty then 0 else 1) < 30))=true:=by rfl) (hline:(apos.endLine == cpos.line)=true:=by rfl) (hst:starEach [i,e] X.env=(false,eval i X.env)::starEach [e] X.env:=by rfl) (hst2:starEach [e] X.env=(false,eval e X.env)::starEach [] X.env:=by rfl) (hplain:(backTo cpos (starEach [e] X.env)).any (·.1)=false:=by rfl) (hs:swapsWith (.Call (.Attribute o "insert" apos) [i,e] [] cpos) none pos.line X.env=pure false:=by rfl):Bx (PSm X (.Expr (.Call (.Attribute o "insert" apos) [i,e] [] cpos) pos) (xY px gi fv)):=⟨By ho.out hi.out he.out hbase hfew hline hst hst2 hplain hs⟩
theorem Hf (h:Bx (PEd X e g)):Bx (PQm X e (qS g)):=⟨Ot h.out⟩
theorem dW (h:Bx (PEd X e g)):Bx (PQm X e (qN g)):=⟨Oq h.out⟩
theorem rX (h:Bx (PXm X e f)):Bx (PQm X e (qX f)):=⟨Oo h.out⟩
theorem dw  : Bx (PAm X [] tQ):=⟨Cf ⟩
theorem aO (h1:Bx (PQm X e h)) (h2:Bx (PAm X es g)) (hs:Se X e es:=by rfl):Bx (PAm X (e::es) (cY h g)):=⟨yI h1.out h2.out hs⟩
theorem xo (Fo:Go X.prog X.w X.K X.mg X.base k x (spM F X.K)) (hr:dQ jj X.A) (ha:Bx (PAm X (e::es) g)) (hj:k<=jj:=by decide) (hg:Gl X x:=by rfl) (hdb:Dg x:=by decide) (he:Se X e es:=by rfl) (hpl:Sb X pos es:=by rfl):Bx (PEm X (.Call (.Name x p) (e::es) [] pos) (eC F g)):=by
 have ⟨f',fd',ps',hm,hk,hb,Fo⟩:=Fo.go;have hr:=hr.mono hj;exact ⟨BR Fo hr hg hm hk hb ha.out hdb he hpl⟩
theorem fI (c:Cls X.K C) (Fo:GoM X.prog X.w X.K X.mg X.base k C m (spM F X.K)) (hr:dQ jj X.A) (ho:Bx (PXm X o fx)) (ha:Bx (PAm X (e::es) g)) (hj:k<=jj:=by decide) (hst:Se X e es:=by rfl) (hpl:Sb X pos es:=by rfl) (ht:eval (.Call (.Attribute o m apos) (e::es) [] pos) X.env=(do
  let ov <- eval o X.env
  standAt apos.atName
  let (f,first) <- holding [ov] (getMethod ov m pl)
  callWith pos f first (backTo pos (starEach (e::es) X.env)) (backToKw pos (keywordEach [] X.env))):=by rfl):Bx (PEm X (.Call (.Attribute o m apos) (e::es) [] pos) (eM C m F fx g)):=by
 have ⟨f',fd',ps',hm,hb,Fo⟩:=Fo.go;have hr:=hr.mono hj;exact ⟨BP ho.out c hm Fo hr hb ha.out hst hpl ht⟩
theorem xm (Fo:GoI X.prog X.w X.K X.mg X.base k C (spM F X.K)) (hr:dQ jj X.A) (hm:X.mg x=some (.ref C)) (ha:Bx (PAm X (e::es) g)) (hj:k+1<=jj:=by decide) (hg:Gl X x:=by rfl) (hdb:Dg x:=by decide) (he:Se X e es:=by rfl) (hpl:Sb X pos es:=by rfl):Bx (PEm X (.Call (.Name x p) (e::es) [] pos) (eK C F g)):=by
 have ⟨f',fd',ps',M,hb,Fo⟩:=Fo.go;have hr:=hr.mono hj;exact ⟨BQ M Fo hr hg hm hb ha.out hdb he hpl⟩
theorem gJ  : Bx (PVm X (.Dict [] [] pos) eD0):=⟨JF ⟩
theorem qk (hk:PE X kx (tC (kV kc))) (hv:Bx (PVm X value fv)):Bx (PVm X (.Dict [some kx] [value] pos) (eD1 kc fv)):=⟨JE hk hv.out⟩
theorem gf (i:Nat) (hN:X.N.Nodup) (hi:X.N[i]?=some x:=by exact rfl) (hx:Loc X.env.scope x:=by walk_at "v") (hf:Xl X x:=by walk_at "v"):Bx (PGm X (.Name x pos) (gNm i)):=⟨yB hN hi hx hf⟩
theorem tO  : Bx (AY X [] rD):=⟨yz ⟩
theorem kC (h1:Bx (PGm X e g)) (h2:Bx (AY X es h)) (hs:(assignEach (e::es) X.env).map (·.2)=assign e X.env::(assignEach es X.env).map (·.2):=by rfl):Bx (AY X (e::es) (j1 g h)):=⟨ve h1.out h2.out hs⟩
theorem xq (h:Bx (AY X es g)) (hc:X.calm=true:=by rfl) (hn:(assignEach es X.env).length=n:=by rfl) (hst:(assignEach es X.env).findIdx? (·.1)=none:=by rfl):Bx (PGm X (.Tuple es k' pos) (gTm n g)):=⟨BZ hc h.out hn hst⟩
theorem kq (hi:Bx (PId X tg iter it)) (hg:Bx (PGm X tg g)) (hb:Bx (mL X body b)) (hp:PassesOwn (model X.prog X.w) X.A X.env X.xe:=by exact .never) (hc:X.calm=true:=by rfl) (hs:Fs X iter:=by intro _; rfl):Bx (PSm X (.For tg iter body [] pos) (sD it g b)):=⟨Bz hp hc hi.out hg.out hb.out hs⟩
theorem tJ (i j:Nat) (hN:X.N.Nodup) (hi:X.N[i]?=some x:=by exact rfl) (hj:X.N[j]?=some y:=by exact rfl) (hx:Loc X.env.scope x:=by walk_at "v") (hv:Vis X.env.scope y:=by walk_at "w") (hd:(y == ("__debug__":Str))=false:=by decide) (hcd:(y == ("__classdict__":Str))=false:=by decide) (hbase:attributeBase (.Name y py) "pop" X.env (eval (.Name y py) X.env)=eval (.Name y py) X.env:=by rfl) (hline:(apos.endLine == cpos.line)=true:=by rfl) (hs:swapsWith (.Call (.Attribute (.Name y py) "pop" apos) [] [] cpos) (some (.Name x pos')) pos.line X.env=pure false:=by rfl) (hf:Xl X x:=by walk_at "v"):Bx (PSd X (.Assign [.Name x pos'] (.Call (.Attribute (.Name y py) "pop" apos) [] [] cpos) pos) (oW i j)):=⟨yp i j hN hi hx hj hv hd hcd hbase hline hs hf⟩
theorem DP (h:Bx (PEo X e g)):Bx (PVm X e (eON g)):=⟨JD h.out⟩
theorem tK (hh:X.A.handled=none) (hm:X.mg "sorted"=none) (he:Bx (PEd X e f)) (hg:Gl X "sorted":=by rfl) (hst:starEach [e] X.env=(false,eval e X.env)::starEach [] X.env:=by rfl) (hpl:(backTo pos (starEach [] X.env)).any (·.1)=false:=by rfl):Bx (PEo X (.Call (.Name "sorted" p) [e] [] pos) (rS f)):=⟨yw hh hg hm he.out hst hpl⟩
theorem bz (ha:Bx (PEd X a f)) (hb:Bx (PEd X b g)):Bx (PEd X (.BinOp a .Add b pos) (dOp ie f g)):=iF J4 ha hb
theorem kE (ha:Bx (PEd X a f)) (hb:Bx (PEd X b g)):Bx (PEd X (.BinOp a .Sub b pos) (dOp Cq f g)):=iF JW ha hb
theorem jc (ha:Bx (PEd X a f)) (hb:Bx (PEd X b g)):Bx (PEd X (.BinOp a .Mult b pos) (dOp vF f g)):=iF JZ ha hb
theorem a9 (ha:Bx (PEd X a f)) (hb:Bx (PEd X b g)):Bx (PEd X (.BinOp a .FloorDiv b pos) (dOp oDiv f g)):=iF J3 ha hb
theorem bG (ha:Bx (PEd X a f)) (hb:Bx (PEd X b g)):Bx (PEd X (.BinOp a .Mod b pos) (dOp oMod f g)):=iF J0 ha hb
theorem Hg (ha:Bx (PEd X a f)) (hb:Bx (PEd X b g)):Bx (PEd X (.BinOp a .Pow b pos) (dOp Hu f g)):=iF JX ha hb
theorem Hd (ha:Bx (PEd X a f)) (hb:Bx (PEd X b g)):Bx (PTd X (.Compare a [.Lt] [b] pos) (dT (dOp oLt f g))):=dv Oy ha hb 
theorem Pm (ha:Bx (PEd X a f)) (hb:Bx (PEd X b g)):Bx (PEd X (.Compare a [.Gt] [b] pos) (dOp oGt f g)):=ic MH ha hb 
theorem qg (ha:Bx (PEd X a f)) (hb:Bx (PEd X b g)):Bx (PTd X (.Compare a [.Gt] [b] pos) (dT (dOp oGt f g))):=dv MH ha hb 
theorem He (ha:Bx (PEd X a f)) (hb:Bx (PEd X b g)):Bx (PTd X (.Compare a [.Is] [b] pos) (dT (dOp Hw f g))):=dv J1 ha hb 
theorem DV (ha:Bx (PEd X a f)) (hb:Bx (PEd X b g)):Bx (PEd X (.Compare a [.IsNot] [b] pos) (dOp jR f g)):=ic Ap ha hb 
theorem ju (ha:Bx (PEd X a f)) (hb:Bx (PEd X b g)):Bx (PTd X (.Compare a [.IsNot] [b] pos) (dT (dOp jR f g))):=dv Ap ha hb 
theorem Mv (ha:Bx (PEd X a f)) (hb:Bx (PEd X b g)) (hm:behindInMarks .In b=false:=by rfl): Bx (PEd X (.Compare a [.In] [b] pos) (dOp D5 f g)):=ic J2 ha hb hm
theorem rW (ha:Bx (PEd X a f)) (hb:Bx (PEd X b g)) (hm:behindInMarks .NotIn b=false:=by rfl): Bx (PTd X (.Compare a [.NotIn] [b] pos) (dT (dOp ir f g))):=dv yM ha hb hm
theorem xJ (ha:Bx (PEd X a f)) (hb:Bx (PEd X b g)) (hr:dQ jj X.A:=by assumption):Bx (PEd X (.Compare a [.Eq] [b] pos) (dOp oEq f g)):=ic (MI hr.units) ha hb 
theorem bV (ha:Bx (PEd X a f)) (hb:Bx (PEd X b g)) (hr:dQ jj X.A:=by assumption):Bx (PTd X (.Compare a [.Eq] [b] pos) (dT (dOp oEq f g))):=dv (MI hr.units) ha hb 
theorem DU (ha:Bx (PEd X a f)) (hb:Bx (PEd X b g)) (hr:dQ jj X.A:=by assumption):Bx (PEd X (.Compare a [.NotEq] [b] pos) (dOp oNe f g)):=ic (MG hr.units) ha hb 
theorem jt (ha:Bx (PEd X a f)) (hb:Bx (PEd X b g)) (hr:dQ jj X.A:=by assumption):Bx (PTd X (.Compare a [.NotEq] [b] pos) (dT (dOp oNe f g))):=dv (MG hr.units) ha hb 
theorem ox (ha:Bx (PEd X a f)):Bx (PEd X (.UnaryOp .USub a pos) (dUn Hv f)):=DQ JY ha
theorem bW (h:Bx (PEd X e f)) (he:Se X e []:=by rfl):Bx (PAd X [e] (au f cz)):=aA h bF he
theorem cR {e2:Expr} {f2:DE} (h:Bx (PEd X e f)) (h2:Bx (PEd X e2 f2)) (he:Se X e [e2]:=by rfl) (he2:Se X e2 []:=by rfl):Bx (PAd X [e,e2] (au f (au f2 cz))):=aA h (bW h2 he2) he
theorem gL {e2 e3:Expr} {f2 f3:DE} (h:Bx (PEd X e f)) (h2:Bx (PEd X e2 f2)) (h3:Bx (PEd X e3 f3)) (he:Se X e [e2,e3]:=by rfl) (he2:Se X e2 [e3]:=by rfl) (he3:Se X e3 []:=by rfl):Bx (PAd X [e,e2,e3] (au f (au f2 (au f3 cz)))):=aA h (cR h2 h3 he2 he3) he
theorem kN (i:Nat) {j:Int} (hN:X.N[i]?=some x:=by exact rfl) (hv:Vis X.env.scope x:=by walk_at "w") (hd:Dg x:=by decide) (hcd:Dc x:=by decide):Bx (PEd X (.Subscript (.Name x p) (.Constant (.int j) k q) r) (dOp oIx (aC i) (dC (.int j)))):=aN (aa i hN hv hd hcd) ab (λ _ _=>rfl)
theorem eh (i:Nat) {x:Str} {f:DE} {pos':Pos} (hN:X.N.Nodup) (he:Bx (PEd X e f)) (hi:X.N[i]?=some x:=by exact rfl) (hx:Loc X.env.scope x:=by walk_at "v") (hs:Sw X e x pos' pos:=by rfl) (hf:Xl X x:=by walk_at "v"):Bx (PSd X (.Assign [.Name x pos'] e pos) (qB i f)):=xj i hN hi he hx hs hf
def Ic (mg:Str->Option Value) (x:Str) (i:Int):Prop:=∃ t,mg x=some (.int i t)
theorem Mu (h:Ic X.mg x i) (hg:Gl X x:=by rfl) (hd:(x == ("__debug__":Str))=false:=by decide):Bx (PEd X (.Name x pos) (dC (.int i))):=h.elim λ _ h=>⟨Cb (v:=.int i) hg h ⟨_,rfl⟩ (λ _=>.int _) hd⟩
theorem ckN {X:Cx} {scope:Scope} {cl:List (Str×Addr)} {x:Str} (cs:List (Str×Nat)) (h0:closureFor scope X.env=pure cl:=by rfl) (h1:scope.kind=.function:=by rfl) (h2:(scope.names.all λ y=>!(y.2 == .cell))=true:=by rfl)
 (h3:(scope.names.all λ y=>!(y.2 == .local)||(scope.names.lookup y.1 == some .local))=true:=by rfl) (h4:scope.names.lookup x=some .local:=by rfl) (h5:Ep X cl:=by repeat' first | exact trivial | rfl | constructor)
 (h6:((relabel scope X.env).names.all λ p=>!(p.2 == .cell||p.2 == .free)||(cl.lookup p.1).isSome)=true:=by rfl)
 (h7:AllP X scope cs:=by repeat' first | exact trivial | rfl | constructor) (h8:(x::cs.map (·.1)).Nodup:=by decide +kernel):cw X scope cl x cs:=DL cs h0 h1 h2 h3 h4 h5 h6 h7 h8
theorem ck0 {X:Cx} {scope:Scope} {x:Str} (h1:scope.kind=.function:=by rfl) (h2:∀ y ∈ scope.names,y.2≠.cell:=by decide +kernel) (h3:∀ y ∈ scope.names,y.2≠.free:=by decide +kernel) (h4:∀ y ∈ scope.names,y.2=.local->scope.names.lookup y.1=some .local:=by decide +kernel) (h5:scope.names.lookup x=some .local:=by rfl):cw X scope [] x []:=DN h1 h2 h3 h4 h5
section
variable {P:Program} {w:World} {K:W.Frag} {mg:Str->Option Value} {base:Heap} {x q:Str} {st:Stmt} {ps:List Str} {k:Nat} {C:Addr}
abbrev Bdy (P:Program) (w:World) (K:W.Frag) (mg:Str->Option Value) (base:Heap) (k:Nat) (q:Str) (st:Stmt) (N:List Str) (J:Cx->List Stmt->Prop):Prop:=∀ {cdv:Value} {A:Around} {outer:List Env} {s:Shared} {H:Hp} {E:XK} {f:Addr},dQ k (A.deeper (envOfC q (aI st) s.heap.objs.size f cdv))->N.Nodup->Bx (J (zI CX0 P w K mg base N q (aI st) f cdv A outer s H E).nox (bL st))
theorem oD (N:List Str) {b:DS} (D:Df K mg x st ps) (h:Bdy P w K mg base k x st N λ X b'=>lg X b' b) (S:dF N ps (aI st):=by exact ⟨rfl,rfl,rfl,by decide +kernel,rfl,by decide +kernel,by decide +kernel⟩):Go P w K mg base (k+1) x (spF (bU N.length ps.length b) K) :=
 have ⟨a,d,F,m,bi⟩:=D
 ⟨a,d,ps,m,F.kp,bi,F.okD S λ cdv A outer s H E hr=>(h hr S.nd).out⟩
theorem oDm (N:List Str) {b:DS} (D:Mf K C x q st ps) (h:Bdy P w K mg base k q st N λ X b'=>lg X b' b) (S:dF N ps (aI st):=by exact ⟨rfl,rfl,rfl,by decide +kernel,rfl,by decide +kernel,by decide +kernel⟩):GoM P w K mg base (k+1) C x (spF (bU N.length ps.length b) K) :=
 have ⟨a,d,F,m,bi⟩:=D
 ⟨a,d,ps,m,bi,F.okD S λ cdv A outer s H E hr=>(h hr S.nd).out⟩
theorem oM (N:List Str) {b:DSm} (D:Df K mg x st ps) (h:Bdy P w K mg base k x st N λ X b'=>mL X b' b) (S:dF N ps (aI st):=by exact ⟨rfl,rfl,rfl,by decide +kernel,rfl,by decide +kernel,by decide +kernel⟩):Go P w K mg base (k+1) x (spM (kP N.length ps.length b) K) :=
 have ⟨a,d,F,m,bi⟩:=D
 ⟨a,d,ps,m,F.kp,bi,F.okM S λ cdv A outer s H E hr=>(h hr S.nd).out⟩
theorem oMm (N:List Str) {b:DSm} (D:Mf K C x q st ps) (h:Bdy P w K mg base k q st N λ X b'=>mL X b' b) (S:dF N ps (aI st):=by exact ⟨rfl,rfl,rfl,by decide +kernel,rfl,by decide +kernel,by decide +kernel⟩):GoM P w K mg base (k+1) C x (spM (kP N.length ps.length b) K) :=
 have ⟨a,d,F,m,bi⟩:=D
 ⟨a,d,ps,m,bi,F.okM S λ cdv A outer s H E hr=>(h hr S.nd).out⟩
theorem oMi (N:List Str) {b:DSm} (D:If K C q st ps) (h:Bdy P w K mg base k q st N λ X b'=>mL X b' b) (S:dF N ps (aI st):=by exact ⟨rfl,rfl,rfl,by decide +kernel,rfl,by decide +kernel,by decide +kernel⟩):GoI P w K mg base (k+1) C (spM (kP N.length ps.length b) K) :=
 have ⟨a,d,F,m,bi⟩:=D
 ⟨a,d,ps,m,bi,F.okM S λ cdv A outer s H E hr=>(h hr S.nd).out⟩
theorem oLM (N:List Str) {b:DSm} {a:Addr} {d:FuncData} (F:Fun K x x st a d) (h:Bdy P w K mg base k x st N λ X b'=>mL X b' b) (S:dF N ps (aI st):=by exact ⟨rfl,rfl,rfl,by decide +kernel,rfl,by decide +kernel,by decide +kernel⟩):fj P w K mg base CX0 (k+1) a d ps (spM (kP N.length ps.length b) K):=F.okM S λ cdv A outer s H E hr=>(h hr S.nd).out
theorem oNv (D:Df K mg x st ps):Go P w K mg base k x (spF (λ _=>none) K) :=
 have ⟨a,d,F,m,bi⟩:=D
 ⟨a,d,ps,m,F.kp,bi,rJ⟩
theorem Fn0.df {f:Addr} {h:Heap} (e:Fn0 K x st f) (X:K.In h) (G:h.Ns mainGlobals mg) (hb:∀ (kV doc pm:Value) (an:Option Addr) (cdv ct:Value) (us:List Value),us.length=ps.length->bindArgs (PySem.W.fnOf x x (cp st) (bL st) (aI st) .none kV doc pm an cdv ct) ⟨us,[]⟩=pure (ps.zip us)):Df K mg x st ps :=
 have ⟨d,F,m,b⟩:=e.mk X G hb
 ⟨f,d,F,m,b⟩
theorem CZ {f:Addr} {oc:Value} {od an:Option Addr} {osl:Array (Option Value)} {kV doc pm cdv ct:Value} (a:W.findIn K (.ref C) x=some (some (.ref f))) (i:PySem.W.isFn K (.ref f)=true) (l:K.lookup f=some ⟨oc,od,.func (PySem.W.fnOf x q (cp st) (bL st) (aI st) .none kV doc pm an cdv ct),osl⟩) (c:PySem.W.codeIn K cdv q=true) (k:W.keepIn K (.ref f)=true) (hb:∀ (kV doc pm:Value) (an:Option Addr) (cdv ct:Value) (us:List Value),us.length=ps.length->bindArgs (PySem.W.fnOf x q (cp st) (bL st) (aI st) .none kV doc pm an cdv ct) ⟨us,[]⟩=pure (ps.zip us)):Mf K C x q st ps :=
 ⟨f,_,j4 (st:=st) l c k,⟨a,i,k⟩,(j4 (st:=st) l c k).binds hb⟩
theorem L4 {f:Addr} {oc:Value} {od an:Option Addr} {osl:Array (Option Value)} {kV doc pm cdv ct:Value} (a:W.findIn K (.ref C) "__init__"=some (some (.ref f))) (i:PySem.W.isFn K (.ref f)=true) (l:K.lookup f=some ⟨oc,od,.func (PySem.W.fnOf "__init__" q (cp st) (bL st) (aI st) .none kV doc pm an cdv ct),osl⟩) (c:PySem.W.codeIn K cdv q=true) (k:W.keepIn K (.ref f)=true) (mk:PySem.W.makesIn K C=true) (kc:W.keepIn K (.ref C)=true) (hb:∀ (kV doc pm:Value) (an:Option Addr) (cdv ct:Value) (us:List Value),us.length=ps.length->bindArgs (PySem.W.fnOf "__init__" q (cp st) (bL st) (aI st) .none kV doc pm an cdv ct) ⟨us,[]⟩=pure (ps.zip us)):If K C q st ps :=
 ⟨f,_,j4 (st:=st) l c k,⟨mk,a,i,kc⟩,(j4 (st:=st) l c k).binds hb⟩
def Lf (K:W.Frag) (mg:Str->Option Value) (x:Str) (st:Stmt) (y:Str):Prop:=∃ a d,Fun K x x st a d/\mg x=some (.ref a)/\∀ (s:Shared) (u:Value),BindsTo s d ⟨[u],[]⟩ [(y,u)]
theorem LX {f:Addr} {y:Str} {h:Heap} (e:Fn0 K x st f) (X:K.In h) (G:h.Ns mainGlobals mg) (hb:∀ (kV doc pm:Value) (an:Option Addr) (cdv ct:Value) (s:Shared) (u:Value),BindsTo s (PySem.W.fnOf x x (cp st) (bL st) (aI st) .none kV doc pm an cdv ct) ⟨[u],[]⟩ [(y,u)]):Lf K mg x st y:=by
 obtain ⟨od,an,sl,oc,kV,dc,pm,cd,ct,a,l,c,k⟩:=e;exact ⟨_,_,j4 (st:=st) l c k,PySem.W.mg_of X G a,hb _ _ _ _ _ _⟩
end
end L2
end
section
local macro_rules | `(tactic| walk_at "v")=>`(tactic| first | exact .inl rfl | exact .inr rfl | assumption)
local macro_rules | `(tactic| walk_at "w")=>`(tactic| first | exact .inl rfl | exact .inr (.inl rfl) | exact .inr (.inr rfl))
end
section
local macro_rules | `(tactic| walk_at "v")=>`(tactic| first | exact .inl rfl | exact .inr rfl | assumption)
local macro_rules | `(tactic| walk_at "w")=>`(tactic| first | exact .inl rfl | exact .inr (.inl rfl) | exact .inr (.inr rfl))
namespace L2
open PySem PySem.Spec PyProof.Rows
theorem lvl {a b n:Nat} (h:a<=b:=by decide):a<=b+n:=Nat.le_add_right_of_le h
end L2
end
section
namespace L2
open PySem PySem.Spec PyProof.Rows
def fg1:Sl->Sl
 | .shr d=>.shr d
 | _=>.no
def fgt (ws:List Nat):Nat->List Sl->List Sl
 | _,[]=>[]
 | n,s::τ=>(if n ∈ ws then .no else fg1 s)::fgt ws (n+1) τ
theorem StR.fgt {K:W.Frag} {H0 Hs H H0' H':Hp} {σ:List (Option V)} {τ:List Sl} {fp:List Addr} {ws:List Nat} {n:Nat} (h:StR K H0 Hs H σ τ fp):StR K H0' Hs H' σ (fgt ws n τ) []:=by
 induction h generalizing n with
 | nil=>exact .nil
 | no _ ih=>show StR K H0' Hs H' _ ((if n ∈ ws then .no else .no)::_) []; rw [ite_self]; exact .no ih
 | shr h _ ih =>
  show StR K H0' Hs H' _ ((if n ∈ ws then .no else .shr _)::_) [];split
  · exact .no ih
  · exact .shr h ih
 | own h z m _ ih=>show StR K H0' Hs H' _ ((if n ∈ ws then .no else .no)::_) []; rw [ite_self]; exact .no ih
def xx (i:Nat) (ws:List Nat) (τ:List Sm) (ks:List (Key×Mt)):List Sl:=fgt ws 0 ((cb (τ.set i .no)).set i (.shr (.dfz (zq ks))))
open Classical in
noncomputable def uC (i jx:Nat) (ws:List Nat) (b:DS):DSm:=λ τ=>match τ[i]? with
 | some (.mu _ (.n .d ks))=>if ks.length<=100000/\∀ p ∈ ks,∃ τ',b ((xx i ws τ ks).set jx (.shr (kD p.1)))=some (.next τ')/\fgt ws 0 τ'=xx i ws τ ks then some (.next (τ.map λ _=>.no)) else none
 | _=>none
theorem StM.gone {K:W.Frag} {H0 Hs H Hs' H':Hp} {ρ:List (Option Addr)} {σ σ':List (Option V)} {τ:List Sm} {fp:List Addr} (h:StM K H0 Hs H ρ σ τ fp):σ'.length=σ.length->StM K H0 Hs' H' ρ σ' (τ.map λ _=>.no) []:=by
 induction h generalizing σ' with
 | nil=>intro e; rw [List.length_eq_zero_iff.mp e]; exact .nil
 | no _ ih=>intro e; match σ',e with | x::σ',e=>exact .no (ih (by simpa using e))
 | shr _ _ ih=>intro e; match σ',e with | x::σ',e=>exact .no (ih (by simpa using e))
 | mu _ _ _ _ _ ih=>intro e; match σ',e with | x::σ',e=>exact .no (ih (by simpa using e))
theorem StR.NC {K:W.Frag} {H0 Hs H:Hp} {σ:List (Option V)} {τ:List Sl} {fp:List Addr} (h:StR K H0 Hs H σ τ fp):σ.length=τ.length:=by
 induction h with
 | nil=>rfl
 | no _ ih=>exact Yl (·+1) ih
 | shr _ _ ih=>exact Yl (·+1) ih
 | own _ _ _ _ ih=>exact Yl (·+1) ih
section
variable {X:Cx} {c k:Expr} {pos px pz ipos rpos:Pos} {x z:Str} {i jx:Nat} {b:DS} {ws:List Nat} {body:List Stmt}
theorem uS (hp:PassesOwn (model X.prog X.w) X.A X.env X.xe) (hc:X.calm=true) (hz:X.N[i]?=some z) (hv:Vis X.env.scope z) (hN:X.N.Nodup) (hx:X.N[jx]?=some x) (lx:Loc X.env.scope x)
  (hb:lg X body b)
  (hd:(z == ("__debug__":Str))=false:=by decide) (hcl:(z == ("__classdict__":Str))=false:=by decide) (hs:∀ x,foldedSetIterable (.Name z pz) X.env x=pure x:=by intro _; rfl)
  (hfx:X.fn x=true\/X.env.scope.names.lookup x=some .local:=by first | exact .inl rfl | exact .inr rfl | assumption) :
  PSm X (.For (.Name x px) (.Name z pz) body [] pos) (uC i jx ws b) :=
 PS.imp (BI (m6 hp hc (BY (iS hz hv hd hcl)) (gB hN hx lx hfx) hb hs)) λ E σ H ⟨Hs0,H0,nf,ρ,Hs,τ,o,r,e,k⟩=>by
  unfold uC at e;split at e
  ·rename_i b0 ks ei
   split at e
   ·rename_i hl
    obtain ⟨hl,hall⟩:=hl;cases e;obtain ⟨fp,st⟩:=r.st;obtain ⟨v,fq,fpr,o1,o2,o3,o4,o5⟩:=st.out ei;obtain ⟨d,dx,ts,u,rfl,rfl,rfl,hdH,hlay,hnd,ku,ndp,rr⟩:=o2.inv;rw [LY hlay] at hdH;have d0:H0 d=none:=(st.live d (o4 d (Ze ..)).2).2.2;refine ⟨_,o1,d,ts.map Kd.kv,rfl,hdH,λ ob=>?_⟩;have dnf:d ∉ fpr:=(o4 d (Ze ..)).1;have s1:StM X.K H0 Hs (upd H d (.frz ob (.dK (ts.map Kd.kv)))) ρ σ (τ.set i .no) fpr:=o3.mv (.refl _) λ c hc=>⟨(o3.live c hc).1,ar (show c≠d from λ q=>dnf (by rw [<- q]; exact hc))⟩
    have sm1:bp Hs (upd H d (.frz ob (.dK (ts.map Kd.kv)))):=λ c w q=>by
     rw [ar (show c≠d from λ y=>by rw [y,hnd] at q; cases q)]; exact r.sm c w q
    generalize hH1:upd H d (.frz ob (.dK (ts.map Kd.kv)))=H1 at s1 sm1;have h1d:H1 d=some (.frz ob (.dK (ts.map Kd.kv))):=by rw [<- hH1]; exact av
    have lts:(ts.map Kd.kv).length=ts.length:=Za _
    have rz:Rp X.K H1 (.ref d) (.dfz (zq (ts.map Kd.km))):=.dfz (.inr ⟨ob,h1d⟩) (uE λ c hc=>by
      have oc:=rr c hc;have dn:d ∉ c.fp:=λ z=>(Zv.mp ndp).1 (Yi.mpr ⟨c,hc,z⟩)
      exact (oc.mv (.refl _) λ b hb=>⟨(oc.live b hb).1,by rw [<- hH1,ar (show b≠d from λ y=>dn (y ▸ hb))]⟩).rp sm1)
    obtain ⟨fp8,n8,st8⟩:=StR.ur (i:=i) rz (s1.cb sm1);rw [xU o1] at st8;have st9:StR X.K H1 H1 H1 σ (xx i ws τ (ts.map Kd.km)) []:=st8.fgt;generalize xx i ws τ (ts.map Kd.km)=B at hall st9;have lB:=st9.NC;refine ⟨λ n m σ' H'=>m=ts.length - n/\n<=ts.length/\bp H1 H'/\∃ Hs',bp Hs' H'/\StR X.K H' Hs' H' σ' B [],⟨ts.length,by simp,Z1 _,.refl _,H1,.refl _,st9⟩,?_⟩
    rintro n m σ' H2 ⟨rfl,hn,g2,Hs2,sm2,st2⟩
    have h2d:=g2 _ _ h1d
    by_cases hlt:n < ts.length
    ·refine .inr ⟨⟨h2d,by rw [lts]; exact hlt⟩,λ σ'' H'=>bp H1 H'/\∃ Hs',bp Hs' H'/\StR X.K H' Hs' H' σ'' B [],λ σ'' H' h=>⟨ts.length - (n+1),by omega,rfl,hlt,h⟩,?_⟩
     rintro w H3 ⟨rfl,kk,ww,hk',rfl⟩
     have hm:∃ p ∈ ts.map Kd.km,p.1=kk:=by
      rw [List.getElem?_map] at hk';obtain ⟨tt,ht',et⟩:=Zm hk';exact ⟨tt.km,Z4.mpr ⟨tt,List.mem_of_getElem? ht',rfl⟩,(Prod.mk.inj et).1⟩
     obtain ⟨p,hp',rfl⟩:=hm;obtain ⟨τ',e1,e2⟩:=hall p hp';obtain ⟨fp3,_,st3⟩:=StR.ur (i:=jx) (L0 p.1) st2;refine ⟨Hs2,_,Hs2,_,_,⟨.refl sm2,fp3,st3⟩,e1,λ σ4 Hs4 H4 rep=>?_⟩;obtain ⟨fp4,st4⟩:=rep.st;exact ⟨g2.trans rep.ext.hh,Hs4,rep.ext.sh,e2 ▸ st4.fgt⟩
    ·have e0:n=ts.length:=by omega
     subst e0;refine .inl ⟨⟨h2d,by rw [lts]; exact Zi _⟩,d,ob,ts.map Kd.kv,h2d,λ o' u' q=>nf d o' u' q d0,?_⟩
     have smf:bp H (upd H2 d (.dK (ts.map Kd.kv))):=λ c w q=>by
      by_cases cd:c=d
      ·subst cd
       rw [hdH] at q;cases q;exact av
      ·rw [ar cd]
       exact g2 _ _ (by rw [<- hH1,ar cd]; exact q)
     have ll:σ'.length=σ.length:=by rw [st2.NC,lB]
     exact k _ Hs _ ⟨(r.grow smf).ext,[],st.gone ll⟩
   · cases e
  · cases e
end
def Js:D->Bool
 | .lst ds=>ds.all sca
 | _=>false
def eCO (it:DI) (g:DE) (cs:List (Str×Nat)):DEm:=λ τ=>(mx it g cs (cb τ)).bind λ d=>match d with
 | .lst rows=>if rows.all Js=true then some (.shr (.lst rows),τ) else none
 | _=>none
inductive Rws (K:W.Frag) (H:Hp):List Addr->List D->Prop where
 | nil:Rws K H [] []
 | snoc {as:List Addr} {es:List D} {a:Addr} {vs:List V} {dl:List D} (r:Rws K H as es) (h:H a=some (.lst vs)) (q:Rps K H vs dl) (s:dl.all sca=true):Rws K H (as++[a]) (es++[.lst dl])
theorem Rws.same {K:W.Frag} {H H':Hp} {as:List Addr} {es:List D} (h:Rws K H as es) (g:bp H H'):Rws K H' as es:=by
 induction h with
 | nil=>exact .nil
 | snoc _ h q s ih=>exact .snoc ih (g _ _ h) (q.same g) s
theorem Rws.len {K:W.Frag} {H:Hp} {as:List Addr} {es:List D} (h:Rws K H as es):as.length=es.length:=by
 induction h with
 | nil=>rfl
 | snoc _ h q s ih=>rw [Zt,Zt,ih]; rfl
theorem Rws.rps {K:W.Frag} {H H':Hp} {as:List Addr} {es:List D} (h:Rws K H as es):(∀ a ∈ as,H' a=H a)->Rps K H' (as.map .ref) es:=by
 induction h with
 | nil=>exact λ _=>.nil
 | snoc _ h q s ih =>
  intro z;rw [Zk];exact (ih λ a ha=>z a (Zp _ ha)).append (.cons (.lst (by rw [z _ (Zc _ (Zn.mpr rfl))]; exact h) (uv q s)) .nil)
section
variable {X:Cx} {pos:Pos}
theorem uQ (hN:X.N.Nodup) (hy:X.N[i]?=some y) (hx:Loc X.env.scope y)
  (hc:X.calm=true) (O:cw X scope cl x cs) (hi:PId X (.Name x px) iter it)
  (he:∀ s H fp C,PEo (bO X scope cl (x::cs.map (·.1)) s H fp C) elt g) (hs:∀ x,foldedSetIterable iter X.env x=pure x:=by intro _; rfl)
  (hsw:swapsWith (.ListComp elt [⟨.Name x px,iter,[],0⟩] scope pos) (some (.Name y py)) spos.line X.env=pure true:=by rfl)
  (hf:X.fn y=true\/X.env.scope.names.lookup y=some .local:=by first | exact .inl rfl | exact .inr rfl | assumption) :
  PSm X (.Assign [.Name y py] (.ListComp elt [⟨.Name x px,iter,[],0⟩] scope pos) spos) (sC i (eCO it g cs)):=(uX (te:=rdO X.K g) hN hy hx hc O hi he hs hsw hf).imp λ E σ H ⟨Hs0,H0,nf,ρ,Hs,τ,o,r,e,k⟩=>by
 obtain ⟨⟨s,τ1⟩,e1,e2⟩:=bind_some e;split at e2
 ·rename_i h
  cases e2;obtain ⟨d,e3,e4⟩:=bind_some e1;split at e4
  ·split at e4
   ·rename_i rows hsc
    cases e4;obtain ⟨ds,e5,e6⟩:=bind_some e3;split at e6
    ·rename_i hl
     obtain ⟨full,e7,e8⟩:=Zm e6;cases e8;obtain ⟨fp,st⟩:=r.st;refine ⟨H,H,cb τ,[],ds,st.cb r.sm,.refl H,e5,λ J Hs1 H1 g1 hJ=>?_⟩;refine ⟨λ i m ys H'=>m=ds.length - i/\i<=ds.length/\∃ Hs2 as es rest,Ext Hs1 H1 Hs2 H'/\ys=as.map .ref/\(∀ a ∈ as,H a=none)/\Rws X.K H' as es/\es.length=i/\pJ (λ d=>g (.shr d::gq (cb τ) cs)) (ds.drop i)=some rest/\es++rest=rows,⟨ds.length,by simp,Z1 _,Hs1,[],[],rows,.refl g1.sh,rfl,λ _ h=>absurd h Z8,.nil,rfl,by simpa using e7,rfl⟩,?_⟩
     rintro i m ys H2 ⟨rfl,hi,Hs2,as,es,rest,g2,rfl,fr,ry,ley,e9,e10⟩
     obtain ⟨hgo,hstop⟩:=hJ Hs2 H2 g2.ss g2.sh;have ly:(as.map V.ref).length=i:=by rw [Za,ry.len,ley]
     by_cases hlt:i < ds.length
     ·have ed:=Ym hlt
      rw [ed] at e9;obtain ⟨x,q1,q2⟩:=bind_some e9;obtain ⟨xs,q3,q4⟩:=bind_some q2;have eq:=Zj q4;subst eq;obtain ⟨go,yl⟩:=hgo i ds[i] (List.getElem?_eq_getElem hlt);refine .inr ⟨go,by rw [ly]; exact le5 (by omega),λ v H3 y=>?_⟩;obtain ⟨Hs3,g3,rv⟩:=yl v H3 y;have g13:=(g1.trans g2).trans g3;refine ⟨H,Hs3,.shr ds[i]::gq (cb τ) cs,[],x,.shr rv (jB ((st.cb r.sm).ext g13) cs),g3.sh,q1,λ a5 Hs5 H5 g5 ow hn=>?_⟩;have hx:Js x=true:=Yy.mp hsc x (by rw [<- e10]; simp)
      cases ow with
      | dct h n r=>cases hx
      | lst h' n rr =>
       refine ⟨ds.length - (i+1),by omega,rfl,hlt,Hs5,as++[a5],es++[.lst _],xs,(g2.trans g3).trans g5,by rw [Zk]; rfl,λ a ha=>?_,(ry.same (g3.hh.trans g5.hh)).snoc h' (rr.same g5.sh) hx,by rw [Zt,ley]; rfl,q3,by rw [<- e10]; simp⟩;rcases Zg.mp ha with ha | ha
       · exact fr a ha
       · rw [Zn.mp ha]; exact g13.hh.free hn
     ·have e0:i=ds.length:=by omega
      rw [e0,Xi] at e9;cases e9;rw [Z2] at e10;subst e10;refine .inl ⟨hstop _ (by omega),by rw [ly]; exact tW (by omega),λ p hp=>?_⟩;have hH:bp H (upd H2 p (.lst (as.map V.ref))):=(g1.hh.trans g2.hh).trans (az hp _);have pn:H p=none:=(g1.hh.trans g2.hh).free hp
      have pa:p ∉ as:=λ z=>by
       have:∀ {as es},Rws X.K H2 as es->∀ a ∈ as,H2 a≠none:=λ {as es} h=>by
        induction h with
        | nil=>exact λ _ h=>absurd h Z8
        | snoc _ h q s ih =>
         intro a ha;rcases Zg.mp ha with ha | ha
         · exact ih a ha
         · rw [Zn.mp ha,h]; simp
       exact this ry p z hp
      have ry':=ry.same (az hp (.lst (as.map V.ref)));have hpp:upd H2 p (.lst (as.map V.ref)) p=some (.lst (as.map V.ref)):=av;generalize upd H2 p (.lst (as.map V.ref))=H4 at hH ry' hpp ⊢
      have ex:Ext Hs H (λ c=>if c=p\/c ∈ as then H4 c else Hs c) H4:=by
       refine ⟨λ b u q=>?_,λ b u q=>?_,hH,λ b h1 h2=>?_⟩
       ·show (if b=p\/b ∈ as then H4 b else Hs b)=some u
        split
        · exact hH _ _ (r.sm _ _ q)
        · exact q
       ·have q':(if b=p\/b ∈ as then H4 b else Hs b)=some u:=q
        split at q'
        · exact q'
        · exact hH _ _ (r.sm _ _ q')
       ·show (if b=p\/b ∈ as then H4 b else Hs b)=none
        rw [if_neg]
        · exact h1
        ·rintro (z | z)
         · exact h2 (z ▸ pn)
         · exact h2 (fr b z)
      refine k _ _ H4 (((r.ext' ex).push (.lst (xs:=as.map V.ref) (show (if p=p\/p ∈ as then H4 p else Hs p)=_ by rw [if_pos (Or.inl rfl)]; exact hpp) (ry'.rps λ a ha=>?_))).into h.1 h.2);show (if a=p\/a ∈ as then H4 a else Hs a)=_;rw [if_pos (Or.inr ha)]
    · cases e6
   · cases e4
  · cases e4
 · cases e2
end
end L2
end
section
local macro_rules | `(tactic| walk_at "v")=>`(tactic| first | exact .inl rfl | exact .inr rfl | assumption)
local macro_rules | `(tactic| walk_at "w")=>`(tactic| first | exact .inl rfl | exact .inr (.inl rfl) | exact .inr (.inr rfl))
namespace L2
open PySem PySem.Spec PyProof.Rows
section
variable {X:Cx} {c k:Expr} {pos px pz ipos rpos:Pos} {x z:Str} {i jx:Nat} {b:DS} {body:List Stmt}
theorem qi (ws:List Nat) (hN:X.N.Nodup) (hb:Bx (lg X body b)) (hz:X.N[i]?=some z:=by exact rfl) (hx:X.N[jx]?=some x:=by exact rfl) (hp:PassesOwn (model X.prog X.w) X.A X.env X.xe:=by exact .never) (hc:X.calm=true:=by rfl) (hv:Vis X.env.scope z:=by walk_at "w") (lx:Loc X.env.scope x:=by walk_at "v") (hd:(z == ("__debug__":Str))=false:=by decide) (hcl:(z == ("__classdict__":Str))=false:=by decide) (hs:∀ x,foldedSetIterable (.Name z pz) X.env x=pure x:=by intro _; rfl) (hfx:Xl X x:=by walk_at "v"):Bx (PSm X (.For (.Name x px) (.Name z pz) body [] pos) (uC i jx ws b)):=⟨uS hp hc hz hv hN hx lx hb.out hd hcl hs hfx⟩
end
section
variable {X:Cx} {pos:Pos}
theorem qh (i:Nat) (hN:X.N.Nodup) (O:cw X scope cl x cs) (hi:Bx (PId X (.Name x px) iter it)) (he:∀ s H fp C,Bx (PEo (bO X scope cl (x::cs.map (·.1)) s H fp C) elt g)) (hy:X.N[i]?=some y:=by exact rfl) (hx:Loc X.env.scope y:=by walk_at "v") (hc:X.calm=true:=by rfl) (hs:∀ x,foldedSetIterable iter X.env x=pure x:=by intro _; rfl)
 (hsw:swapsWith (.ListComp elt [⟨.Name x px,iter,[],0⟩] scope pos) (some (.Name y py)) spos.line X.env=pure true:=by rfl) (hf:Xl X y:=by walk_at "v") :
 Bx (PSm X (.Assign [.Name y py] (.ListComp elt [⟨.Name x px,iter,[],0⟩] scope pos) spos) (sC i (eCO it g cs))):=⟨uQ hN hy hx hc O hi.out (λ s H fp C=>(he s H fp C).out) hs hsw hf⟩
end
end L2
end
section
local macro_rules | `(tactic| walk_at "v")=>`(tactic| first | exact .inl rfl | exact .inr rfl | assumption)
local macro_rules | `(tactic| walk_at "w")=>`(tactic| first | exact .inl rfl | exact .inr (.inl rfl) | exact .inr (.inr rfl))
namespace N17
open PySem L2
def top (i:Nat):Stmt:=PySem.Challenge.pw_stylehouse_k17_chains.main.body.getD i (.Pass ⟨0,0,0,0⟩)
structure Adr where
 cG:Addr
 ai:Addr
structure Txt (K:W.Frag) (mg:Str->Option Value) (t:Adr):Prop where
 vU:mg "Trait"=some (.ref t.cG)
 mB:Cls K t.cG
 hG:b7 K t.cG "told"
 Aw:mg "Tree"=some (.ref t.ai)
 aH:Cls K t.ai
 eR:b7 K t.ai "given"
 cg:b7 K t.ai "names"
 dt:b7 K t.ai "holders"
 cn:b7 K t.ai "boxes"
 ck:b7 K t.ai "marks"
 g8:b7 K t.ai "words"
 iY:b7 K t.ai "rows"
 wQ:Df K mg "is_name" (top 28) ["thing"]
 nS:Df K mg "_law_whole" (top 40) ["_law_found"]
 nR:Df K mg "check_name" (top 33) ["name"]
 tm:Df K mg "trait_of" (top 9) ["told"]
 Mj:Lf K mg "law" (top 54) "_law_script"
 mr:Df K mg "check_place" (top 34) ["place","row"]
 p7:Df K mg "_law_cell" (top 36) ["_law_script","_law_k"]
 tx:Df K mg "_law_mix" (top 37) ["_law_cell_here","_law_way"]
 nT:Df K mg "_law_under" (top 42) ["_law_rows","_law_box"]
 pZ:Df K mg "_law_name" (top 38) ["_law_cell_here","_law_way"]
 kf:Df K mg "_law_same_row" (top 41) ["_law_found","_law_due"]
 zt:Df K mg "row_of" (top 2) ["tree","box"]
 nQ:Df K mg "holders_of" (top 4) ["tree","box"]
 pY:Df K mg "_law_pool" (top 39) ["_law_script","_law_at"]
 DC:Df K mg "ahead" (top 3) ["tree","box"]
 tq:Df K mg "depth_of" (top 5) ["tree","box"]
 wO:Df K mg "spot_of" (top 6) ["tree","box"]
 nP:Df K mg "is_counted" (top 11) ["place","first","step"]
 p4:Df K mg "_law_many" (top 43) ["_law_cell_here","_law_way","_law_most"]
 nU:Df K mg "_law_plain" (top 46) ["_law_cell_here","_law_way","_law_pool_here"]
 pX:Df K mg "joined_to" (top 18) ["tree","join","box"]
 ka:Df K mg "has_trait" (top 10) ["tree","box","told"]
 wR:Df K mg "has_all" (top 19) ["tree","box","traits"]
 zv:Df K mg "fitted" (top 14) ["tree","pattern","boxes"]
 tw:Df K mg "chain_of" (top 15) ["tree","pattern","box"]
 G2:Df K mg "fits" (top 13) ["tree","pattern","box"]
 i0:Df K mg "_law_trait" (top 47) ["_law_cell_here","_law_way","_law_pool_here","_law_deep"]
 k5:Df K mg "_law_pattern" (top 51) ["_law_cell_here","_law_way","_law_pool_here","_law_most"]
 p6:Df K mg "_law_ends" (top 52) ["_law_rows","_law_facts","_law_marks","_law_pattern_here"]
 nV:Df K mg "_law_leads" (top 49) ["_law_rows","_law_facts","_law_join","_law_one","_law_box"]
 lL:Df K mg "_law_has" (top 45) ["_law_rows","_law_facts","_law_marks","_law_trait_here","_law_box"]
 tz:Df K mg "_law_all" (top 48) ["_law_rows","_law_facts","_law_marks","_law_traits","_law_box"]
 nO:Df K mg "reaches" (top 16) ["tree","pattern","place","box","known"]
 j9:Df K mg "link_of" (top 17) ["tree","pattern","place","box","known"]
 kZ:Df K mg "_law_reached" (top 50) ["_law_rows","_law_facts","_law_marks","_law_step","_law_early","_law_box"]
 k6:Df K mg "_law_chained" (top 53) ["_law_rows","_law_facts","_law_marks","_law_pattern_here","_law_chain","_law_box"]
 p5:Df K mg "_law_grow" (top 44) ["_law_tree","_law_rows","_law_facts","_law_marks","_law_pool_here","_law_cell_here","_law_way"]
 jk:If K t.cG "Trait.__init__" (inClass (top 8) 0) ["self","told"]
 ki:If K t.ai "Tree.__init__" (inClass (top 32) 0) ["self","name"]
 nX:Mf K t.ai "check" "Tree.check" (inClass (top 32) 2) ["self","box"]
 k7:Mf K t.ai "name_of" "Tree.name_of" (inClass (top 32) 11) ["self","box"]
 kg:Mf K t.ai "marks_of" "Tree.marks_of" (inClass (top 32) 12) ["self","box"]
 ji:Mf K t.ai "holder_of" "Tree.holder_of" (inClass (top 32) 15) ["self","box"]
 kh:Mf K t.ai "boxes_of" "Tree.boxes_of" (inClass (top 32) 16) ["self","box"]
 nW:Mf K t.ai "enter" "Tree.enter" (inClass (top 32) 1) ["self","holder","name"]
 p8:Mf K t.ai "mark" "Tree.mark" (inClass (top 32) 6) ["self","box","word"]
 nY:Mf K t.cG "fits" "Trait.fits" (inClass (top 8) 1) ["self","tree","box"]
 tD:Mf K t.ai "put" "Tree.put" (inClass (top 32) 3) ["self","holder","place","name"]
 Ja:mg "all"=none
 I9:mg "any"=none
 zW:mg "bool"=none
 gy:mg "enumerate"=none
 I0:mg "int"=none
 bZ:mg "isinstance"=none
 fg:mg "len"=none
 jy:mg "list"=none
 fk:mg "range"=none
 ig:mg "reversed"=none
 xK:mg "sorted"=none
 IZ:mg "str"=none
 oO:mg "tuple"=none
 kW:Ic mg "LONGEST_NAME" 8
 nC:Ic mg "MOST_BOXES" 90
 pL:Ic mg "MOST_DEEP" 12
abbrev gOD (f:∀ (P:Program) (w:World) (K:W.Frag) (mg:Str->Option Value) (base:Heap),DS->Prop) (t:Adr):Type:={G:DS // ∀ {P w K mg base},Txt K mg t->f P w K mg base G}
abbrev gO0 (f:∀ (P:Program) (w:World) (K:W.Frag) (mg:Str->Option Value) (base:Heap),DS->Prop):Type:={G:DS // ∀ {t P w K mg base},Txt K mg t->f P w K mg base G}
abbrev gFD (k:Nat) (x:Str) (n m:Nat) (P:Program) (w:World) (K:W.Frag) (mg:Str->Option Value) (base:Heap) (G:DS):Prop:=Go P w K mg base k x (spF (bU n m G) K)
abbrev gMD (k:Nat) (C:Addr) (x:Str) (n m:Nat) (P:Program) (w:World) (K:W.Frag) (mg:Str->Option Value) (base:Heap) (G:DS):Prop:=GoM P w K mg base k C x (spF (bU n m G) K)
abbrev gOM (f:∀ (P:Program) (w:World) (K:W.Frag) (mg:Str->Option Value) (base:Heap),DSm->Prop) (t:Adr):Type:={G:DSm // ∀ {P w K mg base},Txt K mg t->f P w K mg base G}
abbrev gFM (k:Nat) (x:Str) (n m:Nat) (P:Program) (w:World) (K:W.Frag) (mg:Str->Option Value) (base:Heap) (G:DSm):Prop:=Go P w K mg base k x (spM (kP n m G) K)
abbrev gMM (k:Nat) (C:Addr) (x:Str) (n m:Nat) (P:Program) (w:World) (K:W.Frag) (mg:Str->Option Value) (base:Heap) (G:DSm):Prop:=GoM P w K mg base k C x (spM (kP n m G) K)
abbrev gIM (k:Nat) (C:Addr) (n m:Nat) (P:Program) (w:World) (K:W.Frag) (mg:Str->Option Value) (base:Heap) (G:DSm):Prop:=GoI P w K mg base k C (spM (kP n m G) K)
section
variable {P:Program} {w:World} {K:W.Frag} {mg:Str->Option Value} {base:Heap} {t:Adr}
set_option maxHeartbeats 4000000
theorem jg (T:Txt K mg t):GoI P w K mg base 1 t.cG (uq t.cG ["told"]):=by
 obtain ⟨a,d,F,m,bi⟩:=T.jk;refine ⟨a,d,_,m,bi,?_⟩;refine F.ok (N:=["self","told"]) ⟨rfl,rfl,rfl,by decide +kernel,rfl,by decide +kernel,by decide +kernel⟩ (λ vs H Q E h=>?_) (λ cdv A outer s H vs Q E hr h=>?_)
 ·obtain ⟨x,ws,dx,rfl,hl,_⟩:=h
  exact Yl (·+1) hl
 obtain ⟨x,ws,dx,rfl,hl,hH,q⟩:=h
 obtain ⟨v0,rfl⟩:∃ v0:V,ws=[v0]:=by
  match ws,hl with
  | [v0],_=>exact ⟨v0,rfl⟩
 refine ⟨_,(c7 (Ag (pv 0) (pv 1) rfl)),?_⟩;refine ⟨_,rfl,_,rfl,x,_,dx,_,rfl,hH,T.mB,T.hG,(by show 0 < 1000; decide),?_⟩;exact q
noncomputable def fL:gO0 (gFD 1 "is_counted" 3 3):=⟨_,λ T=>oD ["place","first","step"] T.nP λ hr nd =>
 (ae (aw (bV (aa 2) ab) (af (ao (xJ (aa 0) (aa 1)))) aq) (af (ao (xJ (bG (aa 0) (aa 2)) (bG (aa 1) (aa 2))))))⟩
noncomputable def fU:=bU 3 3 (fL).1
theorem nj (T:Txt K mg t):Go P w K mg base 1 "is_counted" (spF (fU) K):=(fL).2 T
noncomputable def kH:gO0 (gFD 1 "is_name" 1 1):=⟨_,λ T=>oD ["thing"] T.wQ λ hr nd =>
 (ae (aw (bc (a7 (aE tI T.bZ (cR (aa 0) (iE (n:="str") T.IZ))))) (af (ao aP)) aq) (ae (aw (bc (kl Ht Ht ab (aE gn T.fg (bW (aa 0))) (Mu T.kW))) (af (ao aP)) aq) (af (ao (aE (Mr rfl) T.Ja (bW (aR (h9 ck0 (xp (aa 0)) (λ _ _ _ _=>(tP FK FK aF (aa 0) aF))))))))))⟩
noncomputable def kK:=bU 1 1 (kH).1
theorem vC (T:Txt K mg t):Go P w K mg base 1 "is_name" (spF (kK) K):=(kH).2 T
noncomputable def fR (t:Adr):gOM (gMM 1 t.ai "enter" 4 3) t:=⟨_,λ T=>oMm ["self","holder","name","box"] T.nW λ hr nd =>
 (aj (aX 3 nd (he:=aD (xn (cQ T.aH T.eR (aa 0))))) (aj (cW T.aH T.eR (aJ 0) (aD (bB (bz (aa 3) ab)))) (aj (bJ (fF hr) (dU T.aH T.cg (aJ 0)) (aa 3) (aD (bB (aa 2)))) (aj (bJ (fF hr) (dU T.aH T.dt (aJ 0)) (aa 3) (aD (bB (aa 1)))) (aj (bJ (fF hr) (dU T.aH T.cn (aJ 0)) (aa 3) (aD (lS (aW bF)))) (aj (bJ (fF hr) (dU T.aH T.ck (aJ 0)) (aa 3) (aD gJ)) (aj (bJ (fF hr) (dU T.aH T.g8 (aJ 0)) (aa 3) (aD (lS (aW bF)))) (aj (bJ (fF hr) (dU T.aH T.iY (aJ 0)) (aa 3) (aD (bB (cu bF)))) (aV (fG (aD (bB (aa 3)))))))))))))⟩
noncomputable def f6 (t:Adr):=kP 4 3 (fR t).1
theorem iX (T:Txt K mg t):GoM P w K mg base 1 t.ai "enter" (spM (f6 t) K):=(fR t).2 T
noncomputable def fS (t:Adr):gOD (gMD 1 t.ai "check" 2 2) t:=⟨_,λ T=>oDm ["self","box"] T.nX λ hr nd =>
 (af (aw (jb hr.units rfl (aa 1) (cQ T.aH T.cg (aa 0))) (af gI) aq))⟩
noncomputable def dZ (t:Adr):=bU 2 2 (fS t).1
theorem b5 (T:Txt K mg t):GoM P w K mg base 1 t.ai "check" (spF (dZ t) K):=(fS t).2 T
noncomputable def eX:gO0 (gFD 1 "check_place" 2 2):=⟨_,λ T=>oD ["place","row"] T.mr λ hr nd =>
 (af (aw (bc (kl Ht Ht ab (aa 0) (aE gn T.fg (bW (aa 1))))) (af gI) aq))⟩
noncomputable def eZ:=bU 2 2 (eX).1
theorem l9 (T:Txt K mg t):Go P w K mg base 1 "check_place" (spF (eZ) K):=(eX).2 T
noncomputable def gS:gO0 (gFD 1 "_law_cell" 2 2):=⟨_,λ T=>oD ["_law_script","_law_k"] T.p7 λ hr nd =>
 (ae (aw (Hd (aa 1) (aE gn T.fg (bW (aa 0)))) (af (ao (aN (aa 0) (aa 1)))) aq) (af (ao ab)))⟩
noncomputable def cK:=bU 2 2 (gS).1
theorem bC (T:Txt K mg t):Go P w K mg base 1 "_law_cell" (spF (cK) K):=(gS).2 T
noncomputable def iJ:gO0 (gFD 1 "_law_mix" 3 2):=⟨_,λ T=>oD ["_law_cell_here","_law_way","_law_first"] T.tx λ hr nd =>
 (ae (eh 2 nd (bG (bz (jc (aa 0) ab) (jc (aa 1) ab)) ab)) (af (ao (bG (jc (aa 2) (bz ab (jc ab (aa 1)))) ab))))⟩
noncomputable def b8:=bU 3 2 (iJ).1
theorem be (T:Txt K mg t):Go P w K mg base 1 "_law_mix" (spF (b8) K):=(iJ).2 T
noncomputable def jd:gO0 (gFD 1 "_law_whole" 1 1):=⟨_,λ T=>oD ["_law_found"] T.nS λ hr nd =>
 (af (ao (mH (aE tI T.bZ (cR (aa 0) (iE (n:="int") T.I0))) (jw (mG (aE tI T.bZ (cR (aa 0) (iE (n:="bool") T.zW))))))))⟩
noncomputable def fX:=bU 1 1 (jd).1
theorem iU (T:Txt K mg t):Go P w K mg base 1 "_law_whole" (spF (fX) K):=(jd).2 T
noncomputable def fP (t:Adr):gOD (gFD 1 "_law_under" 5 2) t:=⟨_,λ T=>oD ["_law_rows","_law_box","_law_told","_law_todo","_law_one"] T.nT λ hr nd =>
 (ae (dk 2 nd (he:=aW bF)) (ae (dk 3 nd (he:=aW (bW (aa 1)))) (ae (gH (xi 3 (qg (aE gn T.fg (bW (aa 3))) ab)) (ae (tJ 4 3 nd) (ae (kr 2 (he:=aa 4)) (af (xk 3 (he:=aR (rY T.jy T.ig (aU hr.units (λ _ _=>rfl) (aa 0) (aa 4))))))))) (af (iC 2)))))⟩
noncomputable def dY (t:Adr):=bU 5 2 (fP t).1
theorem nq (T:Txt K mg t):Go P w K mg base 1 "_law_under" (spF (dY t) K):=(fP t).2 T
noncomputable def fQ:gO0 (gFD 1 "_law_leads" 7 5):=⟨_,λ T=>oD ["_law_rows","_law_facts","_law_join","_law_one","_law_box","_law_holder","_law_far"] T.nV λ hr nd =>
 (ae (eh 5 nd (aN (aU hr.units (λ _ _=>rfl) (aa 1) (aa 4)) ab)) (ae (aw (bV (aa 2) aF) (af (ao (mH (DV (aa 5) de) (jw (xJ (aa 5) (aa 3)))))) aq) (ae (aw (bV (aa 2) aF) (ae (gH (ju (aa 5) de) (ae (aw (bV (aa 5) (aa 3)) (af (ao aP)) aq) (af (eh 5 nd (aN (aU hr.units (λ _ _=>rfl) (aa 1) (aa 5)) ab))))) (af (ao aP))) aq) (ae (aw (cX (cP (He (aa 5) de) (cV (rW (aa 3) (aU hr.units (λ _ _=>rfl) (aa 0) (aa 5)))))) (af (ao aP)) aq) (ae (eh 6 nd (kE (ib (aU hr.units (λ _ _=>rfl) (aa 0) (aa 5)) (aa 4)) (ib (aU hr.units (λ _ _=>rfl) (aa 0) (aa 5)) (aa 3)))) (af (ao (DR (xJ (aa 6) ab) (jw (mH (xJ (aa 2) aF) (jw (Pm (aa 6) ab))))))))))))⟩
noncomputable def b9:=bU 7 5 (fQ).1
theorem iW (T:Txt K mg t):Go P w K mg base 1 "_law_leads" (spF (b9) K):=(fQ).2 T
noncomputable def d8 (t:Adr):gOD (gMD 2 t.ai "name_of" 2 2) t:=⟨_,λ T=>oDm ["self","box"] T.k7 λ hr nd =>
 (ae (gc (bw T.aH (b5 T) hr (aa 0) (bW (aa 1)))) (af (ao (aU hr.units (λ _ _=>rfl) (cQ T.aH T.cg (aa 0)) (aa 1)))))⟩
noncomputable def d9 (t:Adr):=bU 2 2 (d8 t).1
theorem kU (T:Txt K mg t):GoM P w K mg base 2 t.ai "name_of" (spF (d9 t) K):=(d8 t).2 T
noncomputable def dA (t:Adr):gOD (gMD 2 t.ai "marks_of" 2 2) t:=⟨_,λ T=>oDm ["self","box"] T.kg λ hr nd =>
 (ae (gc (bw T.aH (b5 T) hr (aa 0) (bW (aa 1)))) (af (cE (tK hr.hd T.xK (aU hr.units (λ _ _=>rfl) (cQ T.aH T.ck (aa 0)) (aa 1))))))⟩
noncomputable def dM (t:Adr):=bU 2 2 (dA t).1
theorem jN (T:Txt K mg t):GoM P w K mg base 2 t.ai "marks_of" (spF (dM t) K):=(dA t).2 T
noncomputable def c9 (t:Adr):gOD (gMD 2 t.ai "holder_of" 2 2) t:=⟨_,λ T=>oDm ["self","box"] T.ji λ hr nd =>
 (ae (gc (bw T.aH (b5 T) hr (aa 0) (bW (aa 1)))) (af (ao (aU hr.units (λ _ _=>rfl) (cQ T.aH T.dt (aa 0)) (aa 1)))))⟩
noncomputable def bI (t:Adr):=bU 2 2 (c9 t).1
theorem c8 (T:Txt K mg t):GoM P w K mg base 2 t.ai "holder_of" (spF (bI t) K):=(c9 t).2 T
noncomputable def dB (t:Adr):gOD (gMD 2 t.ai "boxes_of" 2 2) t:=⟨_,λ T=>oDm ["self","box"] T.kh λ hr nd =>
 (ae (gc (bw T.aH (b5 T) hr (aa 0) (bW (aa 1)))) (af (cE (ot T.jy (bW (aU hr.units (λ _ _=>rfl) (cQ T.aH T.cn (aa 0)) (aa 1)))))))⟩
noncomputable def dN (t:Adr):=bU 2 2 (dB t).1
theorem jP (T:Txt K mg t):GoM P w K mg base 2 t.ai "boxes_of" (spF (dN t) K):=(dB t).2 T
noncomputable def fO:gO0 (gFD 2 "check_name" 1 1):=⟨_,λ T=>oD ["name"] T.nR λ hr nd =>
 (af (aw (bc (a7 (ak (vC T) hr (bW (aa 0))))) (af gI) aq))⟩
noncomputable def fW:=bU 1 1 (fO).1
theorem fA (T:Txt K mg t):Go P w K mg base 2 "check_name" (spF (fW) K):=(fO).2 T
noncomputable def gP:gO0 (gFD 2 "_law_name" 4 2):=⟨_,λ T=>oD ["_law_cell_here","_law_way","_law_letters","_law_size"] T.pZ λ hr nd =>
 (ae (eh 2 nd aF) (ae (eh 3 nd (bz ab (bG (ak (be T) hr (cR (aa 0) (bz (aa 1) ab))) ab))) (af (ao (xt aF (aR (h9 (ckN [("_law_letters",2),("_law_cell_here",0),("_law_way",1)]) (bQ T.fk (bW (aa 3))) (λ _ _ _ _=>(aN (aa 1) (bG (ak (be T) hr (cR (aa 2) (bz (aa 3) (jc ab (aa 0))))) ab))))))))))⟩
noncomputable def fc:=bU 4 2 (gP).1
theorem jM (T:Txt K mg t):Go P w K mg base 2 "_law_name" (spF (fc) K):=(gP).2 T
noncomputable def dz:gO0 (gFD 2 "_law_same_row" 3 2):=⟨_,λ T=>oD ["_law_found","_law_due","_law_k"] T.kf λ hr nd =>
 (ae (aw (cX (cP (bc (a7 (aE tI T.bZ (cR (aa 0) (iE (n:="list") T.jy))))) (cV (jt (aE gn T.fg (bW (aa 0))) (aE gn T.fg (bW (aa 1))))))) (af (ao aP)) aq) (ae (cq (bQ T.fk (bW (aE gn T.fg (bW (aa 1))))) (bu 2 nd) (af (aw (cX (cP (bc (a7 (ak (iU T) hr (bW (aN (aa 0) (aa 2)))))) (cV (jt (aN (aa 0) (aa 2)) (aN (aa 1) (aa 2)))))) (af (ao aP)) aq))) (af (ao aP))))⟩
noncomputable def dI:=bU 3 2 (dz).1
theorem jL (T:Txt K mg t):Go P w K mg base 2 "_law_same_row" (spF (dI) K):=(dz).2 T
noncomputable def eY:gO0 (gFD 2 "_law_many" 4 3):=⟨_,λ T=>oD ["_law_cell_here","_law_way","_law_most","_law_draw"] T.p4 λ hr nd =>
 (ae (eh 3 nd (ak (be T) hr (cR (aa 0) (aa 1)))) (ae (aw (qg (bG (aa 3) ab) ab) (af (ao (kE (aa 2) (bG (a9 (aa 3) ab) ab)))) aq) (af (ao (bG (a9 (aa 3) ab) (bz (aa 2) ab))))))⟩
noncomputable def kL:=bU 4 3 (eY).1
theorem pD (T:Txt K mg t):Go P w K mg base 2 "_law_many" (spF (kL) K):=(eY).2 T
noncomputable def dX:gO0 (gFD 2 "_law_plain" 7 3):=⟨_,λ T=>oD ["_law_cell_here","_law_way","_law_pool_here","_law_draw","_law_kind","_law_first","_law_every"] T.nU λ hr nd =>
 (ae (eh 3 nd (ak (be T) hr (cR (aa 0) (aa 1)))) (ae (eh 4 nd (bG (aa 3) ab)) (ae (aw (cX (cP (bV (aa 4) ab) (cV (bV (aa 4) ab)))) (af (ao (cu (bW aF)))) aq) (ae (aw (bV (aa 4) ab) (af (ao (cu (cR aF (aN (aa 2) (bG (a9 (aa 3) ab) ab)))))) aq) (ae (aw (bV (aa 4) ab) (af (ao (cu (cR aF (aN (aa 2) (bG (a9 (aa 3) ab) ab)))))) aq) (ae (eh 5 nd (bG (a9 (aa 3) ab) ab)) (ae (eh 6 nd (bG (a9 (aa 3) ab) ab)) (ae (aw (bV (bG (a9 (aa 3) ab) ab) ab) (ae (eh 5 nd (bG (aa 0) (Hg ab ab))) (af (eh 6 nd (a9 (aa 3) ab)))) aq) (ae (aw (bV (bG (a9 (aa 3) ab) ab) ab) (af (eh 6 nd (bG (aa 0) (Hg ab ab)))) aq) (af (ao (cu (gL (aN (aR (aW (cR aF aF))) (bG (aa 4) ab)) (aa 5) (aa 6))))))))))))))⟩
noncomputable def fZ:=bU 7 3 (dX).1
theorem iV (T:Txt K mg t):Go P w K mg base 2 "_law_plain" (spF (fZ) K):=(dX).2 T
noncomputable def mM (t:Adr):gOD (gFD 3 "row_of" 3 2) t:=⟨_,λ T=>oD ["tree","box","holder"] T.zt λ hr nd =>
 (ae (eh 2 nd (bw T.aH (c8 T) hr (aa 0) (bW (aa 1)))) (af (ao (xu (He (aa 2) de) (aR (aW (bW (aa 1)))) (bw T.aH (jP T) hr (aa 0) (bW (aa 2)))))))⟩
noncomputable def mN (t:Adr):=bU 3 2 (mM t).1
theorem qQ (T:Txt K mg t):Go P w K mg base 3 "row_of" (spF (mN t) K):=(mM t).2 T
noncomputable def fM (t:Adr):gOD (gFD 3 "holders_of" 4 2) t:=⟨_,λ T=>oD ["tree","box","found","holder"] T.nQ λ hr nd =>
 (ae (dk 2 nd (he:=aW bF)) (ae (eh 3 nd (bw T.aH (c8 T) hr (aa 0) (bW (aa 1)))) (ae (gH (ju (aa 3) de) (ae (kr 2 (he:=aa 3)) (af (eh 3 nd (bw T.aH (c8 T) hr (aa 0) (bW (aa 3))))))) (af (iC 2)))))⟩
noncomputable def fV (t:Adr):=bU 4 2 (fM t).1
theorem fw (T:Txt K mg t):Go P w K mg base 3 "holders_of" (spF (fV t) K):=(fM t).2 T
noncomputable def iH (t:Adr):gOD (gFD 3 "trait_of" 1 1) t:=⟨_,λ T=>oD ["told"] T.tm λ hr nd =>
 (af (ao (xr (jg T) hr T.vU (bW (aa 0)))))⟩
noncomputable def eI (t:Adr):=bU 1 1 (iH t).1
theorem sJ (T:Txt K mg t):Go P w K mg base 3 "trait_of" (spF (eI t) K):=(iH t).2 T
noncomputable def dD (t:Adr):gOM (gIM 3 t.ai 2 2) t:=⟨_,λ T=>oMi ["self","name"] T.ki λ hr nd =>
 (aj (cD (ak (fA T) hr (bW (aa 1)))) (aj (cW T.aH T.eR (aJ 0) (aD (bB ab))) (aj (cW T.aH T.cg (aJ 0) (aD gJ)) (aj (cW T.aH T.dt (aJ 0) (aD gJ)) (aj (cW T.aH T.cn (aJ 0) (aD gJ)) (aj (cW T.aH T.ck (aJ 0) (aD gJ)) (aj (cW T.aH T.g8 (aJ 0) (aD gJ)) (aj (cW T.aH T.iY (aJ 0) (aD gJ)) (aV (eG (fI T.aH (iX T) hr (aJ 0) (aO (dW de) (aO (dW (aa 1)) dw)))))))))))))⟩
noncomputable def dO (t:Adr):=kP 2 2 (dD t).1
theorem jQ (T:Txt K mg t):GoI P w K mg base 3 t.ai (spM (dO t) K):=(dD t).2 T
noncomputable def gU (t:Adr):gOM (gMM 3 t.ai "mark" 3 3) t:=⟨_,λ T=>oMm ["self","box","word"] T.p8 λ hr nd =>
 (aj (cD (bw T.aH (b5 T) hr (aa 0) (bW (aa 1)))) (aj (cD (ak (fA T) hr (bW (aa 2)))) (aj (eV (gG (xh hr.units rfl (aa 2) (aU hr.units (λ _ _=>rfl) (cQ T.aH T.ck (aa 0)) (aa 1)))) (aV (fG (aD (bB aP)))) cC) (aj (bJ (fF hr) (jv (fF hr) (λ _ _=>rfl) (dU T.aH T.ck (aJ 0)) (aa 1)) (aa 2) (aD (bB aP))) (aV (fG (aD (bB aP))))))))⟩
noncomputable def bY (t:Adr):=kP 3 3 (gU t).1
theorem jO (T:Txt K mg t):GoM P w K mg base 3 t.ai "mark" (spM (bY t) K):=(gU t).2 T
noncomputable def gO:gO0 (gFD 3 "_law_pool" 9 2):=⟨_,λ T=>oD ["_law_script","_law_at","_law_letters","_law_one","_law_draw","_law_place","_law_sign","_law_two","_law_three"] T.pY λ hr nd =>
 (ae (eh 2 nd aF) (ae (eh 3 nd (ak (jM T) hr (cR (ak (bC T) hr (cR (aa 0) (aa 1))) ab))) (ae (eh 4 nd (ak (be T) hr (cR (ak (bC T) hr (cR (aa 0) (bz (aa 1) ab))) ab))) (ae (eh 5 nd (bG (aa 4) (aE gn T.fg (bW (aa 3))))) (ae (eh 6 nd (aN (aa 2) (bG (a9 (aa 4) ab) ab))) (ae (eh 7 nd (bz (bz (mF (aa 3) cF (bT (aa 5))) (aa 6)) (mF (aa 3) (bT (bz (aa 5) ab)) cF))) (ae (eh 8 nd (mF (bz (aa 3) (aa 6)) (bT (ox ab)) cF)) (af (ao (aR (aW (aA (aa 3) (gL (aa 7) (aa 8) (ak (jM T) hr (cR (ak (bC T) hr (cR (aa 0) (bz (aa 1) ab))) ab)))))))))))))))⟩
noncomputable def gV:=bU 9 2 (gO).1
theorem pC (T:Txt K mg t):Go P w K mg base 3 "_law_pool" (spF (gV) K):=(gO).2 T
noncomputable def qt (t:Adr):gOD (gFD 4 "ahead" 3 2) t:=⟨_,λ T=>oD ["tree","box","row"] T.DC λ hr nd =>
 (ae (eh 2 nd (ak (qQ T) hr (cR (aa 0) (aa 1)))) (af (cE (kA (aa 2) cF (bT (ib (aa 2) (aa 1)))))))⟩
noncomputable def qu (t:Adr):=bU 3 2 (qt t).1
theorem vE (T:Txt K mg t):Go P w K mg base 4 "ahead" (spF (qu t) K):=(qt t).2 T
noncomputable def iI (t:Adr):gOD (gFD 4 "depth_of" 2 2) t:=⟨_,λ T=>oD ["tree","box"] T.tq λ hr nd =>
 (af (ao (aE gn T.fg (bW (ak (fw T) hr (cR (aa 0) (aa 1)))))))⟩
noncomputable def iM (t:Adr):=bU 2 2 (iI t).1
theorem sM (T:Txt K mg t):Go P w K mg base 4 "depth_of" (spF (iM t) K):=(iI t).2 T
noncomputable def kG (t:Adr):gOD (gFD 4 "spot_of" 3 2) t:=⟨_,λ T=>oD ["tree","box","row"] T.wO λ hr nd =>
 (ae (eh 2 nd (ak (qQ T) hr (cR (aa 0) (aa 1)))) (af (ao (cu (cR (bz (ib (aa 2) (aa 1)) ab) (aE gn T.fg (bW (aa 2))))))))⟩
noncomputable def kJ (t:Adr):=bU 3 2 (kG t).1
theorem vB (T:Txt K mg t):Go P w K mg base 4 "spot_of" (spF (kJ t) K):=(kG t).2 T
noncomputable def aZ (F:List D->Option Sl):{G:DS // ∀ {t:Adr} {P:Program} {w:World} {K:W.Frag} {mg:Str->Option Value} {base:Heap} (n:Nat),Txt K mg t->Go P w K mg base (0+n) "_law_has" (spF F K)->Go P w K mg base (0+n+1) "_law_has" (spF (bU 9 5 G) K)}:=⟨_,λ n T hF=>oD ["_law_rows","_law_facts","_law_marks","_law_trait_here","_law_box","_law_kind","_law_one","_law_row","_law_place"] T.lL λ hr nd =>
 (ae (eh 5 nd (kN 3)) (ae (aw (bV (aa 5) aF) (af (ao (xJ (aN (aU hr.units (λ _ _=>rfl) (aa 1) (aa 4)) ab) (kN 3)))) aq) (ae (aw (bV (aa 5) aF) (af (ao (Mv (kN 3) (aU hr.units (λ _ _=>rfl) (aa 2) (aa 4))))) aq) (ae (aw (bV (aa 5) aF) (af (ao (mG (ak (hj:=Zi _) hF hr (aA (aa 0) (aA (aa 1) (gL (aa 2) (kN 3) (aa 4)))))))) aq) (ae (aw (bV (aa 5) aF) (ae (cq (fJ (kN 3)) (bu 6 nd) (af (aw (a7 (ak (hj:=Zi _) hF hr (aA (aa 0) (aA (aa 1) (gL (aa 2) (aa 6) (aa 4)))))) (af (ao aP)) aq))) (af (ao aP))) aq) (ae (aw (bV (aa 5) aF) (af (ao aP)) aq) (ae (eh 7 nd (aR (aW (bW (aa 4))))) (ae (aw (ju (aN (aU hr.units (λ _ _=>rfl) (aa 1) (aa 4)) ab) de) (af (eh 7 nd (aR (ot T.jy (bW (aU hr.units (λ _ _=>rfl) (aa 0) (aN (aU hr.units (λ _ _=>rfl) (aa 1) (aa 4)) ab))))))) aq) (ae (aw (bV (aa 5) aF) (af (eh 7 nd (aR (rY T.jy T.ig (aa 7))))) aq) (ae (eh 8 nd (bz (ib (aa 7) (aa 4)) ab)) (ae (aw (bV (kN 3) ab) (af (ao (xJ (aa 8) (kN 3)))) aq) (af (ao (xJ (bG (kE (aa 8) (kN 3)) (kN 3)) ab))))))))))))))⟩
noncomputable def dm:Nat->List D->Option Sl
 | 0=>λ _=>none
 | n+1=>bU 9 5 (aZ (dm n)).1
theorem jI (T:Txt K mg t):∀ n,Go P w K mg base (0+n) "_law_has" (spF (dm n) K)
 | 0=>oNv T.lL
 | n+1=>(aZ _).2 n T (jI T n)
noncomputable def dq:List D->Option Sl:=dm 4
theorem sP (T:Txt K mg t):Go P w K mg base 4 "_law_has" (spF (dq) K):=jI T 4
noncomputable def gM (t:Adr):gOD (gFD 5 "joined_to" 3 3) t:=⟨_,λ T=>oD ["tree","join","box"] T.pX λ hr nd =>
 (ae (aw (bV (aa 1) aF) (af (cE (ia (fw T) hr (cR (aa 0) (aa 2))))) aq) (ae (aw (bV (aa 1) aF) (af (cE (kA (ak (fw T) hr (cR (aa 0) (aa 2))) cF (bT ab)))) aq) (ae (aw (bV (aa 1) aF) (af (cE (kA (ak (vE T) hr (cR (aa 0) (aa 2))) (bT (ox ab)) cF))) aq) (af (cE (ia (vE T) hr (cR (aa 0) (aa 2))))))))⟩
noncomputable def cI (t:Adr):=bU 3 3 (gM t).1
theorem pA (T:Txt K mg t):Go P w K mg base 5 "joined_to" (spF (cI t) K):=(gM t).2 T
noncomputable def iL (t:Adr):gOM (gMM 5 t.ai "put" 5 4) t:=⟨_,λ T=>oMm ["self","holder","place","name","box"] T.tD λ hr nd =>
 (aj (cD (bw T.aH (b5 T) hr (aa 0) (bW (aa 1)))) (aj (cD (ak (l9 T) hr (cR (aa 2) (aU hr.units (λ _ _=>rfl) (cQ T.aH T.cn (aa 0)) (aa 1))))) (aj (cD (ak (fA T) hr (bW (aa 3)))) (aj (eV (gG (qg (bz (aE AX T.fg (bW (cQ T.aH T.cg (aa 0)))) ab) (Mu T.nC))) (aV ko) cC) (aj (eV (gG (qg (bz (ak (sM T) hr (cR (aa 0) (aa 1))) ab) (Mu T.pL))) (aV ko) cC) (aj (aX 4 nd (he:=fI T.aH (iX T) hr (aJ 0) (aO (dW (aa 1)) (aO (dW (aa 3)) dw)))) (aj (om (jv (fF hr) (λ _ _=>rfl) (dU T.aH T.cn (aJ 0)) (aa 1)) (aa 2) (bB (aa 4))) (aV (fG (aD (bB (aa 4))))))))))))⟩
noncomputable def iN (t:Adr):=kP 5 4 (iL t).1
theorem sQ (T:Txt K mg t):GoM P w K mg base 5 t.ai "put" (spM (iN t) K):=(iL t).2 T
noncomputable def cZ (F:List D->Option Sl):{G:DS // ∀ {t:Adr} {P:Program} {w:World} {K:W.Frag} {mg:Str->Option Value} {base:Heap} (n:Nat),Txt K mg t->Go P w K mg base (2+n) "_law_trait" (spF F K)->Go P w K mg base (2+n+1) "_law_trait" (spF (bU 5 4 G) K)}:=⟨_,λ n T hF=>oD ["_law_cell_here","_law_way","_law_pool_here","_law_deep","_law_draw"] T.i0 λ hr nd =>
 (ae (eh 4 nd (ak (hj:=lvl) (be T) hr (cR (aa 0) (bz (aa 1) ab)))) (ae (aw (cX (cP (bV (aa 3) ab) (cV (Hd (bG (aa 4) ab) ab)))) (af (ao (ak (hj:=lvl) (iV T) hr (gL (aa 0) (aa 1) (aa 2))))) aq) (ae (aw (bV (bG (aa 4) ab) ab) (af (ao (cu (cR aF (ak (hj:=Zi _) hF hr (aA (aa 0) (gL (bz (aa 1) ab) (aa 2) (kE (aa 3) ab)))))))) aq) (af (ao (cu (cR aF (gK qe T.oO (bW (aR (h9 (ckN [("_law_cell_here",0),("_law_pool_here",2),("_law_deep",3),("_law_way",1)]) (bQ T.fk (bW (bG (a9 (aa 4) ab) ab))) (λ _ _ _ _=>(ak (hj:=Zi _) hF hr (aA (aa 1) (gL (bz (bz (aa 4) (jc ab (aa 0))) ab) (aa 2) (kE (aa 3) ab))))))))))))))))⟩
noncomputable def b6:Nat->List D->Option Sl
 | 0=>λ _=>none
 | n+1=>bU 5 4 (cZ (b6 n)).1
theorem g0 (T:Txt K mg t):∀ n,Go P w K mg base (2+n) "_law_trait" (spF (b6 n) K)
 | 0=>oNv T.i0
 | n+1=>(cZ _).2 n T (g0 T n)
noncomputable def fY:List D->Option Sl:=b6 3
theorem nr (T:Txt K mg t):Go P w K mg base 5 "_law_trait" (spF (fY) K):=g0 T 3
noncomputable def iK:gO0 (gFD 5 "_law_all" 6 5):=⟨_,λ T=>oD ["_law_rows","_law_facts","_law_marks","_law_traits","_law_box","_law_one"] T.tz λ hr nd =>
 (ae (cq (fJ (aa 3)) (bu 5 nd) (af (aw (bc (a7 (ak (sP T) hr (aA (aa 0) (aA (aa 1) (gL (aa 2) (aa 5) (aa 4))))))) (af (ao aP)) aq))) (af (ao aP)))⟩
noncomputable def eJ:=bU 6 5 (iK).1
theorem lC (T:Txt K mg t):Go P w K mg base 5 "_law_all" (spF (eJ) K):=(iK).2 T
noncomputable def gQ (t:Adr):gOM (gFM 6 "_law_grow" 13 7) t:=⟨_,λ T=>oM ["_law_tree","_law_rows","_law_facts","_law_marks","_law_pool_here","_law_cell_here","_law_way","_law_draw","_law_number","_law_holder","_law_place","_law_name_here","_law_k"] T.p5 λ hr nd =>
 (aj (aX 7 nd (he:=aD (bB (ak (be T) hr (cR (aa 5) (aa 6)))))) (aj (aX 8 nd (he:=aD (xn (aE AX T.fg (bW (aa 1)))))) (aj (aX 9 nd (he:=aD (bB (kE (aa 8) ab)))) (aj (eV (gG (bV (bG (aa 7) ab) ab)) (aV (aX 9 nd (he:=aD (bB ab)))) cC) (aj (eV (gG (qg (bG (aa 7) ab) ab)) (aV (aX 9 nd (he:=aD (bB (bG (a9 (aa 7) ab) (aa 8)))))) cC) (aj (aX 10 nd (he:=aD (xn (bG (ak (be T) hr (cR (aa 5) (bz (aa 6) ab))) (bz (aE gn T.fg (bW (aU hr.units (λ _ _=>rfl) (aa 1) (aa 9)))) ab))))) (aj (aX 11 nd (he:=aD (bB (aN (aa 4) (bG (a9 (aa 7) ab) ab))))) (aj (eG (fI T.aH (sQ T) hr (aJ 0) (aO (dW (aa 9)) (aO (dW (aa 10)) (aO (dW (aa 11)) dw))))) (aj (om (jv (fF hr) (λ _ _=>rfl) (aJ 1) (aa 9)) (aa 10) (bB (aa 8))) (aj (bJ (fF hr) (aJ 1) (aa 8) (aD (lS (aW bF)))) (aj (bJ (fF hr) (aJ 2) (aa 8) (aD (bB (cu (cR (aa 9) (aa 11)))))) (aj (bJ (fF hr) (aJ 3) (aa 8) (aD (lS (aW bF)))) (aV (kq (bQ T.fk (bW ab)) (gf 12 nd) (aV (eV (gG (bV (bG (ak (be T) hr (cR (aa 5) (bz (bz (aa 6) ab) (aa 12)))) ab) ab)) (aj (eG (fI T.aH (jO T) hr (aJ 0) (aO (dW (aa 8)) (aO (dW (aN (aa 4) (aa 12))) dw)))) (aV (oo (jv (fF hr) (λ _ _=>rfl) (aJ 3) (aa 8)) (bB (aN (aa 4) (aa 12)))))) cC))))))))))))))))⟩
noncomputable def fe (t:Adr):=kP 13 7 (gQ t).1
theorem pE (T:Txt K mg t):Go P w K mg base 6 "_law_grow" (spM (fe t) K):=(gQ t).2 T
noncomputable def d6:gO0 (gFD 6 "_law_reached" 7 6):=⟨_,λ T=>oD ["_law_rows","_law_facts","_law_marks","_law_step","_law_early","_law_box","_law_one"] T.kZ λ hr nd =>
 (ae (aw (bc (a7 (ak (lC T) hr (aA (aa 0) (aA (aa 1) (gL (aa 2) (kN 3) (aa 5))))))) (af (ao aP)) aq) (ae (aw (bV (kN 3) aF) (af (ao aP)) aq) (ae (cq (kB (aa 4)) (bu 6 nd) (af (aw (a7 (ak (iW T) hr (aA (aa 0) (aA (aa 1) (gL (kN 3) (aa 6) (aa 5)))))) (af (ao aP)) aq))) (af (ao aP)))))⟩
noncomputable def cT:=bU 7 6 (d6).1
theorem kS (T:Txt K mg t):Go P w K mg base 6 "_law_reached" (spF (cT) K):=(d6).2 T
noncomputable def cS:gO0 (gFD 6 "_law_pattern" 10 4):=⟨_,λ T=>oD ["_law_cell_here","_law_way","_law_pool_here","_law_most","_law_steps","_law_draw","_law_k","_law_join","_law_many_here","_law_traits"] T.k5 λ hr nd =>
 (ae (dk 4 nd (he:=aW bF)) (ae (eh 5 nd (ak (be T) hr (cR (aa 0) (aa 1)))) (ae (cq (bQ T.fk (bW (bz ab (bG (aa 5) (aa 3))))) (bu 6 nd) (ae (eh 7 nd aF) (ae (aw (qg (aa 6) ab) (af (eh 7 nd (aN (aR (aW (aA aF (gL aF aF aF)))) (bG (ak (be T) hr (cR (aa 0) (bz (bz (aa 1) ab) (aa 6)))) ab)))) aq) (ae (eh 8 nd (aN (aR (aW (aA ab (aA ab (gL ab ab ab))))) (bG (ak (be T) hr (cR (aa 0) (bz (bz (aa 1) ab) (aa 6)))) ab))) (ae (qj 9 nd (ckN [("_law_cell_here",0),("_law_pool_here",2),("_law_way",1),("_law_k",6)]) (hi:=bQ T.fk (bW (aa 8))) (he:=(λ _ _ _ _=>(ak (nr T) hr (aA (aa 1) (gL (bz (bz (bz (aa 3) ab) (jc ab (aa 4))) (jc ab (aa 0))) (aa 2) ab)))))) (ae (aw (bV (bG (a9 (ak (be T) hr (cR (aa 0) (bz (bz (aa 1) ab) (aa 6)))) ab) ab) ab) (af (eh 9 nd (aR (zP (aR (aW (bW (ak (iV T) hr (gL (aa 0) (bz (bz (aa 1) ab) (aa 6)) (aa 2)))))) ab)))) aq) (af (kr 4 (he:=cu (cR (aa 7) (gK qe T.oO (bW (aa 9))))))))))))) (af (oq 4 (ao (gK qe T.oO (bW (aa 4)))))))))⟩
noncomputable def bX:=bU 10 4 (cS).1
theorem gu (T:Txt K mg t):Go P w K mg base 6 "_law_pattern" (spF (bX) K):=(cS).2 T
noncomputable def d7:gO0 (gFD 6 "_law_chained" 8 6):=⟨_,λ T=>oD ["_law_rows","_law_facts","_law_marks","_law_pattern_here","_law_chain","_law_box","_law_k","_law_one"] T.k6 λ hr nd =>
 (ae (aw (cX (cP (bc (a7 (aE tI T.bZ (cR (aa 4) (iE (n:="list") T.jy))))) (cP (jt (aE gn T.fg (bW (aa 4))) (aE gn T.fg (bW (aa 3)))) (cV (bc (a7 (ak (jL T) hr (cR (aR (kA (aa 4) (bT (ox ab)) cF)) (aR (aW (bW (aa 5)))))))))))) (af (ao aP)) aq) (ae (cq (iD T.gy (bW (aa 4))) (ou (n:=2) (eW (bu 6 nd) (eW (bu 7 nd) lT))) (ae (aw (cX (cP (bc (a7 (ak (iU T) hr (bW (aa 7))))) (cP (jb hr.units rfl (aa 7) (aa 0)) (cV (bc (a7 (ak (lC T) hr (aA (aa 0) (aA (aa 1) (gL (aa 2) (aN (aN (aa 3) (aa 6)) ab) (aa 7))))))))))) (af (ao aP)) aq) (af (aw (qg (aa 6) ab) (af (aw (bc (a7 (ak (iW T) hr (aA (aa 0) (aA (aa 1) (gL (aN (aN (aa 3) (aa 6)) ab) (aN (aa 4) (kE (aa 6) ab)) (aa 7))))))) (af (ao aP)) aq)) aq)))) (af (ao aP))))⟩
noncomputable def cU:=bU 8 6 (d7).1
theorem kT (T:Txt K mg t):Go P w K mg base 6 "_law_chained" (spF (cU) K):=(d7).2 T
noncomputable def gR (t:Adr):gOD (gFD 7 "_law_ends" 6 4) t:=⟨_,λ T=>oD ["_law_rows","_law_facts","_law_marks","_law_pattern_here","_law_early","_law_step"] T.p6 λ hr nd =>
 (ae (dk 4 nd (he:=aW bF)) (ae (cq (fJ (aa 3)) (bu 5 nd) (af (oq 4 (dk 4 nd (he:=tM (ckN [("_law_rows",0),("_law_facts",1),("_law_marks",2),("_law_step",5),("_law_early",4)]) (kB (ak (nq T) hr (cR (aa 0) ab))) (λ _ _ _ _=>(a7 (ak (kS T) hr (aA (aa 1) (aA (aa 2) (aA (aa 3) (gL (aa 4) (aa 5) (aa 0)))))))) (λ _ _ _ _=>(aa 0))))))) (af (iC 4))))⟩
noncomputable def dJ (t:Adr):=bU 6 4 (gR t).1
theorem pF (T:Txt K mg t):Go P w K mg base 7 "_law_ends" (spF (dJ t) K):=(gR t).2 T
noncomputable def aQ (t:Adr) (F:List D->Option Sl):{G:DS // ∀ {P:Program} {w:World} {K:W.Frag} {mg:Str->Option Value} {base:Heap} (n:Nat),Txt K mg t->Go P w K mg base (4+n) "has_trait" (spF F K)->Go P w K mg base (4+n+1) "has_trait" (spF (bU 6 3 G) K)}:=⟨_,λ n T hF=>oD ["tree","box","told","kind","spot","place"] T.ka λ hr nd =>
 (ae (eh 3 nd (kN 2)) (ae (aw (bV (aa 3) aF) (af (ao aP)) aq) (ae (aw (bV (aa 3) aF) (af (ao (xJ (bw T.aH (hj:=lvl) (kU T) hr (aa 0) (bW (aa 1))) (kN 2)))) aq) (ae (aw (bV (aa 3) aF) (af (ao (Mv (kN 2) (bw T.aH (hj:=lvl) (jN T) hr (aa 0) (bW (aa 1)))))) aq) (ae (aw (bV (aa 3) aF) (af (ao (mG (ak (hj:=Zi _) hF hr (gL (aa 0) (aa 1) (kN 2)))))) aq) (ae (aw (bV (aa 3) aF) (af (ao (aE (Mq rfl) T.I9 (bW (aR (h9 (ckN [("tree",0),("box",1)]) (fJ (kN 2)) (λ _ _ _ _=>(ak (hj:=Zi _) hF hr (gL (aa 1) (aa 2) (aa 0)))))))))) aq) (ae (eh 4 nd (ak (hj:=lvl) (vB T) hr (cR (aa 0) (aa 1)))) (ae (eh 5 nd (xu (bV (aa 3) aF) (kN 4) (bz (kE (kN 4) (kN 4)) ab))) (af (ao (ak (hj:=lvl) (nj T) hr (gL (aa 5) (kN 2) (kN 2)))))))))))))⟩
noncomputable def cH (t:Adr):Nat->List D->Option Sl
 | 0=>λ _=>none
 | n+1=>bU 6 3 (aQ t (cH t n)).1
theorem iT (T:Txt K mg t):∀ n,Go P w K mg base (4+n) "has_trait" (spF (cH t n) K)
 | 0=>oNv T.ka
 | n+1=>(aQ t _).2 n T (iT T n)
noncomputable def dG (t:Adr):List D->Option Sl:=cH t 4
theorem pB (T:Txt K mg t):Go P w K mg base 8 "has_trait" (spF (dG t) K):=iT T 4
noncomputable def fT (t:Adr):gOD (gMD 9 t.cG "fits" 3 3) t:=⟨_,λ T=>oDm ["self","tree","box"] T.nY λ hr nd =>
 (af (ao (ak (pB T) hr (gL (aa 1) (aa 2) (cQ T.mB T.hG (aa 0))))))⟩
noncomputable def c5 (t:Adr):=bU 3 3 (fT t).1
theorem nt (T:Txt K mg t):GoM P w K mg base 9 t.cG "fits" (spF (c5 t) K):=(fT t).2 T
noncomputable def kI (t:Adr):gOD (gFD 10 "has_all" 4 3) t:=⟨_,λ T=>oD ["tree","box","traits","told"] T.wR λ hr nd =>
 (ae (cq (fJ (aa 2)) (bu 3 nd) (af (aw (bc (a7 (bw T.mB (nt T) hr (ak (sJ T) hr (bW (aa 3))) (cR (aa 0) (aa 1))))) (af (ao aP)) aq))) (af (ao aP)))⟩
noncomputable def dH (t:Adr):=bU 4 3 (kI t).1
theorem vD (T:Txt K mg t):Go P w K mg base 10 "has_all" (spF (dH t) K):=(kI t).2 T
end
end N17
end
section
local macro_rules | `(tactic| walk_at "v")=>`(tactic| first | exact .inl rfl | exact .inr rfl | assumption)
local macro_rules | `(tactic| walk_at "w")=>`(tactic| first | exact .inl rfl | exact .inr (.inl rfl) | exact .inr (.inr rfl))
namespace N17
open PySem L2 PySem.W PyProof.Rows
theorem bxE {X:Cx} {e:Expr} {f:DE} (h:Bx (PEd X e f)):PE X e (rdE X.K f):=h.out
theorem bxK {X:Cx} {e:Expr} {f:DE} (K:W.Frag) (h:Bx (PEd X e f)) (hK:X.K=K:=by rfl):PE X e (rdE K f):=by subst hK; exact h.out
def intsOf (ds:List D):List Int:=ds.filterMap λ d=>match d with
 | .int n=>some n
 | _=>none
theorem sX (l:List Int):intsOf (l.map .int)=l:=by
 induction l with
 | nil=>rfl
 | cons x l ih=>exact Yl (x::·) ih
noncomputable def haF (t:Adr) (dT tr:D) (b:Int):Bool:=match dH t [dT,.int b,tr] with
 | some (.shr (.bl c))=>c
 | _=>false
noncomputable def jnF (t:Adr) (dT j:D) (b:Int):List Int:=match cI t [dT,j,.int b] with
 | some (.own (.lst ds))=>intsOf ds
 | _=>[]
def GG:D->D
 | .tup (j::_)=>j
 | _=>.non
def Ho:D->D
 | .tup (_::r::_)=>r
 | _=>.non
noncomputable def rcF (t:Adr) (dT:D) (ss:List D):Nat->Int->Bool
 | 0,b=>haF t dT (Ho (ss.getD 0 .non)) b
 | p+1,b=>haF t dT (Ho (ss.getD (p+1) .non)) b&&(jnF t dT (GG (ss.getD (p+1) .non)) b).any (rcF t dT ss p)
noncomputable def lkF (t:Adr) (dT:D) (ss:List D) (p:Nat) (b:Int):Option Int:=(jnF t dT (GG (ss.getD (p+1) .non)) b).find? (rcF t dT ss p)
structure Rx (t:Adr) (dT:D) (ss:List D) (Bs:List Int):Prop where
 ln:ss.length<=8
 lb:Bs.length<=100
 st:∀ (p:Nat) (s:D),ss[p]?=some s->∃ j tr,s=.tup [j,tr]/\∀ b ∈ Bs,dH t [dT,.int b,tr]=some (.shr (.bl (haF t dT tr b)))/\(p≠0->cI t [dT,j,.int b]=some (.own (.lst ((jnF t dT j b).map .int)))/\∀ c ∈ jnF t dT j b,c ∈ Bs)
def Kn (t:Adr) (dT:D) (ss:List D) (Bs:List Int) (kvs:List (List Key×V)):Prop:=(kvs.map (·.1)).Nodup/\∀ k v,(k,v) ∈ kvs->∃ (p:Nat) (b:Int),p < ss.length/\b ∈ Bs/\k=[.inl (p:Int),.inl b]/\v=.bl (rcF t dT ss p b)
theorem v7 {α:Type} [DecidableEq α]:∀ (l k:List α),l.Nodup->(∀ x ∈ l,x ∈ k)->l.length<=k.length
 | [],_,_,_=>Z1 _
 | x::l,k,nd,h=>by
  rw [Zv] at nd;have hx:=h x (Ze ..)
  have:=v7 l (k.erase x) nd.2 λ y hy=>by
   have ne:y≠x:=λ e=>nd.1 (e ▸ hy)
   exact (List.mem_erase_of_ne ne).mpr (h y (Zd _ hy))
  rw [List.length_erase_of_mem hx] at this;have:0 < k.length:=List.length_pos_of_mem hx;rw [Zz];omega
section
variable {t:Adr} {dT:D} {ss:List D} {Bs:List Int} {kvs:List (List Key×V)}
theorem Kn.nil:Kn t dT ss Bs []:=⟨Xg,λ k v h=>absurd h Z8⟩
theorem Kn.len (x:Rx t dT ss Bs) (h:Kn t dT ss Bs kvs):kvs.length < sizeLine:=by
 have h1:=v7 (kvs.map (·.1)) ((List.range ss.length).flatMap λ (p:Nat)=>Bs.map λ b=>[(.inl (p:Int):Key),.inl b]) h.1 λ k hk=>by
  obtain ⟨⟨k',v⟩,hm,rfl⟩:=Z4.mp hk;obtain ⟨p,b,hp,hb,rfl,_⟩:=h.2 _ _ hm;exact Yi.mpr ⟨p,Xf.mpr hp,Z4.mpr ⟨b,hb,rfl⟩⟩
 have h2:∀ n:Nat,((List.range n).flatMap λ (p:Nat)=>Bs.map λ b=>[(.inl (p:Int):Key),.inl b]).length=n * Bs.length:=λ n=>by
  induction n with
  | zero=>simp
  | succ n ih=>rw [List.range_succ,Ye,Zt,ih]; simp [Nat.succ_mul]
 rw [Za,h2] at h1;have:=Nat.mul_le_mul x.ln x.lb;rw [Y3];omega
theorem Kn.get {k:List Key} {v:V} (h:Kn t dT ss Bs kvs) (e:cL kvs k=some v):∃ (p:Nat) (b:Int),k=[.inl (p:Int),.inl b]/\v=.bl (rcF t dT ss p b):=by
 obtain ⟨⟨k',v'⟩,e1,rfl⟩:=Zm e;have:=List.find?_some e1;obtain ⟨p,b,_,_,h3,h4⟩:=h.2 _ _ (List.mem_of_find?_eq_some e1);exact ⟨p,b,by simpa [h3] using (Xq this).symm,h4⟩
theorem Kn.put {p:Nat} {b:Int} (h:Kn t dT ss Bs kvs) (hp:p < ss.length) (hb:b ∈ Bs):Kn t dT ss Bs (putK kvs [.inl (p:Int),.inl b] (.bl (rcF t dT ss p b))):=by
 unfold putK;split
 ·refine ⟨?_,λ k v hk=>?_⟩
  ·have:(kvs.map λ kv=>if kv.1=[.inl (p:Int),.inl b] then (kv.1,(.bl (rcF t dT ss p b):V)) else kv).map (·.1)=kvs.map (·.1):=by
    rw [Z6];exact Zw λ a _=>by simp only [Function.comp]; split <;> rfl
   rw [this];exact h.1
  ·obtain ⟨⟨k',v'⟩,hm,e⟩:=Z4.mp hk
   split at e
   ·rename_i e1
    cases e;exact ⟨p,b,hp,hb,e1,rfl⟩
   ·cases e
    exact h.2 _ _ hm
 ·rename_i hn
  refine ⟨?_,λ k v hk=>?_⟩
  ·rw [Zk,Yc]
   refine ⟨h.1,Zv.mpr ⟨Z8,Xg⟩,λ x hx y hy e=>hn ?_⟩;rw [Zn.mp hy] at e;obtain ⟨q,hq,rfl⟩:=Z4.mp hx;exact Y6.mpr ⟨q,hq,Zq e⟩
  ·rcases Zg.mp hk with hk | hk
   · exact h.2 _ _ hk
   ·cases Zn.mp hk
    exact ⟨p,b,hp,hb,rfl,rfl⟩
end
theorem mK {α:Type} (f:α->Bool):∀ l:List α,l.any f=(l.find? f).isSome
 | []=>rfl
 | x::l=>by
  rw [Y2,List.find?_cons,mK f l];cases f x <;> rfl
theorem oY {K:W.Frag} {H:Hp}:∀ {xs:List V} {js:List Int},Rps K H xs (js.map .int)->xs=js.map .int
 | [],[],_=>rfl
 | x::xs,j::js,h=>by
  cases h with
  | cons h r =>
   cases h;rw [oY r];rfl
def Upd (H H':Hp) (a:Addr):Prop:=∀ c u,c≠a->H c=some u->H' c=some u
theorem Upd.same {Hs H H':Hp} {a:Addr} (h:Upd H H' a) (s:bp Hs H) (n:Hs a=none):bp Hs H':=λ c u e=>h c u (λ q=>by rw [q,n] at e; cases e) (s c u e)
theorem Upd.trans {H H' H2:Hp} {a:Addr} (h:Upd H H' a) (h':Upd H' H2 a):Upd H H2 a:=λ c u n e=>h' c u n (h c u n e)
theorem Upd.of {H H':Hp} {a:Addr} (h:bp H H'):Upd H H' a:=λ c u _ e=>h c u e
def NG (K:W.Frag) (t:Adr) (dT:D) (ss:List D) (Bs:List Int) (p:Nat) (r:Int->V):Sp:=λ vs H Q _=>∃ Hs vt vp a kvs b,vs=[vt,vp,.int (p:Int),.int b,.ref a]/\bp Hs H/\Rp K Hs vt dT/\Rp K Hs vp (.tup ss)/\Hs a=none/\H a=some (.dT kvs)/\Kn t dT ss Bs kvs/\b ∈ Bs /\
 ∀ H' kvs',Upd H H' a->H' a=some (.dT kvs')->Kn t dT ss Bs kvs'->Q (r b) H'
def Hr:Option Int->V
 | some c=>.int c
 | none=>.non
abbrev xT (K:W.Frag) (t:Adr) (dT:D) (ss:List D) (Bs:List Int) (p:Nat):Sp:=NG K t dT ss Bs p λ b=>.bl (rcF t dT ss p b)
abbrev uo (K:W.Frag) (t:Adr) (dT:D) (ss:List D) (Bs:List Int) (p:Nat):Sp:=NG K t dT ss Bs (p+1) λ b=>Hr (lkF t dT ss p b)
section
variable {P:Program} {w:World} {K:W.Frag} {mg:Str->Option Value} {base:Heap} {t:Adr} {dT:D} {ss:List D} {Bs:List Int}
set_option maxHeartbeats 4000000
theorem qO (T:Txt K mg t) (x:Rx t dT ss Bs) {p:Nat} (hp:p < ss.length) (hl:∀ q,p=q+1->Go P w K mg base (2 * p+11) "link_of" (uo K t dT ss Bs q)) {a0:Addr} {d0:FuncData} (F:Fun K "reaches" "reaches" (top 16) a0 d0):fj P w K mg base CX0 (2 * p+12) a0 d0 ["tree","pattern","place","box","known"] (xT K t dT ss Bs p):=by
 obtain ⟨sp,hsp,f1,d1,p1,m1,k1,b1,o1⟩:∃ sp,(∀ q,p=q+1->sp=uo K t dT ss Bs q)/\∃ f1 d1 p1,mg "link_of"=some (.ref f1)/\keepIn K (.ref f1)=true/\Binds K d1 p1 []/\fj P w K mg base CX0 (2 * p+11) f1 d1 p1 sp:=by
  cases p with
  | zero =>
    obtain ⟨a,d,F,m,bi⟩:=T.j9;exact ⟨_,λ q h=>by omega,a,d,_,m,F.kp,bi,rJ⟩
  | succ q =>
    obtain ⟨f1,d1,p1,m1,k1,b1,o1⟩:=hl q rfl;exact ⟨_,λ q' h=>by cases h; rfl,f1,d1,p1,m1,k1,b1,o1⟩
 refine F.ok (N:=["tree","pattern","place","box","known","key"]) ⟨rfl,rfl,rfl,by decide +kernel,rfl,by decide +kernel,by decide +kernel⟩ (λ vs H Q E h=>by obtain ⟨_,_,_,_,_,_,rfl,_⟩:=h; rfl) λ cdv A outer s H vs Q E hr h=>?_
 obtain ⟨Hs,vt,vp,a,kvs,b,rfl,sm,rt,rp,na,ha,kn,hb,k⟩:=h
 refine ⟨_,cN (iR (i:=5) (show (["tree","pattern","place","box","known","key"]:List Str).Nodup by decide +kernel) rfl (Or.inl rfl) (Ai (aG (pv 2) (aG (pv 3) cf))))
  (cN (uY (uM (m9 (fF hr) (pv 5) (pv 4))) (c7 (uZ (fF hr) (pv 4) (pv 5)
    (An (ak (vD T) hr (gL (aa 0) (aa 3) (aN (aN (aa 1) (aa 2)) ab)) (by omega)).out
      (vh (Fc (xJ (aa 2) ab).out (vh (Fg (Ce (fu o1 (hr.mono (by omega)) rfl m1 k1 b1 .nil jf (aG (pv 0) (aG (pv 1) (aG (pv 2) (aG (pv 3) (aG (pv 4) cf)))))))))))) rfl)) jH)
  (c7 (gs (pj (fF hr) (pv 4) (pv 5) (λ _ _=>rfl))))),?_⟩
 obtain ⟨sp0,es⟩:∃ s0,ss[p]?=some s0:=⟨_,List.getElem?_eq_getElem hp⟩
 obtain ⟨j,tr,rfl,hs⟩:=x.st p _ es;obtain ⟨h1,h2⟩:=hs b hb;have eg:ss.getD p .non=.tup [j,tr]:=by rw [List.getD_eq_getElem?_getD,es]; rfl
 refine ⟨_,rfl,_,rfl,by rw [Y3]; exact (by decide:2<=16777216),λ q hq=>?_⟩;have qa:q≠a:=λ e=>by rw [e,ha] at hq; cases hq
 have s1:bp H (upd H q (.tup [.int (p:Int),.int b])):=az hq _;have ha1:upd H q (.tup [.int (p:Int),.int b]) a=some (.dT kvs):=s1 _ _ ha;have hq1:upd H q (.tup [.int (p:Int),.int b]) q=some (.tup (([.inl (p:Int),.inl b]:List Key).map kV)):=av;generalize upd H q (.tup [.int (p:Int),.int b])=H1 at s1 ha1 hq1 ⊢;refine ⟨_,rfl,_,rfl,a,_,rfl,mR.t ha1 hq1,_,rfl,?_⟩
 cases ev:cL kvs [.inl (p:Int),.inl b] with
 | some v =>
  obtain ⟨p',b',e1,e2⟩:=kn.get ev;have ep:p'=p:=by have:=(List.cons.inj e1).1; have:=Sum.inl.inj this; omega
  have eb:b'=b:=by have:=(List.cons.inj (List.cons.inj e1).2).1; exact (Sum.inl.inj this).symm
  subst ep eb;refine AF ?_
  refine ⟨_,rfl,_,rfl,a,v,rfl,ev ▸ mR.t ha1 hq1,?_⟩;rw [e2];exact k H1 kvs (.of s1) ha1 kn
 | none =>
  refine AE ?_
  have fin:∀ (H2:Hp) (kv2:List (List Key×V)),Upd H1 H2 a->H2 a=some (.dT kv2)->Kn t dT ss Bs kv2->∃ a' H4,(V.ref a)=.ref a'/\zV H2 a' (.ref q) (.bl (rcF t dT ss p b)) H4/\∃ v,some (some (V.ref a))=some (some v)/\∃ y,some (some (V.ref q))=some (some y)/\∃ a2 v2,v=.ref a2/\mR H4 a2 y (some v2)/\Q v2 H4:=λ H2 kv2 u2 h2 kn2=>by
    have hq2:=u2 q _ qa hq1;have z:upd H2 a (.dT (putK kv2 [.inl (p:Int),.inl b] (.bl (rcF t dT ss p b)))) q=some (.tup (([.inl (p:Int),.inl b]:List Key).map kV)):=by rw [ar qa]; exact hq2
    have g:=mR.t (H:=upd H2 a (.dT (putK kv2 [.inl (p:Int),.inl b] (.bl (rcF t dT ss p b))))) (a:=a) (k:=[.inl (p:Int),.inl b]) av z;rw [xP,if_pos rfl] at g;refine ⟨a,_,rfl,zV.t h2 hq2 (kn2.len x),_,rfl,_,rfl,a,_,rfl,g,k _ _ ?_ av (kn2.put hp hb)⟩;intro c u nc hc;rw [ar nc];exact u2 c u nc (s1 c u hc)
  have st1:StR K H1 Hs H1 [some vt,some vp,some (.int (p:Int)),some (.int b),some (.ref a),some (.ref q)] [.shr dT,.shr (.tup ss),.shr (.int (p:Int)),.shr (.int b),.no,.no] []:=.shr rt (.shr rp (.shr (.int _) (.shr (.int _) (.no (.no .nil)))));have ei:oIx (.tup ss) (.int (p:Int))=some (.tup [j,tr]):=iG es;refine ⟨H1,Hs,_,[],.bl (haF t dT tr b),st1,sm.trans s1,?_,λ v Hs' H2 g rv=>?_⟩
  · simp [dFn,au,cz,aC,dOp,dC,ei]
    exact (show (dH t [dT,.int b,tr]).bind slD=_ by rw [h1]; rfl)
  cases rv;have u2:Upd H1 H2 a:=.of g.hh;have ha2:=g.hh _ _ ha1
  cases ec:haF t dT tr b with
  | false =>
    refine ⟨_,rfl,AF ?_⟩
    have:rcF t dT ss p b=false:=by
      cases p with
      | zero=>unfold rcF; rw [eg]; exact ec
      | succ p=>unfold rcF; rw [eg]; show (haF t dT tr b&&_)=_; rw [ec]; rfl
    rw [<- this];exact ⟨_,rfl,_,rfl,fin H2 kvs u2 ha2 kn⟩
  | true =>
    refine ⟨_,rfl,AE ?_⟩;refine ⟨H1,Hs,_,[],.bl (decide (p=0)),st1.ext ⟨.refl _,(sm.trans s1).trans g.hh,g.hh,λ _ h _=>h⟩,(sm.trans s1).trans g.hh,?_,λ v Hs3 H3 g3 rv=>?_⟩
    · simp [aC,dOp,dC,oEq]
      exact (show some (decide ((p:Int)=0))=_ by simp)
    cases rv;have u3:=u2.trans (.of g3.hh);have ha3:=g3.hh _ _ ha2
    cases p with
    | zero =>
      refine ⟨_,rfl,AE ?_⟩;have:rcF t dT ss 0 b=true:=by unfold rcF; rw [eg]; exact ec
      rw [<- this];exact ⟨_,rfl,_,rfl,fin H3 kvs u3 ha3 kn⟩
    | succ p =>
      refine ⟨_,rfl,AF ?_⟩;rw [hsp p rfl];refine ⟨_,rfl,_,rfl,_,rfl,_,rfl,_,rfl,Hs,vt,vp,a,kvs,b,rfl,((sm.trans s1).trans g.hh).trans g3.hh,rt,rp,na,ha3,kn,hb,λ H4 kv4 u4 ha4 kn4=>?_⟩
      have:(!decide (Hr (lkF t dT ss p b)=.non))=rcF t dT ss (p+1) b:=by
       unfold rcF;rw [eg];show _=(haF t dT tr b&&_);rw [ec,Bool.true_and,mK];have:(jnF t dT (GG (.tup [j,tr])) b).find? (rcF t dT ss p)=lkF t dT ss p b:=by unfold lkF; rw [eg]
       rw [this]
       cases lkF t dT ss p b with
       | none=>rfl
       | some c=>rfl
      have fz:=fin H4 kv4 (u3.trans u4) ha4 kn4;rw [<- this] at fz;exact ⟨_,rfl,_,rfl,fz⟩
theorem vw (T:Txt K mg t) (x:Rx t dT ss Bs) {p:Nat} (hp:p+1 < ss.length) (hl:Go P w K mg base (2 * p+12) "reaches" (xT K t dT ss Bs p)) {a0:Addr} {d0:FuncData} (F:Fun K "link_of" "link_of" (top 17) a0 d0):fj P w K mg base CX0 (2 * p+13) a0 d0 ["tree","pattern","place","box","known"] (uo K t dT ss Bs p):=by
 obtain ⟨f1,d1,p1,m1,k1,b1,o1⟩:=hl;refine F.ok (N:=["tree","pattern","place","box","known","one"]) ⟨rfl,rfl,rfl,by decide +kernel,rfl,by decide +kernel,by decide +kernel⟩ (λ vs H Q E h=>by obtain ⟨_,_,_,_,_,_,rfl,_⟩:=h; rfl) λ cdv A outer s H vs Q E hr h=>?_
 obtain ⟨Hs,vt,vp,a,kvs,b,rfl,sm,rt,rp,na,ha,kn,hb,k⟩:=h
 refine ⟨_,cN (m6 .never rfl (ph (ia (pA T) hr (gL (aa 0) (aN (aN (aa 1) (aa 2)) ab) (aa 3)) (by omega)).out) (gB (i:=5) (show (["tree","pattern","place","box","known","one"]:List Str).Nodup by decide +kernel) rfl (Or.inl rfl))
   (c7 (uY (qG (fu o1 (hr.mono (by omega)) rfl m1 k1 b1 .nil jf (aG (pv 0) (aG (pv 1) (aG (B1 Ao (pv 2) lA) (aG (pv 5) (aG (pv 4) cf))))))) (c7 (gs (pv 5))) jH)))
  (c7 (gs vi)),?_⟩
 obtain ⟨sp0,es⟩:∃ s0,ss[p+1]?=some s0:=⟨_,List.getElem?_eq_getElem hp⟩
 obtain ⟨j,tr,rfl,hs⟩:=x.st _ _ es;obtain ⟨h1,h2⟩:=hs b hb;obtain ⟨h2,h3⟩:=h2 (by omega);have eg:ss.getD (p+1) .non=.tup [j,tr]:=by rw [List.getD_eq_getElem?_getD,es]; rfl
 have ei:oIx (.tup ss) (.int ((p+1:Nat):Int))=some (.tup [j,tr]):=iG es;have el:lkF t dT ss p b=(jnF t dT j b).find? (rcF t dT ss p):=by unfold lkF; rw [eg]; rfl
 replace k:∀ H' kvs',Upd H H' a->H' a=some (.dT kvs')->Kn t dT ss Bs kvs'->Q (Hr (lkF t dT ss p b)) H':=k
 rw [el] at k;have st1:StR K H Hs H [some vt,some vp,some (.int ((p+1:Nat):Int)),some (.int b),some (.ref a),none] [.shr dT,.shr (.tup ss),.shr (.int ((p+1:Nat):Int)),.shr (.int b),.no,.no] []:=.shr rt (.shr rp (.shr (.int _) (.shr (.int _) (.no (.no .nil)))));generalize jnF t dT j b=js at h2 h3 k;refine ⟨H,Hs,_,[],.lst (js.map .int),st1,sm,?_,λ l Hs' H1 g ow hl=>?_⟩
 ·simp only [AW,au,cz,aC,dOp,dC,List.getElem?_cons_zero,List.getElem?_cons_succ,Yp,ei]
  exact (show (cI t [dT,j,.int b]).bind slO=_ by rw [h2]; rfl)
 obtain ⟨ls,hl1,hl2⟩:∃ ls,H1 l=some (.lst ls)/\ls=js.map .int:=by
  cases ow with
  | lst h n r=>exact ⟨_,h,oY r⟩
 subst hl2;have la:l≠a:=λ e=>by rw [e,ha] at hl; cases hl
 have ha1:=g.hh _ _ ha;have sm1:=sm.trans g.hh;refine ⟨l,rfl,⟨_,SqL.of hl1⟩,λ n m σ' H'=>m=js.length - n/\n<=js.length/\(js.take n).find? (rcF t dT ss p)=none/\(∃ o,σ'=[some vt,some vp,some (.int ((p+1:Nat):Int)),some (.int b),some (.ref a),o])/\∃ kv',Upd H1 H' a/\H' a=some (.dT kv')/\Kn t dT ss Bs kv',⟨js.length,by simp,Z1 _,rfl,⟨none,rfl⟩,kvs,.of (.refl _),ha1,kn⟩,?_⟩
 rintro n m σ' H2 ⟨rfl,hn,hf,⟨o,rfl⟩,kv2,u2,ha2,kn2⟩
 have hl2:H2 l=some (.lst (js.map .int)):=u2 l _ la hl1
 by_cases hlt:n < js.length
 ·have ej:js[n]?=some js[n]:=List.getElem?_eq_getElem hlt
  have hx:(js.map V.int)[n]?=some (.int js[n]):=by rw [List.getElem?_map,ej]; rfl
  refine .inr ⟨⟨_,_,SqL.of hl2,hx⟩,λ σ' H'=>rcF t dT ss p js[n]=false/\(∃ o,σ'=[some vt,some vp,some (.int ((p+1:Nat):Int)),some (.int b),some (.ref a),o])/\∃ kv',Upd H1 H' a/\H' a=some (.dT kv')/\Kn t dT ss Bs kv',λ σ' H' h=>⟨js.length - (n+1),by omega,rfl,hlt,by rw [List.take_add_one,ej,List.find?_append,hf]; simp [h.1],h.2⟩,?_⟩
  rintro v H3 ⟨rfl,hy⟩
  have ex:=hy _ (SqL.of hl2);rw [hx] at ex;cases ex;refine ⟨_,rfl,_,rfl,_,rfl,_,_,rfl,rfl,_,rfl,_,rfl,Hs,vt,vp,a,kv2,js[n],by show [vt,vp,V.int (((p+1:Nat):Int) - 1),V.int js[n],V.ref a]=_; rw [show ((p+1:Nat):Int) - 1=(p:Int) by omega],u2.same sm1 na,rt,rp,na,ha2,kn2,h3 _ (Xh hlt),λ H4 kv4 u4 ha4 kn4=>⟨_,rfl,?_⟩⟩
  cases ec:rcF t dT ss p js[n] with
  | true =>
   refine AE ⟨_,rfl,?_⟩
   have:js.find? (rcF t dT ss p)=some js[n]:=by
    have e:=Yl (List.find? (rcF t dT ss p)) (Xo n js);rw [List.find?_append,hf,Ym hlt,List.find?_cons,ec] at e;exact e.symm
   rw [this] at k;exact k H4 kv4 ((Upd.of g.hh).trans (u2.trans u4)) ha4 kn4
  | false=>exact AF ⟨rfl,⟨_,rfl⟩,kv4,u2.trans u4,ha4,kn4⟩
 ·have e0:n=js.length:=by omega
  subst e0;rw [List.take_length] at hf;rw [hf] at k;exact .inl ⟨⟨_,SqL.of hl2,by rw [Za]; exact Zi _⟩,k H2 kv2 ((Upd.of g.hh).trans u2) ha2 kn2⟩
theorem yK (T:Txt K mg t) (x:Rx t dT ss Bs) {a0:Addr} {d0:FuncData} (F:Fun K "reaches" "reaches" (top 16) a0 d0) (m0:mg "reaches"=some (.ref a0)) (bi:Binds K d0 ["tree","pattern","place","box","known"] []):∀ p,p < ss.length->fj P w K mg base CX0 (2 * p+12) a0 d0 ["tree","pattern","place","box","known"] (xT K t dT ss Bs p)
 | 0,hp=>qO T x hp (λ q h=>by omega) F
 | p+1,hp=>qO T x hp (λ q h=>by
  cases h;obtain ⟨a1,d1,F1,m1,b1⟩:=T.j9
  exact ⟨a1,d1,_,m1,F1.kp,b1,vw T x hp ⟨a0,d0,_,m0,F.kp,bi,yK T x F m0 bi p (by omega)⟩ F1⟩) F
def NZ (K:W.Frag) (t:Adr) (dT:D) (ss:List D) (Bs:List Int):Sp:=λ vs H Q E=>∃ p,p < ss.length/\xT K t dT ss Bs p vs H Q E
theorem FJ (T:Txt K mg t) (x:Rx t dT ss Bs):Go P w K mg base 28 "reaches" (NZ K t dT ss Bs):=by
 obtain ⟨a0,d0,F,m0,bi⟩:=T.nO;refine ⟨a0,d0,_,m0,F.kp,bi,⟨λ vs H Q E h=>?_,λ A outer s H args us vs Q E hr he hb hv h=>?_⟩⟩
 ·obtain ⟨p,hp,h⟩:=h
  exact (yK (P:=P) (w:=w) (base:=base) T x F m0 bi p hp).len vs H Q E h
 ·obtain ⟨p,hp,h⟩:=h
  have:=x.ln;exact ((yK T x F m0 bi p hp).mono (by omega)).run A outer s H args us vs Q E hr he hb hv h
open Classical in
noncomputable def gj (t:Adr):List D->Option Sl
 | [dT,.tup ss,.lst ds]=>if (∃ Bs,Rx t dT ss Bs/\∀ b ∈ intsOf ds,b ∈ Bs)/\ds=(intsOf ds).map .int/\0 < ss.length/\ds.length<=1000 then some (.own (.lst (((intsOf ds).filter (rcF t dT ss (ss.length - 1))).map .int))) else none
 | _=>none
theorem yN (T:Txt K mg t):Go P w K mg base 31 "fitted" (spF (gj t) K):=by
 obtain ⟨a0,d0,F,m0,bi⟩:=T.zv;refine ⟨a0,d0,_,m0,F.kp,bi,F.ok (N:=["tree","pattern","boxes","known"]) ⟨rfl,rfl,rfl,by decide +kernel,rfl,by decide +kernel,by decide +kernel⟩ (λ vs H Q E h=>?_) λ cdv A outer s H vs Q E hr h=>?_⟩
 ·obtain ⟨Hs,ds,sl,sm,r,e,_⟩:=h
  unfold gj at e;split at e
  · exact r.length
  · cases e
 obtain ⟨Hs,ds,sl,sm,r,e,k⟩:=h
 obtain ⟨dT,ss,ds,rfl⟩:∃ dT ss ds',ds=[dT,.tup ss,.lst ds']:=by
  unfold gj at e;split at e
  · exact ⟨_,_,_,rfl⟩
  · cases e
 simp only [gj] at e;split at e
 case isFalse=>cases e
 rename_i hc;obtain ⟨⟨Bs,x,hB⟩,ed,hn,hl⟩:=hc;cases e;generalize intsOf ds=bs at hB ed k;subst ed;rw [Za] at hl;obtain ⟨f1,d1,p1,m1,k1,b1,o1⟩:=FJ (P:=P) (w:=w) (base:=base) T x
 cases r with
 | @cons vt _ vs _ rt r=>cases r with
  | @cons vp _ vs _ rp r=>cases r with
   | @cons vb _ vs _ rb r =>
 cases r
 obtain ⟨lb,xs,rfl,hlb,rxs⟩:∃ lb xs,vb=.ref lb/\Hs lb=some (.lst xs)/\Rps K Hs xs (bs.map .int):=by
  cases rb with
  | lst h r=>exact ⟨_,_,rfl,h,r⟩
 have exs:=oY rxs;subst exs
 refine ⟨_,cN (iR (i:=3) (show (["tree","pattern","boxes","known"]:List Str).Nodup by decide +kernel) rfl (Or.inr rfl) qK)
  (c7 (gs (qL (cs:=[("tree",0),("pattern",1),("known",3)]) rfl (ckN [("tree",0),("pattern",1),("known",3)]) (ph (pv 2)) (λ s3 H3 fp3 C3=>qG (fu o1 (hr.mono (by decide)) rfl m1 k1 b1 .nil jf (aG (pv 1) (aG (pv 2) (aG (bxK K (kE (aE gn T.fg (bW (aa 2))) ab)) (aG (pv 0) (aG (pv 3) cf))))))) (λ s3 H3 fp3 C3=>pv 0)))),?_⟩
 intro a ha;have s1:bp H (upd H a (.dT [])):=az ha _;have ha1:upd H a (.dT []) a=some (.dT []):=av;have na:Hs a=none:=sm.free ha;have up0:∀ {H'},Upd (upd H a (.dT [])) H' a->bp H H':=λ {H'} u c v e=>u c v (λ z=>by rw [z,ha] at e; cases e) (s1 c v e)
 generalize upd H a (.dT [])=H1 at s1 ha1 up0 ⊢;have sm1:=sm.trans s1;have hl1:=sm1 _ _ hlb;have la:lb≠a:=λ e=>by rw [e,na] at hlb; cases hlb
 refine ⟨_,rfl,lb,rfl,⟨_,SqL.of hl1⟩,λ n m ys H'=>m=bs.length - n/\n<=bs.length/\ys=((bs.take n).filter (rcF t dT ss (ss.length - 1))).map .int/\∃ kv',Upd H1 H' a/\H' a=some (.dT kv')/\Kn t dT ss Bs kv',⟨bs.length,by simp,Z1 _,rfl,[],.of (.refl _),ha1,.nil⟩,?_⟩
 rintro n m ys H2 ⟨rfl,hn2,rfl,kv2,u2,ha2,kn2⟩
 have hl2:H2 lb=some (.lst (bs.map .int)):=u2 lb _ la hl1;have sm2:=u2.same sm1 na
 have lys:(((bs.take n).filter (rcF t dT ss (ss.length - 1))).map V.int).length<=n:=by
  rw [Za];exact Z3 (List.length_filter_le ..) (by rw [Yg]; omega)
 by_cases hlt:n < bs.length
 ·have ej:bs[n]?=some bs[n]:=List.getElem?_eq_getElem hlt
  have hx:(bs.map V.int)[n]?=some (.int bs[n]):=by rw [List.getElem?_map,ej]; rfl
  refine .inr ⟨⟨_,_,SqL.of hl2,hx⟩,by rw [Y3]; omega,?_⟩
  rintro v H3 ⟨e3,hy⟩
  subst e3;have ex:=hy _ (SqL.of hl2);rw [hx] at ex;cases ex;have st3:StR K H3 Hs H3 [some (.int bs[n]),some vt,some vp,some (.ref a)] [.no,.shr dT,.shr (.tup ss),.no] []:=.no (.shr rt (.shr rp (.no .nil)));refine ⟨_,rfl,_,rfl,H3,Hs,_,[],.int ((ss.length:Int) - 1),st3,sm2,rfl,λ v4 Hs4 H4 g4 r4=>?_⟩;cases r4;refine ⟨_,rfl,_,rfl,ss.length - 1,by omega,Hs,vt,vp,a,kv2,bs[n],?_,sm2.trans g4.hh,rt,rp,na,g4.hh _ _ ha2,kn2,hB _ (Xh hlt),λ H5 kv5 u5 ha5 kn5=>⟨_,rfl,?_⟩⟩
  ·show [vt,vp,V.int ((ss.length:Int) - 1),V.int bs[n],V.ref a]=_
   rw [show (ss.length:Int) - 1=((ss.length - 1:Nat):Int) by omega]
  have tk:bs.take (n+1)=bs.take n++[bs[n]]:=by rw [List.take_add_one,ej]; rfl
  have u25:Upd H1 H5 a:=u2.trans ((Upd.of g4.hh).trans u5)
  cases ec:rcF t dT ss (ss.length - 1) bs[n] with
  | true =>
   refine AE ⟨_,rfl,bs.length - (n+1),by omega,rfl,hlt,?_,kv5,u25,ha5,kn5⟩;rw [tk,List.filter_append,Zk];simp [ec]
  | false =>
   refine AF ⟨bs.length - (n+1),by omega,rfl,hlt,?_,kv5,u25,ha5,kn5⟩;rw [tk,List.filter_append,Zk];simp [ec]
 ·have e0:n=bs.length:=by omega
  subst e0;rw [List.take_length] at *;refine .inl ⟨⟨_,SqL.of hl2,by rw [Za]; exact Zi _⟩,by rw [Y3]; omega,λ p hp=>?_⟩;have s2:bp H H2:=up0 u2;exact k _ Hs _ ⟨.refl _,(sm2.trans (az hp _)),s2.trans (az hp _),λ _ h _=>h⟩ ⟨p,rfl,.lst av (sm2.free hp) (Rps.ints _),s2.free hp⟩
theorem zS (cs:List Int) (c:Int):atI ((cs++[c]).map V.int) (-1)=some (.int c):=by
 unfold atI ixN;have h:((cs++[c]).map V.int).length=cs.length+1:=by simp
 rw [if_neg (by decide),if_pos (by rw [h]; omega),h];show ((cs++[c]).map V.int)[(((cs.length+1:Nat):Int)+-1).toNat]?=_;rw [show (((cs.length+1:Nat):Int)+-1).toNat=cs.length by omega,List.getElem?_map,List.getElem?_append_right (Zi _),Xb];rfl
noncomputable def chF (t:Adr) (dT:D) (ss:List D):Nat->Int->List Int
 | 0,b=>[b]
 | p+1,b=>(match lkF t dT ss p b with
  | some c=>chF t dT ss p c
  | none=>[])++[b]
theorem vX (x:Rx t dT ss Bs) {p:Nat} {b:Int} (hp:p+1 < ss.length) (hb:b ∈ Bs) (h:rcF t dT ss (p+1) b=true):∃ c,lkF t dT ss p b=some c/\rcF t dT ss p c=true/\c ∈ Bs:=by
 obtain ⟨s0,es⟩:∃ s0,ss[p+1]?=some s0:=⟨_,List.getElem?_eq_getElem hp⟩
 obtain ⟨j,tr,rfl,hs⟩:=x.st _ _ es;have eg:ss.getD (p+1) .non=.tup [j,tr]:=by rw [List.getD_eq_getElem?_getD,es]; rfl
 unfold rcF at h;rw [eg] at h;have h2:=(Yh _ _ ▸ h:_/\_).2;rw [mK] at h2;obtain ⟨c,hc⟩:=Y1.mp h2;refine ⟨c,?_,List.find?_some hc,((hs b hb).2 (by omega)).2 c (List.mem_of_find?_eq_some hc)⟩;unfold lkF;rw [eg];exact hc
def N0 (K:W.Frag) (t:Adr) (dT:D) (ss:List D) (Bs:List Int):Sp:=λ vs H Q E=>∃ p,p+1 < ss.length/\uo K t dT ss Bs p vs H Q E
theorem JV (T:Txt K mg t) (x:Rx t dT ss Bs):Go P w K mg base 28 "link_of" (N0 K t dT ss Bs):=by
 obtain ⟨a1,d1,F1,m1,b1⟩:=T.nO;obtain ⟨a0,d0,F,m0,bi⟩:=T.j9;have h:∀ p,p+1 < ss.length->fj P w K mg base CX0 (2 * p+13) a0 d0 ["tree","pattern","place","box","known"] (uo K t dT ss Bs p):=λ p hp=>vw T x hp ⟨a1,d1,_,m1,F1.kp,b1,yK T x F1 m1 b1 p (by omega)⟩ F
 refine ⟨a0,d0,_,m0,F.kp,bi,⟨λ vs H Q E h1=>?_,λ A outer s H args us vs Q E hr he hb hv h1=>?_⟩⟩
 ·obtain ⟨p,hp,h2⟩:=h1
  exact (h p hp).len vs H Q E h2
 ·obtain ⟨p,hp,h2⟩:=h1
  have:=x.ln;exact ((h p hp).mono (by omega)).run A outer s H args us vs Q E hr he hb hv h2
open Classical in
noncomputable def cJ (t:Adr):List D->Option Sl
 | [dT,.tup ss,.int b]=>if (∃ Bs,Rx t dT ss Bs/\b ∈ Bs)/\0 < ss.length then (if rcF t dT ss (ss.length - 1) b=true then some (.own (.lst ((chF t dT ss (ss.length - 1) b).map .int))) else some (.shr .non)) else none
 | _=>none
theorem sO (T:Txt K mg t):Go P w K mg base 31 "chain_of" (spF (cJ t) K):=by
 obtain ⟨a0,d0,F,m0,bi⟩:=T.tw;refine ⟨a0,d0,_,m0,F.kp,bi,F.ok (N:=["tree","pattern","box","known","chain","place"]) ⟨rfl,rfl,rfl,by decide +kernel,rfl,by decide +kernel,by decide +kernel⟩ (λ vs H Q E h=>?_) λ cdv A outer s H vs Q E hr h=>?_⟩
 ·obtain ⟨Hs,ds,sl,sm,r,e,_⟩:=h
  unfold cJ at e;split at e
  · exact r.length
  · cases e
 obtain ⟨Hs,ds,sl,sm,r,e,k⟩:=h
 obtain ⟨dT,ss,b,rfl⟩:∃ dT ss b,ds=[dT,.tup ss,.int b]:=by
  unfold cJ at e;split at e
  · exact ⟨_,_,_,rfl⟩
  · cases e
 simp only [cJ] at e;split at e
 case isFalse=>cases e
 rename_i hc;obtain ⟨⟨Bs,x,hB⟩,hn⟩:=hc;obtain ⟨f1,d1,p1,m1,k1,b1,o1⟩:=FJ (P:=P) (w:=w) (base:=base) T x;obtain ⟨f2,d2,p2,m2,k2,b2,o2⟩:=JV (P:=P) (w:=w) (base:=base) T x
 cases r with
 | @cons vt _ vs _ rt r=>cases r with
  | @cons vp _ vs _ rp r=>cases r with
    | @cons vb _ vs _ rb r =>
 cases r;cases rb;have nd:(["tree","pattern","box","known","chain","place"]:List Str).Nodup:=by decide +kernel
 refine ⟨_,cN (iR (i:=3) nd rfl (Or.inl rfl) qK)
  (cN (uY (Af (qG (fu o1 (hr.mono (by decide)) rfl m1 k1 b1 .nil jf (aG (pv 0) (aG (pv 1) (aG (bxE (kE (aE gn T.fg (bW (aa 1))) ab)) (aG (pv 2) (aG (pv 3) cf)))))))) (c7 (gs vi)) jH)
  (cN (iR (i:=4) nd rfl (Or.inl rfl) (Ak (aG (pv 2) cf)))
  (cN (m6 .never rfl (BX rfl T.fk (aG (bxE (kE (aE gn T.fg (bW (aa 1))) ab)) (aG lA (aG (bxE (ox ab)) cf)))) (gB (i:=5) nd rfl (Or.inl rfl))
    (c7 (ft (pk Yu PySem.F.slot_list_append PySem.F.type_list_append jU (pv 4) (aG (fu o2 (hr.mono (by decide)) rfl m2 k2 b2 .nil jf (aG (pv 0) (aG (pv 1) (aG (pv 5) (aG (Fe wo (pv 4) (bxE (ox ab)) (λ _ _=>rfl)) (aG (pv 3) cf)))))) cf)))))
  (c7 (gs (Aj rfl rfl T.jy (by decide +kernel) rfl T.ig (by decide +kernel) (pv 4))))))),?_⟩
 intro a ha;have s1:bp H (upd H a (.dT [])):=az ha _;have ha1:upd H a (.dT []) a=some (.dT []):=av;have na:Hs a=none:=sm.free ha;generalize upd H a (.dT [])=H1 at s1 ha1 ⊢;have sm1:=sm.trans s1;have stN:∀ {H':Hp} (v3 v4 v5:Option V),StR K H' Hs H' [some vt,some vp,some (.int b),v3,v4,v5] [.shr dT,.shr (.tup ss),.shr (.int b),.no,.no,.no] []:=λ v3 v4 v5=>.shr rt (.shr rp (.shr (.int _) (.no (.no (.no .nil)))))
 obtain ⟨L,eL⟩:∃ L,ss.length=L+1:=⟨ss.length - 1,by omega⟩
 have e1:(ss.length:Int) - 1=(L:Int):=by omega
 have e2:ss.length - 1=L:=by omega
 rw [e2] at e;have h8:=x.ln;refine ⟨_,rfl,_,rfl,H1,Hs,_,[],.int ((ss.length:Int) - 1),stN _ _ _,sm1,rfl,λ v2 Hs2 H2 g2 r2=>?_⟩;cases r2;refine ⟨_,rfl,_,rfl,L,by omega,Hs,vt,vp,a,[],b,by rw [e1]; rfl,sm1.trans g2.hh,rt,rp,na,g2.hh _ _ ha1,.nil,hB,λ H3 kv3 u3 ha3 kn3=>⟨_,rfl,?_⟩⟩;have s3:bp H H3:=λ c v q=>u3 c v (λ z=>by rw [z,ha] at q; cases q) ((s1.trans g2.hh) c v q)
 have sm3:=sm.trans s3
 cases ec:rcF t dT ss L b with
 | false =>
  rw [ec,if_neg (by simp)] at e;cases e;exact AE (k .non Hs H3 ⟨.refl _,sm3,s3,λ _ h _=>h⟩ .non)
 | true =>
  rw [ec,if_pos rfl] at e;cases e;refine AF ?_
  refine ⟨_,rfl,by rw [Y3]; exact (by decide:1<=16777216),λ l hl=>?_⟩;have la:l≠a:=λ z=>by rw [z,ha3] at hl; cases hl
  have nl:H l=none:=s3.free hl;have s4:bp H (upd H3 l (.lst [.int b])):=s3.trans (az hl _);have ha4:upd H3 l (.lst [.int b]) a=some (.dT kv3):=az hl _ _ _ ha3;have hl4:upd H3 l (.lst [.int b]) l=some (.lst (([]++[b]:List Int).map .int)):=av;generalize upd H3 l (.lst [.int b])=H4 at s4 ha4 hl4 ⊢;refine ⟨H4,Hs,_,[],.int ((ss.length:Int) - 1),stN _ _ _,sm.trans s4,rfl,λ v5 Hs5 H5 g5 r5=>?_⟩;cases r5;refine ⟨H5,Hs,_,[],.int (-1),stN _ _ _,(sm.trans s4).trans g5.hh,rfl,λ v6 Hs6 H6 g6 r6=>?_⟩;cases r6;refine ⟨_,_,rfl,⟨by omega,by omega,by omega,by omega⟩,?_⟩;have el:((ss.length:Int) - 1 - 0).toNat=L:=by omega
  rw [el];have s6:=s4.trans (g5.hh.trans g6.hh);refine ⟨λ n m σ' H'=>m=L - n/\n<=L/\(∃ o,σ'=[some vt,some vp,some (.int b),some (.ref a),some (.ref l),o])/\bp H H'/\∃ cs c kv,H' l=some (.lst ((cs++[c]).map .int))/\chF t dT ss (L - n) c++cs.reverse=chF t dT ss L b/\rcF t dT ss (L - n) c=true/\c ∈ Bs/\cs.length=n/\H' a=some (.dT kv)/\Kn t dT ss Bs kv,⟨L,by simp,Z1 _,⟨_,rfl⟩,s6,[],b,kv3,(g5.hh.trans g6.hh) _ _ hl4,by simp,by simpa using ec,hB,rfl,(g5.hh.trans g6.hh) _ _ ha4,kn3⟩,?_⟩
  rintro n m σ' H7 ⟨rfl,hn7,⟨o,rfl⟩,s7,cs,c,kv7,hl7,hch,hrc,hc,hcs,ha7,kn7⟩
  by_cases hlt:n < L
  · refine .inr ⟨hlt,λ σ' H'=>(∃ o,σ'=[some vt,some vp,some (.int b),some (.ref a),some (.ref l),o])/\bp H H'/\∃ cs c kv,H' l=some (.lst ((cs++[c]).map .int))/\chF t dT ss (L - (n+1)) c++cs.reverse=chF t dT ss L b/\rcF t dT ss (L - (n+1)) c=true/\c ∈ Bs/\cs.length=n+1/\H' a=some (.dT kv)/\Kn t dT ss Bs kv,λ σ' H' h=>⟨L - (n+1),by omega,rfl,hlt,h⟩,?_⟩
    rintro v8 H8 ⟨e8,rfl⟩
    subst e8;obtain ⟨p,ep⟩:∃ p,L - n=p+1:=⟨L - n - 1,by omega⟩
    have ep2:L - (n+1)=p:=by omega
    rw [ep] at hch hrc;obtain ⟨c',h1,h2,h3⟩:=vX x (by omega) hc hrc;refine ⟨_,rfl,.inl ⟨rfl,_,SqL.of hl7⟩,_,rfl,_,rfl,_,rfl,_,rfl,H8,Hs,_,[],.int (-1),stN _ _ _,sm.trans s7,rfl,λ v9 Hs9 H9 g9 r9=>?_⟩;cases r9;have hl9:=g9.hh _ _ hl7;have ha9:=g9.hh _ _ ha7;have s9:=s7.trans g9.hh;refine ⟨l,_,-1,.int c,rfl,rfl,SqL.of hl9,zS cs c,_,rfl,p,by omega,Hs,vt,vp,a,kv7,c,?_,sm.trans s9,rt,rp,na,ha9,kn7,hc,λ HA kvA uA haA knA=>?_⟩
    ·show [vt,vp,V.int ((ss.length:Int) - 1 - n),V.int c,V.ref a]=_
     rw [show (ss.length:Int) - 1 - n=((p+1:Nat):Int) by omega]
    have hlA:=uA _ _ la hl9;have sA:bp H HA:=λ d v q=>uA d v (λ z=>by rw [z,ha] at q; cases q) (s9 d v q)
    refine ⟨l,_,.int c',rfl,(by show [Hr (lkF t dT ss p c)]=_; rw [h1]; rfl),hlA,?_,?_⟩
    ·rw [Za,Zt,hcs,Y3,List.length_singleton]
     omega
    refine ⟨⟨_,rfl⟩,λ d v q=>?_,cs++[c],c',kvA,?_,?_,by rw [ep2]; exact h2,h3,by rw [Zt,hcs]; rfl,?_,knA⟩
    ·rw [ar (λ z=>by rw [z,nl] at q; cases q)]
     exact sA d v q
    ·rw [av,Zk (l₁:=cs++[c])]
     rfl
    ·rw [ep2,<- hch,List.reverse_append]
     have:chF t dT ss (p+1) c=chF t dT ss p c'++[c]:=by
      rw [chF,h1]
     rw [this];simp
    ·rw [ar (Ne.symm la)]
     exact haA
  · have e0:n=L:=by omega
    refine .inl ⟨by show L<=n; omega,?_⟩;have e9:L - n=0:=by omega
    rw [e9] at hch;refine ⟨_,rfl,l,_,rfl,SqL.of hl7,λ q hq=>?_⟩
    have er:((cs++[c]).map V.int).reverse=(chF t dT ss L b).map .int:=by
     rw [<- hch,<- List.map_reverse,List.reverse_append];rfl
    rw [er];exact k _ Hs _ ⟨.refl _,(sm.trans s7).trans (az hq _),s7.trans (az hq _),λ _ h _=>h⟩ ⟨q,rfl,.lst av ((sm.trans s7).free hq) (Rps.ints _),s7.free hq⟩
end
end N17
end
section
local macro_rules | `(tactic| walk_at "v")=>`(tactic| first | exact .inl rfl | exact .inr rfl | assumption)
local macro_rules | `(tactic| walk_at "w")=>`(tactic| first | exact .inl rfl | exact .inr (.inl rfl) | exact .inr (.inr rfl))
namespace N17
open PySem L2
section
variable {P:Program} {w:World} {K:W.Frag} {mg:Str->Option Value} {base:Heap} {t:Adr}
set_option maxHeartbeats 4000000
noncomputable def xC (t:Adr):gOD (gFD 32 "fits" 3 3) t:=⟨_,λ T=>oD ["tree","pattern","box"] T.G2 λ hr nd =>
 (af (ao (DU (ak (yN T) hr (gL (aa 0) (aa 1) (aR (aW (bW (aa 2)))))) (aR (aW bF)))))⟩
noncomputable def sg (t:Adr):=bU 3 3 (xC t).1
theorem FN (T:Txt K mg t):Go P w K mg base 32 "fits" (spF (sg t) K):=(xC t).2 T
noncomputable def DZ (t:Adr):{G:DSm // ∀ {P w K mg base a d},Txt K mg t->Fun K "law" "law" (top 54) a d->fj P w K mg base CX0 33 a d ["_law_script"] (spM (kP 16 1 G) K)}:=⟨_,λ T F=>oLM ["_law_script","_law_pool_here","_law_name_here","_law_tree","_law_rows","_law_facts","_law_marks","_law_k","_law_most","_law_patterns","_law_cell_here","_law_due","_law_box","_law_pattern_here","_law_found","_law_chain"] F λ hr nd =>
 (aj (aX 1 nd (he:=aD (bB (ak (pC T) hr (cR (aa 0) ab))))) (aj (aX 2 nd (he:=aD (bB (aN (aa 1) (bG (ak (bC T) hr (cR (aa 0) ab)) ab))))) (aj (aX 3 nd (he:=xm (jQ T) hr T.Aw (aO (dW (aa 2)) dw))) (aj (aX 4 nd (he:=aD (qk (kc:=.inl 0) lA (lS (aW bF))))) (aj (aX 5 nd (he:=aD (qk (kc:=.inl 0) lA (bB (cu (cR de (aa 2))))))) (aj (aX 6 nd (he:=aD (qk (kc:=.inl 0) lA (lS (aW (bW (aN (aa 1) (bG (ak (bC T) hr (cR (aa 0) ab)) ab)))))))) (aj (eG (fI T.aH (jO T) hr (aJ 3) (aO (dW ab) (aO (Hf (aN (aU hr.units (λ _ _=>rfl) (aa 6) ab) ab)) dw)))) (aj (kq (bQ T.fk (bW (ak (pD T) hr (gL (ak (bC T) hr (cR (aa 0) ab)) ab ab)))) (gf 7 nd) (aV (eG (xo (pE T) hr (aO (rX (aJ 3)) (aO (rX (aJ 4)) (aO (rX (aJ 5)) (aO (rX (aJ 6)) (aO (dW (aa 1)) (aO (dW (ak (bC T) hr (cR (aa 0) (bz ab (aa 7))))) (aO (dW (aa 7)) dw))))))))))) (aj (aX 8 nd (he:=aD (bB ab))) (aj (eV (gG (bV (bG (ak (bC T) hr (cR (aa 0) ab)) ab) ab)) (aV (aX 8 nd (he:=aD (bB ab)))) cC) (aj (aX 9 nd (he:=aD (DP (aW (bW (ak (gu T) hr (aA (ak (bC T) hr (cR (aa 0) ab)) (gL ab (aa 1) (aa 8))))))))) (aj (kq (iD T.gy (bW (aR (kA (aa 0) (bT ab) (bT ab))))) (xq (n:=2) (kC (gf 7 nd) (kC (gf 10 nd) tO))) (aV (oo (aJ 9) (bB (ak (gu T) hr (aA (aa 10) (gL (bz ab (aa 7)) (aa 1) ab))))))) (aj (qh 11 nd (ckN [("_law_rows",4),("_law_facts",5),("_law_marks",6)]) (hi:=kB (aa 9)) (he:=(λ _ _ _ _=>(ia (pF T) hr (aA (aa 1) (gL (aa 2) (aa 3) (aa 0))))))) (aj (qi (i:=4) (jx:=12) [7,12,13,14,15] nd (hb:=af (cq (iD T.gy (bW (aa 9))) (ou (n:=2) (eW (bu 7 nd) (eW (bu 13 nd) lT))) (ae (eh 14 nd (ak (FN T) hr (gL (aa 3) (aa 13) (aa 12)))) (ae (aw (cX (cP (bc (a7 (aE tI T.bZ (cR (aa 14) (iE (n:="bool") T.zW))))) (cV (jt (aa 14) (Mv (aa 12) (aN (aa 11) (aa 7))))))) (af (ao aP)) aq) (ae (eh 15 nd (ak (sO T) hr (gL (aa 3) (aa 13) (aa 12)))) (af (aw (rW (aa 12) (aN (aa 11) (aa 7))) (af (aw (ju (aa 15) de) (af (ao aP)) aq)) (af (aw (bc (a7 (ak (kT T) hr (aA (aa 4) (aA (aa 5) (aA (aa 6) (gL (aa 13) (aa 15) (aa 12)))))))) (af (ao aP)) aq)))))))))) (aV (fG (aD (bB aP))))))))))))))))))⟩
noncomputable def Hn (t:Adr):=kP 16 1 (DZ t).1
end
end N17
end
section
namespace L2
open PySem
section
variable {τ τ':List Sl} {f g h:DE} {x y z d:D}
theorem ag {i:Nat} (q:τ[i]?=some (.shr d)):aC i τ=some d:=by unfold aC; rw [q]
theorem e_v {i:Nat} (q:τ[i]?=some (.shr d):=by rfl):aC i τ=some d:=ag q
theorem e_c:dC d τ=some d:=rfl
theorem ax {o:D->D->Option D} (h1:f τ=some x) (h2:g τ=some y) (h3:o x y=some z):dOp o f g τ=some z:=by unfold dOp; rw [h1,h2]; exact h3
theorem Eh {o:D->Option D} (h1:f τ=some x) (h3:o x=some z):dUn o f τ=some z:=by unfold dUn; rw [h1]; exact h3
theorem ay:cz τ=some []:=rfl
theorem ah {ga:DA} {xs:List D} (h1:f τ=some x) (h2:ga τ=some xs):au f ga τ=some (x::xs):=by unfold au; rw [h1,h2]; rfl
theorem bo {o:List D->Option D} {ga:DA} {xs:List D} (h1:ga τ=some xs) (h2:o xs=some z):jm o ga τ=some z:=by unfold jm; rw [h1]; exact h2
theorem mw {ga:DA} {xs:List D} (h1:ga τ=some xs) (h2:xs.length<=100000):IT ga τ=some (.tup xs):=by unfold IT; rw [h1]; exact if_pos h2
theorem du {ga:DA} {xs:List D} (h1:ga τ=some xs) (h2:xs.length<=100000):Ei ga τ=some (.lst xs):=by unfold Ei; rw [h1]; exact if_pos h2
theorem cy {F:List D->Option Sl} {ga:DA} {xs:List D} {s:Sl} (h1:ga τ=some xs) (h2:F xs=some s) (h3:slD s=some z):dFn F ga τ=some z:=by unfold dFn; rw [h1]; show (F xs).bind slD=_; rw [h2]; exact h3
theorem DH {F:List D->Option Sl} {ga:DA} {xs:List D} {s:Sl} (h1:ga τ=some xs) (h2:F xs=some s) (h3:slO s=some z):AW F ga τ=some z:=by unfold AW; rw [h1]; show (F xs).bind slO=_; rw [h2]; exact h3
theorem Mm {c:DT} {b:Bool} (h1:c τ=some b) (h2:b=true->f τ=some z) (h3:b=false->g τ=some z):dIf c f g τ=some z:=by
 unfold dIf; rw [h1]
 cases b with
 | true=>exact h2 rfl
 | false=>exact h3 rfl
theorem G5 {b:Bool} (h1:f τ=some (.bl b)):zF f τ=some (.bl (!b)):=by unfold zF; rw [h1]; rfl
theorem aB {b:Bool} (h1:f τ=some (.bl b)):dT f τ=some b:=by unfold dT; rw [h1]; rfl
theorem xE {f g:DT} {b c:Bool} (h1:f τ=some b) (h2:b=false->g τ=some c) (h3:b=true->c=true):dOr f g τ=some c:=by
 unfold dOr; rw [h1]
 cases b with
 | false=>exact h2 rfl
 | true=>rw [h3 rfl]; rfl
theorem dR {f:DT} {b:Bool} (h1:f τ=some b):xI f τ=some (!b):=by unfold xI; rw [h1]; rfl
theorem xH:Mp τ=some none:=rfl
theorem ff {i:Int} (h:f τ=some (.int i)):dP f τ=some (some i):=by unfold dP; rw [h]; rfl
theorem AS {l u:DO} {lo hi:Option Int} (h1:f τ=some x) (h2:l τ=some lo) (h3:u τ=some hi) (h4:oSl x lo hi=some z):dSl f l u τ=some z:=by unfold dSl; rw [h1]; show (l τ).bind _=_; rw [h2]; show (u τ).bind _=_; rw [h3]; exact h4
theorem nZ {it:DI} {g:DE} {cs:List (Str×Nat)} {ds es:List D} (h1:it τ=some ds) (hl:ds.length<=100000) (h2:pJ (λ d=>g (.shr d::gq τ cs)) ds=some es):mx it g cs τ=some (.lst es):=by
 unfold mx; rw [h1]; show (if ds.length<=100000 then _ else _)=_; rw [if_pos hl,h2]; rfl
theorem iB {C:Addr} {n:Str} {fs:List (Str×D)} (h1:f τ=some (.obj C fs)) (h2:fs.lookup n=some z):dUn (D6 C n) f τ=some z:=by unfold dUn; rw [h1]; show (if C=C then _ else _)=_; rw [if_pos rfl]; exact h2
theorem eF {C:Addr} {m:Str} {F:List D->Option Sl} {o:DE} {ga:DA} {fs:List (Str×D)} {xs:List D} {s:Sl} (h1:o τ=some (.obj C fs)) (h2:ga τ=some xs) (h0:fs.lookup m=none) (h3:F (.obj C fs::xs)=some s) (h4:slD s=some z):k8 C m F o ga τ=some z:=by
 unfold k8; rw [h1]; show (ga τ).bind _=_; rw [h2]; show (if C=C/\_ then _ else _)=_; rw [if_pos ⟨rfl,h0⟩,h3]; exact h4
theorem rP {C:Addr} {ns:List Str} {ga:DA} {xs:List D} (h1:ga τ=some xs) (h2:xs.length=ns.length):zG C ns ga τ=some (.obj C (ns.zip xs)):=by unfold zG; rw [h1]; exact if_pos h2
theorem ze {ds:List D} (h:f τ=some (.lst ds)):Ee f τ=some ds:=by unfold Ee; rw [h]; rfl
theorem pR {ds:List D} (h:f τ=some (.tup ds)):sZ f τ=some ds:=by unfold sZ; rw [h]; rfl
theorem pS {ga:DA} {j:Int} (h:ga τ=some [.int j]) (h1:-(2 ^ 62)<=j/\j < 2 ^ 62):jZ ga τ=some (oI 0 j.toNat):=by unfold jZ; rw [h]; exact if_pos h1
theorem Jg {i:Nat} {d0:D} {f:DT} {b:Bool} (q:τ[i]?=some (.own d0)) (h:f (τ.set i (.shr d0))=some b):D1 i f τ=some b:=by unfold D1; rw [q]; exact h
end
section
variable {τ τ':List Sl} {f g:DS} {e:DE} {d:D} {o:Out}
theorem aT (h:f τ=some (.next τ')) (h2:g τ'=some o):fh f g τ=some o:=by simp only [fh,h]; exact h2
theorem lq {s:Sl} (h:f τ=some (.ret s)):fh f g τ=some (.ret s):=by simp only [fh,h]
theorem aY {i:Nat} (h:e τ=some d):qB i e τ=some (.next (τ.set i (.shr d))):=by unfold qB; rw [h]; rfl
theorem lp {i:Nat} (h:e τ=some d) (hi:i < τ.length):sy i e τ=some (.next (τ.set i (.own d))):=by unfold sy; rw [if_pos hi,h]; rfl
theorem ba (h:e τ=some d):mO e τ=some (.ret (.shr d)):=by unfold mO; rw [h]; rfl
theorem jE (h:e τ=some d):xW e τ=some (.ret (.own d)):=by unfold xW; rw [h]; rfl
theorem ux {i:Nat} (q:τ[i]?=some (.own d)):uz i τ=some (.ret (.own d)):=by unfold uz; rw [q]
theorem EO (h:e τ=some d):uD e τ=some (.next τ):=by unfold uD; rw [h]; rfl
theorem je {c:DT} {b:Bool} {r:Option Out} (h:c τ=some b) (h1:b=true->f τ=r) (h2:b=false->g τ=r):sIf c f g τ=r:=by
 unfold sIf; rw [h]
 cases b with
 | true=>exact h1 rfl
 | false=>exact h2 rfl
theorem Bh {i:Nat} {ds:List D} (h:e τ=some d) (q:τ[i]?=some (.own (.lst ds))) (hl:ds.length < 100000):z9 i e τ=some (.next (τ.set i (.own (.lst (ds++[d]))))):=by unfold z9; rw [h]; show (match τ[i]? with | some (.own (.lst ds))=>_ | _=>_)=_; rw [q]; exact if_pos hl
theorem EM {i:Nat} (q:τ[i]?=some (.own d)) (h:f (τ.set i (.shr d))=some o):D3 i f τ=some o:=by unfold D3; rw [q]; exact h
theorem oV {it:DI} {gg:DG} {ds:List D} {r:Option Out} (h1:it τ=some ds) (h2:mQ (λ d τ=>(gg d τ).bind f) ds τ=r):xG it gg f τ=r:=by unfold xG; rw [h1]; exact h2
theorem bq {n m:Nat} {b:DS} {ds:List D} {s:Sl} (h:b (fm n ds)=some (.ret s)) (hl:ds.length=m:=by rfl):bU n m b ds=some s:=by
 unfold bU;rw [if_pos hl,h]
theorem j6 {it:DI} {gg:DG} {ds:List D} (P:Nat->List Sl->Prop) (h1:it τ=some ds) (h0:P 0 τ) (hs:∀ j d τ,ds[j]?=some d->P j τ->∃ τ1 τ2,gg d τ=some τ1/\f τ1=some (.next τ2)/\P (j+1) τ2):∃ τ',xG it gg f τ=some (.next τ')/\P ds.length τ':=by
 obtain ⟨τ',e,p⟩:=rH (o:=.next []) (b:=λ d τ=>(gg d τ).bind f) P 0 h0 (λ j d τ hd p=>by
  rw [Nat.zero_add] at *;obtain ⟨τ1,τ2,e1,e2,p2⟩:=hs j d τ hd p
  exact ⟨τ2,by rw [e1]; exact e2,p2⟩)
 rw [Nat.zero_add] at p;exact ⟨τ',oV h1 e,p⟩
theorem jF {lo:Int} {n j:Nat} {d:D} (h:(oI lo n)[j]?=some d):d=.int (lo+j)/\j < n:=by
 unfold oI at h;rw [List.getElem?_map] at h
 by_cases hj:j < n
 ·rw [List.getElem?_range hj] at h
  exact ⟨by simpa using h.symm,hj⟩
 ·rw [List.getElem?_eq_none (by simpa using hj)] at h
  cases h
theorem fo {lo:Int} {n:Nat}:(oI lo n).length=n:=by simp [oI]
end
theorem aM (i j:Int):ie (.int i) (.int j)=some (.int (i+j)):=rfl
theorem cO (i j:Int):Cq (.int i) (.int j)=some (.int (i - j)):=rfl
theorem jS (i j:Int):oLt (.int i) (.int j)=some (.bl (decide (i < j))):=rfl
theorem aS {i j:Int} (h:0 < j):oMod (.int i) (.int j)=some (.int (i % j)):=by
 simp only [oMod,Ne.symm (Int.ne_of_lt h),ne_eq,not_false_eq_true,if_true,Int.fmod_eq_emod_of_nonneg _ (Int.le_of_lt h)]
theorem dS {i j:Int} (h:0 < j) (z:Sz j):oDiv (.int i) (.int j)=some (.int (i / j)):=by
 simp only [oDiv,Ne.symm (Int.ne_of_lt h),ne_eq,not_false_eq_true,z,and_self,if_true,Int.fdiv_eq_ediv_of_nonneg _ (Int.le_of_lt h)]
theorem qT {i j:Int} (h:-(2 ^ 64) < j) (z:j < 2 ^ 64):vF (.int i) (.int j)=some (.int (i * j)):=by
 have:A0 i j:=.inr ⟨h,z⟩;simp only [vF,this,true_or,if_true]
theorem nu {i j:Int} (h:-(2 ^ 64) < i) (z:i < 2 ^ 64):vF (.int i) (.int j)=some (.int (i * j)):=by
 have:A0 i j:=.inl ⟨h,z⟩;simp only [vF,this,true_or,if_true]
theorem Cr {i j:Int} (h:Eo i j):Hu (.int i) (.int j)=some (.int (i ^ j.toNat)):=by
 exact if_pos h
theorem bt (i j:Int):oEq (.int i) (.int j)=some (.bl (decide (i=j))):=rfl
theorem iu (i j:Int):oNe (.int i) (.int j)=some (.bl (!decide (i=j))):=rfl
theorem fC (i j:Str):oEq (.str i) (.str j)=some (.bl (decide (i=j))):=rfl
theorem xA {α:Type} (x:α) (xs:List α):atI (x::xs) 0=some x:=by simp [atI,ixN]
theorem zU {α:Type} (x y:α) (xs:List α):atI (x::y::xs) 1=some y:=by
 have:(1:Int) < ((xs.length+1+1:Nat):Int):=by omega
 simp only [atI,ixN,Zz,this,if_true];rfl
theorem zT {α:Type} (x y z:α) (xs:List α):atI (x::y::z::xs) 2=some z:=by
 have:(2:Int) < ((xs.length+1+1+1:Nat):Int):=by omega
 simp only [atI,ixN,Zz,this,if_true];rfl
theorem oT (d:D):slD (.shr d)=some d:=rfl
theorem br (x:D) (xs:List D):oIx (.tup (x::xs)) (.int 0)=some x:=xA _ _
theorem cA (x y:D) (xs:List D):oIx (.tup (x::y::xs)) (.int 1)=some y:=zU _ _ _
theorem jT (x y z:D) (xs:List D):oIx (.tup (x::y::z::xs)) (.int 2)=some z:=zT _ _ _ _
theorem aK {τ:List Sl} {c:DT} {f g:DS} {r:Option Out} (h:c τ=some false) (h2:g τ=r):fh (sIf c f eu) g τ=r:=by
 simp only [fh,sIf,h,Yp,Bool.false_eq_true,if_false,eu];exact h2
theorem bN {τ:List Sl} {c:DT} {f g:DS} {s:Sl} (h:c τ=some true) (h2:f τ=some (.ret s)):fh (sIf c f eu) g τ=some (.ret s):=by
 simp only [fh,sIf,h,Yp,if_true,h2]
end L2
end
section
namespace L2
open PySem
def Ret (P:D->Prop) (o:Option Out):Prop:=∃ d,o=some (.ret (.shr d))/\P d
def Nx (P:List Sl->Prop) (o:Option Out):Prop:=∃ τ',o=some (.next τ')/\P τ'
section
variable {τ τ':List Sl} {f g:DS} {e e2 e3:DE} {c:DT} {b:Bool} {d x y z:D} {P:D->Prop} {R:List Sl->Prop}
theorem l7 (h:f τ=some (.next τ')) (h2:Ret P (g τ')):Ret P (fh f g τ):=by
 obtain ⟨d,e,p⟩:=h2;exact ⟨d,aT h e,p⟩
theorem JA (h:Nx R (f τ)) (h2:∀ τ',R τ'->Ret P (g τ')):Ret P (fh f g τ):=by
 obtain ⟨τ',e,p⟩:=h;exact l7 e (h2 _ p)
theorem Bm (h:e τ=some d) (p:P d):Ret P (mO e τ):=⟨d,ba h,p⟩
theorem lu (h:e τ=some d) (p:P d):Ret P (fh (mO e) g τ):=⟨d,lq (ba h),p⟩
theorem D4 (h:c τ=some b) (h1:b=true->Ret P (fh f g τ)) (h2:b=false->Ret P (g τ)):Ret P (fh (sIf c f eu) g τ):=by
 cases b with
 | true =>
  obtain ⟨d,e,p⟩:=h1 rfl;refine ⟨d,?_,p⟩;rw [<- e];simp only [fh,sIf,h,Yp,if_true]
 | false =>
  obtain ⟨d,e,p⟩:=h2 rfl;exact ⟨d,aK h e,p⟩
theorem yS (h:f τ=some (.next τ')) (h2:Nx R (g τ')):Nx R (fh f g τ):=by
 obtain ⟨d,e,p⟩:=h2;exact ⟨d,aT h e,p⟩
theorem qZ (p:R τ):Nx R (eu τ):=⟨τ,rfl,p⟩
theorem Ge (h:f τ=some (.next τ')) (p:R τ'):Nx R (f τ):=⟨τ',h,p⟩
theorem IH (h:c τ=some b) (h1:b=true->Nx R (f τ)) (h2:b=false->Nx R (g τ)):Nx R (sIf c f g τ):=by
 cases b with
 | true =>
  obtain ⟨d,e,p⟩:=h1 rfl;exact ⟨d,je h (λ _=>e) (λ q=>nomatch q),p⟩
 | false =>
  obtain ⟨d,e,p⟩:=h2 rfl;exact ⟨d,je h (λ q=>nomatch q) (λ _=>e),p⟩
theorem LH {it:DI} {gg:DG} {ds:List D} (Q:Nat->List Sl->Prop) (h1:it τ=some ds) (h0:Q 0 τ) (hs:∀ j d τ,ds[j]?=some d->Q j τ->∃ τ1,gg d τ=some τ1/\Nx (Q (j+1)) (f τ1)) (h2:∀ τ',Q ds.length τ'->R τ'):Nx R (xG it gg f τ):=by
 obtain ⟨τ',e,p⟩:=j6 Q h1 h0 λ j d τ hd q=>by
  obtain ⟨τ1,e1,τ2,e2,q2⟩:=hs j d τ hd q;exact ⟨τ1,τ2,e1,e2,q2⟩
 exact ⟨τ',e,h2 _ p⟩
theorem zu {n m:Nat} {b:DS} {ds:List D} (h:Ret P (b (fm n ds))) (hl:ds.length=m:=by rfl):∃ d,bU n m b ds=some (.shr d)/\P d:=by
 obtain ⟨d,e,p⟩:=h;exact ⟨d,bq e hl,p⟩
theorem A7 {f g:DT} {b c:Bool} (h1:f τ=some b) (h2:g τ=some c):dOr f g τ=some (b||c):=by
 unfold dOr; rw [h1]; cases b <;> simp [h2]
theorem i9 {b c:Bool} (h1:e τ=some (.bl b)) (h2:e2 τ=some (.bl c)):my e e2 τ=some (.bl (b&&c)):=by
 unfold my; rw [h1]; cases b <;> simp [h2]
theorem zA {b c:Bool} (h1:e τ=some (.bl b)) (h2:e2 τ=some (.bl c)):IV e e2 τ=some (.bl (b||c)):=by
 unfold IV; rw [h1]; cases b <;> simp [h2]
end
theorem Cs {xs ys:List D} (h:oJ 8 xs=true) (h':oJ 8 ys=true):oNe (.lst xs) (.lst ys)=some (.bl (!eqB (.lst xs) (.lst ys))):=by
 unfold oNe eqO;rw [if_pos ⟨h,h'⟩]; rfl
theorem zx {xs:List D}:eqB (.lst xs) (.lst [])=xs.isEmpty:=by
 cases xs with
 | nil=>exact rM _
 | cons x xs=>exact AR (λ h=>by injection h with h; cases h)
theorem j8 {c:D->Option Bool} {g:D->Option D} {t:D->Bool}:∀ {ds:List D},(∀ d ∈ ds,c d=some (t d)/\g d=some d)->Eg c g ds=some (ds.filter t)
 | [],_=>rfl
 | d::ds,h=>by
  obtain ⟨h1,h2⟩:=h d (Ze ..);have ih:=j8 (c:=c) (g:=g) (t:=t) (ds:=ds) λ e m=>h e (Zd _ m)
  unfold Eg;rw [h1]
  cases q:t d with
  | true=>simp [h2,ih,q]
  | false=>simp [ih,q]
theorem xy {α:Type} {xs:List α} {j:Int} (h0:0<=j) (h1:j < xs.length):∃ (h:j.toNat < xs.length),atI xs j=some xs[j.toNat]:=by
 refine ⟨by omega,?_⟩;have e:=iG (xs:=xs) (j:=j.toNat) (List.getElem?_eq_getElem (by omega));rw [show ((j.toNat:Nat):Int)=j by omega] at e;exact e
end L2
end
local macro_rules | `(tactic| walk_at "ee")=>`(tactic| first
 | with_reducible assumption
 | with_reducible exact L2.e_c
 | ((with_reducible apply L2.ag); exact rfl)
 | with_reducible exact L2.ay
 | ((with_reducible apply L2.ah) <;> walk_at "ee")
 | ((with_reducible apply L2.ax) <;> walk_at "ee")
 | ((with_reducible apply L2.mw) <;> walk_at "ee")
 | ((with_reducible apply L2.du) <;> walk_at "ee")
 | ((with_reducible apply L2.iB) <;> walk_at "ee")
 | ((with_reducible apply L2.Eh) <;> walk_at "ee")
 | ((with_reducible apply L2.bo) <;> walk_at "ee")
 | ((with_reducible apply L2.cy) <;> walk_at "ee")
 | ((with_reducible apply L2.rP) <;> walk_at "ee")
 | ((with_reducible apply L2.eF) <;> walk_at "ee")
 | ((with_reducible apply L2.aB) <;> walk_at "ee")
 | ((with_reducible apply L2.dR) <;> walk_at "ee")
 | with_reducible exact L2.xH
 | ((with_reducible apply L2.ff) <;> walk_at "ee")
 | ((with_reducible apply L2.AS) <;> walk_at "ee")
 | ((with_reducible apply t_and2) <;> walk_at "ee")
 | ((with_reducible apply L2.A7) <;> walk_at "ee")
 | ((with_reducible apply L2.i9) <;> walk_at "ee")
 | ((with_reducible apply L2.zA) <;> walk_at "ee")
 | ((with_reducible apply e_get2) <;> walk_at "ee")
 | with_reducible exact L2.oT _
 | with_reducible exact slD_own _
 | with_reducible exact L2.br _ _
 | with_reducible exact L2.cA _ _ _
 | with_reducible exact L2.jT _ _ _ _
 | with_reducible exact L2.aM _ _
 | with_reducible exact L2.cO _ _
 | with_reducible exact L2.bt _ _
 | with_reducible exact L2.iu _ _
 | with_reducible exact L2.jS _ _
 | with_reducible exact L2.fC _ _
 | with_reducible exact oNe_str _ _
 | with_reducible exact L2.aS (by decide)
 | with_reducible exact L2.dS (by decide) (by decide +kernel)
 | with_reducible exact L2.qT (by decide) (by decide)
 | with_reducible exact L2.nu (by decide) (by decide)
 | with_reducible exact L2.xA _ _
 | with_reducible exact L2.zU _ _ _
 | with_reducible exact L2.zT _ _ _ _
 | exact rfl
 | exact Zb rfl
 | skip)
section
namespace N17
open PySem L2
theorem Jy {n m:Nat} {b:DS} {ds:List D} {τ:List Sl} (h:b (fm n ds)=some (.next τ)) (hl:ds.length=m:=by rfl):bU n m b ds=some (.shr .non):=by
 unfold bU;rw [if_pos hl,h]
theorem Jt {τ:List Sl} {c:DT} {f g:DS} {b:Bool} {s:Sl} (h:c τ=some b) (h1:b=true->f τ=some (.ret s)) (h2:b=false->g τ=some (.ret s)):fh (sIf c f eu) g τ=some (.ret s):=by
 cases b with
 | true=>exact bN h (h1 rfl)
 | false=>exact aK h (h2 rfl)
theorem L5 {τ:List Sl} {f:DE} {x:Str} (h:f τ=some (.str x)):zf f τ=some (chD x):=by unfold zf; rw [h]; rfl
def lower (c:Nat):Bool:=decide (97<=c)&&decide (c<=122)
def bE (x:Str):Bool:=(decide (1<=(x.length:Int))&&decide ((x.length:Int)<=8))&&x.cps.toList.all lower
theorem lt1 (c d:Nat):[c] < [d]↔c < d:=by
 constructor
 ·intro z
  cases z with
  | rel h=>exact h
  | cons h=>cases h
 ·intro h
  exact List.Lex.rel h
theorem le1 (c d:Nat):J5 (.str ⟨#[c]⟩) (.str ⟨#[d]⟩)=some (.bl (decide (c<=d))):=by
 show some (D.bl (!decide ([d] < [c])))=_;congr 2
 by_cases h:c<=d
 ·rw [Zq h,Zo]
  · rfl
  ·intro z
   have:=(lt1 d c).mp z;omega
 ·rw [Zo h,Zq]
  · rfl
  · exact (lt1 d c).mpr (by omega)
theorem vP {g:D->Option D} {t:Nat->Bool}:∀ {cs:List Nat},(∀ c ∈ cs,g (.str ⟨#[c]⟩)=some (.bl (t c)))->pJ g (cs.map λ c=>.str ⟨#[c]⟩)=some (cs.map λ c=>.bl (t c))
 | [],_=>rfl
 | c::cs,h=>by
  show (g (.str ⟨#[c]⟩)).bind (λ x=>(pJ g (cs.map λ c=>.str ⟨#[c]⟩)).bind λ xs=>some (x::xs))=_;rw [h c (Ze ..),vP λ c m=>h c (Zd _ m)];rfl
theorem gh (t:Nat->Bool):∀ cs:List Nat,t6 (cs.map λ c=>.bl (t c))=some (cs.map t)
 | []=>rfl
 | c::cs=>by
  show (t6 (cs.map λ c=>.bl (t c))).map (t c::·)=_;rw [gh t cs]; rfl
theorem wx (x:Str) (hx:x.length<=100):kK [.str x]=some (.shr (.bl (bE x))):=by
 unfold kK kH;dsimp only;refine bq ?_
 refine aK (dR (b:=true) (aB (bo (ah e_v (ah e_c ay)) rfl))) ?_
 have hl:tV [.str x]=some (.int (x.length:Int)):=by
  show (if x.length<=100000 then _ else none)=_;rw [if_pos (by omega)]
 refine Jt (dR (aB (i9 (ax e_c (bo (ah e_v ay) hl) rfl) (ax (bo (ah e_v ay) hl) e_c rfl)))) (λ h=>?_) (λ h=>?_)
 ·unfold bE
  rw [Bool.not_eq_true'] at h;rw [h];exact ba e_c
 ·rw [Bool.not_eq_false'] at h
  refine ba (bo (ah (nZ (L5 e_v) ?_ (vP λ c _=>i9 (ax e_c e_v (le1 97 c)) (ax e_v e_c (le1 c 122)))) ay) ?_)
  ·show (x.cps.toList.map _).length<=_
   rw [Za];exact Z3 hx (by decide)
  ·show (t6 _).map _=_
   rw [gh];unfold bE;rw [h];show some (D.bl ((x.cps.toList.map lower).all id))=some (D.bl (x.cps.toList.all lower));rw [List.all_map];rfl
def scr (ns:List Int):D:=.fz (ns.map .int)
theorem C6 (ns:List Int):tV [scr ns]=some (.int ns.length):=by
 show some (D.int ((ns.map D.int).length:Nat))=_;rw [Za]
theorem GJ {ns:List Int} {j:Int} (h0:0<=j) (h1:j < ns.length):∃ c:Int,oIx (scr ns) (.int j)=some (.int c):=by
 obtain ⟨h,e⟩:=xy (xs:=ns.map D.int) h0 (by rw [Za]; exact h1);refine ⟨ns[j.toNat]'(by rw [Za] at h; exact h),?_⟩;show atI (ns.map D.int) j=_;rw [e,List.getElem_map]
theorem jh (c:Int) {w:Int} (w0:0<=w) (w1:w<=10000):∃ r,b8 [.int c,.int w]=some (.shr (.int r))/\0<=r/\r < 1000003:=by
 have m0:=Yb ((c * 48271+w * 7919) % 2147483647 * (16807+2 * w)) (b:=1000003) (by decide);have m1:=Z5 ((c * 48271+w * 7919) % 2147483647 * (16807+2 * w)) (b:=1000003) (by decide);have e1:=qT (i:=(c * 48271+w * 7919) % 2147483647) (j:=16807+2 * w) (by omega) (by omega);refine ⟨_,?_,m0,m1⟩;unfold b8 iJ;refine bq ?_
 refine aT (aY (by walk_at "ee")) ?_
 exact ba (by walk_at "ee")
theorem lQ (ns:List Int) {k:Int} (k0:0<=k):∃ c:Int,cK [scr ns,.int k]=some (.shr (.int c)):=by
 have hl:=C6 ns;have t:=jS k (ns.length:Int);unfold cK gS
 by_cases h:k < (ns.length:Int)
 ·obtain ⟨c,hc⟩:=GJ k0 h
  rw [Zq h] at t;refine ⟨c,bq ?_⟩;exact bN (by walk_at "ee") (ba (by walk_at "ee"))
 ·rw [Zo h] at t
  refine ⟨0,bq ?_⟩;show fh _ _ [.shr (scr ns),.shr (.int k)]=_;exact aK (by walk_at "ee") (ba e_c)
def LET:Str:="abcdefghijklmnopqrstuvwxyz"
def okS (x:Str):Bool:=x.cps.all lower
def One (z:Str):Prop:=z.length=1/\okS z=true
theorem C5:LET.cps.toList.length=26:=by rfl
theorem Gx:∀ c ∈ LET.cps.toList,lower c=true:=by decide +kernel
theorem Ay {k:Int} (k0:0<=k) (k1:k < 26):∃ z:Str,oIx (.str LET) (.int k)=some (.str z)/\One z:=by
 obtain ⟨h,e⟩:=xy k0 (by rw [C5]; omega);refine ⟨⟨#[LET.cps.toList[k.toNat]]⟩,?_,rfl,?_⟩
 ·show (if LET.length<=100000 then (atI LET.cps.toList k).map _ else none)=_
  rw [if_pos (by decide +kernel),e];rfl
 ·unfold okS
  rw [Array.all_eq_true_iff_forall_mem];intro c hc;have e:c=LET.cps.toList[k.toNat]:=by simpa using hc
  rw [e];exact Gx _ (Xh h)
theorem strs_map:∀ ts:List Str,L2.so (ts.map .str)=some ts
 | []=>rfl
 | t::ts=>by
  show (L2.so (ts.map .str)).map _=_;rw [strs_map ts]; rfl
theorem nA {gg:D->Option D}:∀ {ds:List D},(∀ d ∈ ds,∃ z:Str,gg d=some (.str z)/\One z)->∃ ts:List Str,pJ gg ds=some (ts.map .str)/\ts.length=ds.length/\∀ z ∈ ts,One z
 | [],_=>⟨[],rfl,rfl,λ q hq=>nomatch hq⟩
 | d::ds,h=>by
  obtain ⟨q,e1,p1⟩:=h d (Ze ..);obtain ⟨qs,e2,l2,p2⟩:=nA (gg:=gg) (ds:=ds) λ x hx=>h x (Zd _ hx)
  refine ⟨q::qs,by simp only [pJ,e1,e2]; rfl,by simp [l2],λ x hx=>?_⟩;rcases Zl.mp hx with rfl | hx
  · exact p1
  · exact p2 x hx
theorem qy:∀ {ts:List Str},(∀ z ∈ ts,One z)->(ts.map (·.length)).sum=ts.length
 | [],_=>rfl
 | t::ts,h=>by
  rw [Zh,List.sum_cons,(h t (Ze ..)).1,qy λ z hz=>h z (Zd _ hz),Zz];omega
theorem oZ {n:Nat} {d:D} (h:d ∈ oI 0 n):∃ j:Nat,j < n/\d=.int (j:Int):=by
 obtain ⟨j,hj⟩:=List.getElem?_of_mem h;obtain ⟨e,l⟩:=jF hj;exact ⟨j,l,by rw [e]; congr 1; omega⟩
theorem vy {x y:Array Nat} (hx:x.all (lower)=true) (hy:y.all (lower)=true):(x++y).all (lower)=true:=by grind
theorem wL:∀ (ts:List Str) (a:Array Nat),(∀ z ∈ ts,One z)->a.all (lower)=true->(ts.foldl (λ acc p=>acc++(Str.cps "")++p.cps) a).size=a.size+ts.length/\(ts.foldl (λ acc p=>acc++(Str.cps "")++p.cps) a).all (lower)=true
 | [],a,_,h=>⟨rfl,h⟩
 | t::ts,a,h,ha=>by
  have h1:=h t (Ze ..);have h0:(Str.cps "").size=0:=by decide +kernel
  have h1':t.cps.size=1:=h1.1;obtain ⟨e1,e2⟩:=wL ts (a++(Str.cps "")++t.cps) (λ z hz=>h z (Zd _ hz)) (vy (vy ha (by decide +kernel)) h1.2);refine ⟨?_,e2⟩;rw [List.foldl_cons,e1,Array.size_append,Array.size_append,h1',h0,Zz];omega
theorem Dj {ts:List Str} (h:∀ z ∈ ts,One z) (n:ts≠[]):(Txt.join "" ts).length=ts.length/\okS (Txt.join "" ts)=true:=by
 match ts,n with
 | t::ts,_ =>
  have h1:=h t (Ze ..);have h1':t.cps.size=1:=h1.1;obtain ⟨e1,e2⟩:=wL ts t.cps (λ z hz=>h z (Zd _ hz)) h1.2;refine ⟨?_,e2⟩;show (ts.foldl (λ acc p=>acc++(Str.cps "")++p.cps) t.cps).size=_;rw [e1,h1',Zz];omega
theorem G6 {τ:List Sl} {f g:DE} {z:Str} {ts:List Str} (h1:f τ=some (.str z)) (h2:g τ=some (.lst (ts.map .str))) (h3:(ts.map (·.length)).sum+ts.length * z.length<=100000):zH f g τ=some (.str (Txt.join z ts)):=by
 unfold zH;rw [h1];rw [h2];show (L2.so (ts.map .str)).bind _=_;rw [strs_map];exact if_pos h3
theorem Cv (c:Int) {w:Int} (w0:0<=w) (w1:w<=9000):∃ z:Str,fc [.int c,.int w]=some (.shr (.str z))/\bE z=true:=by
 obtain ⟨r,er,r0,r1⟩:=jh c (w:=w+3) (by omega) (by omega)
 obtain ⟨ts,ets,lts,ots⟩:=nA (gg:=λ d=>dOp oIx (aC 1) (dOp oMod (dFn b8 (au (aC 2) (au (dOp ie (aC 3) (dOp vF (dC (.int 5)) (aC 0))) cz))) (dC (.int 26))) [.shr d,.shr (.str LET),.shr (.int c),.shr (.int w)]) (ds:=oI 0 (Int.toNat (1+r % 8))) (by
  intro d hm;obtain ⟨j,hj,rfl⟩:=oZ hm;obtain ⟨q,eq,q0,q1⟩:=jh c (w:=w+5 * (j:Int)) (by omega) (by omega);obtain ⟨z,ez,lz⟩:=Ay (Yb _ (by decide)) (Z5 _ (by decide))
  exact ⟨z,by walk_at "ee",lz⟩)
 rw [fo] at lts;have ne:ts≠[]:=λ z=>by rw [z] at lts; simp at lts; omega
 obtain ⟨jl,jo⟩:=Dj ots ne
 have nk:bE (Txt.join "" ts)=true:=by
  unfold bE
  have jo':(Txt.join "" ts).cps.toList.all lower=true:=by
   rw [Array.all_toList];exact jo
  rw [Zq (by omega),Zq (by omega),jo'];rfl
 refine ⟨Txt.join "" ts,?_,nk⟩;unfold fc gP;dsimp only;refine bq ?_
 refine aT (aY e_c) ?_
 refine aT (aY (by walk_at "ee")) ?_
 exact ba (G6 e_c (nZ (pS rfl (by omega)) (by rw [fo]; omega) ets) (by rw [qy ots,show Str.length ""=0 by decide +kernel]; omega))
theorem As (c:Int) {w:Int} (w0:0<=w) (w1:w<=1000):∃ z:Str,fc [.int c,.int w]=some (.shr (.str z))/\bE z=true:=Cv c w0 (by omega)
theorem eU {z:Str} (h:bE z=true):fW [.str z]=some (.shr .non):=by
 have l:z.length<=100:=by
  unfold bE at h;rw [Yh,Yh] at h;have:=Xq h.1.2;omega
 have e:=wx z l;rw [h] at e;unfold fW fO;exact Jy (je (dR (aB (cy (ah e_v ay) e rfl))) nofun λ _=>rfl)
theorem wa (ns:List Int):tV [.lst (ns.map .int)]=some (.int (ns.length:Int)):=by
 show some (D.int ((ns.map D.int).length:Nat))=_;rw [Za]
theorem k9 {ns:List Int} {p:Int} (h0:0<=p) (h1:p<=ns.length):eZ [.int p,.lst (ns.map .int)]=some (.shr .non):=by
 have hl:=wa ns;have e1:oLe (.int 0) (.int p)=some (.bl true):=by show some (D.bl (decide _))=_; rw [Zq h0]
 have e2:oLe (.int p) (.int (ns.length:Int))=some (.bl true):=by show some (D.bl (decide _))=_; rw [Zq h1]
 unfold eZ eX;exact Jy (je (dR (aB (i9 (ax e_c e_v e1) (ax e_v (bo (ah e_v ay) hl) e2)))) nofun λ _=>rfl)
theorem qv (i:Int):fX [.int i]=some (.shr (.bl true)):=rfl
theorem oU (ns:List Int) (hl:ns.length < 1000):dI [.lst (ns.map .int),.lst (ns.map .int)]=some (.shr (.bl true)):=by
 have hn:=wa ns;have e0:oNe (.int (ns.length:Int)) (.int (ns.length:Int))=some (.bl false):=by rw [iu,Zq rfl]; rfl
 obtain ⟨τ',e,s2,rfl⟩:=j6 (f:=sIf (dOr (xI (dT (dFn fX (au (dOp oIx (aC 0) (aC 2)) cz)))) (dT (dOp oNe (dOp oIx (aC 0) (aC 2)) (dOp oIx (aC 1) (aC 2))))) (mO (dC (.bl false))) eu) (gg:=gN 2) (it:=jZ (au (jm tV (au (aC 1) cz)) cz))
  (λ j τ=>∃ s2,τ=[.shr (.lst (ns.map .int)),.shr (.lst (ns.map .int)),s2]) ((pS (ah (bo (ah e_v ay) hn) ay) (by omega)).trans (by rw [Int.toNat_natCast])) ⟨.no,rfl⟩ (λ j d τ hd ⟨s2,e⟩=>by
    subst e;obtain ⟨e,l⟩:=jF hd;rw [Int.zero_add] at e;subst e
    have hx:oIx (.lst (ns.map .int)) (.int (j:Int))=some (.int ns[j]):=by
     obtain ⟨h,e⟩:=xy (xs:=ns.map D.int) (j:=(j:Int)) (by omega) (by rw [Za]; omega);show atI (ns.map D.int) _=_;rw [e];simp
    have e1:oNe (.int ns[j]) (.int ns[j])=some (.bl false):=by rw [iu,Zq rfl]; rfl
    exact ⟨_,[.shr (.lst (ns.map .int)),.shr (.lst (ns.map .int)),.shr (.int (j:Int))],rfl,je (xE (b:=false) (dR (aB (cy (ah (ax e_v e_v hx) ay) (qv _) rfl))) (λ _=>aB (ax (ax e_v e_v hx) (ax e_v e_v hx) e1)) nofun) nofun λ _=>rfl,_,rfl⟩)
 unfold dI dz;exact bq (aK (xE (b:=false) (dR (b:=true) rfl) (λ _=>aB (ax (bo (ah e_v ay) hn) (bo (ah e_v ay) hn) e0)) nofun) (aT e (ba e_c)))
end N17
end
section
namespace N17
open PySem L2
structure Pl where
 k:List Str
 l:List Str
structure B8 where
 i:Int
 h:Option Int
 n:Str
 r:List Int
 m:Pl
def bD:Pl:=⟨[],[]⟩
def mkD (b:B8):D:=.dct (b.m.k.map λ x=>((.inr x:Key),.bl true))
def wdD (b:B8):D:=.lst []
def roD (b:B8):D:=.tup []
def kv {β:Type} (g:B8->β) (M:List B8):List (Key×β):=M.map λ b=>((.inl b.i:Key),g b)
def fd (M:List B8) (i:Int):Option B8:=M.find? λ b=>decide (b.i=i)
theorem mo {M:List B8} {i:Int} {b:B8} (h:fd M i=some b):b.i=i:=by simpa using List.find?_some h
theorem bA {M:List B8} {i:Int} {b:B8} (h:fd M i=some b):b ∈ M:=List.mem_of_find?_eq_some h
theorem qw (g:B8->D) (M:List B8) (i:Int):ij (kv g M) (.inl i)=(fd M i).map g:=by
 unfold ij kv fd
 induction M with
 | nil=>rfl
 | cons b M ih =>
  rw [Zh,List.find?_cons,List.find?_cons]
  by_cases h:b.i=i
  · simp [h]
  ·have:decide ((Sum.inl b.i:Key)=Sum.inl i)=false:=Zo λ z=>h (by injection z)
   rw [Zo h,this];exact ih
def hD:Option Int->D
 | none=>.non
 | some j=>.int j
def trF (gv:Int) (M:List B8):List (Str×D):=[("given",.int gv),("names",.dct (kv (λ b=>.str b.n) M)),("holders",.dct (kv (λ b=>hD b.h) M)),("boxes",.dct (kv (λ b=>.lst (b.r.map .int)) M)),("marks",.dct (kv mkD M)),("words",.dct (kv wdD M)),("rows",.dct (kv roD M))]
def trD (C:Addr) (gv:Int) (M:List B8):D:=.obj C (trF gv M)
def faD (M:List B8):D:=.dct (kv (λ b=>.tup [hD b.h,.str b.n]) M)
theorem cB {g:B8->D} {M:List B8} {i:Int} {b:B8} (h:fd M i=some b):g7 (.dct (kv g M)) (.int i)=some (g b):=by
 show ij (kv g M) (.inl i)=_;rw [qw,h];rfl
theorem oa {g:B8->D} {M:List B8} {i:Int} {b:B8} (h:fd M i=some b):gC (.int i) (.dct (kv g M))=some (.bl false):=by
 show some (D.bl (!(ij (kv g M) (.inl i)).isSome))=_;rw [qw,h];rfl
theorem rh:∀ (l:List Str) ,nF (l.map λ x=>((.inr x:Key),D.bl true))=some l
 | []=>rfl
 | x::l=>by
  show (nF (l.map λ x=>((.inr x:Key),D.bl true))).map (x::·)=_;rw [rh l];rfl
section
variable {t:Adr} {gv:Int} {M:List B8} {i:Int} {b:B8} {z:Int}
theorem fN:(trF gv M).lookup (Str.ofString "names")=some (D.dct (kv (λ b=>.str b.n) M)):=rfl
theorem fH:(trF gv M).lookup (Str.ofString "holders")=some (D.dct (kv (λ b=>hD b.h) M)):=rfl
theorem fB:(trF gv M).lookup (Str.ofString "boxes")=some (D.dct (kv (λ b=>.lst (b.r.map .int)) M)):=rfl
theorem fK:(trF gv M).lookup (Str.ofString "marks")=some (D.dct (kv mkD M)):=rfl
theorem mC (h:fd M i=some b):dZ t [trD t.ai gv M,.int i]=some (.shr .non):=by
 have e1:=oa (g:=λ b=>.str b.n) h;unfold dZ fS;exact Jy (je (aB (ax e_v (iB e_v fN) e1)) nofun λ _=>rfl)
theorem chk (h:fd M i=some b):uD (k8 t.ai "check" (dZ t) (aC 0) (au (aC 1) cz)) [.shr (trD t.ai gv M),.shr (.int i)]=some (.next [.shr (trD t.ai gv M),.shr (.int i)]) :=
 EO (eF e_v (ah e_v ay) rfl (mC h) rfl)
theorem j0 (h:fd M i=some b):bI t [trD t.ai gv M,.int i]=some (.shr (hD b.h)):=by
 unfold bI c9;exact bq (aT (chk h) (ba (ax (iB e_v fH) e_v (cB h))))
theorem zR (h:fd M i=some b):dN t [trD t.ai gv M,.int i]=some (.own (.lst (b.r.map .int))):=by
 unfold dN dB;exact bq (aT (chk h) (jE (bo (ah (ax (iB e_v fB) e_v (cB h)) ay) rfl)))
theorem yU (h:fd M i=some b) (h64:b.m.k.length < 64):dM t [trD t.ai gv M,.int i]=some (.own (.lst ((D2 b.m.k).map .str))):=by
 unfold dM dA;refine bq (aT (chk h) (jE ?_));unfold rS;rw [ax (iB e_v fK) e_v (cB h)];show (nF (b.m.k.map λ x=>((.inr x:Key),D.bl true))).bind _=_;rw [rh];show (if b.m.k.length < 64 then _ else none)=_;rw [if_pos h64]
inductive Ch (M:List B8):Int->Nat->Prop where
 | top {i:Int} {b:B8} (h:fd M i=some b) (e:b.h=none):Ch M i 0
 | up {i j:Int} {n:Nat} {b:B8} (h:fd M i=some b) (e:b.h=some j) (c:Ch M j n):Ch M i (n+1)
theorem Cw (h:fd M i=some b):d9 t [trD t.ai gv M,.int i]=some (.shr (.str b.n)):=by
 unfold d9 d8;exact bq (aT (chk h) (ba (ax (iB e_v fN) e_v (cB h))))
inductive Hl (M:List B8):Int->List Int->Prop where
 | top {i:Int} {b:B8} (h:fd M i=some b) (e:b.h=none):Hl M i []
 | up {i j:Int} {l:List Int} {b:B8} (h:fd M i=some b) (e:b.h=some j) (c:Hl M j l):Hl M i (j::l)
theorem Hl.get {l:List Int} (h:Hl M i l):∃ b,fd M i=some b:=by
 cases h with
 | top h _=>exact ⟨_,h⟩
 | up h _ _=>exact ⟨_,h⟩
theorem Hl.of {n:Nat} (c:Ch M i n):∃ l,Hl M i l/\l.length=n:=by
 induction c with
 | top h e=>exact ⟨[],.top h e,rfl⟩
 | up h e c ih=>obtain ⟨l,h1,h2⟩:=ih; exact ⟨_::l,.up h e h1,Yl (·+1) h2⟩
theorem nM {l:List Int} (c:Hl M i l):∀ (ds:List D) (b:B8),fd M i=some b->ds.length+l.length < 100000->bM (dT (dOp jR (aC 3) (dC .non))) (fh (z9 2 (aC 3)) (qB 3 (k8 t.ai "holder_of" (bI t) (aC 0) (au (aC 3) cz)))) (l.length+1) [.shr (trD t.ai gv M),.shr (.int z),.own (.lst ds),.shr (hD b.h)]=some (.next [.shr (trD t.ai gv M),.shr (.int z),.own (.lst (ds++l.map .int)),.shr .non]):=by
 induction c with
 | @top i b h e =>
  intro ds b' hb hz;rw [h] at hb;cases hb;rw [e];have t1:dT (dOp jR (aC 3) (dC .non)) [.shr (trD t.ai gv M),.shr (.int z),.own (.lst ds),.shr (hD none)]=some false:=rfl;unfold bM;rw [t1,List.map_nil,Z2];rfl
 | @up i j l b h e c ih =>
  intro ds b' hb hz;rw [h] at hb;cases hb;obtain ⟨bj,hj⟩:=c.get;have hx:=ih (ds++[.int j]) bj hj (by rw [Zt]; show ds.length+1+l.length < _; rw [Zz] at hz; omega);rw [e];have t1:dT (dOp jR (aC 3) (dC .non)) [.shr (trD t.ai gv M),.shr (.int z),.own (.lst ds),.shr (hD (some j))]=some true:=rfl
  have t2:fh (z9 2 (aC 3)) (qB 3 (k8 t.ai "holder_of" (bI t) (aC 0) (au (aC 3) cz))) [.shr (trD t.ai gv M),.shr (.int z),.own (.lst ds),.shr (hD (some j))]=some (.next [.shr (trD t.ai gv M),.shr (.int z),.own (.lst (ds++[.int j])),.shr (hD bj.h)]) :=
   aT ((Bh e_v rfl (by omega)).trans rfl) ((aY (eF e_v (ah e_v ay) rfl (j0 hj) rfl)).trans rfl)
  conv=>lhs; unfold bM
  rw [t1];simp only [t2];rw [List.append_assoc] at hx;exact hx
theorem iA {l:List Int} (c:Hl M i l) (hn:l.length < 1000):fV t [trD t.ai gv M,.int i]=some (.own (.lst (l.map .int))):=by
 obtain ⟨b,h⟩:=c.get;have w:=gX (nM (t:=t) (gv:=gv) (z:=i) c [] b h (by rw [List.length_nil]; omega));unfold fV fM;dsimp only;exact bq (aT (lp (du ay (Z1 _)) (Zb rfl)) (aT ((aY (eF e_v (ah e_v ay) rfl (j0 h) rfl)).trans rfl) (aT w (ux rfl))))
theorem zE {n:Nat} (c:Ch M i n) (hn:n < 1000):iM t [trD t.ai gv M,.int i]=some (.shr (.int (n:Int))):=by
 obtain ⟨l,h,e⟩:=Hl.of c;unfold iM iI;refine bq (ba (bo (ah (cy (ah e_v (ah e_v ay)) (iA h (by omega)) rfl) ay) ?_));show some (D.int ((l.map D.int).length:Int))=_;rw [Za,e]
end
end N17
end
section
namespace N17
open PySem L2
def trG (C:Addr) (g nm ho bx mk wd rw:Mt):Mt:=.n (.o C) [(.inr "given",g),(.inr "names",nm),(.inr "holders",ho),(.inr "boxes",bx),(.inr "marks",mk),(.inr "words",wd),(.inr "rows",rw)]
def kM (g:B8->Mt) (M:List B8):Mt:=.n .d (kv g M)
def mkM (b:B8):Mt:=.n .d (b.m.k.map λ x=>((.inr x:Key),.s (.bl true)))
def wdM (b:B8):Mt:=lM []
def roM (b:B8):Mt:=.s (.tup [])
def bxM (M:List B8):Mt:=kM (λ b=>lM (b.r.map .int)) M
def trM (C:Addr) (gv:Int) (M:List B8):Mt:=trG C (.s (.int gv)) (kM (λ b=>.s (.str b.n)) M) (kM (λ b=>.s (hD b.h)) M) (bxM M) (kM mkM M) (kM wdM M) (kM roM M)
def faM (M:List B8):Mt:=kM (λ b=>.s (.tup [hD b.h,.str b.n])) M
theorem zp (g:B8->Mt) (M:List B8):frz (kM g M)=.dct (kv (λ b=>frz (g b)) M):=by
 unfold kM kv;rw [frz,mh,Z6];rfl
theorem zo (d:D):frz (.s d)=d:=by rw [frz]
theorem lJ (ns:List D):frz (lM ns)=.lst ns:=by
 unfold lM;rw [frz,rF,Z6];congr 1;exact (Zw (g:=id) λ d _=>by show frz (.s d)=id d; rw [frz]; rfl).trans (List.map_id _)
theorem GY (b:B8):frz (mkM b)=mkD b:=by
 unfold mkM mkD;rw [frz,mh,Z6];exact Yl D.dct (Zw λ x _=>by show (_,frz (.s _))=_; rw [zo])
theorem GW (b:B8):frz (wdM b)=wdD b:=by
 unfold wdM wdD;rw [lJ]
theorem GX (b:B8):frz (roM b)=roD b:=by
 unfold roM roD;rw [zo]
theorem AI (C:Addr) (gv:Int) (M:List B8):frz (trM C gv M)=trD C gv M:=by
 unfold trM trG bxM;rw [frz];simp only [rG,Zh,List.map_nil,zp,zo,lJ,GY,GW,GX,strOf];rfl
theorem wJ (M:List B8):frz (bxM M)=.dct (kv (λ b=>.lst (b.r.map .int)) M):=by
 unfold bxM;rw [zp];simp only [lJ]
theorem AJ (M:List B8):frz (faM M)=faD M:=by
 unfold faM faD;rw [zp];simp only [zo]
theorem A5 {C:Addr} {g nm ho bx mk wd rw:Mt} {k:Key}:(trG C g nm ho bx mk wd rw).get [.k (.inr "boxes"),.k k]=bx.get [.k k]:=rfl
theorem oS {C:Addr} {g nm ho bx mk wd rw x:Mt} {k:Key}:(trG C g nm ho bx mk wd rw).put [.k (.inr "boxes"),.k k] x=trG C g nm ho (bx.put [.k k] x) mk wd rw:=rfl
theorem rE (g:B8->Mt) (M:List B8) (i:Int):(kM g M).get [.k (.inl i)]=(fd M i).map g:=by
 unfold kM;rw [zD];unfold kv fd
 induction M with
 | nil=>rfl
 | cons b M ih =>
  rw [Zh,List.find?_cons,List.find?_cons]
  by_cases h:b.i=i
  · simp [h]
  ·have:decide ((Sum.inl b.i:Key)=Sum.inl i)=false:=Zo λ z=>h (by injection z)
   rw [Zo h,this];exact ih
end N17
end
section
namespace N17
open PySem L2
theorem uH {C:Addr} {g ho bx mk wd rw mv:Mt} {cs:List (Key×Mt)} {b:Bool} {r:List Sm} {gk:DE} {fv:DEm} {s:Sm} {d:D} {k:Key} (h1:fv (.mu b (trG C g (.n .d cs) ho bx mk wd rw)::r)=some (s,.mu b (trG C g (.n .d cs) ho bx mk wd rw)::r)) (h3:gk (cb (.mu b (trG C g (.n .d cs) ho bx mk wd rw)::r))=some d) (h4:kX d=some k) (h5:toM s=some mv) (h7:cs.length < 100000) :
  gr (kQ C "names" (dr 0)) gk fv (.mu b (trG C g (.n .d cs) ho bx mk wd rw)::r)=some (.next (.mu b (trG C g (.n .d (jG cs k mv)) ho bx mk wd rw)::r)):=by
 refine (gw h1 (mS c6 rfl) h3 h4 h5 rfl h7).trans ?_
 rfl
theorem pf {C:Addr} {g nm bx mk wd rw mv:Mt} {cs:List (Key×Mt)} {b:Bool} {r:List Sm} {gk:DE} {fv:DEm} {s:Sm} {d:D} {k:Key} (h1:fv (.mu b (trG C g nm (.n .d cs) bx mk wd rw)::r)=some (s,.mu b (trG C g nm (.n .d cs) bx mk wd rw)::r)) (h3:gk (cb (.mu b (trG C g nm (.n .d cs) bx mk wd rw)::r))=some d) (h4:kX d=some k) (h5:toM s=some mv) (h7:cs.length < 100000) :
  gr (kQ C "holders" (dr 0)) gk fv (.mu b (trG C g nm (.n .d cs) bx mk wd rw)::r)=some (.next (.mu b (trG C g nm (.n .d (jG cs k mv)) bx mk wd rw)::r)):=by
 refine (gw h1 (mS c6 rfl) h3 h4 h5 rfl h7).trans ?_
 rfl
theorem uK {C:Addr} {g nm ho mk wd rw mv:Mt} {cs:List (Key×Mt)} {b:Bool} {r:List Sm} {gk:DE} {fv:DEm} {s:Sm} {d:D} {k:Key} (h1:fv (.mu b (trG C g nm ho (.n .d cs) mk wd rw)::r)=some (s,.mu b (trG C g nm ho (.n .d cs) mk wd rw)::r)) (h3:gk (cb (.mu b (trG C g nm ho (.n .d cs) mk wd rw)::r))=some d) (h4:kX d=some k) (h5:toM s=some mv) (h7:cs.length < 100000) :
  gr (kQ C "boxes" (dr 0)) gk fv (.mu b (trG C g nm ho (.n .d cs) mk wd rw)::r)=some (.next (.mu b (trG C g nm ho (.n .d (jG cs k mv)) mk wd rw)::r)):=by
 refine (gw h1 (mS c6 rfl) h3 h4 h5 rfl h7).trans ?_
 rfl
theorem uI {C:Addr} {g nm ho bx wd rw mv:Mt} {cs:List (Key×Mt)} {b:Bool} {r:List Sm} {gk:DE} {fv:DEm} {s:Sm} {d:D} {k:Key} (h1:fv (.mu b (trG C g nm ho bx (.n .d cs) wd rw)::r)=some (s,.mu b (trG C g nm ho bx (.n .d cs) wd rw)::r)) (h3:gk (cb (.mu b (trG C g nm ho bx (.n .d cs) wd rw)::r))=some d) (h4:kX d=some k) (h5:toM s=some mv) (h7:cs.length < 100000) :
  gr (kQ C "marks" (dr 0)) gk fv (.mu b (trG C g nm ho bx (.n .d cs) wd rw)::r)=some (.next (.mu b (trG C g nm ho bx (.n .d (jG cs k mv)) wd rw)::r)):=by
 refine (gw h1 (mS c6 rfl) h3 h4 h5 rfl h7).trans ?_
 rfl
theorem uG {C:Addr} {g nm ho bx mk rw mv:Mt} {cs:List (Key×Mt)} {b:Bool} {r:List Sm} {gk:DE} {fv:DEm} {s:Sm} {d:D} {k:Key} (h1:fv (.mu b (trG C g nm ho bx mk (.n .d cs) rw)::r)=some (s,.mu b (trG C g nm ho bx mk (.n .d cs) rw)::r)) (h3:gk (cb (.mu b (trG C g nm ho bx mk (.n .d cs) rw)::r))=some d) (h4:kX d=some k) (h5:toM s=some mv) (h7:cs.length < 100000) :
  gr (kQ C "words" (dr 0)) gk fv (.mu b (trG C g nm ho bx mk (.n .d cs) rw)::r)=some (.next (.mu b (trG C g nm ho bx mk (.n .d (jG cs k mv)) rw)::r)):=by
 refine (gw h1 (mS c6 rfl) h3 h4 h5 rfl h7).trans ?_
 rfl
theorem yb {C:Addr} {g nm ho bx mk wd mv:Mt} {cs:List (Key×Mt)} {b:Bool} {r:List Sm} {gk:DE} {fv:DEm} {s:Sm} {d:D} {k:Key} (h1:fv (.mu b (trG C g nm ho bx mk wd (.n .d cs))::r)=some (s,.mu b (trG C g nm ho bx mk wd (.n .d cs))::r)) (h3:gk (cb (.mu b (trG C g nm ho bx mk wd (.n .d cs))::r))=some d) (h4:kX d=some k) (h5:toM s=some mv) (h7:cs.length < 100000) :
  gr (kQ C "rows" (dr 0)) gk fv (.mu b (trG C g nm ho bx mk wd (.n .d cs))::r)=some (.next (.mu b (trG C g nm ho bx mk wd (.n .d (jG cs k mv)))::r)):=by
 refine (gw h1 (mS c6 rfl) h3 h4 h5 rfl h7).trans ?_
 rfl
theorem wM {C:Addr} {g nm ho bx mk wd rw mv:Mt} {b:Bool} {r:List Sm} {fv:DEm} {s:Sm} (h1:fv (.mu b (trG C g nm ho bx mk wd rw)::r)=some (s,.mu b (trG C g nm ho bx mk wd rw)::r)) (h5:toM s=some mv) :
  sE C "given" (dr 0) fv (.mu b (trG C g nm ho bx mk wd rw)::r)=some (.next (.mu b (trG C mv nm ho bx mk wd rw)::r)):=by
 refine (Gs h1 c6 h5 rfl (Zb rfl)).trans ?_
 rfl
def Nd (M:List B8):Prop:=(M.map B8.i).Nodup
theorem fd_none {M:List B8} {i:Int}:fd M i=none↔∀ b ∈ M,b.i≠i:=by
 unfold fd;rw [List.find?_eq_none];exact ⟨λ h b hb e=>h b hb (by simp [e]),λ h b hb e=>h b hb (by simpa using e)⟩
theorem pV {M:List B8} (nd:Nd M) {b:B8} (hb:b ∈ M):fd M b.i=some b:=by
 unfold Nd at nd;unfold fd
 induction M with
 | nil=>cases hb
 | cons c M ih =>
  rw [Zh,Zv] at nd;rw [List.find?_cons];rcases Zl.mp hb with rfl | hb
  · simp
  ·have ne:c.i≠b.i:=λ e=>nd.1 (by rw [e]; exact Yr hb)
   rw [Zo ne];exact ih nd.2 hb
theorem Hi {β:Type} (g:B8->β) (M:List B8) (i:Int):((kv g M).any λ c=>decide (c.1=.inl i))=(fd M i).isSome:=by
 unfold kv fd;rw [List.any_map,<- List.isSome_find?];congr 2
 funext b
 show decide ((Sum.inl b.i:Key)=Sum.inl i)=decide (b.i=i);exact Xk.mpr ⟨λ z=>by injection z,λ z=>by rw [z]⟩
theorem yd {g:B8->Mt} {M:List B8} {i:Int} {m:Mt} (h:fd M i=none):jG (kv g M) (.inl i) m=kv g M++[(.inl i,m)]:=by
 unfold jG;rw [Hi,h];rfl
theorem Dh {β:Type} (g:B8->β) (M:List B8) (b:B8):kv g (M++[b])=kv g M++[(.inl b.i,g b)]:=by
 unfold kv;rw [Zk];rfl
theorem gY {g:B8->Mt} {M:List B8} {b:B8} (h:fd M b.i=none):jG (kv g M) (.inl b.i) (g b)=kv g (M++[b]):=by rw [yd h,Dh]
theorem lG {β:Type} (g:B8->β) (M:List B8):(kv g M).length=M.length:=Za _
def upR (M:List B8) (i:Int) (r:List Int):List B8:=M.map λ b=>if b.i=i then { b with r:=r } else b
theorem oP {β:Type} (g:B8->β) (M:List B8) (i:Int) (r:List Int) (hg:∀ b:B8,g { b with r:=r }=g b):kv g (upR M i r)=kv g M:=by
 unfold kv upR;rw [Z6];refine Zw λ b _=>?_
 show ((Sum.inl (if b.i=i then { b with r:=r } else b).i:Key),g (if b.i=i then { b with r:=r } else b))=_;split
 · rw [hg]
 · rfl
theorem Ae {M:List B8} {i:Int} {b:B8} {r:List Int} (nd:Nd M) (h:fd M i=some b):(bxM M).put [.k (.inl i)] (lM (r.map .int))=bxM (upR M i r):=by
 have hb:=bA h;have hi:=mo h;obtain ⟨l1,l2,rfl⟩:=List.append_of_mem hb;have nd':=nd;unfold Nd at nd';rw [Zk,Zh,Yc,Zv] at nd';have n1:∀ c ∈ l1,c.i≠i:=λ c hc e=>nd'.2.2 c.i (Yr hc) b.i (Ze ..) (by rw [e,hi])
 have n2:∀ c ∈ l2,c.i≠i:=λ c hc e=>nd'.2.1.1 (by rw [hi,<- e]; exact Yr hc)
 have ix:((kv (λ b=>lM (b.r.map .int)) (l1++b::l2)).findIdx? λ c=>decide (c.1=.inl i))=some l1.length:=by
  unfold kv;rw [List.findIdx?_map,List.findIdx?_append]
  have e1:(l1.findIdx? ((λ c:Key×Mt=>decide (c.1=Sum.inl i)) ∘ λ b=>((.inl b.i:Key),lM (b.r.map .int))))=none:=by
   rw [List.findIdx?_eq_none_iff];intro c hc;exact Zo λ z=>n1 c hc (by injection z)
  rw [e1,List.findIdx?_cons];have e2:((λ c:Key×Mt=>decide (c.1=Sum.inl i)) ∘ λ b:B8=>((.inl b.i:Key),lM (b.r.map .int))) b=true:=Zq (by show (Sum.inl b.i:Key)=Sum.inl i; rw [hi]);rw [e2];simp
 have gx:(kv (λ b=>lM (b.r.map .int)) (l1++b::l2))[l1.length]?=some ((.inl b.i:Key),lM (b.r.map .int)):=by
  unfold kv;rw [List.getElem?_map,List.getElem?_append_right (Zi _),Xb];rfl
 show (match (kv (λ b=>lM (b.r.map .int)) (l1++b::l2)).findIdx? (λ c=>decide (c.1=.inl i)) with | none=>Mt.n .d (kv (λ b=>lM (b.r.map .int)) (l1++b::l2)) | some j=>match (kv (λ b=>lM (b.r.map .int)) (l1++b::l2))[j]? with | none=>Mt.n .d (kv (λ b=>lM (b.r.map .int)) (l1++b::l2)) | some c=>.n .d ((kv (λ b=>lM (b.r.map .int)) (l1++b::l2)).set j (c.1,Mt.put c.2 [] (lM (r.map .int)))))=_;simp only [ix,gx];congr 1;unfold kv upR;rw [Zk,Zh,Zk,Zh,Zk,Zh,List.set_append_right _ _ (by rw [Za]; exact Zi _),Za,Xb];congr 1
 ·rw [Z6]
  refine Zw λ c hc=>?_
  show _=((Sum.inl (if c.i=i then { c with r:=r } else c).i:Key),lM ((if c.i=i then { c with r:=r } else c).r.map .int));rw [if_neg (n1 c hc)]
 ·show (_,Mt.put (lM (b.r.map .int)) [] (lM (r.map .int)))::_=_
  rw [if_pos hi];congr 1;rw [Z6];refine Zw λ c hc=>?_
  show _=((Sum.inl (if c.i=i then { c with r:=r } else c).i:Key),lM ((if c.i=i then { c with r:=r } else c).r.map .int));rw [if_neg (n2 c hc)]
end N17
end
section
namespace N17
open PySem L2
section
variable {t:Adr} {gv:Int} {M:List B8} {nm:Str} {h:Option Int}
theorem lZ {C:Addr} {b:Bool} {r:List Sm}:cb (.mu b (trM C gv M)::r)=.shr (trD C gv M)::cb r:=by
 show l0 (.mu b (trM C gv M))::_=_;show Sl.shr (frz (trM C gv M))::_=_;rw [AI]
theorem rO (hl:M.length < 1000) (hf:fd M gv=none):f6 t [.mu true (trM t.ai gv M),.shr (hD h),.shr (.str nm)]=some (.shr (.int gv),[.mu true (trM t.ai (gv+1) (M++[⟨gv,h,nm,[],bD⟩])),.no,.no]):=by
 unfold f6 fR;dsimp only;refine (l6 (s:=.shr (.int gv)) (τ:=[.mu true (trM t.ai (gv+1) (M++[⟨gv,h,nm,[],bD⟩])),.shr (hD h),.shr (.str nm),.shr (.int gv)]) ?_).trans rfl;have hz:∀ g:B8->Mt,(kv g M).length < 100000:=λ g=>by rw [lG]; omega
 refine a6 (τ':=[.mu true (trM t.ai gv M),.shr (hD h),.shr (.str nm),.shr (.int gv)]) (eT (s:=.shr (.int gv)) (v_S ?_ rfl) (Zb rfl) rfl) ?_
 ·show dUn (D6 t.ai "given") (aC 0) (cb (.mu true (trM t.ai gv M)::[.shr (hD h),.shr (.str nm),.no]))=_
  rw [lZ];exact iB (ag rfl) rfl
 refine a6 (wM (mv:=.s (.int (gv+1))) (v_N (ax (ag rfl) e_c (aM _ _))) rfl) ?_
 refine a6 (uH (v_N (ag rfl)) (ag rfl) rfl rfl (hz _)) ?_
 refine a6 (pf (v_N (ag rfl)) (ag rfl) rfl rfl (hz _)) ?_
 refine a6 (uK (v_O (du ay (Z1 _)) rfl) (ag rfl) rfl rfl (hz _)) ?_
 refine a6 (uI rfl (ag rfl) rfl rfl (hz _)) ?_
 refine a6 (uG (v_O (du ay (Z1 _)) rfl) (ag rfl) rfl rfl (hz _)) ?_
 refine a6 (yb (v_N (mw ay (Z1 _))) (ag rfl) rfl rfl (hz _)) ?_
 refine (vQ (v_N (ag rfl))).trans ?_
 have sn:∀ g:B8->Mt,jG (kv g M) (.inl gv) (g ⟨gv,h,nm,[],bD⟩)=kv g (M++[⟨gv,h,nm,[],bD⟩]):=λ g=>gY (b:=⟨gv,h,nm,[],bD⟩) hf
 unfold trM bxM kM;rw [<- sn,<- sn,<- sn,<- sn,<- sn,<- sn];rfl
theorem gF {C:Addr} {x:Str} {cs:List (Key×Mt)} {mv:Mt} {b:Bool} {r:List Sm} {fv:DEm} {s:Sm} (h1:fv (.mu b (.n (.o C) cs)::r)=some (s,.mu b (.n (.o C) cs)::r)) (h5:toM s=some mv) (h7:cs.length < 1000) :
 sE C x (dr 0) fv (.mu b (.n (.o C) cs)::r)=some (.next (.mu b (.n (.o C) (jG cs (.inr x) mv))::r)):=(Gs h1 c6 h5 rfl h7).trans rfl
theorem Dq (hn:bE nm=true):dO t [.mu true (.n (.o t.ai) []),.shr (.str nm)]=some (.shr .non,[.mu true (trM t.ai 1 [⟨0,none,nm,[],bD⟩]),.no]):=by
 unfold dO dD;dsimp only;refine (Aa (τ:=[.mu true (trM t.ai 1 [⟨0,none,nm,[],bD⟩]),.shr (.str nm)]) ?_).trans rfl;refine a6 (iy (cy (ah (ag rfl) ay) (eU hn) rfl)) ?_
 refine a6 (gF (v_N e_c) rfl (Zb rfl)) ?_
 refine a6 (gF rfl rfl (Zb rfl)) ?_
 refine a6 (gF rfl rfl (Zb rfl)) ?_
 refine a6 (gF rfl rfl (Zb rfl)) ?_
 refine a6 (gF rfl rfl (Zb rfl)) ?_
 refine a6 (gF rfl rfl (Zb rfl)) ?_
 refine a6 (gF rfl rfl (Zb rfl)) ?_
 have e:=rO (t:=t) (gv:=0) (M:=[]) (nm:=nm) (h:=none) (by decide) rfl;refine nB (s:=.shr (.int 0)) (v_M (C:=t.ai) (i:=0) (q:=[]) (ss:=[.mu true (trM t.ai 0 []),.shr (hD none),.shr (.str nm)]) c6 rfl rfl (cv (q_N e_c) (cv (q_N (ag rfl)) rfl)) rfl e ?_);rfl
end
end N17
end
section
namespace N17
open PySem L2
def insI (r:List Int) (p x:Int):List Int:=r.take p.toNat++x::r.drop p.toNat
theorem AG (r:List Int) (p x:Int):Mt.n .l (IP ((r.map D.int).map λ d=>((.inl 0:Key),Mt.s d)) p.toNat (.s (.int x)))=lM ((insI r p x).map .int):=by
 unfold lM insI IP;rw [Zk,Zk,Zh,Zh,Xv,Xv,Xw,Xw]
theorem AM {M:List B8} {i:Int} {b c:B8} (h:fd M i=some b):fd (M++[c]) i=some b:=by
 unfold fd at *;rw [List.find?_append,h];rfl
theorem Ar {M:List B8} {b:B8} (nd:Nd M) (h:fd M b.i=none):Nd (M++[b]):=by
 unfold Nd at *;rw [Zk,Yc];refine ⟨nd,by simp,λ x hx y hy e=>?_⟩;obtain ⟨c,hc,rfl⟩:=Z4.mp hx;have:y=b.i:=by simpa using hy
 exact fd_none.mp h c hc (by rw [e,this])
theorem GV {i j:Int} (h:i<=j):oGt (.int i) (.int j)=some (.bl false):=by
 show some (D.bl (decide _))=_;rw [Zo (by omega)]
theorem AA {g:B8->D} (M:List B8):yP [.dct (kv g M)]=some (.int (M.length:Int)):=by
 show some (D.int ((kv g M).length:Nat))=_;rw [lG]
def jq (M:List B8) (h:Int) (b:B8) (p gv:Int) (nm:Str):List B8:=upR (M++[⟨gv,some h,nm,[],bD⟩]) h (insI b.r p gv)
theorem Ew {C:Addr} {gv:Int} {M:List B8} {i:Int} {r:List Int}:trM C gv (upR M i r)=trG C (.s (.int gv)) (kM (λ b=>.s (.str b.n)) M) (kM (λ b=>.s (hD b.h)) M) (bxM (upR M i r)) (kM mkM M) (kM wdM M) (kM roM M):=by
 unfold trM kM;rw [oP _ _ _ _ (λ _=>rfl),oP _ _ _ _ (λ _=>rfl),oP _ _ _ _ (λ _=>rfl),oP _ _ _ _ (λ _=>rfl),oP _ _ _ _ (λ _=>rfl)]
section
variable {t:Adr} {gv:Int} {M:List B8} {nm:Str} {h p:Int} {b:B8} {dp:Nat}
theorem EZ (nd:Nd M) (hf:fd M gv=none) (hb:fd M h=some b) (p0:0<=p) (p1:p<=(b.r.length:Int)) (hz:b.r.length < 1000) (hn:bE nm=true) (h90:M.length < 90) (ch:Ch M h dp) (h12:dp < 12) :
  iN t [.mu true (trM t.ai gv M),.shr (.int h),.shr (.int p),.shr (.str nm)]=some (.shr (.int gv),[.mu true (trM t.ai (gv+1) (jq M h b p gv nm)),.no,.no,.no]):=by
 unfold iN iL;dsimp only;refine (l6 (s:=.shr (.int gv)) (τ:=[.mu true (trM t.ai (gv+1) (jq M h b p gv nm)),.shr (.int h),.shr (.int p),.shr (.str nm),.shr (.int gv)]) ?_).trans rfl;have sn:∀ {x:Sm},cb [.mu true (trM t.ai gv M),.shr (.int h),.shr (.int p),.shr (.str nm),x]=.shr (trD t.ai gv M)::cb [.shr (.int h),.shr (.int p),.shr (.str nm),x]:=lZ
 refine a6 (iy (τ:=[.mu true (trM t.ai gv M),.shr (.int h),.shr (.int p),.shr (.str nm),.no]) (by rw [sn]; exact eF (ag rfl) (ah (ag rfl) ay) rfl (mC hb) rfl)) ?_
 refine a6 (iy (by rw [sn]; exact cy (ah (ag rfl) (ah (ax (iB (ag rfl) fB) (ag rfl) (cB hb)) ay)) (k9 p0 p1) rfl)) ?_
 refine a6 (iy (by rw [sn]; exact cy (ah (ag rfl) ay) (eU hn) rfl)) ?_
 refine a6 (pK (t_S (by rw [sn]; exact aB (ax (ax (bo (ah (iB (ag rfl) fN) ay) (AA M)) e_c (aM _ _)) e_c (GV (by omega))))) rfl) ?_
 refine a6 (pK (t_S (by rw [sn]; exact aB (ax (ax (cy (ah (ag rfl) (ah (ag rfl) ay)) (zE ch (by omega)) rfl) e_c (aM _ _)) e_c (GV (by omega))))) rfl) ?_
 have e:=rO (t:=t) (nm:=nm) (h:=some h) (show M.length < 1000 by omega) hf;refine a6 (τ':=[.mu true (trM t.ai (gv+1) (M++[⟨gv,some h,nm,[],bD⟩])),.shr (.int h),.shr (.int p),.shr (.str nm),.shr (.int gv)]) (eT (s:=.shr (.int gv)) (v_M (C:=t.ai) (i:=0) (q:=[]) (ss:=[.mu true (trM t.ai gv M),.shr (hD (some h)),.shr (.str nm)]) (τ':=[.mu true (trM t.ai (gv+1) (M++[⟨gv,some h,nm,[],bD⟩])),.shr (.int h),.shr (.int p),.shr (.str nm),.no]) c6 rfl rfl (cv (q_N (ag rfl)) (cv (q_N (ag rfl)) rfl)) rfl e rfl) (Zb rfl) rfl) ?_
 have hb1:fd (M++[⟨gv,some h,nm,[],bD⟩]) h=some b:=AM hb;have nd1:Nd (M++[⟨gv,some h,nm,[],bD⟩]):=Ar (b:=⟨gv,some h,nm,[],bD⟩) nd hf
 have hg:bh [.mu true (trM t.ai (gv+1) (M++[⟨gv,some h,nm,[],bD⟩])),.shr (.int h),.shr (.int p),.shr (.str nm),.shr (.int gv)] 0 [.k (.inr "boxes"),.k (.inl h)]=some (lM (b.r.map .int)):=by
  rw [q9 rfl];refine A5.trans ?_
  refine (rE _ _ _).trans ?_
  rw [hb1];rfl
 refine a6 (Gr (cs0:=_) (xM (mS c6 rfl) (ag rfl) rfl rfl) hg (ag rfl) (v_N (ag rfl)) rfl hg ⟨p0,by rw [Za,Za]; exact p1,by rw [Za,Za]; omega⟩) ?_
 rw [q8 rfl,AG];refine (vQ (v_N (ag rfl))).trans ?_
 have ep:(trM t.ai (gv+1) (M++[⟨gv,some h,nm,[],bD⟩])).put [.k (.inr "boxes"),.k (.inl h)] (lM ((insI b.r p gv).map .int))=trM t.ai (gv+1) (jq M h b p gv nm):=by
  refine oS.trans ?_
  rw [Ae nd1 hb1];unfold jq;rw [Ew]
 show some (Hm.ret _ (List.set _ 0 (.mu true ((trM t.ai (gv+1) (M++[⟨gv,some h,nm,[],bD⟩])).put [.k (.inr "boxes"),.k (.inl h)] (lM ((insI b.r p gv).map .int))))))=_;rw [ep];rfl
end
end N17
end
section
namespace N17
open PySem L2
structure MOk (gv:Int) (M:List B8):Prop where
 nd:Nd M
 lt:∀ b ∈ M,0<=b.i/\b.i < gv
 root:∃ b,fd M 0=some b/\b.h=none
 hol:∀ b ∈ M,b.i≠0->∃ j p,b.h=some j/\fd M j=some p/\b.i ∈ p.r
 kid:∀ b ∈ M,∀ c ∈ b.r,∃ d,fd M c=some d/\d.h=some b.i
 rnd:∀ b ∈ M,b.r.Nodup
 ch:∀ b ∈ M,∃ n,Ch M b.i n/\n<=12
inductive Anc (M:List B8) (a:Int):Int->Prop where
 | refl:Anc M a a
 | up {x j:Int} {b:B8} (h:fd M x=some b) (e:b.h=some j) (c:Anc M a j):Anc M a x
inductive Sub (M:List B8):List Int->List Int->Prop where
 | nil:Sub M [] []
 | cons {c:Int} {cs l1 l2:List Int} {b:B8} (h:fd M c=some b) (h1:Sub M b.r l1) (h2:Sub M cs l2):Sub M (c::cs) (c::(l1++l2))
section
variable {gv:Int} {M:List B8}
theorem MOk.h0 (m:MOk gv M) {i j:Int} {b:B8} (hb:fd M i=some b) (hj:b.h=some j):i≠0:=λ e=>by
 obtain ⟨r,r1,r2⟩:=m.root;rw [e,r1] at hb;cases hb;rw [r2] at hj;cases hj
theorem MOk.Di (m:MOk gv M) {i c:Int} {b:B8} (hb:fd M i=some b) (hc:c ∈ b.r):∃ d,fd M c=some d/\d.h=some i:=by
 obtain ⟨d,h1,h2⟩:=m.kid b (bA hb) c hc;rw [mo hb] at h2;exact ⟨d,h1,h2⟩
theorem MOk.dp (m:MOk gv M) {i:Int} {b:B8} (hb:fd M i=some b):∃ n,Ch M i n/\n<=12:=by
 have:=m.ch b (bA hb);rw [mo hb] at this;exact this
theorem Ch.uniq {i:Int} {n:Nat} (h:Ch M i n):∀ {k:Nat},Ch M i k->n=k:=by
 induction h with
 | top h e =>
  intro k h'
  cases h' with
  | top _ _=>rfl
  | up h1 e1 _=>rw [h] at h1; cases h1; rw [e] at e1; cases e1
 | up h e c ih =>
  intro k h'
  cases h' with
  | top h1 e1=>rw [h] at h1; cases h1; rw [e] at e1; cases e1
  | up h1 e1 c1 =>
   rw [h] at h1;cases h1;rw [e] at e1;cases e1;rw [ih c1]
theorem Anc.deep {a x:Int} (h:Anc M a x):∀ {n:Nat},Ch M x n->∃ k,Ch M a k/\k<=n/\(k=n->a=x):=by
 induction h with
 | refl=>intro n c; exact ⟨n,c,Zi _,λ _=>rfl⟩
 | up h e c ih =>
  intro n cx
  cases cx with
  | top h1 e1=>rw [h] at h1; cases h1; rw [e] at e1; cases e1
  | up h1 e1 c1 =>
   rw [h] at h1;cases h1;rw [e] at e1;cases e1;obtain ⟨k,k1,k2,_⟩:=ih c1;exact ⟨k,k1,by omega,λ e=>by omega⟩
theorem Anc.trans {a b c:Int} (h1:Anc M a b) (h2:Anc M b c):Anc M a c:=by
 induction h2 with
 | refl=>exact h1
 | up h e _ ih=>exact .up h e ih
theorem Anc.lin {a b x:Int} (h1:Anc M a x) (h2:Anc M b x):Anc M a b\/Anc M b a:=by
 induction h1 with
 | refl=>exact .inr h2
 | @up x j c h e _ ih =>
  cases h2 with
  | refl=>exact .inl (.up h e ‹_›)
  | up h' e' c' =>
   rw [h] at h';cases h';rw [e] at e';cases e';exact ih c'
theorem Sub.app {a b la lb:List Int} (h1:Sub M a la) (h2:Sub M b lb):Sub M (a++b) (la++lb):=by
 induction h1 with
 | nil=>exact h2
 | cons h _ _ ih1 ih2 =>
  have:=Sub.cons h ‹_› ih2;rw [List.cons_append,List.cons_append,List.append_assoc];exact this
theorem Sub.inv {c:Int} {cs l:List Int} (h:Sub M (c::cs) l):∃ b l',fd M c=some b/\l=c::l'/\Sub M (b.r++cs) l':=by
 cases h with
 | cons h h1 h2=>exact ⟨_,_,h,rfl,h1.app h2⟩
theorem Sub.len {s l:List Int} (h:Sub M s l):s.length<=l.length:=by
 induction h with
 | nil=>exact Zi _
 | cons _ _ _ _ ih=>rw [Zz,Zz,Zt]; omega
theorem Sub.roots {s l:List Int} (h:Sub M s l):∀ x ∈ s,x ∈ l:=by
 induction h with
 | nil=>intro x h; cases h
 | cons _ _ _ _ ih =>
  intro x hx;rcases Zl.mp hx with rfl | hx
  · exact Ze ..
  · exact Zd _ (Zc _ (ih x hx))
theorem Sub.mem (m:MOk gv M) {s l:List Int} (h:Sub M s l):∀ x ∈ l,∃ c ∈ s,Anc M c x:=by
 induction h with
 | nil=>intro x h; cases h
 | @cons c cs l1 l2 b h h1 h2 ih1 ih2 =>
  intro x hx;rcases Zl.mp hx with rfl | hx
  · exact ⟨_,Ze ..,.refl⟩
  ·rcases Zg.mp hx with hx | hx
   ·obtain ⟨d,hd,a⟩:=ih1 x hx
    obtain ⟨e,e1,e2⟩:=m.Di h hd;exact ⟨c,Ze ..,(Anc.up e1 e2 .refl).trans a⟩
   ·obtain ⟨d,hd,a⟩:=ih2 x hx
    exact ⟨d,Zd _ hd,a⟩
theorem Sub.in {s l:List Int} (h:Sub M s l):∀ x ∈ l,∃ b,fd M x=some b:=by
 induction h with
 | nil=>intro x h; cases h
 | cons h _ _ ih1 ih2 =>
  intro x hx;rcases Zl.mp hx with rfl | hx
  · exact ⟨_,h⟩
  · exact (Zg.mp hx).elim (ih1 x) (ih2 x)
theorem Sub.closed {s l:List Int} (h:Sub M s l):∀ j ∈ l,∀ p,fd M j=some p->∀ c ∈ p.r,c ∈ l:=by
 induction h with
 | nil=>intro j h; cases h
 | @cons c cs l1 l2 b h h1 h2 ih1 ih2 =>
  intro j hj p hp x hx;rcases Zl.mp hj with rfl | hj
  ·rw [h] at hp
   cases hp;exact Zd _ (Zp _ (h1.roots x hx))
  ·rcases Zg.mp hj with hj | hj
   · exact Zd _ (Zp _ (ih1 j hj p hp x hx))
   · exact Zd _ (Zc _ (ih2 j hj p hp x hx))
def Apart (M:List B8) (s:List Int):Prop:=s.Pairwise λ c d=>∀ x,¬(Anc M c x/\Anc M d x)
theorem sV (m:MOk gv M) {i:Int} {b:B8} (hb:fd M i=some b):Apart M b.r:=by
 have nd:=m.rnd b (bA hb)
 have:∀ s:List Int,(∀ c ∈ s,c ∈ b.r)->s.Nodup->Apart M s:=λ s=>by
  induction s with
  | nil=>intro _ _; exact .nil
  | cons c s ih =>
   intro hs nd;rw [Zv] at nd;refine .cons (λ d hd x ⟨a1,a2⟩=>?_) (ih (λ y hy=>hs y (Zd _ hy)) nd.2)
   have key:∀ {u v:Int},u ∈ b.r->v ∈ b.r->u≠v->Anc M u v->False:=λ {u v} hu hv ne a=>by
    obtain ⟨n,hn,_⟩:=m.dp hb;obtain ⟨e,e1,e2⟩:=m.Di hb hv;obtain ⟨f,f1,f2⟩:=m.Di hb hu;obtain ⟨k,k1,_,k3⟩:=a.deep (.up e1 e2 hn);exact ne (k3 (k1.uniq (.up f1 f2 hn)))
   have hc:=hs c (Ze ..);have hd':=hs d (Zd _ hd);have ne:c≠d:=λ e=>nd.1 (e ▸ hd)
   rcases a1.lin a2 with a | a
   · exact key hc hd' ne a
   · exact key hd' hc (Ne.symm ne) a
 exact this b.r (λ _ h=>h) nd
theorem Sub.nodup (m:MOk gv M) {s l:List Int} (h:Sub M s l):Apart M s->l.Nodup:=by
 induction h with
 | nil=>exact λ _=>.nil
 | @cons c cs l1 l2 b h h1 h2 ih1 ih2 =>
  intro ap;have ap':=List.pairwise_cons.mp ap;rw [Zv,Yc];refine ⟨λ hc=>?_,ih1 (sV m h),ih2 ap'.2,λ x hx y hy e=>?_⟩
  ·rcases Zg.mp hc with hc | hc
   ·obtain ⟨d,hd,a⟩:=h1.mem m c hc
    obtain ⟨e,e1,e2⟩:=m.Di h hd;obtain ⟨n,hn,_⟩:=m.dp h;obtain ⟨k,k1,k2,_⟩:=a.deep hn;have:=k1.uniq (.up e1 e2 hn);omega
   ·obtain ⟨d,hd,a⟩:=h2.mem m c hc
    exact ap'.1 d hd c ⟨.refl,a⟩
  ·subst e
   obtain ⟨d,hd,a⟩:=h1.mem m x hx;obtain ⟨e,e1,e2⟩:=m.Di h hd;obtain ⟨d',hd',a'⟩:=h2.mem m x hy;exact ap'.1 d' hd' x ⟨(Anc.up e1 e2 .refl).trans a,a'⟩
theorem Sub.ex (m:MOk gv M):∀ (k:Nat) (cs:List Int),(∀ c ∈ cs,∃ b n,fd M c=some b/\Ch M c n/\13<=k+n)->∃ l,Sub M cs l:=by
 intro k
 induction k with
 | zero =>
  intro cs h
  cases cs with
  | nil=>exact ⟨[],.nil⟩
  | cons c cs =>
   obtain ⟨b,n,hb,hn,hl⟩:=h c (Ze ..);obtain ⟨n',h1,h2⟩:=m.dp hb;have:=hn.uniq h1;omega
 | succ k ih =>
  intro cs
  induction cs with
  | nil=>exact λ _=>⟨[],.nil⟩
  | cons c cs ihc =>
   intro h;obtain ⟨b,n,hb,hn,hl⟩:=h c (Ze ..);obtain ⟨l2,h2⟩:=ihc λ d hd=>h d (Zd _ hd)
   obtain ⟨l1,h1⟩:=ih b.r λ d hd=>by
    obtain ⟨e,e1,e2⟩:=m.Di hb hd;exact ⟨e,n+1,e1,.up e1 e2 hn,by omega⟩
   exact ⟨_,.cons hb h1 h2⟩
theorem Sub.of (m:MOk gv M) {i:Int} {b:B8} (hb:fd M i=some b):∃ l,Sub M [i] (i::l)/\Sub M b.r l:=by
 obtain ⟨n,hn,_⟩:=m.dp hb
 obtain ⟨l,h⟩:=Sub.ex m 13 [i] λ c hc=>by
  rw [Zn.mp hc];exact ⟨b,n,hb,hn,by omega⟩
 obtain ⟨b',l',e1,rfl,h'⟩:=h.inv;rw [hb] at e1;cases e1;rw [Z2] at h';exact ⟨l',h,h'⟩
theorem Sub.iff (m:MOk gv M) {i:Int} {l:List Int} (h:Sub M [i] l) {x:Int} {b:B8} (hx:fd M x=some b):x ∈ l↔Anc M i x:=by
 constructor
 ·intro hl
  obtain ⟨c,hc,a⟩:=h.mem m x hl;rw [Zn.mp hc] at a;exact a
 ·intro a
  have:∀ {x:Int},Anc M i x->∀ b,fd M x=some b->x ∈ l:=λ {x} a=>by
   induction a with
   | refl=>exact λ _ _=>h.roots i (Zn.mpr rfl)
   | @up x j b h' e c ih =>
    intro b' hb'
    have ne:b.i≠0:=λ e0=>by
     obtain ⟨r,r1,r2⟩:=m.root;have e1:=mo h';rw [e0] at e1;rw [<- e1,r1] at h';cases h';rw [r2] at e;cases e
    obtain ⟨j',p,q1,q2,q4⟩:=m.hol b (bA h') ne;rw [e] at q1;cases q1;have:=h.closed j (ih p q2) p q2 b.i q4;rw [mo h'] at this;exact this
  exact this a b hx
theorem Az:∀ (l k:List Int),l.Nodup->(∀ x ∈ l,x ∈ k)->l.length<=k.length
 | [],_,_,_=>Z1 _
 | x::l,k,nd,h=>by
  rw [Zv] at nd;have hx:=h x (Ze ..)
  have:=Az l (k.erase x) nd.2 λ y hy=>by
   have ne:y≠x:=λ e=>nd.1 (e ▸ hy)
   exact (List.mem_erase_of_ne ne).mpr (h y (Zd _ hy))
  rw [List.length_erase_of_mem hx] at this;have:0 < k.length:=List.length_pos_of_mem hx;rw [Zz];omega
theorem sub_len {l:List Int} (nd:l.Nodup) (h:∀ x ∈ l,∃ b,fd M x=some b):l.length<=M.length:=by
 have:=Az l (M.map B8.i) nd λ x hx=>by
  obtain ⟨b,hb⟩:=h x hx;rw [<- mo hb];exact Yr (bA hb)
 rw [Za] at this;exact this
end
end N17
end
section
namespace N17
open PySem L2
theorem Ju {τ:List Sl} {i:Nat} {f:DE} {ds es:List D} (h:f τ=some (.lst es)) (q:τ[i]?=some (.own (.lst ds))) (hl:ds.length+es.length<=100000):Bi i f τ=some (.next (τ.set i (.own (.lst (ds++es))))):=by
 unfold Bi;rw [h];show (match D.lst es,τ[i]? with | .lst es,some (.own (.lst ds))=>if ds.length+es.length<=100000 then some (Out.next (τ.set i (.own (.lst (ds++es))))) else none | _,_=>none)=_;rw [q];exact if_pos hl
theorem Ml {τ:List Sl} {f:DE} {ds:List D} (h:f τ=some (.lst ds)):DK f τ=some (.lst ds.reverse):=by unfold DK; rw [h]; rfl
theorem EL {τ:List Sl} {i j:Nat} {ds:List D} {d:D} (q:τ[j]?=some (.own (.lst (ds++[d])))):oW i j τ=some (.next ((τ.set j (.own (.lst ds))).set i (.shr d))):=by
 unfold oW;rw [q];show ((ds++[d])[(ds++[d]).length - 1]?).map _=_;rw [Zt,List.length_singleton,Nat.add_sub_cancel,List.getElem?_append_right (Zi _),Xb,List.dropLast_concat];rfl
section
variable {t:Adr} {gv:Int} {M:List B8} {c:DT} {gk:DE} {x0 x1:Sl}
theorem t7 (hT:∀ (a y:Sl) (ds:List D),ds≠[]->c [x0,x1,a,.own (.lst ds),y]=some true)
  (hF:∀ a y:Sl,c [x0,x1,a,.own (.lst []),y]=some false)
  (hk:∀ (a s:Sl) (k:Int) (b:B8),fd M k=some b->gk [x0,x1,a,s,.shr (.int k)]=some (.lst (b.r.map .int))) :
  ∀ (l S acc:List Int) (y:Sl),Sub M S l->acc.length+l.length<=1000->∃ y',bM c (fh (oW 4 3) (fh (z9 2 (aC 4)) (Bi 3 (DK gk)))) (l.length+1) [x0,x1,.own (.lst (acc.map .int)),.own (.lst (S.reverse.map .int)),y]=some (.next [x0,x1,.own (.lst ((acc++l).map .int)),.own (.lst []),y']):=by
 intro l
 induction l with
 | nil =>
  intro S acc y h hz;cases h;refine ⟨y,?_⟩;unfold bM;rw [show ([]:List Int).reverse.map D.int=[] from rfl,hF,Z2]
 | cons x l ih =>
  intro S acc y h hz
  cases S with
  | nil=>cases h
  | cons k S =>
   obtain ⟨b,l',hb,e,h'⟩:=h.inv;cases e;have hz':acc.length+(l.length+1)<=1000:=hz;have hl:=h'.len;rw [Zt] at hl;obtain ⟨y',w⟩:=ih (b.r++S) (acc++[x]) (.shr (.int x)) h' (by rw [Zt]; show acc.length+1+_<=_; omega);refine ⟨y',?_⟩;have e1:(x::S).reverse.map D.int=S.reverse.map D.int++[.int x]:=by rw [Xp,Zk]; rfl
   have t1:=hT (.own (.lst (acc.map .int))) y ((x::S).reverse.map .int) (by rw [e1]; simp)
   have t2:fh (oW 4 3) (fh (z9 2 (aC 4)) (Bi 3 (DK gk))) [x0,x1,.own (.lst (acc.map .int)),.own (.lst ((x::S).reverse.map .int)),y]=some (.next [x0,x1,.own (.lst ((acc++[x]).map .int)),.own (.lst ((b.r++S).reverse.map .int)),.shr (.int x)]):=by
    rw [e1];refine aT ((EL rfl).trans rfl) ?_
    refine aT ((Bh (ag rfl) rfl (by rw [Za]; omega)).trans rfl) ?_
    refine (Ju (Ml (hk _ _ x b hb)) rfl (by rw [Za,Xe,Xe,Za]; omega)).trans ?_
    rw [List.reverse_append,Zk,Zk,<- List.map_reverse];rfl
   show bM c _ (l.length+1+1) _=_
   conv=>lhs; unfold bM
   rw [t1];simp only [t2];rw [w,List.append_assoc];rfl
theorem xR {i:Int} {l:List Int} (h:Sub M [i] l) (hl:l.length<=1000):dY t [.dct (kv (λ b=>.lst (b.r.map .int)) M),.int i]=some (.own (.lst (l.map .int))):=by
 have hT:∀ (a y:Sl) (ds:List D),ds≠[]->D1 3 (dT (dOp oGt (jm tV (au (aC 3) cz)) (dC (.int 0)))) [.shr (.dct (kv (λ b=>.lst (b.r.map .int)) M)),.shr (.int i),a,.own (.lst ds),y]=some true:=λ a y ds ne=>by
  cases ds with
  | nil=>exact absurd rfl ne
  | cons d ds =>
   refine Jg rfl (aB (ax (bo (ah (ag rfl) ay) rfl) e_c ?_));show some (D.bl (decide _))=_;rw [Zq (by rw [Zz]; omega)]
 obtain ⟨y',w⟩:=t7 (x0:=.shr (.dct (kv (λ b=>.lst (b.r.map .int)) M))) (x1:=.shr (.int i)) hT (λ _ _=>rfl) (gk:=dOp g7 (aC 0) (aC 4)) (λ a s k b hb=>ax (ag rfl) (ag rfl) (cB hb)) l [i] [] .no h (by rw [List.length_nil,Nat.zero_add]; exact hl);unfold dY fP;dsimp only;exact bq (aT ((lp (du ay (Z1 _)) (Zb rfl)).trans rfl) (aT ((lp (du (ah (ag rfl) ay) (Zb rfl)) (Zb rfl)).trans rfl) (aT (gX w) (ux rfl))))
end
end N17
end
section
namespace N17
open PySem L2
theorem Er (M:List B8) (j:Int) (r:List Int):(upR M j r).map B8.i=M.map B8.i:=by
 unfold upR;rw [Z6];refine Zw λ b _=>?_
 show (if b.i=j then { b with r:=r } else b).i=b.i;split <;> rfl
theorem Gd {M:List B8} (nd:Nd M) (j:Int) (r:List Int):Nd (upR M j r):=by
 unfold Nd;rw [Er];exact nd
theorem rK (M:List B8) (j:Int) (r:List Int) (x:Int):fd (upR M j r) x=(fd M x).map λ b=>if b.i=j then { b with r:=r } else b:=by
 unfold fd upR;rw [List.find?_map];congr 2
 funext b
 show decide ((if b.i=j then { b with r:=r } else b).i=x)=_;split <;> rfl
theorem vZ (M:List B8) (j:Int) (r:List Int):(upR M j r).length=M.length:=Za _
theorem xV (r:List Int):(r.map D.int).all sca=true:=by
 rw [List.all_map];exact Yy.mpr λ _ _=>rfl
end N17
end
section
namespace N17
open PySem L2
section
variable {gv:Int} {M:List B8}
theorem rq (r:List Int) (p x:Int):(insI r p x).Perm (x::r):=by
 unfold insI;refine List.perm_middle.trans ?_
 rw [Xo]
theorem pP {r:List Int} {p x y:Int}:y ∈ insI r p x↔y=x\/y ∈ r:=by
 rw [(rq r p x).mem_iff,Zl]
theorem MOk.new (m:MOk gv M):fd M gv=none:=fd_none.mpr λ b hb e=>by
 have:=(m.lt b hb).2;omega
theorem MOk.pos (m:MOk gv M):0 < gv:=by
 obtain ⟨r,r1,_⟩:=m.root;have:=m.lt r (bA r1);omega
theorem pU {M:List B8} {n:B8} (h:fd M n.i=none) (x:Int):fd (M++[n]) x=if x=n.i then some n else fd M x:=by
 unfold fd at *;rw [List.find?_append];split
 ·rename_i e
  rw [e,h,List.find?_cons,Zq rfl];rfl
 ·rename_i e
  rw [List.find?_cons,Zo (Ne.symm e)];cases List.find? (λ b=>decide (b.i=x)) M <;> rfl
theorem Ch.mono {M':List B8} (hm:∀ x d,fd M x=some d->∃ d',fd M' x=some d'/\d'.h=d.h) {x:Int} {n:Nat} (c:Ch M x n):Ch M' x n:=by
 induction c with
 | top h e =>
  obtain ⟨d',h1,h2⟩:=hm _ _ h;exact .top h1 (h2.trans e)
 | up h e c ih =>
  obtain ⟨d',h1,h2⟩:=hm _ _ h;exact .up h1 (h2.trans e) ih
theorem CY (m:MOk gv M) {h p:Int} {b:B8} {nm:Str} {dp:Nat} (hb:fd M h=some b) (hc:Ch M h dp) (h12:dp < 12):MOk (gv+1) (jq M h b p gv nm):=by
 have hn:=m.new;have gp:=m.pos;have hl:0<=h/\h < gv:=by have:=m.lt b (bA hb); rw [mo hb] at this; exact this
 have nd':Nd (jq M h b p gv nm):=Gd (Ar (b:=⟨gv,some h,nm,[],bD⟩) m.nd hn) _ _
 have fx:∀ x,fd (jq M h b p gv nm) x=(if x=gv then some ⟨gv,some h,nm,[],bD⟩ else fd M x).map λ c=>if c.i=h then { c with r:=insI b.r p gv } else c:=λ x=>by
  unfold jq;rw [rK,pU (n:=⟨gv,some h,nm,[],bD⟩) hn]
 have bn:=m.rnd b (bA hb)
 have gb:gv ∉ b.r:=λ e=>by
  obtain ⟨d,d1,_⟩:=m.kid b (bA hb) gv e;rw [hn] at d1;cases d1
 have un:∀ c ∈ jq M h b p gv nm,(c.i=gv/\c.h=some h/\c.r=[])\/∃ d,fd M c.i=some d/\d.i=c.i/\d.h=c.h/\((c.i=h/\d=b/\c.r=insI b.r p gv)\/(c.i≠h/\c.r=d.r)):=λ c hc=>by
  have e:=pV nd' hc;rw [fx] at e;split at e
  ·rename_i ei
   have e':(if gv=h then ({ i:=gv,h:=some h,n:=nm,r:=insI b.r p gv,m:=bD }:B8) else ⟨gv,some h,nm,[],bD⟩)=c:=Zj e;rw [if_neg (by omega)] at e';subst e';exact .inl ⟨rfl,rfl,rfl⟩
  ·cases hd:fd M c.i with
   | none=>rw [hd] at e; cases e
   | some d =>
    rw [hd] at e;have e':(if d.i=h then { d with r:=insI b.r p gv } else d)=c:=Zj e;have di:=mo hd;refine .inr ⟨d,rfl,di,?_⟩;split at e'
    ·rename_i hij
     have ep:d=b:=by
      rw [<- di,hij,hb] at hd;exact (Zj hd).symm
     subst e';subst ep;exact ⟨rfl,.inl ⟨hij,rfl,rfl⟩⟩
    ·rename_i hij
     subst e';exact ⟨rfl,.inr ⟨hij,rfl⟩⟩
 have old:∀ {x:Int} {d:B8},fd M x=some d->fd (jq M h b p gv nm) x=some (if d.i=h then { d with r:=insI b.r p gv } else d):=λ {x d} hd=>by
  have ne:x≠gv:=λ e=>by rw [e,hn] at hd; cases hd
  rw [fx,if_neg ne,hd];rfl
 have oh:∀ d:B8,(if d.i=h then { d with r:=insI b.r p gv } else d).h=d.h:=λ d=>by split <;> rfl
 refine ⟨nd',λ c hc=>?_,?_,λ c hc c0=>?_,λ c hc x hx=>?_,λ c hc=>?_,λ c hx=>?_⟩
 ·rcases un c hc with ⟨e,_⟩ | ⟨d,hd,di,_⟩
  · omega
  ·have:=m.lt d (bA hd)
   omega
 ·obtain ⟨r,r1,r2⟩:=m.root
  exact ⟨_,old r1,by rw [oh]; exact r2⟩
 ·rcases un c hc with ⟨e,e2,_⟩ | ⟨d,hd,di,dh,_⟩
  ·refine ⟨h,_,e2,old hb,?_⟩
   rw [if_pos (mo hb),e];exact pP.mpr (.inl rfl)
  ·obtain ⟨j',q,q1,q2,q4⟩:=m.hol d (bA hd) (by rw [di]; exact c0)
   refine ⟨j',_,by rw [<- dh]; exact q1,old q2,?_⟩;split
   ·rename_i hq
    have ep:q=b:=by
     rw [<- mo q2,hq,hb] at q2;exact (Zj q2).symm
    subst ep;rw [<- di];exact pP.mpr (.inr q4)
   ·rw [<- di]
    exact q4
 ·rcases un c hc with ⟨_,_,e⟩ | ⟨d,hd,di,dh,⟨e1,e2,e3⟩ | ⟨e1,e3⟩⟩
  ·rw [e] at hx
   cases hx
  ·rw [e3] at hx
   rcases pP.mp hx with rfl | hx
   ·refine ⟨⟨x,some h,nm,[],bD⟩,?_,by rw [e1]⟩
    rw [fx,if_pos rfl];show some (if x=h then ({ i:=x,h:=some h,n:=nm,r:=insI b.r p x,m:=bD }:B8) else ⟨x,some h,nm,[],bD⟩)=_;rw [if_neg (by omega)]
   ·obtain ⟨e,k1,k2⟩:=m.kid b (bA hb) x hx
    exact ⟨_,old k1,by rw [oh,k2,mo hb,e1]⟩
  ·rw [e3] at hx
   obtain ⟨e,k1,k2⟩:=m.kid d (bA hd) x hx;exact ⟨_,old k1,by rw [oh,k2,di]⟩
 ·rcases un c hc with ⟨_,_,e⟩ | ⟨d,hd,di,dh,⟨e1,e2,e3⟩ | ⟨e1,e3⟩⟩
  · rw [e]; exact .nil
  ·rw [e3,(rq _ _ _).nodup_iff,Zv]
   exact ⟨gb,bn⟩
  ·rw [e3]
   exact m.rnd d (bA hd)
 ·have cm:∀ {x:Int} {n:Nat},Ch M x n->Ch (jq M h b p gv nm) x n:=Ch.mono λ x d hd=>⟨_,old hd,oh d⟩
  have hf:=pV nd' hx;rcases un c hx with ⟨e,e2,_⟩ | ⟨d,hd,di,dh,_⟩
  · exact ⟨dp+1,.up hf e2 (cm hc),h12⟩
  ·obtain ⟨n,n1,n2⟩:=m.dp hd
   exact ⟨n,cm n1,n2⟩
end
end N17
end
section
namespace N17
open PySem L2
theorem rN {cs:List Int} {j:Nat} {d:D} (h:(gm (cs.map .int))[j]?=some d):∃ c:Int,d=.tup [.int (j:Int),.int c]/\cs[j]?=some c:=by
 unfold gm at h;rw [List.getElem?_mapIdx,List.getElem?_map] at h;obtain ⟨d',hd',rfl⟩:=Zm h;obtain ⟨c,hc,rfl⟩:=Zm hd';exact ⟨c,rfl,hc⟩
theorem zy (cs:List Int):(gm (cs.map .int)).length=cs.length:=by unfold gm; rw [List.length_mapIdx,Za]
theorem wC {τ:List Sl} {f:DE} {as:List D} (h:f τ=some (.lst as)):lI (au f cz) τ=some (gm as):=by
 unfold lI;rw [ah h ay];rfl
theorem Gq {f g:DSm} {τ τ':List Sm} {s:Sm} (h:f τ=some (.ret s τ')):kO f g τ=some (.ret s τ'):=by unfold kO; rw [h]
theorem mj {b:D->DSm} {ds:List D} {τ:List Sm} (P:Nat->List Sm->Prop) (h0:P 0 τ) (hs:∀ j d τ,ds[j]?=some d->P j τ->∃ τ2,b d τ=some (.next τ2)/\P (j+1) τ2):∃ τ',forM b ds τ=some (.next τ')/\P ds.length τ':=by
 induction ds generalizing τ P with
 | nil=>exact ⟨τ,rfl,h0⟩
 | cons d ds ih =>
  obtain ⟨τ2,e,p⟩:=hs 0 d τ rfl h0;obtain ⟨τ',e',p'⟩:=ih (λ j=>P (j+1)) p λ j d τ hd hp=>hs (j+1) d τ hd hp
  refine ⟨τ',?_,p'⟩;show (match b d τ with | some (.next τ')=>forM b ds τ' | some (.cnt τ')=>forM b ds τ' | some (.brk τ')=>some (.next τ') | r=>r)=_;rw [e];exact e'
section
variable {t:Adr} {gv:Int} {M:List B8}
theorem Hh {x:Int} {r:List Int} {b:B8} (hx:b.i≠x) (h0:b.r=[]) (hn:fd M b.i=none):Mt.n .d (jG (kv (λ b=>lM (b.r.map .int)) (upR M x r)) (.inl b.i) (lM []))=bxM (upR (M++[b]) x r):=by
 have e:upR (M++[b]) x r=upR M x r++[b]:=by
  unfold upR;rw [Zk];show _++[if b.i=x then _ else _]=_;rw [if_neg hx]
 have:=gY (g:=λ b=>lM (b.r.map .int)) (M:=upR M x r) (by rw [rK,hn]; rfl);rw [h0] at this;rw [e];unfold bxM kM;rw [<- this];rfl
theorem G1 {x:Int} {r:List Int} {b:B8} (hn:fd M b.i=none):Mt.n .d (jG (kv (λ b=>.s (.tup [hD b.h,.str b.n])) M) (.inl b.i) (.s (.tup [hD b.h,.str b.n])))=faM (upR (M++[b]) x r):=by
 unfold faM kM;rw [oP _ _ _ _ (λ _=>rfl),<- gY hn]
def stB (M:List B8) (i:Int) (p:Pl):List B8:=M.map λ b=>if b.i=i then { b with m:=p } else b
theorem DB (M:List B8) (i x:Int) (p:Pl):fd (stB M i p) x=(fd M x).map λ b=>if b.i=i then { b with m:=p } else b:=by
 unfold fd stB;rw [List.find?_map];congr 2
 funext b
 show decide ((if b.i=i then { b with m:=p } else b).i=x)=_;split <;> rfl
theorem EE (M:List B8) (i:Int) (p:Pl):(stB M i p).map B8.i=M.map B8.i:=by
 unfold stB;rw [Z6];refine Zw λ b _=>?_
 show (if b.i=i then { b with m:=p } else b).i=b.i;split <;> rfl
theorem Gh (m:MOk gv M) (i:Int) (p:Pl):MOk gv (stB M i p):=by
 have nd':Nd (stB M i p):=by unfold Nd; rw [EE]; exact m.nd
 have old:∀ {x:Int} {d:B8},fd M x=some d->fd (stB M i p) x=some (if d.i=i then { d with m:=p } else d):=λ {x d} h=>by rw [DB,h]; rfl
 have un:∀ c ∈ stB M i p,∃ d ∈ M,d.i=c.i/\d.h=c.h/\d.r=c.r:=λ c hc=>by
  obtain ⟨d,hd,rfl⟩:=Z4.mp hc;refine ⟨d,hd,?_⟩;split <;> exact ⟨rfl,rfl,rfl⟩
 have oh:∀ d:B8,(if d.i=i then { d with m:=p } else d).h=d.h:=λ d=>by split <;> rfl
 have or:∀ d:B8,(if d.i=i then { d with m:=p } else d).r=d.r:=λ d=>by split <;> rfl
 refine ⟨nd',λ c hc=>?_,?_,λ c hc c0=>?_,λ c hc x hx=>?_,λ c hc=>?_,λ c hc=>?_⟩
 ·obtain ⟨d,hd,e1,_⟩:=un c hc
  rw [<- e1]; exact m.lt d hd
 ·obtain ⟨r,r1,r2⟩:=m.root
  exact ⟨_,old r1,(oh r).trans r2⟩
 ·obtain ⟨d,hd,e1,e2,_⟩:=un c hc
  obtain ⟨j,p,h1,h2,h3⟩:=m.hol d hd (by rw [e1]; exact c0);exact ⟨j,_,by rw [<- e2]; exact h1,old h2,by rw [or,<- e1]; exact h3⟩
 ·obtain ⟨d,hd,e1,_,e3⟩:=un c hc
  obtain ⟨e,h1,h2⟩:=m.kid d hd x (by rw [e3]; exact hx);exact ⟨_,old h1,by rw [oh,h2,e1]⟩
 ·obtain ⟨d,hd,_,_,e3⟩:=un c hc
  rw [<- e3]; exact m.rnd d hd
 ·obtain ⟨d,hd,e1,_⟩:=un c hc
  obtain ⟨n,h1,h2⟩:=m.ch d hd;rw [e1] at h1;exact ⟨n,Ch.mono (λ x e he=>⟨_,old he,oh e⟩) h1,h2⟩
theorem uJ {g:B8->Mt} {m2:Mt} {M:List B8} {i:Int} {b:B8} (nd:Nd M) (h:fd M i=some b) (eg:∀ c:B8,(g c).put [] m2=m2):(kM g M).put [.k (.inl i)] m2=.n .d (M.map λ c=>((.inl c.i:Key),if c.i=i then m2 else g c)):=by
 have hb:=bA h;have hi:=mo h;obtain ⟨l1,l2,rfl⟩:=List.append_of_mem hb;have nd':=nd;unfold Nd at nd';rw [Zk,Zh,Yc,Zv] at nd';have n1:∀ c ∈ l1,c.i≠i:=λ c hc e=>nd'.2.2 c.i (Yr hc) b.i (Ze ..) (by rw [e,hi])
 have n2:∀ c ∈ l2,c.i≠i:=λ c hc e=>nd'.2.1.1 (by rw [hi,<- e]; exact Yr hc)
 have ix:((kv g (l1++b::l2)).findIdx? λ c=>decide (c.1=.inl i))=some l1.length:=by
  unfold kv;rw [List.findIdx?_map,List.findIdx?_append]
  have e1:(l1.findIdx? ((λ c:Key×Mt=>decide (c.1=Sum.inl i)) ∘ λ b=>((.inl b.i:Key),g b)))=none:=by
   rw [List.findIdx?_eq_none_iff];intro c hc;exact Zo λ z=>n1 c hc (by injection z)
  rw [e1,List.findIdx?_cons];have e2:((λ c:Key×Mt=>decide (c.1=Sum.inl i)) ∘ λ b:B8=>((.inl b.i:Key),g b)) b=true:=Zq (by show (Sum.inl b.i:Key)=Sum.inl i; rw [hi]);rw [e2];simp
 have gx:(kv g (l1++b::l2))[l1.length]?=some ((.inl b.i:Key),g b):=by
  unfold kv;rw [List.getElem?_map,List.getElem?_append_right (Zi _),Xb];rfl
 show (match (kv g (l1++b::l2)).findIdx? (λ c=>decide (c.1=.inl i)) with | none=>Mt.n .d (kv g (l1++b::l2)) | some j=>match (kv g (l1++b::l2))[j]? with | none=>Mt.n .d (kv g (l1++b::l2)) | some c=>.n .d ((kv g (l1++b::l2)).set j (c.1,Mt.put c.2 [] m2)))=_;simp only [ix,gx];congr 1;unfold kv;rw [Zk,Zh,Zk,Zh,List.set_append_right _ _ (by rw [Za]; exact Zi _),Za,Xb];congr 1
 ·refine Zw λ c hc=>?_
  rw [if_neg (n1 c hc)]
 ·show (_,Mt.put (g b) [] m2)::_=_
  rw [if_pos hi,eg];congr 1;refine Zw λ c hc=>?_
  rw [if_neg (n2 c hc)]
theorem kst {β:Type} {g:B8->β} {p:Pl} {i:Int} {b:B8} (nd:Nd M) (hb:fd M i=some b):(M.map λ c=>((.inl c.i:Key),if c.i=i then g { b with m:=p } else g c))=kv g (stB M i p):=by
 unfold kv stB;rw [Z6];refine Zw λ c hc=>?_
 show _=((Sum.inl (if c.i=i then { c with m:=p } else c).i:Key),g (if c.i=i then { c with m:=p } else c))
 by_cases e:c.i=i
 ·have hf:=pV nd hc
  rw [e,hb] at hf;cases hf;rw [if_pos e,if_pos e]
 · rw [if_neg e,if_neg e]
theorem um {β:Type} {g:B8->β} {p:Pl} {i:Int} {b:B8} (nd:Nd M) (hb:fd M i=some b) (hg:g { b with m:=p }=g b):kv g (stB M i p)=kv g M:=by
 rw [<- kst nd hb];refine Zw λ c hc=>?_
 by_cases e:c.i=i
 ·have hf:=pV nd hc
  rw [e,hb] at hf;cases hf;rw [if_pos e,hg]
 · rw [if_neg e]
theorem xS {i:Int} {b:B8} (nd:Nd M) (hb:fd M i=some b):stB M i b.m=M:=by
 refine (Zw λ c hc=>?_).trans (List.map_id _)
 by_cases e:c.i=i
 ·have hf:=pV nd hc
  rw [e,hb] at hf;cases hf;rw [if_pos e];rfl
 ·rw [if_neg e]
  rfl
theorem Je {C:Addr} {p:Pl} {i:Int} {b:B8} (nd:Nd M) (hb:fd M i=some b):(trM C gv M).put ([]++[.k (.inr "marks")]++[.k (.inl i)]) (mkM { b with m:=p })=trM C gv (stB M i p):=by
 refine (show _=trG C (.s (.int gv)) (kM (λ b=>.s (.str b.n)) M) (kM (λ b=>.s (hD b.h)) M) (bxM M) ((kM mkM M).put [.k (.inl i)] (mkM { b with m:=p })) (kM wdM M) (kM roM M) from rfl).trans ?_
 rw [uJ nd hb (λ c=>by unfold mkM; rfl),kst nd hb];unfold trM bxM kM;rw [um (p:=p) (g:=λ b=>Mt.s (.str b.n)) nd hb rfl,um (p:=p) (g:=λ b=>Mt.s (hD b.h)) nd hb rfl,um (p:=p) (g:=λ b=>lM (b.r.map .int)) nd hb rfl,um (p:=p) (g:=wdM) nd hb rfl,um (p:=p) (g:=roM) nd hb rfl]
theorem ND:∀ (l:List Str) (w:Str),(ij (l.map λ x=>((.inr x:Key),D.bl true)) (.inr w)).isSome=decide (w ∈ l)
 | [],w=>rfl
 | x::l,w=>by
  have ih:=ND l w;unfold ij at ih ⊢;rw [Zh,List.find?_cons]
  by_cases e:x=w
  ·rw [Zq (show (Sum.inr x:Key)=Sum.inr w by rw [e]),Zq (show w ∈ x::l by rw [e]; exact Ze ..)]
   rfl
  ·rw [Zo (show ¬ (Sum.inr x:Key)=Sum.inr w from λ z=>e (by injection z))]
   refine ih.trans ?_
   by_cases h:w ∈ l
   · rw [Zq h,Zq (Zd _ h)]
   · rw [Zo h,Zo (λ z=>(Zl.mp z).elim (λ z=>e z.symm) h)]
theorem kin (b:B8) (w:Str):Ct (.str w) (mkD b)=some (.bl (decide (w ∈ b.m.k))):=by
 show some (D.bl (ij (b.m.k.map λ x=>((.inr x:Key),D.bl true)) (.inr w)).isSome)=_;rw [ND]
theorem O8 (l:List Str) (w:Str):((l.map λ x=>((.inr x:Key),Mt.s (.bl true))).any λ c=>decide (c.1=.inr w))=decide (w ∈ l):=by
 rw [Y4,decide_eq_true_iff,Y6];constructor
 ·rintro ⟨c,hc,e⟩
  obtain ⟨x,hx,rfl⟩:=Z4.mp hc;have:=Xq e;injection this with this
  rw [<- this]; exact hx
 · exact λ h=>⟨_,Z4.mpr ⟨w,h,rfl⟩,Zq rfl⟩
def pq (p:Pl) (w:Str):Pl:=if w ∈ p.k then p else { p with k:=p.k++[w] }
theorem Gm {C:Addr} {r:List Sm} {i:Int} {b:B8} (hb:fd M i=some b):bh (.mu true (trM C gv M)::r) 0 ([]++[.k (.inr "marks")]++[.k (.inl i)])=some (mkM b):=by
 rw [q9 rfl];refine (show _=(kM mkM M).get [.k (.inl i)] from rfl).trans ?_
 rw [rE,hb];rfl
theorem vN {i:Int} {b:B8} {w:Str} (nd:Nd M) (hb:fd M i=some b) (hn:bE w=true) (hk:b.m.k.length < 1000):bY t [.mu true (trM t.ai gv M),.shr (.int i),.shr (.str w)]=some (.shr (.bl (!decide (w ∈ b.m.k))),[.mu true (trM t.ai gv (stB M i (pq b.m w))),.no,.no]):=by
 unfold bY gU;have sn:∀ {r:List Sm},cb (.mu true (trM t.ai gv M)::r)=.shr (trD t.ai gv M)::cb r:=lZ
 refine (l6 (τ:=[.mu true (trM t.ai gv (stB M i (pq b.m w))),.shr (.int i),.shr (.str w)]) ?_).trans rfl;refine a6 (iy (τ:=[.mu true (trM t.ai gv M),.shr (.int i),.shr (.str w)]) (by rw [sn]; exact eF e_v (ah e_v ay) rfl (mC hb) rfl)) ?_
 refine a6 (iy (cy (ah e_v ay) (eU hn) rfl)) ?_
 have et:=t_S (τ:=[.mu true (trM t.ai gv M),.shr (.int i),.shr (.str w)]) (g:=dT (dOp Ct (aC 2) (dOp g7 (dUn (D6 t.ai "marks") (aC 0)) (aC 1)))) (by rw [sn]; exact aB (ax e_v (ax (iB e_v fK) e_v (cB hb)) (kin b w)));unfold pq
 by_cases h:w ∈ b.m.k
 ·rw [Zq h] at et
  rw [Zq h,if_pos h,xS nd hb];exact Gq (vT et (vQ (v_N e_c)))
 ·rw [Zo h] at et
  rw [Zo h,if_neg h];refine a6 (pK et rfl) ?_
  refine a6 ((gw (v_N e_c) (xM (mS c6 rfl) e_v rfl rfl) e_v rfl rfl (Gm hb) (by rw [Za]; omega)).trans ?_) (vQ (v_N e_c));rw [q8 rfl]
  have e2:jG (b.m.k.map λ x=>((.inr x:Key),Mt.s (.bl true))) (.inr w) (.s (.bl true))=(b.m.k++[w]).map λ x=>((.inr x:Key),Mt.s (.bl true)):=by
   unfold jG;rw [O8,Zo h,if_neg Zf,Zk];rfl
  rw [e2];have e3:=Je (C:=t.ai) (gv:=gv) (p:={ b.m with k:=b.m.k++[w] }) nd hb;rw [show (Mt.n .d ((b.m.k++[w]).map λ x=>((.inr x:Key),Mt.s (.bl true))))=mkM { b with m:={ b.m with k:=b.m.k++[w] } } from rfl,e3];rfl
end
end N17
end
section
namespace N17
open PySem L2
theorem ma {x y:Str} (h:x.length+y.length<=100000):ie (.str x) (.str y)=some (.str (x++y)):=if_pos h
theorem len_app (x y:Str):(x++y).length=x.length+y.length:=by
 show (x.cps++y.cps).size=_;rw [Array.size_append];rfl
theorem DF {τ:List Sl} {f:DE} {l u:DO} {z:Str} {lo hi:Option Int} (h1:f τ=some (.str z)) (h2:l τ=some lo) (h3:u τ=some hi) (h4:z.length<=100000):IS f l u τ=some (.str (Txt.slice z lo hi)):=by
 unfold IS;rw [h1];rw [h2];rw [h3];exact if_pos h4
theorem jD (z:Str) {a b:Nat} {l u:Option Int} (hab:a<=b) (hb:b<=z.length) (e:Builtin.Str.strSliceIndices l u 1 z.length=Builtin.Str.strSliceIndices (some (a:Int)) (some (b:Int)) 1 z.length):(Txt.slice z l u).cps.toList=(z.cps.toList.drop a).take (b - a):=by
 have hl:z.cps.toList.length=z.length:=Xd;unfold Txt.slice;rw [e];split
 ·rename_i h
  rw [StrLaws.strSliceIndices_plain hab hb,Za,List.length_range] at h;have h':b - a=z.length:=by simpa using h
  have ha:a=0:=by omega
  subst ha;rw [List.drop_zero,h',<- hl,List.take_length]
 ·show (List.filterMap _ _)=_
  exact StrLaws.sliced_plain z hab hb
theorem iw {x:Str}:bE x=true↔1<=x.length/\x.length<=8/\∀ c ∈ x.cps.toList,lower c=true:=by
 unfold bE;rw [Yh,Yh,decide_eq_true_eq,decide_eq_true_eq,Yy];constructor
 ·rintro ⟨⟨h1,h2⟩,h3⟩
  exact ⟨by omega,by omega,h3⟩
 ·rintro ⟨h1,h2,h3⟩
  exact ⟨⟨by omega,by omega⟩,h3⟩
theorem iz (x:Str):x.length=x.cps.toList.length:=by rfl
theorem qq (x y:Str):(x++y).cps.toList=x.cps.toList++y.cps.toList:=by
 show (x.cps++y.cps).toList=_;rw [Array.toList_append]
theorem Cn {z:Str} (h:One z):∀ c ∈ z.cps.toList,lower c=true:=by
 have h2:=h.2;unfold okS at h2;rw [Array.all_eq_true_iff_forall_mem] at h2;intro c hc;exact h2 c (by simpa using hc)
theorem E4 (ns:List Int):∃ a b c d:Str,gV [scr ns,.int 1]=some (.shr (.lst [.str a,.str b,.str c,.str d]))/\bE a=true/\bE b=true/\bE c=true/\bE d=true:=by
 obtain ⟨c1,e1⟩:=lQ ns (k:=1) (by decide);obtain ⟨c2,e2⟩:=lQ ns (k:=1+1) (by decide);obtain ⟨z,ez,nz⟩:=As c1 (w:=1) (by decide) (by decide);obtain ⟨y,ey,ny⟩:=As c2 (w:=4) (by decide) (by decide);obtain ⟨z1,z8,zl⟩:=iw.mp nz;obtain ⟨r,er,r0,r1⟩:=jh c2 (w:=2) (by decide) (by decide)
 have hl:tV [.str z]=some (.int (z.length:Int)):=by
  show (if z.length<=100000 then _ else _)=_;rw [if_pos (by omega)]
 have em:=aS (i:=r) (j:=(z.length:Int)) (by omega);obtain ⟨s,es,os⟩:=Ay (Yb _ (by decide)) (Z5 _ (by decide));have ls:=os.1;have sl:=Cn os;have a1:=Txt.slice_le z none (some (r % (z.length:Int)));have a2:=Txt.slice_le z (some (r % (z.length:Int)+1)) none;have f1:=ma (x:=Txt.slice z none (some (r % (z.length:Int)))) (y:=s) (by omega);have f2:=ma (x:=Txt.slice z none (some (r % (z.length:Int)))++s) (y:=Txt.slice z (some (r % (z.length:Int)+1)) none) (by rw [len_app]; omega);have f3:=ma (x:=z) (y:=s) (by omega);have p0:=Yb r (b:=(z.length:Int)) (by omega);have p1:=Z5 r (b:=(z.length:Int)) (by omega);obtain ⟨p,hp⟩:∃ p:Nat,r % (z.length:Int)=(p:Int):=⟨(r % (z.length:Int)).toNat,by omega⟩
 rw [hp] at p1;have s1:(Txt.slice z none (some (p:Int))).cps.toList=(z.cps.toList.drop 0).take (p - 0):=jD z (Z1 _) (by omega) (StrLaws.sliceIdx_none_lo _ _);have s2:(Txt.slice z (some ((p:Int)+1)) none).cps.toList=(z.cps.toList.drop (p+1)).take (z.length - (p+1)):=jD z (by omega) (Zi _) (StrLaws.sliceIdx_none_hi _ _)
 have zs:∀ c ∈ (z++s).cps.toList,lower c=true:=by
  intro c hc;rw [qq] at hc;rcases Zg.mp hc with h | h
  · exact zl c h
  · exact sl c h
 have lzs:=len_app z s
 have s3:(Txt.slice (z++s) (some (-8)) none).cps.toList=((z++s).cps.toList.drop ((z++s).length - 8)).take ((z++s).length - ((z++s).length - 8)):=by
  refine jD (z++s) (by omega) (Zi _) ?_
  rw [PyProof.Rows.sliceIdx_lo_neg _ (by decide),StrLaws.sliceIdx_none_hi];congr 2;omega
 refine ⟨z,Txt.slice z none (some (r % (z.length:Int)))++s++Txt.slice z (some (r % (z.length:Int)+1)) none,Txt.slice (z++s) (some (-8)) none,y,?_,nz,?_,?_,ny⟩
 ·unfold gV gO
  dsimp only;refine bq ?_
  refine aT (aY (d:=.str LET) e_c) ?_
  refine aT (aY (by walk_at "ee")) ?_
  refine aT (aY (by walk_at "ee")) ?_
  refine aT (aY (by walk_at "ee")) ?_
  refine aT (aY (by walk_at "ee")) ?_
  refine aT (aY (ax (ax (DF e_v xH (ff e_v) (by omega)) e_v f1) (DF e_v (ff (ax e_v e_c (aM _ _))) xH (by omega)) f2)) ?_
  refine aT (aY (DF (ax e_v e_v f3) (ff (Eh e_c rfl)) xH (by rw [len_app]; omega))) ?_
  exact ba (by walk_at "ee")
 ·rw [hp]
  refine iw.mpr ⟨by rw [len_app,len_app]; omega,?_,λ c hc=>?_⟩
  ·rw [len_app,len_app,iz (Txt.slice z none _),iz (Txt.slice z (some _) none),s1,s2,Yg,Yg,Yz,Yz]
   omega
  ·rw [qq,qq,s1,s2] at hc
   rcases Zg.mp hc with h | h
   ·rcases Zg.mp h with h | h
    · exact zl c (Xc (Yv h))
    · exact sl c h
   · exact zl c (Xc (Yv h))
 ·refine iw.mpr ⟨?_,?_,λ c hc=>?_⟩
  ·rw [iz,s3,Yg,Yz,<- iz]
   omega
  ·rw [iz,s3,Yg,Yz,<- iz]
   omega
  ·rw [s3] at hc
   exact zs c (Xc (Yv hc))
end N17
end
section
namespace N17
open PySem L2
def PL (a b c d:Str):D:=.lst [.str a,.str b,.str c,.str d]
structure PlN (a b c d:Str):Prop where
 a:bE a=true
 b:bE b=true
 c:bE c=true
 d:bE d=true
theorem vc {a b c d:Str} (h:PlN a b c d) {k:Int} (k0:0<=k) (k1:k < 4):∃ x:Str,oIx (PL a b c d) (.int k)=some (.str x)/\bE x=true:=by
 have:k=0\/k=1\/k=2\/k=3:=by omega
 rcases this with rfl | rfl | rfl | rfl
 · exact ⟨a,rfl,h.a⟩
 · exact ⟨b,rfl,h.b⟩
 · exact ⟨c,rfl,h.c⟩
 · exact ⟨d,rfl,h.d⟩
theorem G8:Eo 10 30:=⟨by decide,by decide,by decide⟩
def il (k:Bool):Str:=if k=true then "back" else "front"
inductive Tr:Nat->D->Prop where
 | any (n:Nat):Tr n (.tup [.str "any"])
 | name (n:Nat) (x:Str):Tr n (.tup [.str "name",.str x])
 | mark (n:Nat) (x:Str):Tr n (.tup [.str "mark",.str x])
 | Hq (n:Nat) (k:Bool) (f e:Int) (h:0<=e):Tr n (.tup [.str (il k),.int f,.int e])
 | neg (n:Nat) (d:D) (h:Tr n d):Tr (n+1) (.tup [.str "not",d])
 | one (n:Nat) (ds:List D) (h3:ds.length<=100) (h:∀ d ∈ ds,Tr n d):Tr (n+1) (.tup [.str "one",.tup ds])
section
variable {pa pb pc pd:Str}
theorem va (hP:PlN pa pb pc pd) (c:Int) {w:Int} (w0:0<=w) (w1:w<=10000):∃ d,fZ [.int c,.int w,PL pa pb pc pd]=some (.shr d)/\∀ n,Tr n d:=by
 obtain ⟨r,er,r0,r1⟩:=jh c w0 w1;have p30:=Cr G8;have m30:=aS (i:=c) (j:=10 ^ (Int.toNat 30)) (by decide +kernel);have t0:=bt (r % 6) 0;have t5:=bt (r % 6) 5;obtain ⟨x,ex,_⟩:=vc hP (k:=r / 6 % 4) (Yb _ (by decide)) (Z5 _ (by decide))
 have fb:∃ k:Bool,oIx (.lst [.str "front",.str "back"]) (.int (r % 6 % 2))=some (.str (il k)):=by
  have:r % 6 % 2=0\/r % 6 % 2=1:=by omega
  rcases this with h | h
  · rw [h]; exact ⟨false,rfl⟩
  · rw [h]; exact ⟨true,rfl⟩
 obtain ⟨k,ek⟩:=fb
 have key:Ret (λ d=>∀ n,Tr n d) ((dX).1 (fm 7 [.int c,.int w,PL pa pb pc pd])):=by
  unfold dX;dsimp only;show Ret _ (fh _ _ [.shr (.int c),.shr (.int w),.shr (PL pa pb pc pd),.no,.no,.no,.no]);refine l7 (aY (d:=.int r) (by walk_at "ee")) ?_
  refine l7 (aY (d:=.int (r % 6)) (by walk_at "ee")) ?_
  refine D4 (b:=decide (r % 6=0)||decide (r % 6=5)) (by walk_at "ee") (λ _=>lu (d:=.tup [.str "any"]) (by walk_at "ee") λ n=>.any n) (λ _=>?_);refine D4 (b:=decide (r % 6=1)) (by walk_at "ee") (λ _=>lu (d:=.tup [.str "name",.str x]) (by walk_at "ee") λ n=>.name n _) (λ _=>?_);refine D4 (b:=decide (r % 6=2)) (by walk_at "ee") (λ _=>lu (d:=.tup [.str "mark",.str x]) (by walk_at "ee") λ n=>.mark n x) (λ _=>?_);refine l7 (aY (d:=.int (r / 6 % 6)) (by walk_at "ee")) ?_
  refine l7 (aY (d:=.int (r / 36 % 4)) (by walk_at "ee")) ?_
  refine JA (R:=λ τ=>∃ f e:Int,0<=e/\τ=[.shr (.int c),.shr (.int w),.shr (PL pa pb pc pd),.shr (.int r),.shr (.int (r % 6)),.shr (.int f),.shr (.int e)]) (IH (b:=decide (r / 144 % 8=5)) (by walk_at "ee") (λ _=>Ge (aT (aY (d:=.int (c % 10 ^ (Int.toNat 30))) (by walk_at "ee")) (aY (d:=.int (r / 1152)) (by walk_at "ee"))) ⟨_,_,by omega,rfl⟩) (λ _=>qZ ⟨_,_,by omega,rfl⟩)) ?_
  rintro _ ⟨f,e,he,rfl⟩
  refine JA (R:=λ τ=>∃ f e:Int,0<=e/\τ=[.shr (.int c),.shr (.int w),.shr (PL pa pb pc pd),.shr (.int r),.shr (.int (r % 6)),.shr (.int f),.shr (.int e)]) (IH (b:=decide (r / 144 % 8=6)) (by walk_at "ee") (λ _=>Ge (aY (d:=.int (c % 10 ^ (Int.toNat 30))) (by walk_at "ee")) ⟨_,_,Yb _ (by decide +kernel),rfl⟩) (λ _=>qZ ⟨_,_,he,rfl⟩)) ?_
  rintro _ ⟨f,e,he,rfl⟩
  exact Bm (d:=.tup [.str (il k),.int f,.int e]) (by walk_at "ee") λ n=>.Hq n k f e he
 exact zu key
theorem pI {m:Nat} {gg:D->Option D}:∀ {ds:List D},(∀ d ∈ ds,∃ x,gg d=some x/\Tr m x)->∃ xs:List D,pJ gg ds=some xs/\xs.length=ds.length/\∀ d ∈ xs,Tr m d
 | [],_=>⟨[],rfl,rfl,λ d h=>absurd h Z8⟩
 | d::ds,h=>by
  obtain ⟨x,e1,p1⟩:=h d (Ze ..);obtain ⟨xs,e2,l2,p2⟩:=pI (m:=m) (gg:=gg) (ds:=ds) λ x hx=>h x (Zd _ hx)
  refine ⟨x::xs,by simp only [pJ,e1,e2]; rfl,by simp [l2],λ d hd=>?_⟩;rcases Zl.mp hd with rfl | hd
  · exact p1
  · exact p2 d hd
def IW (pa pb pc pd:Str) (n:Nat) (F:List D->Option Sl):Prop:=∀ c w:Int,0<=w->w+100 * n<=1200->∃ d,F [.int c,.int w,PL pa pb pc pd,.int n]=some (.shr d)/\Tr n d
theorem Nz (hP:PlN pa pb pc pd) {F:List D->Option Sl} {n:Nat} (hF:∀ m,n=m+1->IW pa pb pc pd m F):IW pa pb pc pd n (bU 5 4 (cZ F).1):=by
 intro c w w0 w1;obtain ⟨r,er,r0,r1⟩:=jh c (w:=w+13) (by omega) (by omega);obtain ⟨dp,ep,tp⟩:=va hP c w0 (by omega);have t0:=bt (n:Int) 0;have t1:=jS (r % 4) 2;have t2:=bt (r % 4) 2
 have key:Ret (λ d=>Tr n d) ((cZ F).1 (fm 5 [.int c,.int w,PL pa pb pc pd,.int n])):=by
  unfold cZ;dsimp only;show Ret _ (fh _ _ [.shr (.int c),.shr (.int w),.shr (PL pa pb pc pd),.shr (.int n),.no]);refine l7 (aY (d:=.int r) (by walk_at "ee")) ?_
  refine D4 (b:=decide ((n:Int)=0)||decide (r % 4 < 2)) (by walk_at "ee") (λ _=>lu (d:=dp) (by walk_at "ee") (tp n)) (λ h=>?_);have hn:n≠0:=λ z=>by subst z; simp at h
  obtain ⟨m,rfl⟩:∃ m,n=m+1:=⟨n - 1,by omega⟩
  have em:Cq (.int ((m+1:Nat):Int)) (.int 1)=some (.int (m:Int)):=by
   rw [cO]; congr 2; omega
  refine D4 (b:=decide (r % 4=2)) (by walk_at "ee") (λ _=>?_) (λ _=>?_)
  ·obtain ⟨d,e,t⟩:=hF m rfl c (w+7) (by omega) (by omega)
   exact lu (d:=.tup [.str "not",d]) (by walk_at "ee") (.neg m d t)
  ·have q0:=Yb (r / 4) (b:=4) (by decide)
   have q1:=Z5 (r / 4) (b:=4) (by decide)
   obtain ⟨xs,exs,l1,hx⟩:=pI (m:=m) (gg:=λ d=>dFn F (au (aC 1) (au (dOp ie (dOp ie (aC 4) (dOp vF (dC (.int 19)) (aC 0))) (dC (.int 23))) (au (aC 2) (au (dOp Cq (aC 3) (dC (.int 1))) cz)))) [.shr d,.shr (.int c),.shr (PL pa pb pc pd),.shr (.int ((m+1:Nat):Int)),.shr (.int w)]) (ds:=oI 0 (Int.toNat (r / 4 % 4))) (by
    intro d hm;obtain ⟨j,hj,rfl⟩:=oZ hm;obtain ⟨d,e,t⟩:=hF m rfl c (w+19 * (j:Int)+23) (by omega) (by omega)
    exact ⟨d,by walk_at "ee",t⟩)
   rw [fo] at l1;have et:qR [.lst xs]=some (.tup xs):=rfl;refine Bm (d:=.tup [.str "one",.tup xs]) (mw (ah e_c (ah (bo (ah (nZ (pS (j:=r / 4 % 4) (by walk_at "ee") (by omega)) (by rw [fo]; omega) ?_) ay) et) ay)) (by simp)) (.one m xs (by omega) hx);exact exs
 exact zu key
theorem uf (hP:PlN pa pb pc pd):∀ n,IW pa pb pc pd n (b6 (n+1))
 | 0=>Nz hP (F:=b6 0) λ m e=>by cases e
 | n+1=>Nz hP (F:=b6 (n+1)) λ m e=>by cases e; exact uf hP n
theorem A4 (hP:PlN pa pb pc pd):IW pa pb pc pd 2 fY:=uf hP 2
def stD (j:Str) (tr:List D):D:=.tup [.str j,.tup tr]
def pO:List Str:=[" ",">","+","~"]
def Mz (j:Nat) (s:Str×List D):Prop:=(∀ d ∈ s.2,Tr 2 d)/\s.2.length<=100/\(j=0->s.1="")/\(j≠0->s.1 ∈ pO)
structure Pt (ss:List (Str×List D)):Prop where
 n0:0 < ss.length
 n8:ss.length<=8
 st:∀ (p:Nat) (s:Str×List D),ss[p]?=some s->Mz p s
def ptL (ss:List (Str×List D)):List D:=ss.map λ s=>stD s.1 s.2
def ptD (ss:List (Str×List D)):D:=.tup (ptL ss)
theorem Dk (r:Int):∃ x:Str,oIx (.lst [.str " ",.str ">",.str "+",.str "~"]) (.int (r % 4))=some (.str x)/\x ∈ pO:=by
 have h0:=Yb r (b:=4) (by decide);have h1:=Z5 r (b:=4) (by decide);have:r % 4=0\/r % 4=1\/r % 4=2\/r % 4=3:=by omega
 rcases this with h | h | h | h <;> rw [h]
 · exact ⟨" ",rfl,by decide⟩
 · exact ⟨">",rfl,by decide⟩
 · exact ⟨"+",rfl,by decide⟩
 · exact ⟨"~",rfl,by decide⟩
theorem C2 (r:Int):∃ n:Int,oIx (.lst [.int 0,.int 1,.int 1,.int 2,.int 0]) (.int (r % 5))=some (.int n)/\0<=n/\n<=2:=by
 have h0:=Yb r (b:=5) (by decide);have h1:=Z5 r (b:=5) (by decide);have:r % 5=0\/r % 5=1\/r % 5=2\/r % 5=3\/r % 5=4:=by omega
 rcases this with h | h | h | h | h <;> rw [h]
 · exact ⟨0,rfl,by decide,by decide⟩
 · exact ⟨1,rfl,by decide,by decide⟩
 · exact ⟨1,rfl,by decide,by decide⟩
 · exact ⟨2,rfl,by decide,by decide⟩
 · exact ⟨0,rfl,by decide,by decide⟩
theorem ng (hP:PlN pa pb pc pd) (c:Int) {w m:Int} (w0:0<=w) (w1:w<=100) (m0:0 < m) (m1:m<=8):∃ ss,bX [.int c,.int w,PL pa pb pc pd,.int m]=some (.shr (ptD ss))/\Pt ss:=by
 obtain ⟨r,er,r0,r1⟩:=jh c (w:=w) w0 (by omega);have k0:=Yb r (b:=m) (by omega);have k1:=Z5 r (b:=m) m0
 have key:Ret (λ d=>∃ ss,d=ptD ss/\Pt ss) ((cS).1 (fm 10 [.int c,.int w,PL pa pb pc pd,.int m])):=by
  unfold cS;dsimp only;refine l7 (lp (d:=.lst []) (du ay (Z1 _)) (show 4 < 10 by decide)) ?_
  refine l7 (aY (cy (ah (ag rfl) (ah (ag rfl) ay)) er rfl)) ?_
  refine JA (R:=λ τ=>∃ (ss:List (Str×List D)) (x6 x7 x8 x9:Sl),ss.length=(1+r % m).toNat/\(∀ p s,ss[p]?=some s->Mz p s)/\τ=[.shr (.int c),.shr (.int w),.shr (PL pa pb pc pd),.shr (.int m),.own (.lst (ptL ss)),.shr (.int r),x6,x7,x8,x9]) (LH (λ j τ=>∃ (ss:List (Str×List D)) (x6 x7 x8 x9:Sl),ss.length=j/\(∀ p s,ss[p]?=some s->Mz p s)/\τ=[.shr (.int c),.shr (.int w),.shr (PL pa pb pc pd),.shr (.int m),.own (.lst (ptL ss)),.shr (.int r),x6,x7,x8,x9]) (pS (j:=1+r % m) (ah (ax e_c (ax (ag rfl) (ag rfl) (aS m0)) (aM _ _)) ay) (by omega)) ⟨[],_,_,_,_,rfl,(λ p s h=>by simp at h),rfl⟩ ?_ λ τ' ⟨ss,x6,x7,x8,x9,l,h,e⟩=>⟨ss,x6,x7,x8,x9,by rw [l,fo],h,e⟩) ?_
  ·rintro j d τ ed ⟨ss,x6,x7,x8,x9,l,h,rfl⟩
   obtain ⟨rfl,jl⟩:=jF ed;rw [Int.zero_add];refine ⟨[.shr (.int c),.shr (.int w),.shr (PL pa pb pc pd),.shr (.int m),.own (.lst (ptL ss)),.shr (.int r),.shr (.int (j:Int)),x7,x8,x9],rfl,?_⟩;have step:∀ {Q:List Sl->Prop} {f g:DS} {τ:List Sl} (R:List Sl->Prop),Nx R (f τ)->(∀ τ',R τ'->Nx Q (g τ'))->Nx Q (fh f g τ):=λ R ⟨τ',e,p⟩ k=>yS e (k τ' p)
   refine yS (aY (d:=.str "") e_c) ?_
   refine step (λ τ=>∃ x:Str,(j=0->x="")/\(j≠0->x ∈ pO)/\τ=[.shr (.int c),.shr (.int w),.shr (PL pa pb pc pd),.shr (.int m),.own (.lst (ptL ss)),.shr (.int r),.shr (.int (j:Int)),.shr (.str x),x8,x9]) (IH (aB (ax (ag rfl) e_c (show oGt _ _=some (.bl (decide ((j:Int) > 0))) from rfl))) (λ q=>?_) (λ q=>qZ ⟨"",λ _=>rfl,λ z=>absurd (of_decide_eq_false q) (by omega),rfl⟩)) ?_
   ·obtain ⟨a,ea,_,_⟩:=jh c (w:=w+3+(j:Int)) (by omega) (by omega)
    obtain ⟨x,ex,sx⟩:=Dk a;exact Ge (aY (ax (du (ah e_c (ah e_c (ah e_c (ah e_c ay)))) (Zb rfl)) (ax (cy (ah (ag rfl) (ah (ax (ax (ag rfl) e_c (aM _ _)) (ag rfl) (aM _ _)) ay)) ea rfl) e_c (aS (by decide))) ex)) ⟨x,λ z=>absurd (Xq q) (by omega),λ _=>sx,rfl⟩
   rintro τ ⟨x,sx0,sx,rfl⟩
   obtain ⟨a,ea,_,_⟩:=jh c (w:=w+40+(j:Int)) (by omega) (by omega);obtain ⟨n,en,n0,n1⟩:=C2 a;have em:∀ {τ:List Sl},τ[0]?=some (.shr (.int c))->τ[1]?=some (.shr (.int w))->τ[6]?=some (.shr (.int (j:Int)))->dFn b8 (au (aC 0) (au (dOp ie (dOp ie (aC 1) (dC (.int 40))) (aC 6)) cz)) τ=some (.int a):=λ h0 h1 h6=>cy (ah (ag h0) (ah (ax (ax (ag h1) e_c (aM _ _)) (ag h6) (aM _ _)) ay)) ea rfl
   refine yS (aY (ax (du (ah e_c (ah e_c (ah e_c (ah e_c (ah e_c ay))))) (Zb rfl)) (ax (em rfl rfl rfl) e_c (aS (by decide))) en)) ?_
   obtain ⟨ys,eys,l1,hy⟩:=pI (m:=2) (gg:=λ d=>dFn fY (au (aC 1) (au (dOp ie (dOp ie (dOp ie (aC 3) (dC (.int 60))) (dOp vF (dC (.int 31)) (aC 4))) (dOp vF (dC (.int 11)) (aC 0))) (au (aC 2) (au (dC (.int 2)) cz)))) [.shr d,.shr (.int c),.shr (PL pa pb pc pd),.shr (.int w),.shr (.int (j:Int))]) (ds:=oI 0 (Int.toNat n)) (by
    intro d hm;obtain ⟨i,hi,rfl⟩:=oZ hm;obtain ⟨d,e,t⟩:=A4 hP c (w+60+31 * (j:Int)+11 * (i:Int)) (by omega) (by omega)
    exact ⟨d,cy (ah (ag rfl) (ah (ax (ax (ax (ag rfl) e_c (aM _ _)) (ax e_c (ag rfl) (nu (by decide) (by decide))) (aM _ _)) (ax e_c (ag rfl) (nu (by decide) (by decide))) (aM _ _)) (ah (ag rfl) (ah e_c ay)))) e rfl,t⟩)
   rw [fo] at l1;refine yS (aY (d:=.lst ys) (nZ (pS (j:=n) (ah (ag rfl) ay) (by omega)) (by rw [fo]; omega) eys)) ?_
   refine step (λ τ=>∃ zs:List D,(∀ z ∈ zs,Tr 2 z)/\zs.length<=100/\τ=[.shr (.int c),.shr (.int w),.shr (PL pa pb pc pd),.shr (.int m),.own (.lst (ptL ss)),.shr (.int r),.shr (.int (j:Int)),.shr (.str x),.shr (.int n),.shr (.lst zs)]) (IH (aB (ax (ax (ax (em rfl rfl rfl) e_c (dS (by decide) (by decide +kernel))) e_c (aS (by decide))) e_c (bt _ _))) (λ q=>?_) (λ q=>qZ ⟨ys,hy,by omega,rfl⟩)) ?_
   ·obtain ⟨d,e,t⟩:=va hP c (w:=w+50+(j:Int)) (by omega) (by omega)
    have er:IU (Ei (au (dFn fZ (au (aC 0) (au (dOp ie (dOp ie (aC 1) (dC (.int 50))) (aC 6)) (au (aC 2) cz)))) cz)) (dC (.int 12)) [.shr (.int c),.shr (.int w),.shr (PL pa pb pc pd),.shr (.int m),.own (.lst (ptL ss)),.shr (.int r),.shr (.int (j:Int)),.shr (.str x),.shr (.int n),.shr (.lst ys)]=some (.lst (List.replicate 12 [d]).flatten):=by
     unfold IU;rw [du (ah (cy (ah (ag rfl) (ah (ax (ax (ag rfl) e_c (aM _ _)) (ag rfl) (aM _ _)) (ah (ag rfl) ay))) e rfl) ay) (Zb rfl)];rfl
    refine Ge (aY er) ⟨_,λ z hz=>?_,(by show 12<=100; decide),rfl⟩;obtain ⟨l,hl,hz⟩:=List.mem_flatten.mp hz;rw [List.eq_of_mem_replicate hl] at hz;rw [Zn.mp hz];exact t 2
   rintro τ ⟨zs,hz,lz,rfl⟩
   refine Ge (Bh (d:=stD x zs) (mw (ah (ag rfl) (ah (bo (ah (ag rfl) ay) rfl) ay)) (Zb rfl)) rfl (by rw [show (ptL ss).length=ss.length from Za _]; omega)) ⟨ss++[(x,zs)],_,_,_,_,by rw [Zt,l]; rfl,λ p s hs=>?_,by unfold ptL; rw [Zk]; rfl⟩
   by_cases hp:p < ss.length
   ·rw [List.getElem?_append_left hp] at hs
    exact h p s hs
   ·rw [List.getElem?_append_right (by omega)] at hs
    obtain ⟨hh,e⟩:=List.getElem?_eq_some_iff.mp hs;have e0:p=j:=by simp at hh; omega
    have es:s=(x,zs):=by rw [<- e]; simp
    subst es;exact ⟨hz,lz,λ z=>sx0 (e0 ▸ z),λ z=>sx (e0 ▸ z)⟩
  ·rintro τ ⟨ss,x6,x7,x8,x9,l,h,rfl⟩
   exact ⟨_,EM rfl (ba (bo (ah (ag rfl) ay) rfl)),ss,rfl,by omega,by omega,h⟩
 obtain ⟨d,e,ss,rfl,h⟩:=zu key;exact ⟨ss,e,h⟩
end
end N17
end
section
namespace N17
open PySem L2
theorem mi {b:D->DS} {d:D} {ds:List D} {τ τ':List Sl} {r:Option Out} (h:b d τ=some (.next τ')) (h2:mQ b ds τ'=r):mQ b (d::ds) τ=r:=by
 rw [mQ,h]; exact h2
theorem eqs {a b:Str} (h:a=b):oEq (.str a) (.str b)=some (.bl true):=by rw [fC,Zq h]
theorem nes {a b:Str} (h:a≠b):oEq (.str a) (.str b)=some (.bl false):=by rw [fC,Zo h]
theorem m3:∀ l:List Str,z4 (l.map .str)=some (l.map V.str)
 | []=>rfl
 | x::l=>by
  show (scD (.str x)).bind (λ v=>(z4 (l.map .str)).map (v::·))=_;rw [m3 l];rfl
theorem rA (p:Str):∀ l:List Str,inV (.str p) (l.map V.str)=decide (p ∈ l)
 | []=>by simp [inV]
 | x::l=>by
  have ih:=rA p l;unfold inV at *;rw [Zh,Y2,ih]
  by_cases h:p=x
  ·subst h
   simp [eqV]
  ·have h':¬ x=p:=λ z=>h z.symm
   simp [eqV,h,h']
theorem wA (p:Str) (l:List Str):D5 (.str p) (.lst (l.map .str))=some (.bl (decide (p ∈ l))):=by
 show (inS (.str p) (l.map .str)).map D.bl=_;unfold inS;rw [m3];show some (D.bl (inV (.str p) _))=_;rw [rA]
theorem rn:∀ ns:List Int,eE (ns.map .int)=some ns
 | []=>rfl
 | n::ns=>by
  show (eE (ns.map .int)).map _=_;rw [rn ns];rfl
theorem lH {ns:List Int} {k:Int} (hl:ns.length<=1000) (hk:k ∈ ns):FO (.lst (ns.map .int)) (.int k)=some (.int (ns.idxOf k:Nat)):=by
 show (eE (ns.map .int)).bind _=_;rw [rn];exact if_pos ⟨hl,hk⟩
theorem vG {ns:List Int} (h:ns.Nodup):ns.reverse.Nodup:=List.pairwise_reverse.mpr (h.imp λ z=>z.symm)
theorem Dr {ns:List Int} {k:Int} (h:ns.Nodup) (hk:k ∈ ns):ns.reverse.idxOf k=ns.length - 1 - ns.idxOf k:=by
 have hi:ns.idxOf k < ns.length:=Yo.mpr hk;have hr:ns.length - 1 - ns.idxOf k < ns.reverse.length:=by rw [Xe]; omega
 have e:=(vG h).idxOf_getElem _ hr;rw [List.getElem_reverse] at e;simp only [show ns.length - 1 - (ns.length - 1 - ns.idxOf k)=ns.idxOf k by omega,List.getElem_idxOf hi] at e;exact e
structure d5 (M:List B8) (i:Int) (b:B8) (rw:List Int):Prop where
 at_:fd M i=some b
 ro:(b.h=none/\rw=[i])\/∃ j bj,b.h=some j/\fd M j=some bj/\rw=bj.r
 mem:i ∈ rw
 nd:rw.Nodup
 len:rw.length<=1000
 ms:b.m.k.length < 64
 mm:∀ x,x ∈ b.m.l↔x ∈ b.m.k
def plc (k:Bool) (rw:List Int) (i:Int):Int:=if k=true then (rw.length:Int) - (rw.idxOf i:Nat) else (rw.idxOf i:Nat)+1
def G9 (p f e:Int):Bool:=if e=0 then decide (p=f) else decide (p % e=f % e)
structure RdR (M:List B8) (R:D):Prop where
 at_:∀ i b,fd M i=some b->g7 R (.int i)=some (.lst (b.r.map .int))
 nin:∀ i b,fd M i=some b->gC (.int i) R=some (.bl false)
def mlD (M:List B8):D:=.dct (kv (λ b=>.lst (b.m.l.map .str)) M)
section
variable {t:Adr} {gv:Int} {M:List B8} {i:Int} {b:B8} {rw:List Int}
theorem m4 (S:d5 M i b rw):mN t [trD t.ai gv M,.int i]=some (.shr (.lst (rw.map .int))):=by
 unfold mN mM;dsimp only;refine bq (aT ((aY (eF (ag rfl) (ah (ag rfl) ay) rfl (j0 S.at_) rfl)).trans rfl) (ba ?_));rcases S.ro with ⟨h,rfl⟩ | ⟨j,bj,h,hj,rfl⟩
 ·rw [h]
  exact Mm (b:=true) (aB (ax (ag rfl) e_c rfl)) (λ _=>du (ah (ag rfl) ay) (Zb rfl)) nofun
 ·rw [h]
  exact Mm (b:=false) (aB (ax (ag rfl) e_c rfl)) nofun λ _=>eF (ag rfl) (ah (ag rfl) ay) rfl (zR hj) rfl
theorem sq (S:d5 M i b rw):kJ t [trD t.ai gv M,.int i]=some (.shr (.tup [.int ((rw.idxOf i:Nat)+1),.int (rw.length:Int)])):=by
 unfold kJ kG;dsimp only;exact bq (aT ((aY (cy (ah (ag rfl) (ah (ag rfl) ay)) (m4 S) rfl)).trans rfl) (ba (mw (ah (ax (ax (ag rfl) (ag rfl) (lH S.len S.mem)) e_c (aM _ _)) (ah (bo (ah (ag rfl) ay) (wa rw)) ay)) (Zb rfl))))
theorem tG (p f:Int) {e:Int} (he:0<=e):fU [.int p,.int f,.int e]=some (.shr (.bl (G9 p f e))):=by
 unfold fU fL G9;dsimp only;have t0:=bt e 0;refine bq ?_
 by_cases h:e=0
 ·rw [Zq h] at t0
  rw [if_pos h];exact bN (aB (ax (ag rfl) e_c t0)) (ba (ax (ag rfl) (ag rfl) (bt _ _)))
 ·rw [Zo h] at t0
  rw [if_neg h];exact aK (aB (ax (ag rfl) e_c t0)) (ba (ax (ax (ag rfl) (ag rfl) (aS (by omega))) (ax (ag rfl) (ag rfl) (aS (by omega))) (bt _ _)))
theorem Hj (vs:List Bool):MK [.lst (vs.map .bl)]=some (.bl (vs.any id)):=by
 have e:∀ vs:List Bool,t6 (vs.map .bl)=some vs:=λ vs=>by
  induction vs with
  | nil=>rfl
  | cons v vs ih =>
   show (t6 (vs.map .bl)).map _=_;rw [ih];rfl
 show (t6 (vs.map .bl)).map _=_;rw [e];rfl
theorem vY {P:D->Bool->Prop}:∀ {ds:List D},(∀ (j:Nat) (d:D),ds[j]?=some d->∃ v,P d v)->∃ vs:List Bool,vs.length=ds.length/\∀ (j:Nat) (d:D) (v:Bool),ds[j]?=some d->vs[j]?=some v->P d v
 | [],_=>⟨[],rfl,λ j d v h=>by simp at h⟩
 | d::ds,h=>by
  obtain ⟨v,p⟩:=h 0 d rfl;obtain ⟨vs,l,q⟩:=vY (P:=P) (ds:=ds) λ j d e=>h (j+1) d (by simpa using e)
  refine ⟨v::vs,by simp [l],λ j d' v' h1 h2=>?_⟩
  cases j with
  | zero=>simp at h1 h2; subst h1 h2; exact p
  | succ j=>exact q j d' v' (by simpa using h1) (by simpa using h2)
theorem Av {g:D->Option D}:∀ {ds:List D} {vs:List Bool},vs.length=ds.length->(∀ (j:Nat) (d:D) (v:Bool),ds[j]?=some d->vs[j]?=some v->g d=some (.bl v))->pJ g ds=some (vs.map .bl)
 | [],[],_,_=>rfl
 | [],_::_,h,_=>by cases h
 | _::_,[],h,_=>by cases h
 | d::ds,v::vs,h,hh=>by
  have e:=Av (g:=g) (ds:=ds) (vs:=vs) (by simpa using h) λ j d v h1 h2=>hh (j+1) d v (by simpa using h1) (by simpa using h2)
  simp only [pJ,hh 0 d v rfl rfl,e];rfl
theorem AL {G:List D->Option Sl} {a0 a1 a2 a3 a4:D} {s5 s7 s8:Sl}:∀ {ds:List D} {vs:List Bool} (s6:Sl),vs.length=ds.length->(∀ (j:Nat) (d:D) (v:Bool),ds[j]?=some d->vs[j]?=some v->G [a0,a1,a2,d,a4]=some (.shr (.bl v))) ->
    ∃ s6',mQ (λ d τ=>(gN 6 d τ).bind (sIf (dT (dFn G (au (aC 0) (au (aC 1) (au (aC 2) (au (aC 6) (au (aC 4) cz))))))) (mO (dC (.bl true))) eu)) ds [.shr a0,.shr a1,.shr a2,.shr a3,.shr a4,s5,s6,s7,s8] =
      if vs.any id=true then some (.ret (.shr (.bl true))) else some (.next [.shr a0,.shr a1,.shr a2,.shr a3,.shr a4,s5,s6',s7,s8])
  | [],[],s6,_,_=>⟨s6,rfl⟩
  | [],_::_,_,h,_=>by cases h
  | _::_,[],_,h,_=>by cases h
  | d :: ds,v::vs,s6,h,hh=>by
    have h0:=hh 0 d v rfl rfl;have t:dT (dFn G (au (aC 0) (au (aC 1) (au (aC 2) (au (aC 6) (au (aC 4) cz)))))) [.shr a0,.shr a1,.shr a2,.shr a3,.shr a4,s5,.shr d,s7,s8]=some v:=aB (cy (ah (ag rfl) (ah (ag rfl) (ah (ag rfl) (ah (ag rfl) (ah (ag rfl) ay))))) h0 rfl)
    cases v with
    | true =>
      refine ⟨s6,?_⟩;show (match (sIf _ _ _ [.shr a0,.shr a1,.shr a2,.shr a3,.shr a4,s5,.shr d,s7,s8]:Option Out) with | some (.next τ')=>_ | some (.cnt τ')=>_ | some (.brk τ')=>_ | r=>r)=_;rw [je (b:=true) (r:=some (.ret (.shr (.bl true)))) t (λ _=>ba e_c) nofun];rfl
    | false =>
      obtain ⟨s6',e⟩:=AL (a3:=a3) (s5:=s5) (s7:=s7) (s8:=s8) (.shr d) (by simpa using h) λ j d v h1 h2=>hh (j+1) d v (by simpa using h1) (by simpa using h2)
      refine ⟨s6',?_⟩;rw [show ((false::vs).any id)=vs.any id from rfl,<- e];exact mi (τ':=[.shr a0,.shr a1,.shr a2,.shr a3,.shr a4,s5,.shr d,s7,s8]) (je (b:=false) t nofun λ _=>rfl) rfl
end
theorem d3 {k:Bool} {x:Str} (h:("back":Str)≠x/\("front":Str)≠x):oEq (.str (il k)) (.str x)=some (.bl false):=by
 cases k
 · exact nes h.2
 · exact nes h.1
theorem C1 (x:Str) (ss:List Str):x ∈ D2 ss↔x ∈ ss:=(List.mergeSort_perm ss leS).mem_iff
section
variable {t:Adr} {gv:Int} {M:List B8} {i:Int} {b:B8} {rw:List Int} {R:D} {F G:List D->Option Sl}
theorem has_any:bU 6 3 (aQ t F).1 [trD t.ai gv M,.int i,.tup [.str "any"]]=some (.shr (.bl true)):=by
 unfold aQ;dsimp only;refine bq (aT (aY (d:=.str "any") (ax (ag rfl) e_c (br _ _))) ?_);exact bN (aB (ax (ag rfl) e_c (eqs rfl))) (ba e_c)
theorem zj (S:d5 M i b rw) (x:Str):bU 6 3 (aQ t F).1 [trD t.ai gv M,.int i,.tup [.str "name",.str x]]=some (.shr (.bl (decide (b.n=x)))):=by
 unfold aQ;dsimp only;refine bq (aT (aY (d:=.str "name") (ax (ag rfl) e_c (br _ _))) ?_);refine aK (aB (ax (ag rfl) e_c (nes (by decide)))) ?_
 exact bN (aB (ax (ag rfl) e_c (eqs rfl))) (ba (ax (eF (ag rfl) (ah (ag rfl) ay) rfl (Cw S.at_) rfl) (ax (ag rfl) e_c (cA _ _ _)) (fC _ _)))
theorem zk (S:d5 M i b rw) (x:Str):bU 6 3 (aQ t F).1 [trD t.ai gv M,.int i,.tup [.str "mark",.str x]]=some (.shr (.bl (decide (x ∈ b.m.k)))):=by
 unfold aQ;dsimp only;refine bq (aT (aY (d:=.str "mark") (ax (ag rfl) e_c (br _ _))) ?_);refine aK (aB (ax (ag rfl) e_c (nes (by decide)))) ?_
 refine aK (aB (ax (ag rfl) e_c (nes (by decide)))) ?_
 refine bN (aB (ax (ag rfl) e_c (eqs rfl))) (ba (ax (ax (ag rfl) e_c (cA _ _ _)) (eF (ag rfl) (ah (ag rfl) ay) rfl (yU S.at_ S.ms) rfl) ?_));rw [wA];congr 3;exact propext (C1 x b.m.k)
theorem Dt {d:D} {v:Bool} (h:F [trD t.ai gv M,.int i,d]=some (.shr (.bl v))):bU 6 3 (aQ t F).1 [trD t.ai gv M,.int i,.tup [.str "not",d]]=some (.shr (.bl (!v))):=by
 unfold aQ;dsimp only;refine bq (aT (aY (d:=.str "not") (ax (ag rfl) e_c (br _ _))) ?_);refine aK (aB (ax (ag rfl) e_c (nes (by decide)))) ?_
 refine aK (aB (ax (ag rfl) e_c (nes (by decide)))) ?_
 refine aK (aB (ax (ag rfl) e_c (nes (by decide)))) ?_
 exact bN (aB (ax (ag rfl) e_c (eqs rfl))) (ba (G5 (cy (ah (ag rfl) (ah (ag rfl) (ah (ax (ag rfl) e_c (cA _ _ _)) ay))) h rfl)))
theorem Ds {ds:List D} {vs:List Bool} (hl:vs.length=ds.length) (h3:ds.length<=100) (h:∀ (j:Nat) (d:D) (v:Bool),ds[j]?=some d->vs[j]?=some v->F [trD t.ai gv M,.int i,d]=some (.shr (.bl v))) :
  bU 6 3 (aQ t F).1 [trD t.ai gv M,.int i,.tup [.str "one",.tup ds]]=some (.shr (.bl (vs.any id))):=by
 unfold aQ;dsimp only;refine bq (aT (aY (d:=.str "one") (ax (ag rfl) e_c (br _ _))) ?_);refine aK (aB (ax (ag rfl) e_c (nes (by decide)))) ?_
 refine aK (aB (ax (ag rfl) e_c (nes (by decide)))) ?_
 refine aK (aB (ax (ag rfl) e_c (nes (by decide)))) ?_
 refine aK (aB (ax (ag rfl) e_c (nes (by decide)))) ?_
 refine bN (aB (ax (ag rfl) e_c (eqs rfl))) (ba (bo (ah (nZ (pR (ax (ag rfl) e_c (cA _ _ _))) (by omega) (Av hl λ j d v h1 h2=>?_)) ay) (Hj vs)));exact cy (ah (ag rfl) (ah (ag rfl) (ah (ag rfl) ay))) (h j d v h1 h2) rfl
theorem zi (S:d5 M i b rw) (k:Bool) (f:Int) {e:Int} (he:0<=e):bU 6 3 (aQ t F).1 [trD t.ai gv M,.int i,.tup [.str (il k),.int f,.int e]]=some (.shr (.bl (G9 (plc k rw i) f e))):=by
 unfold aQ;dsimp only;refine bq (aT (aY (d:=.str (il k)) (ax (ag rfl) e_c (br _ _))) ?_);refine aK (aB (ax (ag rfl) e_c (d3 (by decide)))) ?_
 refine aK (aB (ax (ag rfl) e_c (d3 (by decide)))) ?_
 refine aK (aB (ax (ag rfl) e_c (d3 (by decide)))) ?_
 refine aK (aB (ax (ag rfl) e_c (d3 (by decide)))) ?_
 refine aK (aB (ax (ag rfl) e_c (d3 (by decide)))) ?_
 refine aT (aY (cy (ah (ag rfl) (ah (ag rfl) ay)) (sq S) rfl)) ?_
 have ef:oEq (.str (il k)) (.str "front")=some (.bl (!k)):=by
  cases k
  · exact eqs rfl
  · exact nes (by decide)
 refine aT (aY (d:=.int (plc k rw i)) (Mm (b:=!k) (aB (ax (ag rfl) e_c ef)) (λ h=>?_) (λ h=>?_))) ?_
 ·have hk:k=false:=by simpa using h
  subst hk;exact ax (ag rfl) e_c (br _ _)
 ·have hk:k=true:=by simpa using h
  subst hk;refine ax (ax (ax (ag rfl) e_c (cA _ _ _)) (ax (ag rfl) e_c (br _ _)) (cO _ _)) e_c ((aM _ _).trans ?_);congr 2;show (rw.length:Int) - ((rw.idxOf i:Nat)+1)+1=(rw.length:Int) - (rw.idxOf i:Nat);omega
 · exact ba (cy (ah (ag rfl) (ah (ax (ag rfl) e_c (cA _ _ _)) (ah (ax (ag rfl) e_c (jT _ _ _ _)) ay))) (tG _ _ he) rfl)
theorem pW (S:d5 M i b rw):g7 (faD M) (.int i)=some (.tup [hD b.h,.str b.n]):=cB S.at_
theorem De:bU 9 5 (aZ G).1 [R,faD M,mlD M,.tup [.str "any"],.int i]=some (.shr (.bl true)):=by
 unfold aZ;dsimp only;refine bq (aT (aY (d:=.str "any") (ax (ag rfl) e_c (br _ _))) ?_);refine aK (aB (ax (ag rfl) e_c (nes (by decide)))) ?_
 refine aK (aB (ax (ag rfl) e_c (nes (by decide)))) ?_
 refine aK (aB (ax (ag rfl) e_c (nes (by decide)))) ?_
 refine aK (aB (ax (ag rfl) e_c (nes (by decide)))) ?_
 exact bN (aB (ax (ag rfl) e_c (eqs rfl))) (ba e_c)
theorem zb (S:d5 M i b rw) (x:Str):bU 9 5 (aZ G).1 [R,faD M,mlD M,.tup [.str "name",.str x],.int i]=some (.shr (.bl (decide (b.n=x)))):=by
 unfold aZ;dsimp only;refine bq (aT (aY (d:=.str "name") (ax (ag rfl) e_c (br _ _))) ?_);exact bN (aB (ax (ag rfl) e_c (eqs rfl))) (ba (ax (ax (ax (ag rfl) (ag rfl) (pW S)) e_c (cA _ _ _)) (ax (ag rfl) e_c (cA _ _ _)) (fC _ _)))
theorem zc (S:d5 M i b rw) (x:Str):bU 9 5 (aZ G).1 [R,faD M,mlD M,.tup [.str "mark",.str x],.int i]=some (.shr (.bl (decide (x ∈ b.m.k)))):=by
 unfold aZ;dsimp only;refine bq (aT (aY (d:=.str "mark") (ax (ag rfl) e_c (br _ _))) ?_);refine aK (aB (ax (ag rfl) e_c (nes (by decide)))) ?_
 refine bN (aB (ax (ag rfl) e_c (eqs rfl))) (ba (ax (ax (ag rfl) e_c (cA _ _ _)) (ax (ag rfl) (ag rfl) (cB S.at_)) ?_));rw [wA];congr 3;exact propext (S.mm x)
theorem C9 {d:D} {v:Bool} (h:G [R,faD M,mlD M,d,.int i]=some (.shr (.bl v))):bU 9 5 (aZ G).1 [R,faD M,mlD M,.tup [.str "not",d],.int i]=some (.shr (.bl (!v))):=by
 unfold aZ;dsimp only;refine bq (aT (aY (d:=.str "not") (ax (ag rfl) e_c (br _ _))) ?_);refine aK (aB (ax (ag rfl) e_c (nes (by decide)))) ?_
 refine aK (aB (ax (ag rfl) e_c (nes (by decide)))) ?_
 exact bN (aB (ax (ag rfl) e_c (eqs rfl))) (ba (G5 (cy (ah (ag rfl) (ah (ag rfl) (ah (ag rfl) (ah (ax (ag rfl) e_c (cA _ _ _)) (ah (ag rfl) ay))))) h rfl)))
theorem C8 {ds:List D} {vs:List Bool} (hl:vs.length=ds.length) (h:∀ (j:Nat) (d:D) (v:Bool),ds[j]?=some d->vs[j]?=some v->G [R,faD M,mlD M,d,.int i]=some (.shr (.bl v))) :
  bU 9 5 (aZ G).1 [R,faD M,mlD M,.tup [.str "one",.tup ds],.int i]=some (.shr (.bl (vs.any id))):=by
 unfold aZ;dsimp only;refine bq (aT (aY (d:=.str "one") (ax (ag rfl) e_c (br _ _))) ?_);refine aK (aB (ax (ag rfl) e_c (nes (by decide)))) ?_
 refine aK (aB (ax (ag rfl) e_c (nes (by decide)))) ?_
 refine aK (aB (ax (ag rfl) e_c (nes (by decide)))) ?_
 refine bN (aB (ax (ag rfl) e_c (eqs rfl))) ?_
 obtain ⟨s6,e⟩:=AL (a3:=.tup [.str "one",.tup ds]) (s5:=.shr (.str "one")) (s7:=.no) (s8:=.no) .no hl h
 have ef:xG (sZ (dOp oIx (aC 3) (dC (.int 1)))) (gN 6) (sIf (dT (dFn G (au (aC 0) (au (aC 1) (au (aC 2) (au (aC 6) (au (aC 4) cz))))))) (mO (dC (.bl true))) eu) [.shr (R),.shr (faD M),.shr (mlD M),.shr (.tup [.str "one",.tup ds]),.shr (.int i),.shr (.str "one"),.no,.no,.no]=(if vs.any id=true then some (.ret (.shr (.bl true))) else some (.next [.shr (R),.shr (faD M),.shr (mlD M),.shr (.tup [.str "one",.tup ds]),.shr (.int i),.shr (.str "one"),s6,.no,.no])):=by
  unfold xG;rw [pR (ax (ag rfl) e_c (cA _ _ _))];exact e
 cases hv:vs.any id with
 | true =>
  rw [hv] at ef;exact lq ef
 | false =>
  rw [hv] at ef;exact aT ef (ba e_c)
theorem za (hR:RdR M R) (S:d5 M i b rw) (k:Bool) (f:Int) {e:Int} (he:0<=e):bU 9 5 (aZ G).1 [R,faD M,mlD M,.tup [.str (il k),.int f,.int e],.int i]=some (.shr (.bl (G9 (plc k rw i) f e))):=by
 unfold aZ;dsimp only;refine bq (aT (aY (d:=.str (il k)) (ax (ag rfl) e_c (br _ _))) ?_);refine aK (aB (ax (ag rfl) e_c (d3 (by decide)))) ?_
 refine aK (aB (ax (ag rfl) e_c (d3 (by decide)))) ?_
 refine aK (aB (ax (ag rfl) e_c (d3 (by decide)))) ?_
 refine aK (aB (ax (ag rfl) e_c (d3 (by decide)))) ?_
 refine aK (aB (ax (ag rfl) e_c (d3 (by decide)))) ?_
 refine aT (aY (du (ah (ag rfl) ay) (Zb rfl))) ?_
 refine aT (τ':=[.shr (R),.shr (faD M),.shr (mlD M),.shr (.tup [.str (il k),.int f,.int e]),.shr (.int i),.shr (.str (il k)),.no,.shr (.lst (rw.map .int)),.no]) ?_ ?_
 ·rcases S.ro with ⟨h,rfl⟩ | ⟨j,bj,h,hj,rfl⟩
  ·have fi:=pW S
   rw [h] at fi;exact je (b:=false) (aB (ax (ax (ax (ag rfl) (ag rfl) fi) e_c (br _ _)) e_c rfl)) nofun λ _=>rfl
  ·have fi:=pW S
   rw [h] at fi;exact je (b:=true) (aB (ax (ax (ax (ag rfl) (ag rfl) fi) e_c (br _ _)) e_c rfl)) (λ _=>(aY (d:=.lst (bj.r.map .int)) (bo (ah (ax (ag rfl) (ax (ax (ag rfl) (ag rfl) fi) e_c (br _ _)) (hR.at_ _ _ hj)) ay) rfl)).trans rfl) nofun
 have hr:i ∈ rw.reverse:=List.mem_reverse.mpr S.mem;have hi:rw.idxOf i < rw.length:=Yo.mpr S.mem;refine aT (τ':=[.shr (R),.shr (faD M),.shr (mlD M),.shr (.tup [.str (il k),.int f,.int e]),.shr (.int i),.shr (.str (il k)),.no,.shr (.lst ((if k=true then rw.reverse else rw).map .int)),.no]) ?_ ?_
 ·cases k
  · exact je (b:=false) (aB (ax (ag rfl) e_c (nes (by decide)))) nofun λ _=>rfl
  ·refine je (b:=true) (aB (ax (ag rfl) e_c (eqs rfl))) (λ _=>(aY (d:=.lst (rw.reverse.map .int)) ?_).trans rfl) nofun
   unfold DK;rw [ag (d:=.lst (rw.map .int)) rfl];show some (D.lst (rw.map D.int).reverse)=_;rw [List.map_reverse]
 have ex:FO (.lst ((if k=true then rw.reverse else rw).map .int)) (.int i)=some (.int (plc k rw i - 1)):=by
  cases k
  ·refine (lH S.len S.mem).trans ?_
   congr 2;show _=((rw.idxOf i:Nat):Int)+1 - 1;omega
  ·refine (lH (ns:=rw.reverse) (by rw [Xe]; exact S.len) hr).trans ?_
   rw [Dr S.nd S.mem];congr 2;show _=(rw.length:Int) - (rw.idxOf i:Nat) - 1;omega
 refine aT (aY (d:=.int (plc k rw i)) (ax (ax (ag rfl) (ag rfl) ex) e_c ((aM _ _).trans (by congr 2; omega)))) ?_
 have t0:=bt e 0;unfold G9
 by_cases h:e=0
 ·rw [Zq h] at t0
  rw [if_pos h];exact bN (aB (ax (ax (ag rfl) e_c (jT _ _ _ _)) e_c t0)) (ba (ax (ag rfl) (ax (ag rfl) e_c (cA _ _ _)) (bt _ _)))
 ·rw [Zo h] at t0
  rw [if_neg h];refine aK (aB (ax (ax (ag rfl) e_c (jT _ _ _ _)) e_c t0)) (ba (ax (ax (ax (ag rfl) (ax (ag rfl) e_c (cA _ _ _)) (cO _ _)) (ax (ag rfl) e_c (jT _ _ _ _)) (aS (by omega))) e_c ((bt _ _).trans ?_)));congr 2;exact Xk.mpr Int.emod_eq_emod_iff_emod_sub_eq_zero.symm
theorem rC {n:Nat} {d:D} (hR:RdR M R) (S:d5 M i b rw) (h:Tr n d) (hF:∀ m,n=m+1->∀ d,Tr m d->∃ v,F [trD t.ai gv M,.int i,d]=some (.shr (.bl v))/\G [R,faD M,mlD M,d,.int i]=some (.shr (.bl v))) :
  ∃ v,bU 6 3 (aQ t F).1 [trD t.ai gv M,.int i,d]=some (.shr (.bl v))/\bU 9 5 (aZ G).1 [R,faD M,mlD M,d,.int i]=some (.shr (.bl v)):=by
 cases h with
 | any=>exact ⟨_,has_any,De⟩
 | name _ x=>exact ⟨_,zj S x,zb S x⟩
 | mark _ x=>exact ⟨_,zk S x,zc S x⟩
 | Hq _ k f e he=>exact ⟨_,zi S k f he,za hR S k f he⟩
 | neg m d' h' =>
  obtain ⟨v,e1,e2⟩:=hF m rfl d' h';exact ⟨_,Dt e1,C9 e2⟩
 | one m ds h3 h' =>
  obtain ⟨vs,lv,hv⟩:=vY (ds:=ds) (P:=λ d v=>F [trD t.ai gv M,.int i,d]=some (.shr (.bl v))/\G [R,faD M,mlD M,d,.int i]=some (.shr (.bl v))) λ j d hd=>hF m rfl d (h' d (List.mem_of_getElem? hd))
  exact ⟨_,Ds lv h3 λ j d v a c=>(hv j d v a c).1,C8 lv λ j d v a c=>(hv j d v a c).2⟩
theorem GL (hR:RdR M R) (S:d5 M i b rw):∀ (n:Nat) {d:D},Tr n d->∃ v,cH t (n+1) [trD t.ai gv M,.int i,d]=some (.shr (.bl v))/\dm (n+1) [R,faD M,mlD M,d,.int i]=some (.shr (.bl v))
 | 0,d,h=>rC (F:=cH t 0) (G:=dm 0) hR S h λ m e=>by cases e
 | n+1,d,h=>rC (F:=cH t (n+1)) (G:=dm (n+1)) hR S h λ m e d h=>by cases e; exact GL hR S n h
theorem Tr.up {n:Nat} {d:D} (h:Tr n d):Tr (n+1) d:=by
 induction h with
 | any n=>exact .any _
 | name n x=>exact .name _ x
 | mark n x=>exact .mark _ x
 | Hq n k f e h=>exact .Hq _ k f e h
 | neg n d h ih=>exact .neg _ d ih
 | one n ds h3 h ih=>exact .one _ ds h3 ih
theorem GN (hR:RdR M R) (S:d5 M i b rw) {d:D} (h:Tr 2 d):∃ v,dG t [trD t.ai gv M,.int i,d]=some (.shr (.bl v))/\dq [R,faD M,mlD M,d,.int i]=some (.shr (.bl v)):=GL hR S 3 h.up
end
end N17
end
section
namespace N17
open PySem L2
theorem l4:∀ l:List Int,z4 (l.map .int)=some (l.map V.int)
 | []=>rfl
 | i::l=>by
  show (scD (.int i)).bind (λ v=>(z4 (l.map .int)).map (v::·))=_;rw [l4 l];rfl
theorem pQ (j:Int):∀ l:List Int,inV (.int j) (l.map V.int)=decide (j ∈ l)
 | []=>by simp [inV]
 | k::l=>by
  have ih:=pQ j l;unfold inV at *;simp only [Zh,Y2,ih,Zl,Bool.decide_or];congr 1;show decide (k=j)=decide (j=k);rw [Xk];omega
theorem GK (j:Int) (l:List Int):D5 (.int j) (.lst (l.map .int))=some (.bl (decide (j ∈ l))):=by
 show (inS (.int j) (l.map .int)).map D.bl=_;unfold inS;rw [l4];show some (D.bl (inV (.int j) _))=_;rw [pQ]
theorem vJ (j:Int) (l:List Int):ir (.int j) (.lst (l.map .int))=some (.bl (!decide (j ∈ l))):=by
 show (inS (.int j) (l.map .int)).map (λ b=>D.bl !b)=_;unfold inS;rw [l4];show some (D.bl (!inV (.int j) _))=_;rw [pQ]
theorem G7 (r:List Int) (lo hi:Option Int):oSl (.lst (r.map .int)) lo hi=some (.lst (((r.drop (HT.sIx r.length 0 lo)).take (HT.sIx r.length r.length hi - HT.sIx r.length 0 lo)).map .int)):=by
 show some (D.lst (cutD (r.map .int) lo hi))=_;unfold cutD;rw [Za,<- Xw,<- Xv]
theorem EG (r:List Int) (n:Nat):oSl (.lst (r.map .int)) none (some (n:Int))=some (.lst ((r.take n).map .int)):=by
 rw [G7,HT.oX,HT.qD,List.drop_zero,Nat.sub_zero];congr 3;exact List.take_eq_take_iff.mpr (by omega)
theorem qA (r:List Int):oSl (.lst (r.map .int)) (some (-1)) none=some (.lst ((r.drop (r.length - 1)).map .int)):=by
 have e:HT.sIx r.length 0 (some (-1))=r.length - 1:=by
  show (if (-1:Int) < 0 then (-1+(r.length:Int)).toNat else min (-1:Int).toNat r.length)=_;rw [if_pos (by decide)];omega
 rw [G7,e,HT.qD,List.take_of_length_le (by rw [Yz]; exact Zi _)]
section
variable {t:Adr} {gv:Int} {M:List B8} {i:Int} {b:B8} {rw l:List Int} {R:D}
theorem se (S:d5 M i b rw):qu t [trD t.ai gv M,.int i]=some (.own (.lst ((rw.take (rw.idxOf i)).map .int))):=by
 unfold qu qt;dsimp only;have hi:rw.idxOf i < rw.length:=Yo.mpr S.mem;exact bq (aT ((aY (cy (ah (ag rfl) (ah (ag rfl) ay)) (m4 S) rfl)).trans rfl) (jE (AS (ag rfl) xH (ff (ax (ag rfl) (ag rfl) (lH S.len S.mem))) (EG rw _))))
def jnL (j:Str) (rw l:List Int) (i:Int):List Int :=
 if j=" " then l else if j=">" then l.take 1 else if j="+" then (rw.take (rw.idxOf i)).drop ((rw.take (rw.idxOf i)).length - 1) else rw.take (rw.idxOf i)
theorem nJ (S:d5 M i b rw) (L:Hl M i l) (hl:l.length < 1000) (j:Str):cI t [trD t.ai gv M,.str j,.int i]=some (.own (.lst ((jnL j rw l i).map .int))):=by
 unfold cI gM jnL;dsimp only;refine bq ?_
 by_cases h1:j=" "
 ·rw [if_pos h1]
  exact bN (aB (ax (ag rfl) e_c (eqs h1))) (jE (DH (ah (ag rfl) (ah (ag rfl) ay)) (iA L hl) rfl))
 rw [if_neg h1];refine aK (aB (ax (ag rfl) e_c (nes h1))) ?_
 by_cases h2:j=">"
 ·rw [if_pos h2]
  exact bN (aB (ax (ag rfl) e_c (eqs h2))) (jE (AS (cy (ah (ag rfl) (ah (ag rfl) ay)) (iA L hl) rfl) xH (ff e_c) (EG l 1)))
 rw [if_neg h2];refine aK (aB (ax (ag rfl) e_c (nes h2))) ?_
 by_cases h3:j="+"
 ·rw [if_pos h3]
  exact bN (aB (ax (ag rfl) e_c (eqs h3))) (jE (AS (cy (ah (ag rfl) (ah (ag rfl) ay)) (se S) rfl) (ff (Eh e_c rfl)) xH (qA _)))
 rw [if_neg h3];refine aK (aB (ax (ag rfl) e_c (nes h3))) ?_
 exact jE (DH (ah (ag rfl) (ah (ag rfl) ay)) (se S) rfl)
theorem AN (h:fd M i=some b):g7 (faD M) (.int i)=some (.tup [hD b.h,.str b.n]):=cB h
theorem wb {x:Int} (L:Hl M i l) {a0 a2 a4:D}:∀ (b:B8),fd M i=some b->bM (dT (dOp jR (aC 5) (dC .non))) (fh (sIf (dT (dOp oEq (aC 5) (aC 3))) (mO (dC (.bl true))) eu) (qB 5 (dOp oIx (dOp g7 (aC 1) (aC 5)) (dC (.int 0))))) (l.length+1) [.shr a0,.shr (faD M),.shr a2,.shr (.int x),.shr a4,.shr (hD b.h),.no]=if x ∈ l then some (.ret (.shr (.bl true))) else some (.next [.shr a0,.shr (faD M),.shr a2,.shr (.int x),.shr a4,.shr .non,.no]):=by
 induction L with
 | @top i b h e =>
  intro b' hb;rw [h] at hb;cases hb;rw [e,if_neg Z8];have t1:dT (dOp jR (aC 5) (dC .non)) [.shr a0,.shr (faD M),.shr a2,.shr (.int x),.shr a4,.shr (hD none),.no]=some false:=rfl;unfold bM;rw [t1];rfl
 | @up i j l b h e c ih =>
  intro b' hb;rw [h] at hb;cases hb;obtain ⟨bj,hj⟩:=c.get;rw [e];have t1:dT (dOp jR (aC 5) (dC .non)) [.shr a0,.shr (faD M),.shr a2,.shr (.int x),.shr a4,.shr (hD (some j)),.no]=some true:=rfl;have t3:dT (dOp oEq (aC 5) (aC 3)) [.shr a0,.shr (faD M),.shr a2,.shr (.int x),.shr a4,.shr (hD (some j)),.no]=some (decide (j=x)):=aB (ax (ag rfl) (ag rfl) (bt _ _))
  conv=>lhs; unfold bM
  rw [t1]
  by_cases hx:j=x
  ·rw [Zq hx] at t3
   rw [if_pos (by rw [hx]; exact Ze ..)];have t2:fh (sIf (dT (dOp oEq (aC 5) (aC 3))) (mO (dC (.bl true))) eu) (qB 5 (dOp oIx (dOp g7 (aC 1) (aC 5)) (dC (.int 0)))) [.shr a0,.shr (faD M),.shr a2,.shr (.int x),.shr a4,.shr (hD (some j)),.no]=some (.ret (.shr (.bl true))):=bN t3 (ba e_c);simp only [t2]
  ·rw [Zo hx] at t3
   have t2:fh (sIf (dT (dOp oEq (aC 5) (aC 3))) (mO (dC (.bl true))) eu) (qB 5 (dOp oIx (dOp g7 (aC 1) (aC 5)) (dC (.int 0)))) [.shr a0,.shr (faD M),.shr a2,.shr (.int x),.shr a4,.shr (hD (some j)),.no]=some (.next [.shr a0,.shr (faD M),.shr a2,.shr (.int x),.shr a4,.shr (hD bj.h),.no]) :=
    aK t3 ((aY (ax (ax (ag rfl) (ag rfl) (AN hj)) e_c (br _ _))).trans rfl)
   simp only [t2];refine (ih bj hj).trans ?_
   have:(x ∈ l)=(x ∈ j::l):=propext ⟨λ z=>Zd _ z,λ z=>(Zl.mp z).elim (λ e=>absurd e.symm hx) id⟩;simp only [this]
theorem wB:∀ {r:List Int} {n:Nat} {x:Int},x ∈ r.take n↔x ∈ r/\r.idxOf x < n
 | [],n,x=>by simp
 | y::r,0,x=>by simp
 | y::r,n+1,x=>by
  rw [List.take_succ_cons,Zl,Zl,List.idxOf_cons,wB]
  by_cases h:y=x
  · subst h; simp
  ·have h':x≠y:=λ z=>h z.symm
   have hb:(y == x)=false:=by simpa using h
   simp [h',hb]
theorem rB {r:List Int} {n:Nat} {x:Int} (nd:r.Nodup) (hn:n<=r.length):x ∈ (r.take n).drop ((r.take n).length - 1)↔x ∈ r/\r.idxOf x+1=n:=by
 cases n with
 | zero=>simp
 | succ m =>
  have hm:m < r.length:=hn
  have e:(r.take (m+1)).drop ((r.take (m+1)).length - 1)=[r[m]]:=by
   rw [Yg,Nat.min_eq_left hn,Nat.add_sub_cancel,List.take_add_one,List.getElem?_eq_getElem hm,List.drop_append_of_le_length (by rw [Yg]; omega),List.drop_take_self];rfl
  rw [e,Zn];constructor
  ·rintro rfl
   exact ⟨Xh hm,by rw [nd.idxOf_getElem _ hm]⟩
  ·rintro ⟨h1,h2⟩
   have hx:=List.getElem_idxOf (Yo.mpr h1);have:r.idxOf x=m:=by omega
   simp only [this] at hx;exact hx.symm
theorem me (hR:RdR M R) (S:d5 M i b rw) (L:Hl M i l) (j:Str) (hj:j ∈ pO) (x:Int):b9 [R,faD M,.str j,.int x,.int i]=some (.shr (.bl (decide (x ∈ jnL j rw l i)))):=by
  unfold b9 fQ;dsimp only;have fi:=AN S.at_;refine bq (aT ((aY (ax (ax (ag rfl) (ag rfl) fi) e_c (br _ _))).trans rfl) ?_)
  by_cases h1:j=">"
  · subst h1
    refine bN (aB (ax (ag rfl) e_c (eqs rfl))) (ba ?_);show _=some (D.bl (decide (x ∈ l.take 1)))
    cases L with
    | top h e => 
      rw [S.at_] at h;cases h;rw [e];rfl
    | @up _ j' l' _ h e c =>
      rw [S.at_] at h;cases h;rw [e];refine i9 (b:=true) (ax (ag rfl) e_c rfl) (ax (ag rfl) (ag rfl) ((bt _ _))) |>.trans ?_
      rw [Bool.true_and];congr 2;exact Xk.mpr ⟨λ z=>by rw [z]; exact Ze ..,λ z=>by simpa [eq_comm] using z⟩
  refine aK (aB (ax (ag rfl) e_c (nes h1))) ?_
  by_cases h2:j=" "
  · subst h2
    refine bN (aB (ax (ag rfl) e_c (eqs rfl))) ?_
    show _=some (Out.ret (.shr (.bl (decide (x ∈ l)))));have w:=wb (x:=x) (a0:=R) (a2:=.str " ") (a4:=.int i) L b S.at_
    by_cases hx:x ∈ l
    · rw [if_pos hx] at w
      rw [Zq hx];exact lq (gX w)
    · rw [if_neg hx] at w
      rw [Zo hx];exact aT (gX w) (ba e_c)
  refine aK (aB (ax (ag rfl) e_c (nes h2))) ?_
  have ejn:jnL j rw l i=if j="+" then (rw.take (rw.idxOf i)).drop ((rw.take (rw.idxOf i)).length - 1) else rw.take (rw.idxOf i):=by
    unfold jnL;rw [if_neg h2,if_neg h1]
  have hi:rw.idxOf i < rw.length:=Yo.mpr S.mem;rcases S.ro with ⟨h,hrw⟩ | ⟨k,bk,h,hk,hrw⟩
  · rw [h]
    have e0:jnL j rw l i=[]:=by
      rw [ejn,hrw];simp
    rw [e0,Zo Z8];exact bN (xE (b:=true) (aB (ax (ag rfl) e_c rfl)) nofun λ _=>rfl) (ba e_c)
  · rw [h]
    have er:=hR.at_ _ _ hk;rw [<- hrw] at er;have tn:∀ {τ:List Sl},τ[0]?=some (.shr R)->τ[3]?=some (.shr (.int x))->τ[5]?=some (.shr (.int k))->dOr (dT (dOp Hw (aC 5) (dC .non))) (dT (dOp ir (aC 3) (dOp g7 (aC 0) (aC 5)))) τ=some (!decide (x ∈ rw)):=λ h0 h3 h5=>xE (b:=false) (aB (ax (ag h5) e_c rfl)) (λ _=>aB (ax (ag h3) (ax (ag h0) (ag h5) er) (vJ x rw))) nofun
    by_cases hx:x ∈ rw
    · have t1:=tn (τ:=[.shr R,.shr (faD M),.shr (.str j),.shr (.int x),.shr (.int i),.shr (.int k),.no]) rfl rfl rfl
      rw [Zq hx] at t1;refine aK t1 ?_
      have xl:rw.idxOf x < rw.length:=Yo.mpr hx;refine aT ((aY (ax (ax (ax (ag rfl) (ag rfl) er) (ag rfl) (lH S.len S.mem)) (ax (ax (ag rfl) (ag rfl) er) (ag rfl) (lH S.len hx)) (cO _ _))).trans rfl) (ba ?_);have e1:=bt (((rw.idxOf i:Nat):Int) - (rw.idxOf x:Nat)) 1;have e2:oGt (.int (((rw.idxOf i:Nat):Int) - (rw.idxOf x:Nat))) (.int 1)=some (.bl (decide (1 < ((rw.idxOf i:Nat):Int) - (rw.idxOf x:Nat)))):=rfl;refine (zA (ax (ag rfl) e_c e1) (i9 (ax (ag rfl) e_c (fC _ _)) (ax (ag rfl) e_c e2))).trans ?_
      rw [ejn];congr 2
      by_cases h3:j="+"
      · subst h3
        rw [if_pos rfl,Zo (show ¬ ("+":Str)="~" by decide),Bool.false_and,Bool.or_false];exact Xk.mpr ⟨λ z=>(rB S.nd (by omega)).mpr ⟨hx,by omega⟩,λ z=>by have:=((rB S.nd (by omega)).mp z).2; omega⟩
      · have h4:j="~":=by
          unfold pO at hj;simp [h1,h2,h3] at hj;exact hj
        subst h4;rw [if_neg h3,Zq rfl,Bool.true_and,<- Bool.decide_or];exact Xk.mpr ⟨λ z=>wB.mpr ⟨hx,by omega⟩,λ z=>by have:=(wB.mp z).2; omega⟩
    · have t1:=tn (τ:=[.shr R,.shr (faD M),.shr (.str j),.shr (.int x),.shr (.int i),.shr (.int k),.no]) rfl rfl rfl
      rw [Zo hx] at t1
      have:x ∉ jnL j rw l i:=λ z=>by
        rw [ejn] at z;split at z
        · exact hx (Yv (Xc z))
        · exact hx (Yv z)
      rw [Zo this];exact bN t1 (ba e_c)
end
end N17
end
section
namespace N17
open PySem L2
theorem j7 {b:D->DS} {ds:List D} {v:D->Bool} {s:Sl} {Q:List Sl->Prop} (hT:∀ d ∈ ds,v d=true->∀ τ,Q τ->b d τ=some (.ret s)) (hF:∀ d ∈ ds,v d=false->∀ τ,Q τ->∃ τ',b d τ=some (.next τ')/\Q τ'):∀ {τ:List Sl},Q τ->(ds.any v=true->mQ b ds τ=some (.ret s))/\(ds.any v=false->∃ τ',mQ b ds τ=some (.next τ')/\Q τ'):=by
 induction ds with
 | nil=>intro τ q; exact ⟨λ h=>by simp at h,λ _=>⟨τ,rfl,q⟩⟩
 | cons d ds ih =>
  intro τ q;rw [Y2]
  cases hv:v d with
  | true =>
   have e:=hT d (Ze ..) hv τ q;refine ⟨λ _=>?_,λ h=>by simp at h⟩;show (match b d τ with | some (.next τ')=>mQ b ds τ' | some (.cnt τ')=>mQ b ds τ' | some (.brk τ')=>some (.next τ') | r=>r)=_;rw [e]
  | false =>
   obtain ⟨τ',e,q'⟩:=hF d (Ze ..) hv τ q;obtain ⟨h1,h2⟩:=ih (λ d hd=>hT d (Zd _ hd)) (λ d hd=>hF d (Zd _ hd)) q';rw [Bool.false_or];refine ⟨λ h=>mi e (h1 h),λ h=>?_⟩;obtain ⟨τ2,e2,q2⟩:=h2 h;exact ⟨τ2,mi e e2,q2⟩
section
variable {t:Adr} {gv:Int} {M:List B8} {i:Int} {b:B8} {rw l:List Int} {R:D}
theorem AK {dT:D} {d:D} {v:Bool} (h:dG t [dT,.int i,d]=some (.shr (.bl v))):k8 t.cG "fits" (c5 t) (dFn (eI t) (au (aC 3) cz)) (au (aC 0) (au (aC 1) cz)) [.shr dT,.shr (.int i),s2,.shr d]=some (.bl v):=by
 have e1:eI t [d]=some (.shr (.obj t.cG [("told",d)])):=by
  unfold eI iH;dsimp only;exact bq (ba (rP (ah (ag rfl) ay) rfl))
 have e2:c5 t [.obj t.cG [("told",d)],dT,.int i]=some (.shr (.bl v)):=by
  unfold c5 fT;dsimp only;exact bq (ba (cy (ah (ag rfl) (ah (ag rfl) (ah (iB (ag rfl) rfl) ay))) h rfl))
 exact eF (cy (ah (ag rfl) ay) e1 rfl) (ah (ag rfl) (ah (ag rfl) ay)) rfl e2 rfl
theorem NB {a0 a1 a2:D} {s3:Sl} {d:D} {v:Bool} (h:dq [a0,a1,a2,d,.int i]=some (.shr (.bl v))):dFn dq (au (aC 0) (au (aC 1) (au (aC 2) (au (aC 5) (au (aC 4) cz))))) [.shr a0,.shr a1,.shr a2,s3,.shr (.int i),.shr d]=some (.bl v):=cy (ah (ag rfl) (ah (ag rfl) (ah (ag rfl) (ah (ag rfl) (ah (ag rfl) ay))))) h rfl
noncomputable def hv (t:Adr) (dT:D) (i:Int) (d:D):Bool:=match dG t [dT,.int i,d] with
 | some (.shr (.bl v))=>v
 | _=>false
theorem Hk (hR:RdR M R) (S:d5 M i b rw) {ds:List D} (h:∀ d ∈ ds,Tr 2 d):dH t [trD t.ai gv M,.int i,.tup ds]=some (.shr (.bl (!ds.any λ d=>!hv t (trD t.ai gv M) i d)))/\eJ [R,faD M,mlD M,.tup ds,.int i]=some (.shr (.bl (!ds.any λ d=>!hv t (trD t.ai gv M) i d))):=by
 have key:∀ d ∈ ds,dG t [trD t.ai gv M,.int i,d]=some (.shr (.bl (hv t (trD t.ai gv M) i d)))/\dq [R,faD M,mlD M,d,.int i]=some (.shr (.bl (hv t (trD t.ai gv M) i d))):=λ d hd=>by
  obtain ⟨v,e1,e2⟩:=GN (t:=t) (gv:=gv) hR S (h d hd);have:hv t (trD t.ai gv M) i d=v:=by unfold hv; rw [e1]
  rw [this];exact ⟨e1,e2⟩
 constructor
 ·unfold dH kI
  dsimp only;refine bq ?_
  have w:=j7 (b:=λ d τ=>(gN 3 d τ).bind (sIf (xI (dT (k8 t.cG "fits" (c5 t) (dFn (eI t) (au (aC 3) cz)) (au (aC 0) (au (aC 1) cz))))) (mO (dC (.bl false))) eu)) (ds:=ds) (v:=λ d=>!hv t (trD t.ai gv M) i d) (s:=.shr (.bl false)) (Q:=λ τ=>∃ s3,τ=[.shr (trD t.ai gv M),.shr (.int i),.shr (.tup ds),s3])
   (λ d hd hv' τ ⟨s3,e⟩=>by
     subst e;have h0:=dR (aB (AK (s2:=.shr (.tup ds)) (key d hd).1));have hv':hv t (trD t.ai gv M) i d=false:=by simpa using hv'
     rw [hv'] at h0
     exact je (b:=true) h0 (λ _=>ba e_c) nofun)
   (λ d hd hv' τ ⟨s3,e⟩=>by
     subst e;have h0:=dR (aB (AK (s2:=.shr (.tup ds)) (key d hd).1));have hv':hv t (trD t.ai gv M) i d=true:=by simpa using hv'
     rw [hv'] at h0
     exact ⟨_,je (b:=false) h0 nofun (λ _=>rfl),_,rfl⟩)
   (τ:=[.shr (trD t.ai gv M),.shr (.int i),.shr (.tup ds),.no]) ⟨_,rfl⟩
  cases ha:ds.any λ d=>!hv t (trD t.ai gv M) i d with
  | true=>exact lq (oV (pR (ag rfl)) (w.1 ha))
  | false =>
   obtain ⟨τ',e,s3,rfl⟩:=w.2 ha;exact aT (oV (pR (ag rfl)) e) (ba e_c)
 ·unfold eJ iK
  dsimp only;refine bq ?_
  have w:=j7 (b:=λ d τ=>(gN 5 d τ).bind (sIf (xI (dT (dFn dq (au (aC 0) (au (aC 1) (au (aC 2) (au (aC 5) (au (aC 4) cz)))))))) (mO (dC (.bl false))) eu)) (ds:=ds) (v:=λ d=>!hv t (trD t.ai gv M) i d) (s:=.shr (.bl false)) (Q:=λ τ=>∃ s5,τ=[.shr R,.shr (faD M),.shr (mlD M),.shr (.tup ds),.shr (.int i),s5])
   (λ d hd hv' τ ⟨s5,e⟩=>by
     subst e;have h0:=dR (aB (NB (s3:=.shr (.tup ds)) (key d hd).2));have hv':hv t (trD t.ai gv M) i d=false:=by simpa using hv'
     rw [hv'] at h0
     exact je (b:=true) h0 (λ _=>ba e_c) nofun)
   (λ d hd hv' τ ⟨s5,e⟩=>by
     subst e;have h0:=dR (aB (NB (s3:=.shr (.tup ds)) (key d hd).2));have hv':hv t (trD t.ai gv M) i d=true:=by simpa using hv'
     rw [hv'] at h0
     exact ⟨_,je (b:=false) h0 nofun (λ _=>rfl),_,rfl⟩)
   (τ:=[.shr R,.shr (faD M),.shr (mlD M),.shr (.tup ds),.shr (.int i),.no]) ⟨_,rfl⟩
  cases ha:ds.any λ d=>!hv t (trD t.ai gv M) i d with
  | true=>exact lq (oV (pR (ag rfl)) (w.1 ha))
  | false =>
   obtain ⟨τ',e,s5,rfl⟩:=w.2 ha;exact aT (oV (pR (ag rfl)) e) (ba e_c)
theorem Du (hR:RdR M R) (S:d5 M i b rw) {ds:List D} (h:∀ d ∈ ds,Tr 2 d):dH t [trD t.ai gv M,.int i,.tup ds]=some (.shr (.bl (haF t (trD t.ai gv M) (.tup ds) i)))/\eJ [R,faD M,mlD M,.tup ds,.int i]=some (.shr (.bl (haF t (trD t.ai gv M) (.tup ds) i))):=by
 obtain ⟨h1,h2⟩:=Hk (t:=t) (gv:=gv) hR S h;have:haF t (trD t.ai gv M) (.tup ds) i=!ds.any λ d=>!hv t (trD t.ai gv M) i d:=by unfold haF; rw [h1]
 rw [this];exact ⟨h1,h2⟩
theorem wm (S:d5 M i b rw) (L:Hl M i l) (hl:l.length < 1000) (j:Str):jnF t (trD t.ai gv M) (.str j) i=jnL j rw l i:=by
 unfold jnF;rw [nJ S L hl];exact sX _
theorem sF (hR:RdR M R) (S:d5 M i b rw) (L:Hl M i l) (hl:l.length < 1000) {j:Str} {ds:List D} (h:∀ d ∈ ds,Tr 2 d) (hj:j=""\/j ∈ pO) (early:List Int):cT [R,faD M,mlD M,stD j ds,.lst (early.map .int),.int i]=some (.shr (.bl (haF t (trD t.ai gv M) (.tup ds) i&&(decide (j="")||early.any λ x=>decide (x ∈ jnF t (trD t.ai gv M) (.str j) i))))):=by
 unfold cT d6;dsimp only;refine bq ?_
 have h0:xI (dT (dFn eJ (au (aC 0) (au (aC 1) (au (aC 2) (au (dOp oIx (aC 3) (dC (.int 1))) (au (aC 5) cz))))))) [.shr R,.shr (faD M),.shr (mlD M),.shr (stD j ds),.shr (.lst (early.map .int)),.shr (.int i),.no]=_:=dR (aB (cy (ah (ag rfl) (ah (ag rfl) (ah (ag rfl) (ah (ax (ag rfl) e_c (cA _ _ _)) (ah (ag rfl) ay))))) (Du (t:=t) (gv:=gv) hR S h).2 rfl))
 cases ha:haF t (trD t.ai gv M) (.tup ds) i with
 | false =>
  rw [ha] at h0;exact bN h0 (ba e_c)
 | true =>
  rw [ha] at h0;refine aK h0 ?_
  rw [Bool.true_and]
  by_cases hj0:j=""
  ·rw [Zq hj0,Bool.true_or]
   exact bN (aB (ax (ax (ag rfl) e_c (br _ _)) e_c (eqs hj0))) (ba e_c)
  have hj1:j ∈ pO:=hj.resolve_left hj0;rw [Zo hj0,Bool.false_or,wm S L hl];refine aK (aB (ax (ax (ag rfl) e_c (br _ _)) e_c (nes hj0))) ?_
  have w:=j7 (b:=λ d τ=>(gN 6 d τ).bind (sIf (dT (dFn b9 (au (aC 0) (au (aC 1) (au (dOp oIx (aC 3) (dC (.int 0))) (au (aC 6) (au (aC 5) cz))))))) (mO (dC (.bl true))) eu)) (ds:=early.map .int) (v:=λ d=>match d with | .int x=>decide (x ∈ jnL j rw l i) | _=>false) (s:=.shr (.bl true)) (Q:=λ τ=>∃ s6,τ=[.shr R,.shr (faD M),.shr (mlD M),.shr (stD j ds),.shr (.lst (early.map .int)),.shr (.int i),s6])
   (λ d hd hv' τ ⟨s6,e⟩=>by
     subst e;obtain ⟨x,_,rfl⟩:=Z4.mp hd;have h1:dT (dFn b9 (au (aC 0) (au (aC 1) (au (dOp oIx (aC 3) (dC (.int 0))) (au (aC 6) (au (aC 5) cz)))))) [.shr R,.shr (faD M),.shr (mlD M),.shr (stD j ds),.shr (.lst (early.map .int)),.shr (.int i),.shr (.int x)]=_:=aB (cy (ah (ag rfl) (ah (ag rfl) (ah (ax (ag rfl) e_c (br _ _)) (ah (ag rfl) (ah (ag rfl) ay))))) (me hR S L j hj1 x) rfl);have hv':decide (x ∈ jnL j rw l i)=true:=hv';rw [hv'] at h1
     exact je (b:=true) h1 (λ _=>ba e_c) nofun)
   (λ d hd hv' τ ⟨s6,e⟩=>by
     subst e;obtain ⟨x,_,rfl⟩:=Z4.mp hd;have h1:dT (dFn b9 (au (aC 0) (au (aC 1) (au (dOp oIx (aC 3) (dC (.int 0))) (au (aC 6) (au (aC 5) cz)))))) [.shr R,.shr (faD M),.shr (mlD M),.shr (stD j ds),.shr (.lst (early.map .int)),.shr (.int i),.shr (.int x)]=_:=aB (cy (ah (ag rfl) (ah (ag rfl) (ah (ax (ag rfl) e_c (br _ _)) (ah (ag rfl) (ah (ag rfl) ay))))) (me hR S L j hj1 x) rfl);have hv':decide (x ∈ jnL j rw l i)=false:=hv';rw [hv'] at h1
     exact ⟨_,je (b:=false) h1 nofun (λ _=>rfl),_,rfl⟩)
   (τ:=[.shr R,.shr (faD M),.shr (mlD M),.shr (stD j ds),.shr (.lst (early.map .int)),.shr (.int i),.no]) ⟨_,rfl⟩
  rw [List.any_map] at w;have ew:(early.any ((λ d:D=>match d with | .int x=>decide (x ∈ jnL j rw l i) | _=>false) ∘ D.int))=early.any λ x=>decide (x ∈ jnL j rw l i):=rfl
  rw [ew] at w
  cases hq:early.any λ x=>decide (x ∈ jnL j rw l i) with
  | true=>exact lq (oV (ze (ag rfl)) (w.1 hq))
  | false =>
   obtain ⟨τ',e,s6,rfl⟩:=w.2 hq;exact aT (oV (ze (ag rfl)) e) (ba e_c)
end
end N17
end
section
namespace N17
open PySem L2
structure Ux (gv:Int) (M:List B8) (U:List Int):Prop where
 m:MOk gv M
 su:Sub M [0] U
 ln:U.length<=90
 al:∀ i b,fd M i=some b->i ∈ U
 st:∀ i ∈ U,∃ b rw l,d5 M i b rw/\Hl M i l/\l.length < 1000
theorem Hl.mem {M:List B8} {i:Int} {l:List Int} (h:Hl M i l):∀ x ∈ l,∃ b,fd M x=some b:=by
 induction h with
 | top h e=>exact λ x hx=>absurd hx Z8
 | up h e c ih =>
  intro x hx;rcases Zl.mp hx with rfl | hx
  · exact c.get
  · exact ih x hx
section
variable {t:Adr} {gv:Int} {M:List B8} {i:Int} {b:B8} {rw l U:List Int} {R:D} {ss:List (Str×List D)}
theorem GF {j:Str} {x:Int} (h:x ∈ jnL j rw l i):x ∈ l\/x ∈ rw:=by
 unfold jnL at h;split at h
 · exact .inl h
 ·split at h
  · exact .inl (Yv h)
  ·split at h
   · exact .inr (Yv (Xc h))
   · exact .inr (Yv h)
theorem AD (X:Ux gv M U) (S:d5 M i b rw) (L:Hl M i l) {j:Str} {x:Int} (h:x ∈ jnL j rw l i):x ∈ U:=by
 rcases GF h with h | h
 ·obtain ⟨c,hc⟩:=L.mem x h
  exact X.al x c hc
 ·rcases S.ro with ⟨_,e⟩ | ⟨k,bk,_,hk,e⟩
  ·rw [e] at h
   rw [Zn.mp h];exact X.al i b S.at_
  ·rw [e] at h
   obtain ⟨d,hd,_⟩:=X.m.Di hk h;exact X.al x d hd
theorem uN {p:Nat} {q:Str×List D} (h:ss[p]?=some q):(ptL ss)[p]?=some (stD q.1 q.2):=by
 unfold ptL;rw [List.getElem?_map,h];rfl
theorem jr {p:Nat} {q:Str×List D} (h:ss[p]?=some q):(ptL ss).getD p .non=stD q.1 q.2:=by
 rw [List.getD_eq_getElem?_getD,uN h];rfl
theorem Ob {dT:D} {q:Str×List D} (h:ss[0]?=some q) (x:Int):rcF t dT (ptL ss) 0 x=haF t dT (.tup q.2) x:=by
 rw [rcF,jr h];rfl
theorem Oa {dT:D} {p:Nat} {q:Str×List D} (h:ss[p+1]?=some q) (x:Int):rcF t dT (ptL ss) (p+1) x=(haF t dT (.tup q.2) x&&(jnF t dT (.str q.1) x).any (rcF t dT (ptL ss) p)):=by
 rw [rcF,jr h];rfl
theorem Bj (X:Ux gv M U) (hR:RdR M R) (P:Pt ss):Rx t (trD t.ai gv M) (ptL ss) U where
 ln:=by unfold ptL; rw [Za]; exact P.n8
 lb:=Z3 X.ln (by decide)
 st := λ p s hs=>by
  unfold ptL at hs;rw [List.getElem?_map] at hs;obtain ⟨q,hq,rfl⟩:=Zm hs;obtain ⟨h1,h2,h3,h4⟩:=P.st p q hq;refine ⟨.str q.1,.tup q.2,rfl,λ x hx=>?_⟩;obtain ⟨b,rw,l,S,L,hl⟩:=X.st x hx;refine ⟨(Du hR S h1).1,λ _=>⟨?_,λ c hc=>?_⟩⟩
  ·rw [wm S L hl]
   exact nJ S L hl q.1
  ·rw [wm S L hl] at hc
   exact AD X S L hc
theorem ET (nd:Nd M):RdR M (.dct (kv (λ b=>.lst (b.r.map .int)) M)):=⟨λ i b h=>cB h,λ i b h=>oa h⟩
theorem ES:RdR M (.dfz (kv (λ b=>.lst (b.r.map .int)) M)):=by
 refine ⟨λ i b h=>?_,λ i b h=>?_⟩
 ·show ij _ (.inl i)=_
  rw [qw,h];rfl
 ·show some (D.bl (!(ij _ (.inl i)).isSome))=_
  rw [qw,h];rfl
noncomputable def En (t:Adr) (dT:D) (ss:List D) (U:List Int):Nat->List Int
 | 0=>[]
 | p+1=>U.filter (rcF t dT ss p)
theorem DD (X:Ux gv M U) (P:Pt ss):dJ t [.dct (kv (λ b=>.lst (b.r.map .int)) M),faD M,mlD M,ptD ss]=some (.own (.lst ((U.filter (rcF t (trD t.ai gv M) (ptL ss) (ss.length - 1))).map .int))):=by
 have hR:=ET X.m.nd;have hu:=xR (t:=t) X.su (Z3 X.ln (by decide));unfold dJ gR;dsimp only;generalize hRd:D.dct (kv (λ b=>.lst (b.r.map .int)) M)=R at hR hu
 have key:=j6 (f:=D3 4 (sy 4 (oe (Ee (dFn (dY t) (au (aC 0) (au (dC (.int 0)) cz)))) (dT (dFn cT (au (aC 1) (au (aC 2) (au (aC 3) (au (aC 4) (au (aC 5) (au (aC 0) cz)))))))) (aC 0) [("_law_rows",0),("_law_facts",1),("_law_marks",2),("_law_step",5),("_law_early",4)]))) (it:=sZ (aC 3)) (gg:=gN 5) (ds:=ptL ss) (τ:=[.shr R,.shr (faD M),.shr (mlD M),.shr (ptD ss),.own (.lst []),.no]) (λ j τ=>∃ s5,τ=[.shr R,.shr (faD M),.shr (mlD M),.shr (ptD ss),.own (.lst ((En t (trD t.ai gv M) (ptL ss) U j).map .int)),s5]) (pR (ag rfl)) ⟨_,rfl⟩ (by
  rintro j d τ hd ⟨s5,rfl⟩
  unfold ptL at hd;rw [List.getElem?_map] at hd;obtain ⟨q,hq,rfl⟩:=Zm hd;obtain ⟨h1,h2,h3,h4⟩:=P.st j q hq;refine ⟨[.shr R,.shr (faD M),.shr (mlD M),.shr (ptD ss),.own (.lst ((En t (trD t.ai gv M) (ptL ss) U j).map .int)),.shr (stD q.1 q.2)],[.shr R,.shr (faD M),.shr (mlD M),.shr (ptD ss),.own (.lst ((En t (trD t.ai gv M) (ptL ss) U (j+1)).map .int)),.shr (stD q.1 q.2)],rfl,?_,_,rfl⟩;refine EM rfl ((lp (d:=.lst ((U.filter (rcF t (trD t.ai gv M) (ptL ss) j)).map .int)) ?_ (Zb rfl)).trans rfl);unfold oe;rw [ze (cy (ah (ag rfl) (ah e_c ay)) hu rfl)];show (if (U.map D.int).length<=100000 then _ else none)=_;rw [if_pos (by rw [Za]; have:=X.ln; omega),j8 (t:=λ d=>match d with | .int x=>rcF t (trD t.ai gv M) (ptL ss) j x | _=>false)]
  ·rw [List.filter_map]
   rfl
  ·intro d hd
   obtain ⟨x,hx,rfl⟩:=Z4.mp hd;obtain ⟨b,rw,l,S,L,hl⟩:=X.st x hx;refine ⟨?_,rfl⟩
   have er:=sF (t:=t) (gv:=gv) hR S L hl (j:=q.1) h1 (by
    by_cases z:j=0
    · exact .inl (h3 z)
    · exact .inr (h4 z)) (En t (trD t.ai gv M) (ptL ss) U j)
   have ev:(haF t (trD t.ai gv M) (.tup q.2) x&&(decide (q.1="")||(En t (trD t.ai gv M) (ptL ss) U j).any λ y=>decide (y ∈ jnF t (trD t.ai gv M) (.str q.1) x)))=rcF t (trD t.ai gv M) (ptL ss) j x:=by
    cases j with
    | zero=>rw [Ob hq,h3 rfl,Zq rfl,Bool.true_or,Bool.and_true]
    | succ p =>
     have hj:=h4 (by omega);have hj0:q.1≠"":=λ z=>by rw [z] at hj; revert hj; decide
     rw [Oa hq,Zo hj0,Bool.false_or];congr 1;rw [Y4,Y6,Y6];constructor
     ·rintro ⟨y,hy,hj⟩
      exact ⟨y,Xq hj,(Xm.mp hy).2⟩
     ·rintro ⟨y,hy,hr⟩
      refine ⟨y,Xm.mpr ⟨?_,hr⟩,Zq hy⟩;rw [wm S L hl] at hy;exact AD X S L hy
   rw [ev] at er
   exact aB (cy (ah (ag rfl) (ah (ag rfl) (ah (ag rfl) (ah (ag rfl) (ah (ag rfl) (ah (ag rfl) ay)))))) er rfl))
 obtain ⟨τ',e,s5,rfl⟩:=key;have el:(ptL ss).length=ss.length - 1+1:=by unfold ptL; rw [Za]; have:=P.n0; omega
 rw [el] at e;exact bq (aT (lp (du ay (Z1 _)) (Zb rfl)) (aT e (ux rfl)))
end
end N17
end
section
namespace N17
open PySem L2
theorem EN {it:DI} {gg:DG} {f g:DS} {τ:List Sl} {ds:List D} {r:Option Out} (P:Nat->List Sl->Prop) (h1:it τ=some ds) (h0:P 0 τ) (hs:∀ j d τ,ds[j]?=some d->P j τ->∃ τ1 τ2,gg d τ=some τ1/\f τ1=some (.next τ2)/\P (j+1) τ2) (h2:∀ τ',P ds.length τ'->g τ'=r):fh (xG it gg f) g τ=r:=by
 obtain ⟨τ',e,p⟩:=j6 P h1 h0 hs;unfold fh;rw [e];exact h2 τ' p
section
variable {t:Adr} {gv:Int} {M:List B8} {i:Int} {b:B8} {rw l U Bs:List Int} {R dT:D} {ss:List (Str×List D)} {sd:List D}
structure Chn (t:Adr) (dT:D) (sd:List D) (Bs:List Int) (p:Nat) (b:Int) (cs:List Int):Prop where
 ln:cs.length=p+1
 la:cs[p]?=some b
 ha:∀ (k:Nat) (c:Int),cs[k]?=some c->c ∈ Bs/\haF t dT (Ho (sd.getD k .non)) c=true
 jn:∀ (k:Nat) (c:Int),cs[k+1]?=some c->∃ c',cs[k]?=some c'/\c' ∈ jnF t dT (GG (sd.getD (k+1) .non)) c
theorem Hb (x:Rx t dT sd Bs):∀ (p:Nat) (b:Int),p < sd.length->b ∈ Bs->rcF t dT sd p b=true->Chn t dT sd Bs p b (chF t dT sd p b)
 | 0,b,hp,hb,h=>by
  refine ⟨rfl,rfl,λ k c hk=>?_,λ k c hk=>?_⟩
  ·cases k with
   | zero=>cases hk; exact ⟨hb,h⟩
   | succ k=>simp [chF] at hk
  · simp [chF] at hk
 | p + 1,b,hp,hb,h=>by
  obtain ⟨c,h1,h2,h3⟩:=vX x hp hb h;have ih:=Hb x p c (by omega) h3 h2;have e:chF t dT sd (p+1) b=chF t dT sd p c++[b]:=by rw [chF,h1]
  have hmem:c ∈ jnF t dT (GG (sd.getD (p+1) .non)) b:=List.mem_of_find?_eq_some h1
  have hha:haF t dT (Ho (sd.getD (p+1) .non)) b=true:=by
   rw [rcF] at h;exact (Yh _ _ ▸ h:_/\_).1
  rw [e];have hl:=ih.ln
  have hlast:(chF t dT sd p c++[b])[p+1]?=some b:=by
   rw [List.getElem?_append_right (by omega),hl,Xb];rfl
  refine ⟨by rw [Zt,hl]; rfl,hlast,λ k d hk=>?_,λ k d hk=>?_⟩
  ·by_cases hk':k < (chF t dT sd p c).length
   ·rw [List.getElem?_append_left hk'] at hk
    exact ih.ha k d hk
   ·have hk2:k=p+1:=by
     have:=(List.getElem?_eq_some_iff.mp hk).1;rw [Zt] at this;simp at this;omega
    subst hk2;rw [hlast] at hk;cases hk;exact ⟨hb,hha⟩
  ·by_cases hk':k+1 < (chF t dT sd p c).length
   ·rw [List.getElem?_append_left hk'] at hk
    obtain ⟨d',e1,e2⟩:=ih.jn k d hk;exact ⟨d',by rw [List.getElem?_append_left (by omega)]; exact e1,e2⟩
   ·have hk2:k=p:=by
     have:=(List.getElem?_eq_some_iff.mp hk).1;rw [Zt] at this;simp at this;omega
    subst hk2;rw [hlast] at hk;cases hk;exact ⟨c,by rw [List.getElem?_append_left (by omega)]; exact ih.la,hmem⟩
theorem ip:(ptL ss).length=ss.length:=Za _
theorem wN (X:Ux gv M U) (hR:RdR M R) (P:Pt ss) (hi:i ∈ U):gj t [trD t.ai gv M,ptD ss,.lst [.int i]]=some (.own (.lst ((([i]:List Int).filter (rcF t (trD t.ai gv M) (ptL ss) (ss.length - 1))).map .int))):=by
 unfold gj ptD;have e:intsOf [.int i]=[i]:=rfl;simp only [e,ip];rw [if_pos];exact ⟨⟨U,Bj X hR P,λ b hb=>by rw [Zn.mp hb]; exact hi⟩,rfl,by rw [ip]; exact P.n0,(by show 1<=1000; decide)⟩
theorem qP (n:Nat):∀ l:List Int,oJ n (l.map .int)=true
 | []=>by rw [List.map_nil,oJ]
 | i::l=>by rw [Zh,oJ,qP n l,okD]; rfl
theorem Dz (X:Ux gv M U) (hR:RdR M R) (P:Pt ss) (hi:i ∈ U):sg t [trD t.ai gv M,ptD ss,.int i]=some (.shr (.bl (rcF t (trD t.ai gv M) (ptL ss) (ss.length - 1) i))):=by
 unfold sg xC;dsimp only;refine bq (ba (ax (cy (ah (ag rfl) (ah (ag rfl) (ah (du (ah (ag rfl) ay) (Zb rfl)) ay))) (wN X hR P hi) rfl) (du ay (Z1 _)) ?_));rw [Cs (qP _ _) (by rw [oJ]),zx];cases h:rcF t (trD t.ai gv M) (ptL ss) (ss.length - 1) i <;> simp [h]
theorem zL (X:Ux gv M U) (hR:RdR M R) (P:Pt ss) (hi:i ∈ U):cJ t [trD t.ai gv M,ptD ss,.int i]=if rcF t (trD t.ai gv M) (ptL ss) (ss.length - 1) i=true then some (.own (.lst ((chF t (trD t.ai gv M) (ptL ss) (ss.length - 1) i).map .int))) else some (.shr .non):=by
 unfold cJ ptD;simp only [ip];rw [if_pos];exact ⟨⟨U,Bj X hR P,hi⟩,by rw [ip]; exact P.n0⟩
theorem tH (X:Ux gv M U) (hR:RdR M R) (P:Pt ss) {cs:List Int} (C:Chn t (trD t.ai gv M) (ptL ss) U (ss.length - 1) i cs):cU [R,faD M,mlD M,ptD ss,.lst (cs.map .int),.int i]=some (.shr (.bl true)):=by
 have n0:=P.n0;have n8:=P.n8;have hl:cs.length=ss.length:=by rw [C.ln]; omega
 have hd:cs.drop (cs.length - 1)=[i]:=by
  have h1:cs.length - 1 < cs.length:=by omega
  rw [Ym h1,show cs.length - 1+1=cs.length by omega,Xi];have:=C.la;rw [show ss.length - 1=cs.length - 1 by omega,List.getElem?_eq_getElem h1] at this;rw [Zj this]
 unfold cU d7;dsimp only;refine bq (aK ?_ ?_)
 ·refine xE (b:=false) (dR (b:=true) (aB (bo (ah (ag rfl) (ah e_c ay)) rfl))) (λ _=>?_) nofun
  refine xE (b:=false) (aB (ax (bo (ah (ag rfl) ay) (wa cs)) (bo (ah (ag rfl) ay) (show tV [ptD ss]=some (.int ss.length) by show some (D.int ((ptL ss).length:Int))=_; rw [ip])) ?_)) (λ _=>?_) nofun
  ·rw [iu,hl]
   simp
  ·refine dR (b:=true) (aB (cy (s:=.shr (.bl true)) (ah (AS (ag rfl) (ff (Eh e_c rfl)) xH (qA cs)) (ah (du (ah (ag rfl) ay) (Zb rfl)) ay)) ?_ rfl))
   rw [hd];exact oU [i] (by show 1 < 1000; decide)
 refine EN (λ j τ=>∃ s6 s7,τ=[.shr R,.shr (faD M),.shr (mlD M),.shr (ptD ss),.shr (.lst (cs.map .int)),.shr (.int i),s6,s7]) (wC (ag rfl)) ⟨_,_,rfl⟩ (by
  rintro k d τ hd ⟨s6,s7,rfl⟩
  obtain ⟨c,rfl,hc⟩:=rN hd;refine ⟨[.shr R,.shr (faD M),.shr (mlD M),.shr (ptD ss),.shr (.lst (cs.map .int)),.shr (.int i),.shr (.int (k:Int)),.shr (.int c)],[.shr R,.shr (faD M),.shr (mlD M),.shr (ptD ss),.shr (.lst (cs.map .int)),.shr (.int i),.shr (.int (k:Int)),.shr (.int c)],rfl,?_,_,_,rfl⟩;have hk:k < ss.length:=by have:=(List.getElem?_eq_some_iff.mp hc).1; omega
  obtain ⟨q,hq⟩:∃ q,ss[k]?=some q:=⟨_,List.getElem?_eq_getElem hk⟩
  obtain ⟨h1,h2,h3,h4⟩:=P.st k q hq;obtain ⟨hcU,hha⟩:=C.ha k c hc;rw [jr hq] at hha;obtain ⟨b,rw,l,S,L,hll⟩:=X.st c hcU;have ep:oIx (ptD ss) (.int (k:Int))=some (stD q.1 q.2):=iG (uN hq);refine aK (xE (b:=false) (dR (b:=true) (aB (cy (ah (ag rfl) ay) (qv c) rfl))) (λ _=>xE (b:=false) (aB (ax (ag rfl) (ag rfl) (hR.nin c b S.at_))) (λ _=>dR (b:=true) (aB (cy (ah (ag rfl) (ah (ag rfl) (ah (ag rfl) (ah (ax (ax (ag rfl) (ag rfl) ep) e_c (cA _ _ _)) (ah (ag rfl) ay))))) ((Du (t:=t) (gv:=gv) hR S h1).2.trans (by rw [show haF t (trD t.ai gv M) (.tup q.2) c=true from hha])) rfl))) nofun) nofun) ?_
  have tk:oGt (.int (k:Int)) (.int 0)=some (.bl (decide (0 < (k:Int)))):=rfl
  cases k with
  | zero=>exact je (b:=false) (aB (ax (ag rfl) e_c tk)) nofun λ _=>rfl
  | succ k =>
   obtain ⟨c',hc',hj⟩:=C.jn k c hc;rw [jr hq] at hj;have hj:c' ∈ jnF t (trD t.ai gv M) (.str q.1) c:=hj;rw [wm S L hll] at hj;have el:=me hR S L q.1 (h4 (by omega)) c';rw [Zq hj] at el;have em:Cq (.int ((k+1:Nat):Int)) (.int 1)=some (.int (k:Int)):=by rw [cO]; congr 2; omega
   have ei:oIx (.lst (cs.map .int)) (.int (k:Int))=some (.int c'):=iG (by rw [List.getElem?_map,hc']; rfl);rw [Zq (show 0 < ((k+1:Nat):Int) by omega)] at tk
   exact je (b:=true) (aB (ax (ag rfl) e_c tk)) (λ _=>je (b:=false) (dR (b:=true) (aB (cy (ah (ag rfl) (ah (ag rfl) (ah (ax (ax (ag rfl) (ag rfl) ep) e_c (br _ _)) (ah (ax (ag rfl) (ax (ag rfl) e_c em) ei) (ah (ag rfl) ay))))) el rfl))) nofun λ _=>rfl) nofun) ?_
 rintro _ ⟨s6,s7,rfl⟩
 exact ba e_c
end
end N17
end
section
namespace N17
open PySem L2
theorem Gu {px:DPx} {fv:DEm} {τ τ1:List Sm} {s:Sm} {i:Nat} {q:List Stp} {mv:Mt} {cs cs0:List (Key×Mt)} (h1:px τ=some (i,q)) (h2:bh τ i q=some (.n .l cs0)) (h3:fv τ=some (s,τ1)) (h4:toM s=some mv) (h5:bh τ1 i q=some (.n .l cs)) (h6:cs.length < 100000):l5 px fv τ=some (.next (fD τ1 i q (.n .l (cs++[(.inl 0,mv)])))):=by
 unfold l5;rw [h1];show (match bh τ i q with | some (.n .l _)=>(fv τ).bind _ | _=>none)=_;rw [h2];rw [h3];show (toM s).bind _=_;rw [h4];rw [h5];exact if_pos h6
def mlM (M:List B8):Mt:=kM (λ b=>lM (b.m.l.map .str)) M
theorem wK (M:List B8):frz (mlM M)=mlD M:=by
 unfold mlM mlD;rw [zp];congr 2
 funext b
 exact lJ _
structure LOk (M:List B8):Prop where
 m:MOk (M.length:Int) M
 ix:M.map B8.i=(List.range M.length).map λ (n:Nat)=>(n:Int)
 dp:∀ b ∈ M,∃ n,Ch M b.i n/\n < M.length
 mq:∀ b ∈ M,b.m.k.length<=8/\∀ x,x ∈ b.m.l↔x ∈ b.m.k
section
variable {t:Adr} {gv:Int} {M:List B8} {i:Int} {b:B8}
theorem LOk.at_ (L:LOk M) {x:Int} (x0:0<=x) (x1:x < M.length):∃ b,fd M x=some b:=by
 have:x ∈ M.map B8.i:=by
  rw [L.ix];exact Z4.mpr ⟨x.toNat,Xf.mpr (by omega),by omega⟩
 obtain ⟨b,hb,rfl⟩:=Z4.mp this;exact ⟨b,pV L.m.nd hb⟩
theorem jC (M:List B8) (i:Int) (p:Pl):(stB M i p).length=M.length:=Za _
theorem lF {β:Type} {g:B8->β} {p p':Pl} (M:List B8) (i:Int) (hg:∀ b:B8,g { b with m:=p }=g { b with m:=p' }):kv g (stB M i p)=kv g (stB M i p'):=by
 unfold kv stB;rw [Z6,Z6];refine Zw λ c _=>?_
 show ((Sum.inl (if c.i=i then { c with m:=p } else c).i:Key),g (if c.i=i then { c with m:=p } else c))=((Sum.inl (if c.i=i then { c with m:=p' } else c).i:Key),g (if c.i=i then { c with m:=p' } else c));split
 · rw [hg]
 · rfl
theorem Gz {β:Type} {g:B8->β} {p:Pl} (M:List B8) (i:Int) (hg:∀ b:B8,g { b with m:=p }=g b):kv g (stB M i p)=kv g M:=by
 unfold kv stB;rw [Z6];refine Zw λ c _=>?_
 show ((Sum.inl (if c.i=i then { c with m:=p } else c).i:Key),g (if c.i=i then { c with m:=p } else c))=_;split
 · rw [hg]
 · rfl
theorem Ex {C:Addr} {p p':Pl} (M:List B8) (i:Int) (h:p.k=p'.k):trM C gv (stB M i p)=trM C gv (stB M i p'):=by
 unfold trM bxM kM;rw [lF (g:=λ b=>Mt.s (.str b.n)) (p:=p) (p':=p') M i λ _=>rfl,lF (g:=λ b=>Mt.s (hD b.h)) (p:=p) (p':=p') M i λ _=>rfl,lF (g:=λ b=>lM (b.r.map .int)) (p:=p) (p':=p') M i λ _=>rfl,lF (g:=mkM) (p:=p) (p':=p') M i λ _=>by unfold mkM; rw [h],lF (g:=wdM) (p:=p) (p':=p') M i λ _=>rfl,lF (g:=roM) (p:=p) (p':=p') M i λ _=>rfl]
theorem Mw (M:List B8) (i:Int) (p:Pl):bxM (stB M i p)=bxM M:=by unfold bxM kM; rw [Gz (g:=λ b=>lM (b.r.map .int)) M i λ _=>rfl]
theorem Mi (M:List B8) (i:Int) (p:Pl):faM (stB M i p)=faM M:=by unfold faM kM; rw [Gz (g:=λ b=>Mt.s (.tup [hD b.h,.str b.n])) M i λ _=>rfl]
theorem C4 (L:LOk M) {h p:Int} {nm:Str} (hb:fd M h=some b) (h12:M.length < 12):LOk (jq M h b p M.length nm)/\(jq M h b p M.length nm).length=M.length+1:=by
 have el:(jq M h b p M.length nm).length=M.length+1:=by
  unfold jq;rw [vZ,Zt];rfl
 have hbm:=bA hb;obtain ⟨n,hn,hn2⟩:=L.dp b hbm;rw [mo hb] at hn;have m':=CY (p:=p) (nm:=nm) L.m hb hn (by omega)
 have fdp:∀ x,fd (jq M h b p M.length nm) x=(fd (M++[⟨M.length,some h,nm,[],bD⟩]) x).map λ c=>if c.i=h then { c with r:=insI b.r p M.length } else c:=λ x=>by
  unfold jq;rw [rK]
 have old:∀ x d,fd M x=some d->∃ d',fd (jq M h b p M.length nm) x=some d'/\d'.h=d.h:=λ x d hd=>by
  rw [fdp,AM hd];refine ⟨_,rfl,?_⟩;show (if d.i=h then { d with r:=insI b.r p M.length } else d).h=d.h;split <;> rfl
 refine ⟨⟨by rw [el]; exact m',?_,λ c hc=>?_,λ c hc=>?_⟩,el⟩
 ·rw [el,List.range_succ,Zk,<- L.ix]
  unfold jq;rw [Er,Zk];rfl
 ·rw [el]
  obtain ⟨d,hd,rfl⟩:=Z4.mp hc;have ei:(if d.i=h then { d with r:=insI b.r p M.length } else d).i=d.i:=by split <;> rfl
  rw [ei];rcases Zg.mp hd with hd | hd
  ·obtain ⟨k,h1,h2⟩:=L.dp d hd
   exact ⟨k,Ch.mono old h1,by omega⟩
  ·rw [Zn.mp hd]
   refine ⟨n+1,?_,by omega⟩
   have hnew:fd (jq M h b p M.length nm) (M.length:Int)=some (if (M.length:Int)=h then { (⟨M.length,some h,nm,[],bD⟩:B8) with r:=insI b.r p M.length } else ⟨M.length,some h,nm,[],bD⟩):=by
    rw [fdp,pU L.m.new,if_pos rfl];rfl
   refine Ch.up hnew ?_ (Ch.mono old hn)
   split <;> rfl
 ·obtain ⟨d,hd,rfl⟩:=Z4.mp hc
  have em:(if d.i=h then { d with r:=insI b.r p M.length } else d).m=d.m:=by split <;> rfl
  rw [em];rcases Zg.mp hd with hd | hd
  · exact L.mq d hd
  ·rw [Zn.mp hd]
   exact ⟨Z1 _,λ x=>Iff.rfl⟩
theorem Gw (L:LOk M) {i:Int} {p:Pl} (h:p.k.length<=8/\∀ x,x ∈ p.l↔x ∈ p.k):LOk (stB M i p):=by
 refine ⟨by rw [jC]; exact Gh L.m i p,by rw [EE,jC]; exact L.ix,λ c hc=>?_,λ c hc=>?_⟩
 ·rw [jC]
  obtain ⟨d,hd,rfl⟩:=Z4.mp hc;have ei:(if d.i=i then { d with m:=p } else d).i=d.i:=by split <;> rfl
  rw [ei];obtain ⟨k,h1,h2⟩:=L.dp d hd;refine ⟨k,Ch.mono (λ x e he=>?_) h1,h2⟩;rw [DB,he];refine ⟨_,rfl,?_⟩;show (if e.i=i then { e with m:=p } else e).h=e.h;split <;> rfl
 ·obtain ⟨d,hd,rfl⟩:=Z4.mp hc
  split
  · exact h
  · exact L.mq d hd
def mkP (p:Pl) (w:Str):Pl:=⟨(pq p w).k,p.l++[w]⟩
theorem Gn {p:Pl} {w:Str} {n:Nat} (h:p.k.length<=n/\∀ x,x ∈ p.l↔x ∈ p.k):(mkP p w).k.length<=n+1/\∀ x,x ∈ (mkP p w).l↔x ∈ (mkP p w).k:=by
 unfold mkP pq
 by_cases hw:w ∈ p.k
 ·rw [if_pos hw]
  refine ⟨by have:=h.1; show p.k.length<=_; omega,λ x=>?_⟩;rw [Zg,h.2,Zn];exact ⟨λ z=>z.elim id λ e=>e ▸ hw,.inl⟩
 ·rw [if_neg hw]
  refine ⟨by have:=h.1; rw [Zt]; show p.k.length+1<=_; omega,λ x=>?_⟩;rw [Zg,Zg,h.2]
theorem Gk {A B C:Mt} {r:List Sm} (hb:fd M i=some b):bh (.mu true A::.mu true B::.mu true C::.mu true (mlM M)::r) 3 [.k (.inl i)]=some (lM (b.m.l.map .str)):=by
 rw [q9 rfl];refine (rE _ _ _).trans ?_
 rw [hb];rfl
theorem Gi (nd:Nd M) {w:Str} (hb:fd M i=some b):(mlM M).put ([]++[.k (.inl i)]) (.n .l (((b.m.l.map D.str).map λ d=>((.inl 0:Key),Mt.s d))++[(.inl 0,.s (.str w))]))=mlM (stB M i (mkP b.m w)):=by
 have e:Mt.n .l (((b.m.l.map D.str).map λ d=>((.inl 0:Key),Mt.s d))++[(.inl 0,.s (.str w))])=lM (((mkP b.m w).l).map .str):=by
  unfold lM mkP;rw [Zk,Zk];rfl
 rw [e];refine (uJ nd hb (λ c=>by unfold lM; rfl)).trans ?_
 unfold mlM kM;rw [<- kst (g:=λ b=>lM (b.m.l.map .str)) nd hb]
end
end N17
end
section
namespace N17
open PySem L2
abbrev sY (A B C K:Mt) (pl:D) (c w:Int) (x7 x8 x9 x10 x11 x12:Sm):List Sm:=[.mu true A,.mu true B,.mu true C,.mu true K,.shr pl,.shr (.int c),.shr (.int w),x7,x8,x9,x10,x11,x12]
section
variable {t:Adr} {gv:Int} {M:List B8} {i:Int} {b:B8} {pa pb pc pd:Str}
theorem Gj {x:Int} {r:List Int} {b:B8} (h0:b.m.l=[]) (hn:fd M b.i=none):Mt.n .d (jG (kv (λ b=>lM (b.m.l.map .str)) M) (.inl b.i) (lM []))=mlM (upR (M++[b]) x r):=by
 unfold mlM kM;rw [oP _ _ _ _ (λ _=>rfl),<- gY (g:=λ b=>lM (b.m.l.map .str)) hn,h0];rfl
theorem vM {N:List B8} {n:Int} {bg:B8} {x:Str} {c w:Int} {pl:D} {x7 x9 x10 x11 x12:Sm} (nd:Nd N) (hb:fd N n=some bg) (hn:bE x=true) (hk:bg.m.k.length<=8) (hl:bg.m.l.length < 1000) {gi:DE} (hi:gi (er (sY (trM t.ai gv N) (bxM N) (faM N) (mlM N) pl c w x7 (.shr (.int n)) x9 x10 x11 x12))=some (.str x)) (hi2:gi (er (sY (trM t.ai gv (stB N n (mkP bg.m x))) (bxM N) (faM N) (mlM N) pl c w x7 (.shr (.int n)) x9 x10 x11 x12))=some (.str x)) :
  kO (iQ (eM t.ai "mark" (bY t) (dr 0) (cY (qN (aC 8)) (cY (qN gi) tQ)))) (l5 (pe (dr 3) (aC 8)) (eN gi)) (sY (trM t.ai gv N) (bxM N) (faM N) (mlM N) pl c w x7 (.shr (.int n)) x9 x10 x11 x12)=some (.next (sY (trM t.ai gv (stB N n (mkP bg.m x))) (bxM (stB N n (mkP bg.m x))) (faM (stB N n (mkP bg.m x))) (mlM (stB N n (mkP bg.m x))) pl c w x7 (.shr (.int n)) x9 x10 x11 x12)):=by
 have em:=vN (t:=t) (gv:=gv) nd hb hn (by omega);rw [Ex (p:=pq bg.m x) (p':=mkP bg.m x) N n rfl] at em;refine a6 (τ':=sY (trM t.ai gv (stB N n (mkP bg.m x))) (bxM N) (faM N) (mlM N) pl c w x7 (.shr (.int n)) x9 x10 x11 x12) (nB (v_M c6 rfl rfl (cv (q_N e_v) (cv (q_N hi) rfl)) rfl em rfl)) ?_
 have hg:=Gk (A:=trM t.ai gv (stB N n (mkP bg.m x))) (B:=bxM N) (C:=faM N) (r:=[.shr pl,.shr (.int c),.shr (.int w),x7,.shr (.int n),x9,x10,x11,x12]) hb;refine (Gu (xM c6 e_v rfl rfl) hg (v_N hi2) rfl hg (by rw [Za,Za]; omega)).trans ?_
 rw [q8 rfl,Gi nd hb,Mw,Mi];rfl
theorem Dv (L:LOk M) (hl:M.length < 12) (hP:PlN pa pb pc pd) {c w:Int} (w0:0<=w) (w1:w<=1000) :
  ∃ N,LOk N/\N.length=M.length+1/\fe t [.mu true (trM t.ai M.length M),.mu true (bxM M),.mu true (faM M),.mu true (mlM M),.shr (PL pa pb pc pd),.shr (.int c),.shr (.int w)]=some (.shr .non,[.mu true (trM t.ai N.length N),.mu true (bxM N),.mu true (faM N),.mu true (mlM N),.no,.no,.no]):=by
 have m:=L.m;obtain ⟨q1,e1,q10,q11⟩:=jh c w0 (by omega);obtain ⟨q2,e2,q20,q21⟩:=jh c (by omega) (show w+1<=10000 by omega);have n0:(0:Int) < M.length:=m.pos;obtain ⟨nm,en,hn⟩:=vc hP (k:=q1 / 40 % 4) (Yb _ (by decide)) (Z5 _ (by decide));obtain ⟨h1,eh1⟩:∃ h:Int,h=if q1 % 4=1 then 0 else (M.length:Int) - 1:=⟨_,rfl⟩
 obtain ⟨x,ex⟩:∃ h:Int,h=if 1 < q1 % 4 then q1 / 4 % (M.length:Int) else h1:=⟨_,rfl⟩
 have hx:0<=x/\x < M.length:=by
  rw [ex];split
  · exact ⟨Yb _ (by omega),Z5 _ n0⟩
  ·rw [eh1]
   split <;> omega
 obtain ⟨b,hb⟩:=L.at_ hx.1 hx.2;obtain ⟨dp,ch,hdp⟩:=L.dp b (bA hb);rw [mo hb] at ch
 have hr:=sub_len (m.rnd b (bA hb)) λ y hy=>by
  obtain ⟨d,d1,_⟩:=m.kid b (bA hb) y hy;exact ⟨d,d1⟩
 have p0:0<=q2 % ((b.r.length:Int)+1):=Yb _ (by omega);have p1:q2 % ((b.r.length:Int)+1)<=b.r.length:=by have:=Z5 q2 (show 0 < (b.r.length:Int)+1 by omega); omega
 generalize hpp:q2 % ((b.r.length:Int)+1)=p at p0 p1;obtain ⟨L1,l1⟩:=C4 (p:=p) (nm:=nm) L hb hl;have xg:(M.length:Int)≠x:=by omega
 have hg1:∃ bg,fd (jq M x b p M.length nm) (M.length:Int)=some bg/\bg.m=bD:=by
  unfold jq;rw [rK,pU m.new,if_pos rfl];refine ⟨_,rfl,?_⟩;show (if (M.length:Int)=x then _ else _:B8).m=_;rw [if_neg xg]
 have ep:=EZ (t:=t) m.nd m.new hb p0 p1 (by omega) hn (by omega) ch (by omega);have eb:=Hh (r:=insI b.r p M.length) (b:=⟨M.length,some x,nm,[],bD⟩) xg rfl m.new;have ef:=G1 (M:=M) (x:=x) (r:=insI b.r p M.length) (b:=⟨M.length,some x,nm,[],bD⟩) m.new;have el:=Gj (M:=M) (x:=x) (r:=insI b.r p M.length) (b:=⟨M.length,some x,nm,[],bD⟩) rfl m.new;have eP:jq M x b p M.length nm=upR (M++[⟨M.length,some x,nm,[],bD⟩]) x (insI b.r p M.length):=rfl;rw [<- eP] at eb ef el;generalize hN:jq M x b p M.length nm=N at L1 l1 hg1 ep eb ef el;obtain ⟨bg,hbg,hm0⟩:=hg1;have lN:((M.length:Int)+1)=(N.length:Int):=by rw [l1]; rfl
 rw [lN] at ep
 have key:∀ (x12:Sm),∃ τ',sD (jZ (au (dC (.int 4)) cz)) (gNm 12) (z6 (tS (dT (dOp oEq (dOp oMod (dFn b8 (au (aC 5) (au (dOp ie (dOp ie (aC 6) (dC (.int 2))) (aC 12)) cz))) (dC (.int 3))) (dC (.int 0))))) (kO (iQ (eM t.ai "mark" (bY t) (dr 0) (cY (qN (aC 8)) (cY (qN (dOp oIx (aC 4) (aC 12))) tQ)))) (l5 (pe (dr 3) (aC 8)) (eN (dOp oIx (aC 4) (aC 12))))) qC) (sY (trM t.ai N.length N) (bxM N) (faM N) (mlM N) (PL pa pb pc pd) c w (.shr (.int q1)) (.shr (.int M.length)) (.shr (.int x)) (.shr (.int p)) (.shr (.str nm)) x12)=some (.next τ')/\∃ N' y,LOk N'/\N'.length=N.length/\τ'=sY (trM t.ai N'.length N') (bxM N') (faM N') (mlM N') (PL pa pb pc pd) c w (.shr (.int q1)) (.shr (.int M.length)) (.shr (.int x)) (.shr (.int p)) (.shr (.str nm)) y:=λ x12=>by
  have ei:jZ (au (dC (.int 4)) cz) (er (sY (trM t.ai N.length N) (bxM N) (faM N) (mlM N) (PL pa pb pc pd) c w (.shr (.int q1)) (.shr (.int M.length)) (.shr (.int x)) (.shr (.int p)) (.shr (.str nm)) x12))=some (oI 0 4):=pS (j:=4) (ah e_c ay) (by decide)
  obtain ⟨τ',e,N',bg',y,h1,h2,h3,h4,h5,h6⟩:=mj (b:=λ d τ=>(gNm 12 d τ).bind (z6 (tS (dT (dOp oEq (dOp oMod (dFn b8 (au (aC 5) (au (dOp ie (dOp ie (aC 6) (dC (.int 2))) (aC 12)) cz))) (dC (.int 3))) (dC (.int 0))))) (kO (iQ (eM t.ai "mark" (bY t) (dr 0) (cY (qN (aC 8)) (cY (qN (dOp oIx (aC 4) (aC 12))) tQ)))) (l5 (pe (dr 3) (aC 8)) (eN (dOp oIx (aC 4) (aC 12))))) qC)) (ds:=oI 0 4) (τ:=sY (trM t.ai N.length N) (bxM N) (faM N) (mlM N) (PL pa pb pc pd) c w (.shr (.int q1)) (.shr (.int M.length)) (.shr (.int x)) (.shr (.int p)) (.shr (.str nm)) x12)
   (λ j τ=>∃ N' bg' y,LOk N'/\N'.length=N.length/\fd N' (M.length:Int)=some bg'/\bg'.m.k.length<=j/\bg'.m.l.length<=j/\τ=sY (trM t.ai N'.length N') (bxM N') (faM N') (mlM N') (PL pa pb pc pd) c w (.shr (.int q1)) (.shr (.int M.length)) (.shr (.int x)) (.shr (.int p)) (.shr (.str nm)) y)
   ⟨N, bg,x12,L1,rfl,hbg,by rw [hm0]; exact Zi _,by rw [hm0]; exact Zi _,rfl⟩ (by
     rintro j d τ hd ⟨N',bg',y,h1,h2,h3,h4,h5,rfl⟩
     obtain ⟨rfl,jl⟩:=jF hd;rw [Int.zero_add];obtain ⟨r,er,_,_⟩:=jh c (w:=w+2+(j:Int)) (by omega) (by omega);obtain ⟨z,ez,hz⟩:=vc hP (k:=(j:Int)) (by omega) (by omega);have et:tS (dT (dOp oEq (dOp oMod (dFn b8 (au (aC 5) (au (dOp ie (dOp ie (aC 6) (dC (.int 2))) (aC 12)) cz))) (dC (.int 3))) (dC (.int 0)))) (sY (trM t.ai N'.length N') (bxM N') (faM N') (mlM N') (PL pa pb pc pd) c w (.shr (.int q1)) (.shr (.int M.length)) (.shr (.int x)) (.shr (.int p)) (.shr (.str nm)) (.shr (.int (j:Int))))=some (decide (r % 3=0),_):=t_S (aB (ax (ax (cy (ah e_v (ah (ax (ax e_v e_c (aM _ _)) e_v (aM _ _)) ay)) er rfl) e_c (aS (by decide))) e_c (bt _ _)))
     by_cases hr3:r % 3=0
     ·rw [Zq hr3] at et
      have ms:=vM (t:=t) (gv:=(N'.length:Int)) (c:=c) (w:=w) (pl:=PL pa pb pc pd) (x7:=.shr (.int q1)) (x9:=.shr (.int x)) (x10:=.shr (.int p)) (x11:=.shr (.str nm)) (x12:=.shr (.int (j:Int))) h1.m.nd h3 hz (by omega) (by omega) (gi:=dOp oIx (aC 4) (aC 12)) (ax e_v e_v ez) (ax e_v e_v ez);have hk:=Gn (w:=z) (p:=bg'.m) (n:=j) ⟨h4,(h1.mq bg' (bA h3)).2⟩;refine ⟨_,vT et ms,stB N' M.length (mkP bg'.m z),{ bg' with m:=mkP bg'.m z },_,Gw h1 ⟨by omega,hk.2⟩,by rw [jC]; exact h2,?_,hk.1,?_,by rw [jC]⟩
      ·rw [DB,h3]
       show some (if bg'.i=(M.length:Int) then _ else _)=_;rw [if_pos (mo h3)]
      ·show (bg'.m.l++[z]).length<=_
       rw [Zt];show bg'.m.l.length+1<=_;omega
     ·rw [Zo hr3] at et
      exact ⟨_,pK et rfl,N',bg',_,h1,h2,h3,by omega,by omega,rfl⟩)
  refine ⟨τ',?_,N',y,h1,h2,h6⟩;unfold sD;rw [ei];exact e
 obtain ⟨τ',e,N',y,LN,lN',rfl⟩:=key .no;refine ⟨N',LN,by rw [lN',l1],?_⟩;unfold fe gQ;refine (Aa (τ:=sY (trM t.ai N'.length N') (bxM N') (faM N') (mlM N') (PL pa pb pc pd) c w (.shr (.int q1)) (.shr (.int M.length)) (.shr (.int x)) (.shr (.int p)) (.shr (.str nm)) y) ?_).trans rfl
 have sn:∀ {r:List Sm},cb (.mu true (trM t.ai M.length M)::.mu true (bxM M)::r)=.shr (trD t.ai M.length M)::.shr (.dct (kv (λ b=>.lst (b.r.map .int)) M))::cb r:=λ {r}=>by
  rw [lZ];show _::Sl.shr (frz (bxM M))::_=_;rw [wJ]
 refine a6 (τ':=sY (trM t.ai M.length M) (bxM M) (faM M) (mlM M) (PL pa pb pc pd) c w (.shr (.int q1)) .no .no .no .no .no) ((eT (v_N (cy (ah e_v (ah e_v ay)) e1 rfl)) (Zb rfl) rfl).trans rfl) ?_
 refine a6 (eT (v_S (by rw [sn]; exact bo (ah e_v ay) (AA M)) rfl) (Zb rfl) rfl) ?_
 refine a6 (eT (v_N (ax e_v e_c (cO _ _))) (Zb rfl) rfl) ?_
 refine a6 (τ':=sY (trM t.ai M.length M) (bxM M) (faM M) (mlM M) (PL pa pb pc pd) c w (.shr (.int q1)) (.shr (.int M.length)) (.shr (.int h1)) .no .no .no) ?_ ?_
 ·have et:tS (dT (dOp oEq (dOp oMod (aC 7) (dC (.int 4))) (dC (.int 1)))) (sY (trM t.ai M.length M) (bxM M) (faM M) (mlM M) (PL pa pb pc pd) c w (.shr (.int q1)) (.shr (.int M.length)) (.shr (.int ((M.length:Int) - 1))) .no .no .no)=some (decide (q1 % 4=1),_):=t_S (aB (ax (ax e_v e_c (aS (by decide))) e_c (bt _ _)))
  by_cases h2:q1 % 4=1
  ·rw [if_pos h2] at eh1
   rw [Zq h2] at et;rw [eh1];exact vT et ((eT (v_N e_c) (Zb rfl) rfl).trans rfl)
  ·rw [if_neg h2] at eh1
   rw [Zo h2] at et;rw [eh1];exact pK et rfl
 refine a6 (τ':=sY (trM t.ai M.length M) (bxM M) (faM M) (mlM M) (PL pa pb pc pd) c w (.shr (.int q1)) (.shr (.int M.length)) (.shr (.int x)) .no .no .no) ?_ ?_
 ·have et:tS (dT (dOp oGt (dOp oMod (aC 7) (dC (.int 4))) (dC (.int 1)))) (sY (trM t.ai M.length M) (bxM M) (faM M) (mlM M) (PL pa pb pc pd) c w (.shr (.int q1)) (.shr (.int M.length)) (.shr (.int h1)) .no .no .no)=some (decide (1 < q1 % 4),_):=t_S (aB (ax (ax e_v e_c (aS (by decide))) e_c rfl))
  by_cases h2:1 < q1 % 4
  ·rw [if_pos h2] at ex
   rw [Zq h2] at et;rw [ex];exact vT et ((eT (v_N (ax (ax e_v e_c (dS (by decide) (by decide +kernel))) e_v (aS n0))) (Zb rfl) rfl).trans rfl)
  ·rw [if_neg h2] at ex
   rw [Zo h2] at et;rw [ex];exact pK et rfl
 refine a6 (eT (v_S (by rw [sn]; exact ax (cy (ah e_v (ah (ax e_v e_c (aM _ _)) ay)) e2 rfl) (ax (bo (ah (ax e_v e_v (cB hb)) ay) (wa _)) e_c (aM _ _)) ((aS (by omega)).trans (by rw [hpp]))) rfl) (Zb rfl) rfl) ?_
 refine a6 (eT (v_N (ax e_v (ax (ax e_v e_c (dS (by decide) (by decide +kernel))) e_c (aS (by decide))) en)) (Zb rfl) rfl) ?_
 refine a6 (nB (v_M c6 rfl rfl (cv (q_N e_v) (cv (q_N e_v) (cv (q_N e_v) rfl))) rfl ep rfl)) ?_
 have hg:bh (sY (trM t.ai N.length N) (bxM M) (faM M) (mlM M) (PL pa pb pc pd) c w (.shr (.int q1)) (.shr (.int M.length)) (.shr (.int x)) (.shr (.int p)) (.shr (.str nm)) .no) 1 [.k (.inl x)]=some (lM (b.r.map .int)):=by
  rw [q9 rfl];refine (rE _ _ _).trans ?_
  rw [hb];rfl
 refine a6 (Gr (xM c6 e_v rfl rfl) hg e_v (v_N e_v) rfl hg ⟨p0,by rw [Za,Za]; exact p1,by rw [Za,Za]; omega⟩) ?_
 rw [q8 rfl,AG];have e4:(bxM M).put ([]++[.k (.inl x)]) (lM ((insI b.r p M.length).map .int))=bxM (upR M x (insI b.r p M.length)):=Ae m.nd hb;rw [e4];refine a6 (τ':=sY (trM t.ai N.length N) (bxM N) (faM M) (mlM M) (PL pa pb pc pd) c w (.shr (.int q1)) (.shr (.int M.length)) (.shr (.int x)) (.shr (.int p)) (.shr (.str nm)) .no) ((gw (v_O (du ay (Z1 _)) rfl) c6 e_v rfl rfl rfl (by rw [lG,vZ]; omega)).trans ?_) ?_
 ·rw [<- eb]
  rfl
 refine a6 (τ':=sY (trM t.ai N.length N) (bxM N) (faM N) (mlM M) (PL pa pb pc pd) c w (.shr (.int q1)) (.shr (.int M.length)) (.shr (.int x)) (.shr (.int p)) (.shr (.str nm)) .no) ((gw (v_N (mw (ah e_v (ah e_v ay)) (Zb rfl))) c6 e_v rfl rfl rfl (by rw [lG]; omega)).trans ?_) ?_
 ·rw [<- ef]
  rfl
 refine a6 (τ':=sY (trM t.ai N.length N) (bxM N) (faM N) (mlM N) (PL pa pb pc pd) c w (.shr (.int q1)) (.shr (.int M.length)) (.shr (.int x)) (.shr (.int p)) (.shr (.str nm)) .no) ((gw (v_O (du ay (Z1 _)) rfl) c6 e_v rfl rfl rfl (by rw [lG]; omega)).trans ?_) ?_
 ·rw [<- el]
  rfl
 exact e
end
end N17
end
section
namespace N17
open PySem L2
section
variable {t:Adr} {gv:Int} {M:List B8} {i:Int} {b:B8} {U:List Int} {pa pb pc pd:Str}
theorem Pn (m:MOk gv M) {x:Int} {n:Nat} (c:Ch M x n):Anc M 0 x:=by
 induction c with
 | @top i b h e =>
  by_cases z:b.i=0
  ·rw [<- mo h,z]
   exact .refl
  ·obtain ⟨j,p,h1,_⟩:=m.hol b (bA h) z
   rw [e] at h1;cases h1
 | up h e c ih=>exact .up h e ih
theorem Jc (L:LOk M) (h90:M.length<=90):∃ U,Ux M.length M U:=by
 have m:=L.m;obtain ⟨b0,r0,_⟩:=m.root;obtain ⟨l,h1,h2⟩:=Sub.of m r0
 have al:∀ i b,fd M i=some b->i ∈ 0::l:=λ i b hb=>by
  obtain ⟨n,hn,_⟩:=m.dp hb;exact (Sub.iff m h1 hb).mpr (Pn m hn)
 have nd:(0::l).Nodup:=h1.nodup m (List.pairwise_singleton _ _);refine ⟨0::l,m,h1,Z3 (sub_len nd λ x hx=>h1.in x hx) h90,al,λ i hi=>?_⟩;obtain ⟨b,hb⟩:=h1.in i hi;have hbm:=bA hb;obtain ⟨n,hn,hn2⟩:=L.dp b hbm;rw [mo hb] at hn;obtain ⟨hl,e1,e2⟩:=Hl.of hn;obtain ⟨k1,k2⟩:=L.mq b hbm
 by_cases z:b.i=0
 ·have hh:b.h=none:=by
   cases q:b.h with
   | none=>rfl
   | some j=>exact absurd (mo hb ▸ z) (m.h0 hb q)
  exact ⟨b,[i],hl,⟨hb,.inl ⟨hh,rfl⟩,Zn.mpr rfl,Zv.mpr ⟨Z8,Xg⟩,by show 1<=1000; decide,by omega,k2⟩,e1,by omega⟩
 ·obtain ⟨j,p,g1,g2,g3⟩:=m.hol b hbm z
  have hr:=sub_len (m.rnd p (bA g2)) λ y hy=>by
   obtain ⟨d,d1,_⟩:=m.kid p (bA g2) y hy;exact ⟨d,d1⟩
  rw [mo hb] at g3;exact ⟨b,p.r,hl,⟨hb,.inr ⟨j,p,g1,g2,rfl⟩,g3,m.rnd p (bA g2),by omega,by omega,k2⟩,e1,by omega⟩
noncomputable def duD (t:Adr) (gv:Int) (M:List B8) (U:List Int) (ss:List (Str×List D)):D:=.lst ((U.filter (rcF t (trD t.ai gv M) (ptL ss) (ss.length - 1))).map .int)
theorem wW {as:List D} {j:Nat} {d:D} (h:(gm as)[j]?=some d):∃ a,d=.tup [.int (j:Int),a]/\as[j]?=some a:=by
 unfold gm at h;rw [List.getElem?_mapIdx] at h;obtain ⟨a,h1,h2⟩:=Zm h;exact ⟨a,h2.symm,h1⟩
theorem DW (X:Ux gv M U) (hi:i ∈ U) {pts:List (List (Str×List D))} (hp:∀ ss ∈ pts,Pt ss) {s0 s1 s2 s7 s8 s10 s13 s14 s15:Sl} {f:DS}
  (hf:f=fh (qB 14 (dFn (sg t) (au (aC 3) (au (aC 13) (au (aC 12) cz))))) (fh (sIf (dOr (xI (dT (jm J6 (au (aC 14) (au (dC (.ty "bool")) cz))))) (dT (dOp oNe (aC 14) (dOp D5 (aC 12) (dOp oIx (aC 11) (aC 7)))))) (mO (dC (.bl false))) eu) (fh (qB 15 (dFn (cJ t) (au (aC 3) (au (aC 13) (au (aC 12) cz))))) (sIf (dT (dOp ir (aC 12) (dOp oIx (aC 11) (aC 7)))) (sIf (dT (dOp jR (aC 15) (dC .non))) (mO (dC (.bl false))) eu) (sIf (xI (dT (dFn cU (au (aC 4) (au (aC 5) (au (aC 6) (au (aC 13) (au (aC 15) (au (aC 12) cz))))))))) (mO (dC (.bl false))) eu))))) :
  ∃ y7 y13 y14 y15,xG (lI (au (aC 9) cz)) (gT 2 (j3 (gN 7) (j3 (gN 13) wH))) f [s0,s1,s2,.shr (trD t.ai gv M),.shr (.dfz (kv (λ b=>.lst (b.r.map .int)) M)),.shr (faD M),.shr (mlD M),s7,s8,.shr (.lst (pts.map ptD)),s10,.shr (.lst (pts.map (duD t gv M U))),.shr (.int i),s13,s14,s15]=some (.next [s0,s1,s2,.shr (trD t.ai gv M),.shr (.dfz (kv (λ b=>.lst (b.r.map .int)) M)),.shr (faD M),.shr (mlD M),y7,s8,.shr (.lst (pts.map ptD)),s10,.shr (.lst (pts.map (duD t gv M U))),.shr (.int i),y13,y14,y15]):=by
 have hR:=ES (M:=M)
 obtain ⟨τ',e,y7,y13,y14,y15,rfl⟩:=j6 (f:=f) (it:=lI (au (aC 9) cz)) (gg:=gT 2 (j3 (gN 7) (j3 (gN 13) wH))) (ds:=gm (pts.map ptD)) (τ:=[s0,s1,s2,.shr (trD t.ai gv M),.shr (.dfz (kv (λ b=>.lst (b.r.map .int)) M)),.shr (faD M),.shr (mlD M),s7,s8,.shr (.lst (pts.map ptD)),s10,.shr (.lst (pts.map (duD t gv M U))),.shr (.int i),s13,s14,s15])
  (λ j τ=>∃ y7 y13 y14 y15,τ=[s0,s1,s2,.shr (trD t.ai gv M),.shr (.dfz (kv (λ b=>.lst (b.r.map .int)) M)),.shr (faD M),.shr (mlD M),y7,s8,.shr (.lst (pts.map ptD)),s10,.shr (.lst (pts.map (duD t gv M U))),.shr (.int i),y13,y14,y15]) (wC (ag rfl)) ⟨_,_,_,_,rfl⟩ (by
    rintro j d τ hd ⟨y7,y13,y14,y15,rfl⟩
    obtain ⟨a,rfl,ha⟩:=wW hd;rw [List.getElem?_map] at ha;obtain ⟨ss,hs,rfl⟩:=Zm ha;have P:=hp ss (List.mem_of_getElem? hs);have ed:oIx (.lst (pts.map (duD t gv M U))) (.int (j:Int))=some (duD t gv M U ss):=iG (by rw [List.getElem?_map,hs]; rfl);have ein:=GK i (U.filter (rcF t (trD t.ai gv M) (ptL ss) (ss.length - 1)));have enin:=vJ i (U.filter (rcF t (trD t.ai gv M) (ptL ss) (ss.length - 1)));have efit:=Dz (t:=t) X hR P hi;have ech:=zL (t:=t) X hR P hi;subst hf
    cases hrc:rcF t (trD t.ai gv M) (ptL ss) (ss.length - 1) i with
    | true =>
     rw [hrc] at efit ech;rw [if_pos rfl] at ech;have hm:i ∈ U.filter (rcF t (trD t.ai gv M) (ptL ss) (ss.length - 1)):=Xm.mpr ⟨hi,hrc⟩;rw [Zq hm] at ein enin;have ec:=tH X hR P (Hb (Bj (t:=t) X hR P) _ i (by rw [ip]; have:=P.n0; omega) hi hrc);refine ⟨_,_,rfl,aT ((aY (cy (ah (ag rfl) (ah (ag rfl) (ah (ag rfl) ay))) efit rfl)).trans rfl) (aK (xE (b:=false) (dR (b:=true) (aB (bo (ah (ag rfl) (ah e_c ay)) rfl))) (λ _=>aB (ax (ag rfl) (ax (ag rfl) (ax (ag rfl) (ag rfl) ed) ein) rfl)) nofun) (aT ((aY (cy (ah (ag rfl) (ah (ag rfl) (ah (ag rfl) ay))) ech rfl)).trans rfl) (je (b:=false) (aB (ax (ag rfl) (ax (ag rfl) (ag rfl) ed) enin)) nofun λ _=>je (b:=false) (dR (b:=true) (aB (cy (ah (ag rfl) (ah (ag rfl) (ah (ag rfl) (ah (ag rfl) (ah (ag rfl) (ah (ag rfl) ay)))))) ec rfl))) nofun λ _=>rfl))),_,_,_,_,rfl⟩
    | false =>
     rw [hrc] at efit ech;rw [if_neg (by decide)] at ech
     have hm:i ∉ U.filter (rcF t (trD t.ai gv M) (ptL ss) (ss.length - 1)):=λ z=>by
      have:=(Xm.mp z).2;rw [hrc] at this;cases this
     rw [Zo hm] at ein enin
     refine ⟨_,_,rfl,aT ((aY (cy (ah (ag rfl) (ah (ag rfl) (ah (ag rfl) ay))) efit rfl)).trans rfl) (aK (xE (b:=false) (dR (b:=true) (aB (bo (ah (ag rfl) (ah e_c ay)) rfl))) (λ _=>aB (ax (ag rfl) (ax (ag rfl) (ax (ag rfl) (ag rfl) ed) ein) rfl)) nofun) (aT ((aY (cy (ah (ag rfl) (ah (ag rfl) (ah (ag rfl) ay))) ech rfl)).trans rfl) (je (b:=true) (aB (ax (ag rfl) (ax (ag rfl) (ag rfl) ed) enin)) (λ _=>je (b:=false) (aB (ax (ag rfl) e_c rfl)) nofun λ _=>rfl) nofun))),_,_,_,_,rfl⟩)
 exact ⟨y7,y13,y14,y15,e⟩
end
end N17
end
section
namespace N17
open PySem L2
theorem EI (ns:List Int):∃ cs:List Int,oSl (scr ns) (some 14) (some 18)=some (.lst (cs.map .int))/\cs.length<=4:=by
 refine ⟨(ns.drop (HT.sIx ns.length 0 (some 14))).take (HT.sIx ns.length ns.length (some 18) - HT.sIx ns.length 0 (some 14)),?_,?_⟩
 ·show some (D.lst (cutD (ns.map .int) _ _))=_
  unfold cutD;rw [Za,<- Xw,<- Xv]
 ·have e1:=HT.oX ns.length 0 14
  have e2:=HT.oX ns.length ns.length 18;rw [show ((14:Nat):Int)=14 from rfl] at e1;rw [show ((18:Nat):Int)=18 from rfl] at e2;rw [e1,e2,Yg,Yz];omega
theorem Gp (c:Int):∃ n:Int,kL [.int c,.int 6,.int 7]=some (.shr (.int n))/\0<=n/\n<=7:=by
 obtain ⟨r,er,r0,r1⟩:=jh c (w:=6) (by decide) (by decide)
 have key:Ret (λ d=>∃ n:Int,d=.int n/\0<=n/\n<=7) ((eY).1 (fm 4 [.int c,.int 6,.int 7])):=by
  unfold eY;dsimp only;refine l7 (aY (cy (ah (ag rfl) (ah (ag rfl) ay)) er rfl)) ?_
  refine D4 (b:=decide (0 < r % 3)) (aB (ax (ax (ag rfl) e_c (aS (by decide))) e_c rfl)) (λ _=>lu (ax (ag rfl) (ax (ax (ag rfl) e_c (dS (by decide) (by decide +kernel))) e_c (aS (by decide))) (cO _ _)) ⟨_,rfl,by omega,by omega⟩) (λ _=>?_);exact Bm (ax (ax (ag rfl) e_c (dS (by decide) (by decide +kernel))) (ax (ag rfl) e_c (aM _ _)) (aS (by decide))) ⟨_,rfl,by omega,by omega⟩
 obtain ⟨d,e,n,rfl,h⟩:=zu key;exact ⟨n,e,h⟩
abbrev sL (t:Adr) (ns:List Int) (pl:D) (nm:Str) (M:List B8) (x7 x8 x9 x10 x11 x12 x13 x14 x15:Sm):List Sm:=[.shr (scr ns),.shr pl,.shr (.str nm),.mu false (trM t.ai M.length M),.mu false (bxM M),.mu false (faM M),.mu false (mlM M),x7,x8,x9,x10,x11,x12,x13,x14,x15]
theorem yY {nm w:Str} (hw:bE w=true):LOk [⟨0,none,nm,[],⟨[w],[w]⟩⟩]:=by
 have f0:fd [⟨0,none,nm,[],⟨[w],[w]⟩⟩] 0=some ⟨0,none,nm,[],⟨[w],[w]⟩⟩:=rfl;have all:∀ b ∈ ([⟨0,none,nm,[],⟨[w],[w]⟩⟩]:List B8),b=⟨0,none,nm,[],⟨[w],[w]⟩⟩:=λ b hb=>Zn.mp hb
 refine ⟨⟨Zv.mpr ⟨Z8,Xg⟩,λ b hb=>?_,⟨_,f0,rfl⟩,λ b hb h=>?_,λ b hb c hc=>?_,λ b hb=>?_,λ b hb=>?_⟩,rfl,λ b hb=>?_,λ b hb=>?_⟩ <;> rw [all b hb] at *
 · exact ⟨Int.le_refl _,by show (0:Int) < 1; decide⟩
 · exact absurd rfl h
 · cases hc
 · exact Xg
 · exact ⟨0,.top f0 rfl,by decide⟩
 · exact ⟨0,.top f0 rfl,by show 0 < 1; decide⟩
 · exact ⟨by show 1<=8; decide,λ x=>Iff.rfl⟩
section
variable {t:Adr}
theorem Gy (ns:List Int):Hn t [.shr (scr ns)]=some (.shr (.bl true),[.no]):=by
 obtain ⟨a,b,c,d,ep,na,nb,nc,nd⟩:=E4 ns;have hP:PlN a b c d:=⟨na,nb,nc,nd⟩
 obtain ⟨c0,e0⟩:=lQ ns (k:=0) (Int.le_refl _);obtain ⟨c2,e2⟩:=lQ ns (k:=2) (by decide);obtain ⟨c3,e3⟩:=lQ ns (k:=3) (by decide);obtain ⟨nm,en,hn⟩:=vc hP (k:=c3 % 4) (Yb _ (by decide)) (Z5 _ (by decide));obtain ⟨wd,ew,hw⟩:=vc hP (k:=c2 % 4) (Yb _ (by decide)) (Z5 _ (by decide));obtain ⟨mn,em,m0,m7⟩:=Gp c3;obtain ⟨cs,ecs,hcs⟩:=EI ns;have L1:=yY (nm:=nm) hw
 obtain ⟨τ1,f1,M,x7,LM,lM1,rfl⟩:=mj (b:=λ d τ=>(gNm 7 d τ).bind (iQ (eC (fe t) (cY (qX (dr 3)) (cY (qX (dr 4)) (cY (qX (dr 5)) (cY (qX (dr 6)) (cY (qN (aC 1)) (cY (qN (dFn cK (au (aC 0) (au (dOp ie (dC (.int 4)) (aC 7)) cz)))) (cY (qN (aC 7)) tQ))))))))))
  (ds:=oI 0 mn.toNat) (τ:=sL t ns (PL a b c d) nm [⟨0,none,nm,[],⟨[wd],[wd]⟩⟩] .no .no .no .no .no .no .no .no .no) (λ j τ=>∃ M x7,LOk M/\M.length=j+1/\τ=sL t ns (PL a b c d) nm M x7 .no .no .no .no .no .no .no .no) ⟨_,_,L1,rfl,rfl⟩ (by
    rintro j d τ hd ⟨M,x7,LM,lM,rfl⟩
    obtain ⟨rfl,jl⟩:=jF hd;rw [Int.zero_add];obtain ⟨cj,ej⟩:=lQ ns (k:=4+(j:Int)) (by omega);obtain ⟨N,LN,lN,eg⟩:=Dv (t:=t) LM (by omega) hP (c:=cj) (w:=(j:Int)) (by omega) (by omega)
    exact ⟨_,nB (v_C (as:=[.p 3 [],.p 4 [],.p 5 [],.p 6 [],.v (PL a b c d),.v (.int cj),.v (.int (j:Int))]) (cv (q_X c6 rfl) (cv (q_X c6 rfl) (cv (q_X c6 rfl) (cv (q_X c6 rfl) (cv (q_N e_v) (cv (q_N (cy (ah e_v (ah (ax e_c e_v (aM _ _)) ay)) ej rfl)) (cv (q_N e_v) rfl))))))) rfl eg rfl),N,_,LN,by omega,rfl⟩)
 rw [fo] at lM1
 obtain ⟨most,hm0,hm8⟩:∃ most:Int,most=(if c0 % 8=5 then 8 else 3)/\0 < most/\most<=8:=by
  refine ⟨_,rfl,?_⟩;split <;> exact ⟨by decide,by decide⟩
 obtain ⟨ss0,es0,P0⟩:=ng hP c0 (w:=1) (m:=most) (by decide) (by decide) hm8.1 hm8.2
 obtain ⟨τ2,f2,pts,y7,y10,hpts,lpts,rfl⟩:=mj (b:=λ d τ=>(gTm 2 (j1 (gNm 7) (j1 (gNm 10) rD)) d τ).bind (l5 (dr 9) (eN (dFn bX (au (aC 10) (au (dOp ie (dC (.int 2)) (aC 7)) (au (aC 1) (au (dC (.int 3)) cz))))))))
  (ds := gm (cs.map .int)) (τ:=sL t ns (PL a b c d) nm M x7 (.shr (.int most)) (.mu false (lM [ptD ss0])) .no .no .no .no .no .no) (λ j τ=>∃ pts y7 y10,(∀ ss ∈ pts,Pt ss)/\pts.length=j+1/\τ=sL t ns (PL a b c d) nm M y7 (.shr (.int most)) (.mu false (lM (pts.map ptD))) y10 .no .no .no .no .no) ⟨[ss0],_,_,λ ss h=>by rw [Zn.mp h]; exact P0,rfl,rfl⟩ (by
    rintro j d τ hd ⟨pts,y7,y10,hpts,lpts,rfl⟩
    obtain ⟨cj,rfl,hc⟩:=rN hd;have jl:=(List.getElem?_eq_some_iff.mp hc).1;obtain ⟨ss,es,P⟩:=ng hP cj (w:=2+(j:Int)) (m:=3) (by omega) (by omega) (by decide) (by decide)
    have el:Mt.n .l (((pts.map ptD).map λ d=>((.inl 0:Key),Mt.s d))++[(.inl 0,.s (ptD ss))])=lM ((pts++[ss]).map ptD):=by
     unfold lM;rw [Zk,Zk];rfl
    have ea:l5 (dr 9) (eN (dFn bX (au (aC 10) (au (dOp ie (dC (.int 2)) (aC 7)) (au (aC 1) (au (dC (.int 3)) cz)))))) (sL t ns (PL a b c d) nm M (.shr (.int (j:Int))) (.shr (.int most)) (.mu false (lM (pts.map ptD))) (.shr (.int cj)) .no .no .no .no .no)=some (.next (sL t ns (PL a b c d) nm M (.shr (.int (j:Int))) (.shr (.int most)) (.mu false (lM ((pts++[ss]).map ptD))) (.shr (.int cj)) .no .no .no .no .no)):=by
     refine (Gu c6 rfl (v_N (cy (ah e_v (ah (ax e_c e_v (aM _ _)) (ah e_v (ah e_c ay)))) es rfl)) rfl rfl (by rw [Za,Za]; omega)).trans ?_
     rw [<- el];rfl
    refine ⟨_,ea,pts++[ss],_,_,λ s hs=>?_,by rw [Zt,lpts]; rfl,rfl⟩;rcases Zg.mp hs with hs | hs
    · exact hpts s hs
    · rw [Zn.mp hs]; exact P)
 rw [zy] at lpts;obtain ⟨U,X⟩:=Jc LM (by omega);unfold Hn DZ;dsimp only;refine (l6 (s:=.shr (.bl true)) (τ:=(sL t ns (PL a b c d) nm M y7 (.shr (.int most)) (.mu false (lM (pts.map ptD))) y10 (.shr (.lst (pts.map (duD t M.length M U)))) .no .no .no .no).map λ _=>.no) ?_).trans rfl;refine a6 (τ':=[.shr (scr ns),.shr (PL a b c d),.no,.no,.no,.no,.no,.no,.no,.no,.no,.no,.no,.no,.no,.no]) (eT (v_N (cy (ah (ag rfl) (ah e_c ay)) ep rfl)) (Zb rfl) rfl) ?_
 refine a6 (eT (v_N (ax e_v (ax (cy (ah e_v (ah e_c ay)) e3 rfl) e_c (aS (by decide))) en)) (Zb rfl) rfl) ?_
 refine a6 (eT (v_K (as:=[.v (.str nm)]) (cv (q_N (ag rfl)) rfl) rfl (Dq hn) rfl) (Zb rfl) rfl) ?_
 refine a6 (eT (Jb (v_O (du ay (Z1 _)) rfl) rfl) (Zb rfl) rfl) ?_
 refine a6 (eT (Jb (v_N (mw (ah e_c (ah (ag rfl) ay)) (Zb rfl))) rfl) (Zb rfl) rfl) ?_
 refine a6 (eT (Jb (v_O (du (ah (ax e_v (ax (cy (ah e_v (ah e_c ay)) e2 rfl) e_c (aS (by decide))) ew) ay) (Zb rfl)) rfl) rfl) (Zb rfl) rfl) ?_
 have e1:([⟨0,none,nm,[],bD⟩]:List B8).length=1:=rfl;have emk:=vN (t:=t) (gv:=1) (M:=[⟨0,none,nm,[],bD⟩]) (i:=0) (b:=⟨0,none,nm,[],bD⟩) (w:=wd) (Zv.mpr ⟨Z8,Xg⟩) rfl hw (by show 0 < 1000; decide);have etr:trM t.ai 1 (stB [⟨0,none,nm,[],bD⟩] 0 (pq bD wd))=trM t.ai 1 [⟨0,none,nm,[],⟨[wd],[wd]⟩⟩]:=rfl;have emk':bY t [.mu true (trM t.ai 1 [⟨0,none,nm,[],bD⟩]),.shr (.int 0),.shr (.str wd)]=some (.shr (.bl (!decide (wd ∈ ([]:List Str)))),[.mu true (trM t.ai 1 [⟨0,none,nm,[],⟨[wd],[wd]⟩⟩]),.no,.no]):=emk.trans (by rw [<- etr]; rfl)
 have esn:dOp oIx (dOp g7 (aC 6) (dC (.int 0))) (dC (.int 0)) (cb [.shr (scr ns),.shr (PL a b c d),.shr (.str nm),.mu false (trM t.ai 1 [⟨0,none,nm,[],bD⟩]),.mu false (bxM [⟨0,none,nm,[],⟨[wd],[wd]⟩⟩]),.mu false (faM [⟨0,none,nm,[],⟨[wd],[wd]⟩⟩]),.mu false (mlM [⟨0,none,nm,[],⟨[wd],[wd]⟩⟩]),.no,.no,.no,.no,.no,.no,.no,.no,.no])=some (.str wd):=by
  refine ax (ax (ag (d:=mlD [⟨0,none,nm,[],⟨[wd],[wd]⟩⟩]) ?_) e_c (cB (b:=⟨0,none,nm,[],⟨[wd],[wd]⟩⟩) rfl)) e_c (xA _ _);show some (Sl.shr (frz (mlM [⟨0,none,nm,[],⟨[wd],[wd]⟩⟩])))=_;rw [wK]
 refine a6 (τ':=sL t ns (PL a b c d) nm [⟨0,none,nm,[],⟨[wd],[wd]⟩⟩] .no .no .no .no .no .no .no .no .no) (nB (v_M (as:=[.v (.int 0),.v (.str wd)]) c6 rfl rfl (cv (q_N e_c) (cv (q_S esn rfl) rfl)) rfl emk' rfl)) ?_
 refine a6 (τ':=sL t ns (PL a b c d) nm M x7 .no .no .no .no .no .no .no .no) ?_ ?_
 ·unfold sD
  rw [pS (j:=mn) (ah (cy (ah (cy (ah (ag rfl) (ah e_c ay)) e3 rfl) (ah e_c (ah e_c ay))) em rfl) ay) (by omega)];exact f1
 refine a6 (eT (v_N e_c) (Zb rfl) rfl) ?_
 refine a6 (τ':=sL t ns (PL a b c d) nm M x7 (.shr (.int most)) .no .no .no .no .no .no .no) ?_ ?_
 ·have et:tS (dT (dOp oEq (dOp oMod (dFn cK (au (aC 0) (au (dC (.int 0)) cz))) (dC (.int 8))) (dC (.int 5)))) (sL t ns (PL a b c d) nm M x7 (.shr (.int 3)) .no .no .no .no .no .no .no)=some (decide (c0 % 8=5),_):=t_S (aB (ax (ax (cy (ah e_v (ah e_c ay)) e0 rfl) e_c (aS (by decide))) e_c (bt _ _)))
  by_cases h2:c0 % 8=5
  · rw [if_pos h2] at hm0
    rw [Zq h2] at et;rw [hm0];exact vT et ((eT (v_N e_c) (Zb rfl) rfl).trans rfl)
  · rw [if_neg h2] at hm0
    rw [Zo h2] at et;rw [hm0];exact pK et rfl
 refine a6 (τ':=sL t ns (PL a b c d) nm M x7 (.shr (.int most)) (.mu false (lM [ptD ss0])) .no .no .no .no .no .no) ?_ ?_
 ·have eo:eON (Ei (au (dFn bX (au (dFn cK (au (aC 0) (au (dC (.int 0)) cz))) (au (dC (.int 1)) (au (aC 1) (au (aC 8) cz))))) cz)) (sL t ns (PL a b c d) nm M x7 (.shr (.int most)) .no .no .no .no .no .no .no)=some (.mu false (lM [ptD ss0]),sL t ns (PL a b c d) nm M x7 (.shr (.int most)) .no .no .no .no .no .no .no):=by
    unfold eON;rw [du (ah (cy (ah (cy (ah e_v (ah e_c ay)) e0 rfl) (ah e_c (ah e_v (ah e_v ay)))) es0 rfl) ay) (Zb rfl)];rfl
  exact (eT eo (Zb rfl) rfl).trans rfl
 refine a6 (τ':=sL t ns (PL a b c d) nm M y7 (.shr (.int most)) (.mu false (lM (pts.map ptD))) y10 .no .no .no .no .no) ?_ ?_
 ·unfold sD
  rw [wC (AS (ag rfl) (ff e_c) (ff e_c) ecs)];exact f2
 refine a6 (τ':=sL t ns (PL a b c d) nm M y7 (.shr (.int most)) (.mu false (lM (pts.map ptD))) y10 (.shr (.lst (pts.map (duD t M.length M U)))) .no .no .no .no) ?_ ?_
 ·have ec:eCO (Ee (aC 9)) (AW (dJ t) (au (aC 1) (au (aC 2) (au (aC 3) (au (aC 0) cz))))) [("_law_rows",4),("_law_facts",5),("_law_marks",6)] (sL t ns (PL a b c d) nm M y7 (.shr (.int most)) (.mu false (lM (pts.map ptD))) y10 .no .no .no .no .no)=some (.shr (.lst (pts.map (duD t M.length M U))),sL t ns (PL a b c d) nm M y7 (.shr (.int most)) (.mu false (lM (pts.map ptD))) y10 .no .no .no .no .no):=by
    unfold eCO mx;rw [ze (ag (d:=.lst (pts.map ptD)) (by show some (Sl.shr (frz (lM (pts.map ptD))))=_; rw [lJ]))];show (((if (pts.map ptD).length<=100000 then _ else none):Option D)).bind _=_;rw [if_pos (by rw [Za]; omega)]
    have em:pJ (λ dd=>AW (dJ t) (au (aC 1) (au (aC 2) (au (aC 3) (au (aC 0) cz)))) (.shr dd::gq (cb (sL t ns (PL a b c d) nm M y7 (.shr (.int most)) (.mu false (lM (pts.map ptD))) y10 .no .no .no .no .no)) [("_law_rows",4),("_law_facts",5),("_law_marks",6)])) (pts.map ptD)=some (pts.map (duD t M.length M U)):=by
     have ecap:gq (cb (sL t ns (PL a b c d) nm M y7 (.shr (.int most)) (.mu false (lM (pts.map ptD))) y10 .no .no .no .no .no)) [("_law_rows",4),("_law_facts",5),("_law_marks",6)]=[.shr (.dct (kv (λ b=>.lst (b.r.map .int)) M)),.shr (faD M),.shr (mlD M)]:=by
      show [Sl.shr (frz (bxM M)),Sl.shr (frz (faM M)),Sl.shr (frz (mlM M))]=_;rw [wJ,AJ,wK]
     rw [ecap];clear f2 lpts ecap
     induction pts with
     | nil=>rfl
     | cons ss pts ih =>
      rw [Zh,Zh,pJ,DH (ah (ag rfl) (ah (ag rfl) (ah (ag rfl) (ah (ag rfl) ay)))) (DD X (hpts ss (Ze ..))) rfl,ih λ s hs=>hpts s (Zd _ hs)];rfl
    rw [em];show (if (pts.map (duD t M.length M U)).all Js=true then _ else none)=_;rw [if_pos];rw [List.all_map,Yy];exact λ ss _=>xV _
  exact (eT ec (Zb rfl) rfl).trans rfl
 refine a6 ?_ (vQ (v_N e_c))
 have efk:zq (kv (λ b=>lM (b.r.map .int)) M)=kv (λ b=>.lst (b.r.map .int)) M:=by
  have:=wJ M;unfold bxM kM at this;rw [frz] at this;injection this
 have eB:xx 4 [7,12,13,14,15] (sL t ns (PL a b c d) nm M y7 (.shr (.int most)) (.mu false (lM (pts.map ptD))) y10 (.shr (.lst (pts.map (duD t M.length M U)))) .no .no .no .no) (kv (λ b=>lM (b.r.map .int)) M)=[.shr (scr ns),.shr (PL a b c d),.shr (.str nm),.shr (trD t.ai M.length M),.shr (.dfz (kv (λ b=>.lst (b.r.map .int)) M)),.shr (faD M),.shr (mlD M),.no,.shr (.int most),.shr (.lst (pts.map ptD)),fg1 (l0 y10),.shr (.lst (pts.map (duD t M.length M U))),.no,.no,.no,.no]:=by
  show [Sl.shr (scr ns),.shr (PL a b c d),.shr (.str nm),.shr (frz (trM t.ai M.length M)),.shr (.dfz (zq (kv (λ b=>lM (b.r.map .int)) M))),.shr (frz (faM M)),.shr (frz (mlM M)),.no,.shr (.int most),.shr (frz (lM (pts.map ptD))),fg1 (l0 y10),.shr (.lst (pts.map (duD t M.length M U))),.no,.no,.no,.no]=_;rw [AI,AJ,wK,lJ,efk]
 refine if_pos ⟨by rw [lG]; omega,λ p hp=>?_⟩;rw [eB];unfold kv at hp;obtain ⟨bb,hb,rfl⟩:=Z4.mp hp;have hi:=X.al _ _ (pV LM.m.nd hb);obtain ⟨z7,z13,z14,z15,eb⟩:=DW (t:=t) X hi hpts (s0:=.shr (scr ns)) (s1:=.shr (PL a b c d)) (s2:=.shr (.str nm)) (s7:=.no) (s8:=.shr (.int most)) (s10:=fg1 (l0 y10)) (s13:=.no) (s14:=.no) (s15:=.no) rfl;refine ⟨_,eb,?_⟩;have ef:fg1 (fg1 (l0 y10))=fg1 (l0 y10):=by cases l0 y10 <;> rfl
 show [Sl.shr (scr ns),.shr (PL a b c d),.shr (.str nm),.shr (trD t.ai M.length M),.shr (.dfz (kv (λ b=>.lst (b.r.map .int)) M)),.shr (faD M),.shr (mlD M),.no,.shr (.int most),.shr (.lst (pts.map ptD)),fg1 (fg1 (l0 y10)),.shr (.lst (pts.map (duD t M.length M U))),.no,.no,.no,.no]=_;rw [ef]
end
section
variable {P:Program} {w:World} {K:W.Frag} {mg:Str->Option Value} {base:Heap} {t:Adr}
def zZ (K:W.Frag):Sp:=λ vs H Q _=>∃ (a:Addr) (ns:List Int),vs=[.ref a]/\SqL K H a (ns.map V.int)/\ns.length<=63/\∀ H',Q (.bl true) H'
theorem Co {a d} (T:Txt K mg t) (F:Fun K "law" "law" (top 54) a d):fj P w K mg base CX0 33 a d ["_law_script"] (zZ K):=by
 refine ((DZ t).2 T F).imp λ vs H Q E h=>?_
 obtain ⟨a,ns,rfl,hS,h63,k⟩:=h;refine ⟨H,[],[.shr (scr ns)],.shr (.bl true),[.no],(λ _ _ h=>h),?_,Gy ns,λ v Hs' H' fp' g st=>?_⟩
 · exact .shr (.fz hS (Rps.ints ns)) .nil
 ·cases st with
  | shr r _ =>
   cases r;exact k _
end
end N17
end
namespace N17
open PySem L2
theorem u1 {P:List Value->Prop} (k:∀ x0,P [x0]):∀ us,us.length=1->P us
 | [x0],_=>k x0
theorem u2 {P:List Value->Prop} (k:∀ x0 x1,P [x0,x1]):∀ us,us.length=2->P us
 | [x0,x1],_=>k x0 x1
theorem u3 {P:List Value->Prop} (k:∀ x0 x1 x2,P [x0,x1,x2]):∀ us,us.length=3->P us
 | [x0,x1,x2],_=>k x0 x1 x2
theorem u4 {P:List Value->Prop} (k:∀ x0 x1 x2 x3,P [x0,x1,x2,x3]):∀ us,us.length=4->P us
 | [x0,x1,x2,x3],_=>k x0 x1 x2 x3
theorem u5 {P:List Value->Prop} (k:∀ x0 x1 x2 x3 x4,P [x0,x1,x2,x3,x4]):∀ us,us.length=5->P us
 | [x0,x1,x2,x3,x4],_=>k x0 x1 x2 x3 x4
theorem u6 {P:List Value->Prop} (k:∀ x0 x1 x2 x3 x4 x5,P [x0,x1,x2,x3,x4,x5]):∀ us,us.length=6->P us
 | [x0,x1,x2,x3,x4,x5],_=>k x0 x1 x2 x3 x4 x5
theorem u7 {P:List Value->Prop} (k:∀ x0 x1 x2 x3 x4 x5 x6,P [x0,x1,x2,x3,x4,x5,x6]):∀ us,us.length=7->P us
 | [x0,x1,x2,x3,x4,x5,x6],_=>k x0 x1 x2 x3 x4 x5 x6
theorem Eu {K:W.Frag} {mg:Str->Option Value} {c0 c1:Addr} (h:Txt K mg ⟨c0,c1⟩):∃ t,Txt K mg t:=⟨_,h⟩
end N17
open PySem PySem.W PyProof.Rows
set_option maxRecDepth 100000 in
set_option maxHeartbeats 0 in
theorem PySem.Challenge.cw_stylehouse_k17_chains_holds : PySem.Challenge.rw_stylehouse_k17_chains.Holds := by
 refine PySem.W.holds_law HD17.GP fun said=>?_
 refine HD17.GS said ?hw (by rfl) (by rfl) (by rfl) ?hc
 case hw=>w_witness2
 k_fill
 refine L2.xO (fun P=>rfl) ?_
 refine L2.xN (l:=PySem.Challenge.rw_stylehouse_k17_chains) (n:=63) (k:=33) (x:="_law_script") (CX:=L2.CX0) (sp:=N17.zZ) rfl (by decide) rfl ⟨rfl,by decide,by decide⟩ (fun w h Y=>Y) ?F ?S ?C
 case F =>
  intro w mg fa h KX G hmg
  have T:∃ t,N17.Txt (L2.KOf KX) mg t:=by
   dsimp only [L2.KOf]
   refine' N17.Eu ?h
   case h =>
   constructor
   case vU=>exact PySem.W.mg_of KX G (by k_is)
   case Aw=>exact PySem.W.mg_of KX G (by k_is)
   exact ⟨by k_is,by k_is,by k_is,by k_is⟩
   (show W.findIn _ _ _=_; k_is)
   exact ⟨by k_is,by k_is,by k_is,by k_is⟩
   iterate 7 ((show W.findIn _ _ _=_; k_is))
   iterate 4 (exact L2.Fn0.df ⟨_,_,_,_,_,_,_,_,_,by k_is,by k_is,by k_is,by k_is⟩ KX G fun _ _ _ _ _ _=>N17.u1 fun _=>rfl)
   exact L2.LX ⟨_,_,_,_,_,_,_,_,_,by k_is,by k_is,by k_is,by k_is⟩ KX G (fun _ _ _ _ _ _ s v=>.of_eq rfl)
   iterate 12 (exact L2.Fn0.df ⟨_,_,_,_,_,_,_,_,_,by k_is,by k_is,by k_is,by k_is⟩ KX G fun _ _ _ _ _ _=>N17.u2 fun _ _=>rfl)
   iterate 9 (exact L2.Fn0.df ⟨_,_,_,_,_,_,_,_,_,by k_is,by k_is,by k_is,by k_is⟩ KX G fun _ _ _ _ _ _=>N17.u3 fun _ _ _=>rfl)
   iterate 3 (exact L2.Fn0.df ⟨_,_,_,_,_,_,_,_,_,by k_is,by k_is,by k_is,by k_is⟩ KX G fun _ _ _ _ _ _=>N17.u4 fun _ _ _ _=>rfl)
   iterate 5 (exact L2.Fn0.df ⟨_,_,_,_,_,_,_,_,_,by k_is,by k_is,by k_is,by k_is⟩ KX G fun _ _ _ _ _ _=>N17.u5 fun _ _ _ _ _=>rfl)
   iterate 2 (exact L2.Fn0.df ⟨_,_,_,_,_,_,_,_,_,by k_is,by k_is,by k_is,by k_is⟩ KX G fun _ _ _ _ _ _=>N17.u6 fun _ _ _ _ _ _=>rfl)
   exact L2.Fn0.df ⟨_,_,_,_,_,_,_,_,_,by k_is,by k_is,by k_is,by k_is⟩ KX G fun _ _ _ _ _ _=>N17.u7 fun _ _ _ _ _ _ _=>rfl
   iterate 2 (exact L2.L4 (by k_is) (by k_is) (by k_is) (by k_is) (by k_is) (by k_is) (by k_is) fun _ _ _ _ _ _=>N17.u2 fun _ _=>rfl)
   iterate 5 (exact L2.CZ (by k_is) (by k_is) (by k_is) (by k_is) (by k_is) fun _ _ _ _ _ _=>N17.u2 fun _ _=>rfl)
   iterate 3 (exact L2.CZ (by k_is) (by k_is) (by k_is) (by k_is) (by k_is) fun _ _ _ _ _ _=>N17.u3 fun _ _ _=>rfl)
   exact L2.CZ (by k_is) (by k_is) (by k_is) (by k_is) (by k_is) fun _ _ _ _ _ _=>N17.u4 fun _ _ _ _=>rfl
   iterate 13 (exact PySem.W.mg_none_of KX G (by k_is))
   iterate 3 (exact ⟨_,PySem.W.mg_of KX G (by k_is)⟩)
  obtain ⟨t,T⟩:=T
  obtain ⟨a,d,Fl,ml,bl⟩:=T.Mj
  have e0:=hmg.symm.trans ml
  cases e0
  exact ⟨d,bl,fun base kb nb=>N17.Co T Fl⟩
 case S=>exact fun K H a ns hl hO hS=>⟨a,ns,rfl,hS,hl,fun _=>rfl⟩
 case C=>exact fun H s e s' z=>z
